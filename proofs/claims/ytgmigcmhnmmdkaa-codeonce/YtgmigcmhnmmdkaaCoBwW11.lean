/- Numbers are written in few bits. -/
import Derived.Test.YtgmigcmhnmmdkaaCoBwW10
import Derived.Test.YtgmigcmhnmmdkaaCoBwW3
import Derived.Test.YtgmigcmhnmmdkaaCoBwB4
import Derived.Test.YtgmigcmhnmmdkaaCoBwC2
set_option linter.all false
set_option maxRecDepth 100000
namespace Go.Proofs.Ytgmigcmhnmmdkaa
open Go.RowKit Go.Sep
attribute [local irreducible] Go.wpList Go.Code.wp

theorem klt {n k : Nat} (h : n < 18446744073709551616) (hz : n / 2 ^ k ≠ 0) (hk : k ≤ 64) : k < 64 := by
  rcases Nat.lt_or_ge k 64 with q | q
  · exact q
  · have e : k = 64 := by omega
    subst e; exact absurd (Nat.div_eq_of_lt h) hz

set_option maxHeartbeats 2000000 in
theorem num_c {I : IM} {b cnt : Nat} {bs : List Bool} {v0 : Value} {F : List OB} (hc : cnt = bs.length) (hl9 : bs.length ≤ 800000) (h : RowH 5 1 v0 (pk bs).length ((pk bs).map bV) F) {n : Nat} (hn : n < 18446744073709551616) : FunM Try.prog 47 #[.pointer (some ⟨b, 0, none⟩), .int .u64 ((n : Nat) : Int)] I ((b, .cells #[v0, .int .i64 ((cnt : Nat) : Int)] 91) :: F) (fun v J H' => ∃ (b' : OB) (F' : List OB), H' = b' :: F' ∧ b'.1 = b ∧ ∃ v', v = .tuple #[] ∧ b' = (b, .cells #[v', .int .i64 ((cnt + (numW 62 2 n).length : Nat) : Int)] 91) ∧ RowH 5 1 v' (pk (bs ++ numW 62 2 n)).length ((pk (bs ++ numW 62 2 n)).map bV) F') := by
  refine enterM_rule 23 [(0, .pointer (some ⟨b, 0, none⟩)), (1, .int .u64 ((n : Nat) : Int))] Try.func47 rfl (by kernel_rfl) ?_
  intro w s
  refine wp_seq ?_
  refine region_rule ?_
  refine ops_rule (C := []) [(b, .cells #[v0, .int .i64 ((cnt : Nat) : Int)] 91)] F 1 [] 0 (fun φ1 => [(4, .int .i64 2)]) (fun φ1 => [(b, .cells #[v0, .int .i64 ((cnt : Nat) : Int)] 91)]) (fun φ1 => []) s trivial (fun φ1 => by kernel_rfl) ?_
  intro φ1 w1 s
  refine ops_done (by kernel_rfl) ?_
  refine wp_seq ?_
  refine wp_block ?_
  have hle2 := IM.Le.refl I
  refine loop_rule (fun (x : List Bool × Nat × Nat × Nat × Value × List OB) => [(0, .pointer (some ⟨b, 0, none⟩)), (1, .int .u64 ((x.2.1 : Nat) : Int)), (4, .int .i64 ((x.2.2.1 : Nat) : Int))]) (fun (x : List Bool × Nat × Nat × Nat × Value × List OB) => [(b, .cells #[x.2.2.2.2.1, .int .i64 ((x.2.2.2.1 : Nat) : Int)] 91)] ++ x.2.2.2.2.2) (fun m (x : List Bool × Nat × Nat × Nat × Value × List OB) J => IM.Le I J ∧ x.2.2.1 + m = 64 ∧ x.1 ++ numW (64 - x.2.2.1) x.2.2.1 x.2.1 = bs ++ numW 62 2 n ∧ x.2.1 < 18446744073709551616 ∧ x.2.2.2.1 = List.length x.1 ∧ List.length x.1 ≤ bs.length + x.2.2.1 ∧ RowH 5 1 x.2.2.2.2.1 (pk x.1).length ((pk x.1).map bV) x.2.2.2.2.2) (62) (bs, n, 2, cnt, v0, F) s (by kernel_rfl) (List.Sublist.refl _) ⟨IM.Le.refl _, rfl, rfl, hn, hc, (Nat.le_add_right _ _), h⟩ ?_
  rintro m3 ⟨cur3, nn3, k3, cn3, v3, F3⟩ I3 w3 ev3 s ⟨le3, hi3_0, hi3_1, hi3_2, hi3_3, hi3_4, hi3_5⟩
  try dsimp only at s hi3_0 hi3_1 hi3_2 hi3_3 hi3_4 hi3_5 ⊢
  replace hle2 := leMono le3 hle2
  refine wp_seq ?_
  refine wp_seq ?_
  refine region_rule ?_
  refine ops_rule (C := []) [(b, .cells #[v3, .int .i64 ((cn3 : Nat) : Int)] 91)] F3 2 [] 0 (fun φ4 => [(6, .int .i64 ((k3 : Nat) : Int)), (5, .int .u64 ((nn3 : Nat) : Int))]) (fun φ4 => [(b, .cells #[v3, .int .i64 ((cn3 : Nat) : Int)] 91)]) (fun φ4 => []) s trivial (fun φ4 => by kernel_rfl) ?_
  intro φ4 w4 s
  refine sem_rule (binOp .shr 27 (.int .u64 ((nn3 : Nat) : Int)) (.int .i64 ((k3 : Nat) : Int))) (some 7) (.int .u64 ((nn3 / 2 ^ k3 : Nat) : Int)) (by kernel_rfl) (run_shrU (by show _ < 18446744073709551616; have hn0 := hi3_0; have hn2 := hi3_2;  omega)) ?_
  refine ops_rule (C := []) [(b, .cells #[v3, .int .i64 ((cn3 : Nat) : Int)] 91)] F3 1 [] 0 (fun φ5 => [(8, .bool (((nn3 / 2 ^ k3 : Nat) : Int) != ((0 : Nat) : Int)))]) (fun φ5 => [(b, .cells #[v3, .int .i64 ((cn3 : Nat) : Int)] 91)]) (fun φ5 => []) s trivial (fun φ5 => by kernel_rfl) ?_
  intro φ5 w5 s
  rw [nat_neq (a := (nn3 / 2 ^ k3)) (b := 0)]
  refine ops_done (by kernel_rfl) ?_
  rcases Bool.eq_false_or_eq_true (decide ((nn3 / 2 ^ k3) ≠ 0)) with hc6 | hc6
  ·
    rw [hc6]
    refine cond_true_rule (b := true) (by kernel_rfl) rfl ?_
    refine wp_skip ?_
    refine wp_block ?_
    refine wp_seq ?_
    refine region_rule ?_
    refine ops_rule (C := []) [(b, .cells #[v3, .int .i64 ((cn3 : Nat) : Int)] 91)] F3 1 [] 0 (fun φ7 => [(9, .pointer (some ⟨b, 0, none⟩))]) (fun φ7 => [(b, .cells #[v3, .int .i64 ((cn3 : Nat) : Int)] 91)]) (fun φ7 => []) s trivial (fun φ7 => by kernel_rfl) ?_
    intro φ7 w7 s
    refine callH_rule (b := (b, .cells #[v3, .int .i64 ((cn3 : Nat) : Int)] 91)) (H := [(b, .cells #[v3, .int .i64 ((cn3 : Nat) : Int)] 91)]) (F := F3) (Hr := []) (some 10) 0 s (by kernel_rfl) (by kernel_rfl) (put_c (b := b) (cnt := cn3) (bs := cur3) (v0 := v3) (n := 1) (k := 1) (by have h8 := hi3_3; (try simp only [List.length_append, putBits_len]); omega) (by have h8 := hi3_4; have h7 := hi3_0; (try simp only [List.length_append, putBits_len]); omega) hi3_5 (by have hn0 := hi3_0; have hn2 := hi3_2; have hq0 := of_decide_eq_true hc6; omega) (by have hn0 := hi3_0; have hn2 := hi3_2; have hq0 := of_decide_eq_true hc6; omega)) (by kernel_rfl) ?_
    rintro v8 I8 w8 b8 F8 le8 - h8 s
    replace hle2 := leMono le8 hle2
    obtain ⟨v8, rfl, rfl, hr8⟩ := h8
    refine ops_done (by kernel_rfl) ?_
    refine wp_seq ?_
    refine region_rule ?_
    refine ops_rule (C := []) [(b, .cells #[v8, .int .i64 ((cn3 + 1 : Nat) : Int)] 91)] F8 2 [] 0 (fun φ9 => [(12, .int .i64 ((k3 : Nat) : Int)), (11, .int .u64 ((nn3 : Nat) : Int))]) (fun φ9 => [(b, .cells #[v8, .int .i64 ((cn3 + 1 : Nat) : Int)] 91)]) (fun φ9 => []) s trivial (fun φ9 => by kernel_rfl) ?_
    intro φ9 w9 s
    refine sem_rule (binOp .shl 27 (.int .u64 1) (.int .i64 ((k3 : Nat) : Int))) (some 13) (.int .u64 ((2 ^ k3 : Nat) : Int)) (by kernel_rfl) (run_shl1 (klt hi3_2 (of_decide_eq_true hc6) (by have := hi3_0; omega))) ?_
    refine ops_rule (C := []) [(b, .cells #[v8, .int .i64 ((cn3 + 1 : Nat) : Int)] 91)] F8 2 [] 0 (fun φ10 => [(1, .int .u64 (IntKind.wrap .u64 (((nn3 : Nat) : Int) - ((2 ^ k3 : Nat) : Int)))), (14, .int .u64 (IntKind.wrap .u64 (((nn3 : Nat) : Int) - ((2 ^ k3 : Nat) : Int))))]) (fun φ10 => [(b, .cells #[v8, .int .i64 ((cn3 + 1 : Nat) : Int)] 91)]) (fun φ10 => []) s trivial (fun φ10 => by kernel_rfl) ?_
    intro φ10 w10 s
    rw [nat_subU (a := nn3) (b := (2 ^ k3)) (by have := pow_le_of_div (of_decide_eq_true hc6); have := hi3_2; omega) (by have := pow_le_of_div (of_decide_eq_true hc6); have := hi3_2; omega)]
    refine ops_done (by kernel_rfl) ?_
    refine region_rule ?_
    refine ops_rule (C := []) [(b, .cells #[v8, .int .i64 ((cn3 + 1 : Nat) : Int)] 91)] F8 3 [] 0 (fun φ11 => [(4, .int .i64 (IntKind.wrap .i64 (((k3 : Nat) : Int) + ((1 : Nat) : Int)))), (16, .int .i64 (IntKind.wrap .i64 (((k3 : Nat) : Int) + ((1 : Nat) : Int)))), (15, .int .i64 ((k3 : Nat) : Int))]) (fun φ11 => [(b, .cells #[v8, .int .i64 ((cn3 + 1 : Nat) : Int)] 91)]) (fun φ11 => []) s trivial (fun φ11 => by kernel_rfl) ?_
    intro φ11 w11 s
    rw [nat_addI (a := k3) (b := 1) (by have hn0 := hi3_0; have hn2 := hi3_2; have hq0 := of_decide_eq_true hc6; omega)]
    refine ops_done (by kernel_rfl) ?_
    have hp9 := pow_le_of_div (of_decide_eq_true hc6)
    have hk9 : k3 < 64 := klt hi3_2 (of_decide_eq_true hc6) (by have := hi3_0; omega)
    exact ⟨⟨m3 - 1, ((cur3 ++ putBits 1 1), nn3 - 2 ^ k3, k3 + 1, cn3 + 1, v8, F8), _, _, _, by omega, rfl, s, (List.Sublist.append (List.Sublist.cons₂ _ List.Sublist.slnil) (List.Sublist.refl _)), by kernel_rfl, hle2, by show k3 + 1 + (m3 - 1) = 64; omega, num_step hk9 hp9 hi3_1, Nat.lt_of_le_of_lt (Nat.sub_le _ _) hi3_2, by have := hi3_3; show cn3 + 1 = List.length (cur3 ++ putBits 1 1); rw [List.length_append, putBits_len]; omega, by have := hi3_4; show List.length (cur3 ++ putBits 1 1) ≤ bs.length + (k3 + 1); rw [List.length_append, putBits_len]; omega, hr8⟩⟩
  ·
    rw [hc6]
    refine cond_false_rule (b := false) (by kernel_rfl) rfl ?_
    refine wp_exit ?_
    refine wp_seq ?_
    refine region_rule ?_
    refine ops_rule (C := []) [(b, .cells #[v3, .int .i64 ((cn3 : Nat) : Int)] 91)] F3 1 [] 0 (fun φ12 => [(17, .pointer (some ⟨b, 0, none⟩))]) (fun φ12 => [(b, .cells #[v3, .int .i64 ((cn3 : Nat) : Int)] 91)]) (fun φ12 => []) s trivial (fun φ12 => by kernel_rfl) ?_
    intro φ12 w12 s
    refine callH_rule (b := (b, .cells #[v3, .int .i64 ((cn3 : Nat) : Int)] 91)) (H := [(b, .cells #[v3, .int .i64 ((cn3 : Nat) : Int)] 91)]) (F := F3) (Hr := []) (some 18) 0 s (by kernel_rfl) (by kernel_rfl) (put_c (b := b) (cnt := cn3) (bs := cur3) (v0 := v3) (n := 0) (k := 1) (by have h8 := hi3_3; (try simp only [List.length_append, putBits_len]); omega) (by have h8 := hi3_4; have h7 := hi3_0; (try simp only [List.length_append, putBits_len]); omega) hi3_5 (by have hn0 := hi3_0; have hn2 := hi3_2; have hq0 := of_decide_eq_false hc6; omega) (by have hn0 := hi3_0; have hn2 := hi3_2; have hq0 := of_decide_eq_false hc6; omega)) (by kernel_rfl) ?_
    rintro v13 I13 w13 b13 F13 le13 - h13 s
    replace hle2 := leMono le13 hle2
    obtain ⟨v13, rfl, rfl, hr13⟩ := h13
    refine ops_done (by kernel_rfl) ?_
    refine region_rule ?_
    refine ops_rule (C := []) [(b, .cells #[v13, .int .i64 ((cn3 + 1 : Nat) : Int)] 91)] F13 3 [] 0 (fun φ14 => [(21, .int .i64 ((k3 : Nat) : Int)), (20, .int .u64 ((nn3 : Nat) : Int)), (19, .pointer (some ⟨b, 0, none⟩))]) (fun φ14 => [(b, .cells #[v13, .int .i64 ((cn3 + 1 : Nat) : Int)] 91)]) (fun φ14 => []) s trivial (fun φ14 => by kernel_rfl) ?_
    intro φ14 w14 s
    refine callH_rule (b := (b, .cells #[v13, .int .i64 ((cn3 + 1 : Nat) : Int)] 91)) (H := [(b, .cells #[v13, .int .i64 ((cn3 + 1 : Nat) : Int)] 91)]) (F := F13) (Hr := []) (some 22) 0 s (by kernel_rfl) (by kernel_rfl) (put_c (b := b) (cnt := cn3 + 1) (bs := (cur3 ++ putBits 0 1)) (v0 := v13) (n := nn3) (k := k3) (by have h8 := hi3_3; (try simp only [List.length_append, putBits_len]); omega) (by have h8 := hi3_4; have h7 := hi3_0; (try simp only [List.length_append, putBits_len]); omega) hr13 (by have hn0 := hi3_0; have hn2 := hi3_2; have hq0 := of_decide_eq_false hc6; omega) (by have hn0 := hi3_0; have hn2 := hi3_2; have hq0 := of_decide_eq_false hc6; omega)) (by kernel_rfl) ?_
    rintro v15 I15 w15 b15 F15 le15 - h15 s
    replace hle2 := leMono le15 hle2
    obtain ⟨v15, rfl, rfl, hr15⟩ := h15
    refine ops_done (by kernel_rfl) ?_
    refine end_rule (C := []) [(b, .cells #[v15, .int .i64 ((cn3 + 1 + k3 : Nat) : Int)] 91)] F15 (.tuple #[]) [] [] s trivial (by kernel_rfl) ?_
    have hd9 : nn3 / 2 ^ k3 = 0 := Decidable.not_not.1 (of_decide_eq_false hc6)
    have hE9 := num_end hd9 hi3_1
    have hL9 := congrArg List.length hE9
    simp only [List.length_append, putBits_len] at hL9
    have hc9 : cn3 + 1 + k3 = cnt + (numW 62 2 n).length := (by have := hi3_3; omega)
    exact ⟨_, _, _, rfl, s, ⟨_, _, rfl, rfl, _, rfl, by rw [hc9], row_cast hr15 (congrArg pk hE9)⟩⟩

theorem newWriter_c {I : IM} : FunM Try.prog 22 #[] I [] (fun v J F' => ∃ b, v = .pointer (some ⟨b, 0, none⟩) ∧ F' = [(b, .cells #[.slice none 0 0, .int .i64 0] 91)]) := by
  refine enterM_rule 3 [] Try.func22 rfl (by kernel_rfl) ?_
  intro w s
  refine wp_seq ?_
  refine region_rule ?_
  refine ops_rule (C := []) [] [] 1 [] 0 (fun φ1 => [(0, .pointer none)]) (fun φ1 => []) (fun φ1 => []) s trivial (fun φ1 => by kernel_rfl) ?_
  intro φ1 w1 s
  refine ops_done (by kernel_rfl) ?_
  refine wp_seq ?_
  refine region_rule ?_
  refine ops_rule (C := []) [] [] 3 [] 1 (fun φ2 => [(0, .pointer (some ⟨(φ2 0), 0, none⟩)), (2, .pointer (some ⟨(φ2 0), 0, none⟩)), (1, .agg #[.slice none 0 0, .int .i64 0])]) (fun φ2 => [((φ2 0), .cells #[.slice none 0 0, .int .i64 0] 91)]) (fun φ2 => []) s trivial (fun φ2 => by kernel_rfl) ?_
  intro φ2 w2 s
  refine ops_done (by kernel_rfl) ?_
  refine wp_ret ?_
  refine ret_rule (C := []) [((φ2 0), .cells #[.slice none 0 0, .int .i64 0] 91)] [] (.pointer (some ⟨(φ2 0), 0, none⟩)) [] [] s trivial (by kernel_rfl) ?_
  exact ⟨_, _, _, rfl, s, ⟨_, rfl, rfl⟩⟩

theorem clone_row {I : IM} {l : List UInt8} {x : Addr} {n c : Nat} (hl : BSl I l (.slice (some x) n c)) (hn : l.length ≤ 1000000000) : FunM Try.prog 59 #[.slice (some x) n c] I [] (fun v J F => RowH 5 1 v l.length (l.map bV) F) := by
  obtain ⟨rfl, -⟩ := hl.cap
  exact clone_some hl hn

set_option maxHeartbeats 1000000 in
theorem bytes_c {I : IM} {b cnt : Nat} {bs : List Bool} {v0 : Value} {F : List OB} (hp : 0 < bs.length) (hl9 : bs.length ≤ 1000000) (h : RowH 5 1 v0 (pk bs).length ((pk bs).map bV) F) : FunM Try.prog 27 #[.pointer (some ⟨b, 0, none⟩)] I ((b, .cells #[v0, .int .i64 ((cnt : Nat) : Int)] 91) :: F) (fun v J H' => ∃ (b' : OB) (F' : List OB), H' = b' :: F' ∧ b'.1 = b ∧ ∃ (a : Option Addr) (c : Nat), v = .slice a (List.length (pk bs)) c ∧ b' = (b, .cells #[v0, .int .i64 ((cnt : Nat) : Int)] 91) ∧ RowH 5 1 v0 (pk bs).length ((pk bs).map bV) F' ∧ BSl J (pk bs) (.slice a (List.length (pk bs)) c)) := by
  refine enterM_rule 10 [(0, .pointer (some ⟨b, 0, none⟩))] Try.func27 rfl (by kernel_rfl) ?_
  intro w s
  refine wp_seq ?_
  refine region_rule ?_
  refine ops_rule (C := []) [(b, .cells #[v0, .int .i64 ((cnt : Nat) : Int)] 91)] F 1 [] 0 (fun φ1 => [(2, .slice none 0 0)]) (fun φ1 => [(b, .cells #[v0, .int .i64 ((cnt : Nat) : Int)] 91)]) (fun φ1 => []) s trivial (fun φ1 => by kernel_rfl) ?_
  intro φ1 w1 s
  refine ops_done (by kernel_rfl) ?_
  refine wp_seq ?_
  refine wp_seq ?_
  refine region_rule ?_
  refine ops_rule (C := []) [(b, .cells #[v0, .int .i64 ((cnt : Nat) : Int)] 91)] F 2 [] 0 (fun φ2 => [(4, .bool false), (3, .pointer (some ⟨b, 0, none⟩))]) (fun φ2 => [(b, .cells #[v0, .int .i64 ((cnt : Nat) : Int)] 91)]) (fun φ2 => []) s trivial (fun φ2 => by kernel_rfl) ?_
  intro φ2 w2 s
  refine ops_done (by kernel_rfl) ?_
  refine cond_false_rule (b := false) (by kernel_rfl) rfl ?_
  refine wp_skip ?_
  refine wp_seq ?_
  refine region_rule ?_
  refine ops_rule (C := []) [(b, .cells #[v0, .int .i64 ((cnt : Nat) : Int)] 91)] F 4 [.o 0] 0 (fun φ3 => [(8, v0), (7, .pointer (some ⟨b, 0, none⟩)), (6, .pointer (some ⟨b, 0, none⟩)), (5, .pointer (some ⟨b, 0, none⟩))]) (fun φ3 => [(b, .cells #[v0, .int .i64 ((cnt : Nat) : Int)] 91)]) (fun φ3 => [b]) s trivial (fun φ3 => by kernel_rfl) ?_
  intro φ3 w3 s
  obtain ⟨g4, cap4, cur4, hv4, hF4, hc4, hrow4⟩ := row_open h (by rw [pk_len]; omega)
  subst hv4
  subst hF4
  have hle5 : IM.Le I (IM.add I g4 (.cells cur4 5)) := IM.le_add (s.free (g4, .cells cur4 5) (by simp)) _
  refine callLF_rule (H := ([(b, .cells #[.slice (some ⟨g4, 0, none⟩) ((pk bs).length) cap4, .int .i64 ((cnt : Nat) : Int)] 91), (g4, .cells cur4 5)] ++ [])) (R := fun v F' => RowH 5 1 v (pk bs).length ((pk bs).map bV) F') (some 9) s (IM.add I g4 (.cells cur4 5)) hle5 (add_sub (by simp)) (clone_row (row_lend (I := I) hrow4) (by rw [pk_len]; omega)) (by kernel_rfl) ?_
  intro v6 w6 F6 h6 s
  obtain ⟨I7, le7, hb7, s⟩ := freeze_row (H := [(b, .cells #[.slice (some ⟨g4, 0, none⟩) ((pk bs).length) cap4, .int .i64 ((cnt : Nat) : Int)] 91), (g4, .cells cur4 5)]) (F := F6) s h6
  obtain ⟨a7, c7, hv7, hc7, hb7⟩ := hb7.open
  subst hv7
  refine ops_rule (C := []) [(b, .cells #[.slice (some ⟨g4, 0, none⟩) ((pk bs).length) cap4, .int .i64 ((cnt : Nat) : Int)] 91), (g4, .cells cur4 5)] [] 1 [] 0 (fun φ8 => [(2, .slice a7 ((pk bs).length) c7)]) (fun φ8 => [(b, .cells #[.slice (some ⟨g4, 0, none⟩) ((pk bs).length) cap4, .int .i64 ((cnt : Nat) : Int)] 91), (g4, .cells cur4 5)]) (fun φ8 => []) s trivial (fun φ8 => by kernel_rfl) ?_
  intro φ8 w8 s
  refine ops_done (by kernel_rfl) ?_
  refine wp_ret ?_
  refine ret_rule (C := []) [(b, .cells #[.slice (some ⟨g4, 0, none⟩) ((pk bs).length) cap4, .int .i64 ((cnt : Nat) : Int)] 91), (g4, .cells cur4 5)] [] (.slice a7 ((pk bs).length) c7) [] [] s trivial (by kernel_rfl) ?_
  replace s := s.drop (List.Sublist.append (List.Sublist.cons₂ _ (List.Sublist.cons₂ _ List.Sublist.slnil)) (List.Sublist.refl []))
  exact ⟨_, _, _, rfl, s, ⟨_, _, rfl, rfl, _, _, rfl, rfl, hrow4, hb7⟩⟩

end Go.Proofs.Ytgmigcmhnmmdkaa

