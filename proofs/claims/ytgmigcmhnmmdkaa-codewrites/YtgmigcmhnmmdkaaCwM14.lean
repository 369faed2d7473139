/- Numbers are written in few bits. -/
import Derived.Test.YtgmigcmhnmmdkaaCwM13
import Derived.Test.YtgmigcmhnmmdkaaCwS13
import Derived.Test.YtgmigcmhnmmdkaaCwS11
import Derived.OrdersHeld
import Derived.Scope
set_option linter.all false
set_option maxRecDepth 100000
namespace Go.Proofs.Ytgmigcmhnmmdkaa
open Go.RowKit Go.Sep
attribute [local irreducible] Go.wpList Go.Code.wp

theorem klt {n k : Nat} (h : n < 18446744073709551616) (hz : n / 2 ^ k ≠ 0) (hk : k ≤ 64) : k < 64 := by
  rcases Nat.lt_or_ge k 64 with q | q
  · exact q
  · have e : k = 64 := by omega
    subst e; exact absurd (Nat.div_eq_of_lt h) hz

set_option maxHeartbeats 2000000 in
theorem num_c {I : IM} {b cnt : Nat} {bs : List Bool} {v0 : Value} {F : List OB} (hc : cnt = bs.length) (hl9 : bs.length ≤ 800000) (h : RowH 5 1 v0 (pk bs).length ((pk bs).map bV) F) {n : Nat} (hn : n < 18446744073709551616) : FunM Try.prog 47 #[.pointer (some ⟨b, 0, none⟩), .int .u64 ((n : Nat) : Int)] I ((b, .cells #[v0, .int .i64 ((cnt : Nat) : Int)] 91) :: F) (fun v J H' => ∃ (b' : OB) (F' : List OB), H' = b' :: F' ∧ b'.1 = b ∧ ∃ v', v = .tuple #[] ∧ b' = (b, .cells #[v', .int .i64 ((cnt + (numW 62 2 n).length : Nat) : Int)] 91) ∧ RowH 5 1 v' (pk (bs ++ numW 62 2 n)).length ((pk (bs ++ numW 62 2 n)).map bV) F') := by
 refine enterM_rule 23 [(0, pB b), (1, .int .u64 n)] Try.func47 rfl (by kernel_rfl) ?_
 intro w s
 refine seqR ?_
 refine ops_rule (C := []) [(b, .cells #[v0, .int .i64 cnt] 91)] F 1 [] 0 (fun φ1 => [(4, .int .i64 2)]) (fun φ1 => [(b, .cells #[v0, .int .i64 cnt] 91)]) (fun φ1 => []) s trivial (fun φ1 => by kernel_rfl) ?_
 intro φ1 w1 s
 refine ops_done (by kernel_rfl) ?_
 refine wp_seq ?_
 refine wp_block ?_
 have hle2 := IM.Le.refl I
 refine loop_rule (fun (x : List Bool × Nat × Nat × Nat × Value × List OB) => [(0, pB b), (1, .int .u64 x.2.1), (4, .int .i64 x.2.2.1)]) (fun (x : List Bool × Nat × Nat × Nat × Value × List OB) => [(b, .cells #[x.2.2.2.2.1, .int .i64 x.2.2.2.1] 91)] ++ x.2.2.2.2.2) (fun m (x : List Bool × Nat × Nat × Nat × Value × List OB) J => IM.Le I J ∧ x.2.2.1 + m = 64 ∧ x.1 ++ numW (64 - x.2.2.1) x.2.2.1 x.2.1 = bs ++ numW 62 2 n ∧ x.2.1 < 18446744073709551616 ∧ x.2.2.2.1 = List.length x.1 ∧ List.length x.1 ≤ bs.length + x.2.2.1 ∧ RowH 5 1 x.2.2.2.2.1 (pk x.1).length ((pk x.1).map bV) x.2.2.2.2.2) (62) (bs, n, 2, cnt, v0, F) s (by kernel_rfl) (List.Sublist.refl _) ⟨IM.Le.refl _, rfl, rfl, hn, hc, (Nat.le_add_right _ _), h⟩ ?_
 rintro m3 ⟨cur3, nn3, k3, cn3, v3, F3⟩ I3 w3 ev3 s ⟨le3, hi3_0, hi3_1, hi3_2, hi3_3, hi3_4, hi3_5⟩
 try dsimp only at s hi3_0 hi3_1 hi3_2 hi3_3 hi3_4 hi3_5 ⊢
 replace hle2 := leMono le3 hle2
 refine wp_seq ?_
 refine seqR ?_
 refine ops_rule (C := []) _ F3 2 [] 0 (fun φ4 => [(6, .int .i64 k3), (5, .int .u64 nn3)]) (fun φ4 => [(b, .cells #[v3, .int .i64 cn3] 91)]) (fun φ4 => []) s trivial (fun φ4 => by kernel_rfl) ?_
 intro φ4 w4 s
 refine sem_rule (binOp .shr 27 (.int .u64 nn3) (.int .i64 k3)) (some 7) (.int .u64 ((nn3 / 2 ^ k3 : Nat) : Int)) (by kernel_rfl) (run_shrU (by show _ < 18446744073709551616; have hn0 := hi3_0; have hn2 := hi3_2;  omega)) ?_
 refine ops_rule (C := []) _ F3 1 [] 0 (fun φ5 => [(8, .bool (((nn3 / 2 ^ k3 : Nat) : Int) != ((0 : Nat) : Int)))]) (fun φ5 => [(b, .cells #[v3, .int .i64 cn3] 91)]) (fun φ5 => []) s trivial (fun φ5 => by kernel_rfl) ?_
 intro φ5 w5 s
 rw [nat_neq (a := (nn3 / 2 ^ k3)) (b := 0)]
 refine ops_done (by kernel_rfl) ?_
 rcases Bool.eq_false_or_eq_true (decide ((nn3 / 2 ^ k3) ≠ 0)) with hc6 | hc6
 ·
  rw [hc6]
  refine cond_true_rule (b := true) (by kernel_rfl) rfl ?_
  refine wp_skip ?_
  refine wp_block ?_
  refine seqR ?_
  refine ops_rule (C := []) _ F3 1 [] 0 (fun φ7 => [(9, pB b)]) (fun φ7 => [(b, .cells #[v3, .int .i64 cn3] 91)]) (fun φ7 => []) s trivial (fun φ7 => by kernel_rfl) ?_
  intro φ7 w7 s
  refine callH_rule (b := (b, .cells #[v3, .int .i64 cn3] 91)) (F := F3) (Hr := []) (some 10) 0 s (by kernel_rfl) (by kernel_rfl) (put_c (b := b) (cnt := cn3) (bs := cur3) (v0 := v3) (n := 1) (k := 1) (by have h8 := hi3_3; (try simp only [List.length_append, putBits_len]); omega) (by have h8 := hi3_4; have h7 := hi3_0; (try simp only [List.length_append, putBits_len]); omega) hi3_5 (by have hn0 := hi3_0; have hn2 := hi3_2; have hq0 := of_decide_eq_true hc6; omega) (by have hn0 := hi3_0; have hn2 := hi3_2; have hq0 := of_decide_eq_true hc6; omega)) (by kernel_rfl) ?_
  rintro v8 I8 w8 b8 F8 le8 - h8 s
  replace hle2 := leMono le8 hle2
  obtain ⟨v8, rfl, rfl, hr8⟩ := h8
  refine ops_done (by kernel_rfl) ?_
  refine seqR ?_
  refine ops_rule (C := []) _ F8 2 [] 0 (fun φ9 => [(12, .int .i64 k3), (11, .int .u64 nn3)]) (fun φ9 => [(b, .cells #[v8, .int .i64 ((cn3 + 1 : Nat) : Int)] 91)]) (fun φ9 => []) s trivial (fun φ9 => by kernel_rfl) ?_
  intro φ9 w9 s
  refine sem_rule (binOp .shl 27 (.int .u64 1) (.int .i64 k3)) (some 13) (.int .u64 ((2 ^ k3 : Nat) : Int)) (by kernel_rfl) (run_shl1 (klt hi3_2 (of_decide_eq_true hc6) (by have := hi3_0; omega))) ?_
  refine ops_rule (C := []) _ F8 2 [] 0 (fun φ10 => [(1, .int .u64 (IntKind.wrap .u64 (((nn3 : Nat) : Int) - ((2 ^ k3 : Nat) : Int)))), (14, .int .u64 (IntKind.wrap .u64 (((nn3 : Nat) : Int) - ((2 ^ k3 : Nat) : Int))))]) (fun φ10 => [(b, .cells #[v8, .int .i64 ((cn3 + 1 : Nat) : Int)] 91)]) (fun φ10 => []) s trivial (fun φ10 => by kernel_rfl) ?_
  intro φ10 w10 s
  rw [nat_subU (a := nn3) (b := (2 ^ k3)) (by have := pow_le_of_div (of_decide_eq_true hc6); have := hi3_2; omega) (by have := pow_le_of_div (of_decide_eq_true hc6); have := hi3_2; omega)]
  refine ops_done (by kernel_rfl) ?_
  refine region_rule ?_
  refine ops_rule (C := []) _ F8 3 [] 0 (fun φ11 => [(4, .int .i64 (IntKind.wrap .i64 (((k3 : Nat) : Int) + ((1 : Nat) : Int)))), (16, .int .i64 (IntKind.wrap .i64 (((k3 : Nat) : Int) + ((1 : Nat) : Int)))), (15, .int .i64 k3)]) (fun φ11 => [(b, .cells #[v8, .int .i64 ((cn3 + 1 : Nat) : Int)] 91)]) (fun φ11 => []) s trivial (fun φ11 => by kernel_rfl) ?_
  intro φ11 w11 s
  rw [nat_addI (a := k3) (b := 1) (by have hn0 := hi3_0; have hn2 := hi3_2; have hq0 := of_decide_eq_true hc6; omega)]
  refine ops_done (by kernel_rfl) ?_
  have hp9 := pow_le_of_div (of_decide_eq_true hc6)
  have hk9 : k3 < 64 := klt hi3_2 (of_decide_eq_true hc6) (by have := hi3_0; omega)
  exact ⟨⟨m3 - 1, ((cur3 ++ putBits 1 1), nn3 - 2 ^ k3, k3 + 1, cn3 + 1, v8, F8), _, _, _, by omega, rfl, s, (List.Sublist.append (List.Sublist.cons₂ _ List.Sublist.slnil) (List.Sublist.refl _)), by kernel_rfl, hle2, by show k3 + 1 + (m3 - 1) = 64; omega, num_step hk9 hp9 hi3_1, Nat.lt_of_le_of_lt (Nat.sub_le _ _) hi3_2, by have := hi3_3; show cn3 + 1 = List.length (cur3 ++ putBits 1 1); rw [List.length_append, putBits_len]; omega, by have := hi3_4; show List.length (cur3 ++ putBits 1 1) ≤ bs.length + (k3 + 1); rw [List.length_append, putBits_len]; omega, hr8⟩⟩
 ·
  rw [hc6]
  refine cond_false_rule (b := false) (by kernel_rfl) rfl ?_
  refine wp_exit ?_
  refine seqR ?_
  refine ops_rule (C := []) _ F3 1 [] 0 (fun φ12 => [(17, pB b)]) (fun φ12 => [(b, .cells #[v3, .int .i64 cn3] 91)]) (fun φ12 => []) s trivial (fun φ12 => by kernel_rfl) ?_
  intro φ12 w12 s
  refine callH_rule (b := (b, .cells #[v3, .int .i64 cn3] 91)) (F := F3) (Hr := []) (some 18) 0 s (by kernel_rfl) (by kernel_rfl) (put_c (b := b) (cnt := cn3) (bs := cur3) (v0 := v3) (n := 0) (k := 1) (by have h8 := hi3_3; (try simp only [List.length_append, putBits_len]); omega) (by have h8 := hi3_4; have h7 := hi3_0; (try simp only [List.length_append, putBits_len]); omega) hi3_5 (by have hn0 := hi3_0; have hn2 := hi3_2; have hq0 := of_decide_eq_false hc6; omega) (by have hn0 := hi3_0; have hn2 := hi3_2; have hq0 := of_decide_eq_false hc6; omega)) (by kernel_rfl) ?_
  rintro v13 I13 w13 b13 F13 le13 - h13 s
  obtain ⟨v13, rfl, rfl, hr13⟩ := h13
  refine ops_done (by kernel_rfl) ?_
  refine region_rule ?_
  refine ops_rule (C := []) _ F13 3 [] 0 (fun φ14 => [(21, .int .i64 k3), (20, .int .u64 nn3), (19, pB b)]) (fun φ14 => [(b, .cells #[v13, .int .i64 ((cn3 + 1 : Nat) : Int)] 91)]) (fun φ14 => []) s trivial (fun φ14 => by kernel_rfl) ?_
  intro φ14 w14 s
  refine callH_rule (b := (b, .cells #[v13, .int .i64 ((cn3 + 1 : Nat) : Int)] 91)) (F := F13) (Hr := []) (some 22) 0 s (by kernel_rfl) (by kernel_rfl) (put_c (b := b) (cnt := cn3 + 1) (bs := (cur3 ++ putBits 0 1)) (v0 := v13) (n := nn3) (k := k3) (by have h8 := hi3_3; (try simp only [List.length_append, putBits_len]); omega) (by have h8 := hi3_4; have h7 := hi3_0; (try simp only [List.length_append, putBits_len]); omega) hr13 (by have hn0 := hi3_0; have hn2 := hi3_2; have hq0 := of_decide_eq_false hc6; omega) (by have hn0 := hi3_0; have hn2 := hi3_2; have hq0 := of_decide_eq_false hc6; omega)) (by kernel_rfl) ?_
  rintro v15 I15 w15 b15 F15 le15 - h15 s
  obtain ⟨v15, rfl, rfl, hr15⟩ := h15
  refine ops_done (by kernel_rfl) ?_
  refine end_rule (C := []) _ F15 (.tuple #[]) [] [] s trivial (by kernel_rfl) ?_
  have hd9 : nn3 / 2 ^ k3 = 0 := Decidable.not_not.1 (of_decide_eq_false hc6)
  have hE9 := num_end hd9 hi3_1
  have hL9 := congrArg List.length hE9
  simp only [List.length_append, putBits_len] at hL9
  have hc9 : cn3 + 1 + k3 = cnt + (numW 62 2 n).length := (by have := hi3_3; omega)
  exact ⟨_, _, _, rfl, s, ⟨_, _, rfl, rfl, _, rfl, by rw [hc9], row_cast hr15 (congrArg pk hE9)⟩⟩

theorem newWriter_c {I : IM} : FunM Try.prog 22 #[] I [] (fun v J F' => ∃ b, v = .pointer (some ⟨b, 0, none⟩) ∧ F' = [(b, .cells #[.slice none 0 0, .int .i64 0] 91)]) := by
 refine enterM_rule 3 [] Try.func22 rfl (by kernel_rfl) ?_
 intro w s
 refine seqR ?_
 refine ops_rule (C := []) [] [] 1 [] 0 (fun φ1 => [(0, .pointer none)]) (fun φ1 => []) (fun φ1 => []) s trivial (fun φ1 => by kernel_rfl) ?_
 intro φ1 w1 s
 refine ops_done (by kernel_rfl) ?_
 refine seqR ?_
 refine ops_rule (C := []) [] [] 3 [] 1 (fun φ2 => [(0, pB (φ2 0)), (2, pB (φ2 0)), (1, .agg #[.slice none 0 0, .int .i64 0])]) (fun φ2 => [(φ2 0, .cells #[.slice none 0 0, .int .i64 0] 91)]) (fun φ2 => []) s trivial (fun φ2 => by kernel_rfl) ?_
 intro φ2 w2 s
 refine ops_done (by kernel_rfl) ?_
 refine wp_ret ?_
 refine ret_rule (C := []) _ [] (pB (φ2 0)) [] [] s trivial (by kernel_rfl) ?_
 exact ⟨_, _, _, rfl, s, ⟨_, rfl, rfl⟩⟩

theorem clone_row {I : IM} {l : List UInt8} {x : Addr} {n c : Nat} (hl : BSl I l (.slice (some x) n c)) (hn : l.length ≤ 1000000000) : FunM Try.prog 59 #[.slice (some x) n c] I [] (fun v J F => RowH 5 1 v l.length (l.map bV) F) := by
  obtain ⟨rfl, -⟩ := hl.cap
  exact clone_some hl hn

set_option maxHeartbeats 1000000 in
theorem bytes_c {I : IM} {b cnt : Nat} {bs : List Bool} {v0 : Value} {F : List OB} (hp : 0 < bs.length) (hl9 : bs.length ≤ 1000000) (h : RowH 5 1 v0 (pk bs).length ((pk bs).map bV) F) : FunM Try.prog 27 #[.pointer (some ⟨b, 0, none⟩)] I ((b, .cells #[v0, .int .i64 ((cnt : Nat) : Int)] 91) :: F) (fun v J H' => ∃ (b' : OB) (F' : List OB), H' = b' :: F' ∧ b'.1 = b ∧ ∃ (a : Option Addr) (c : Nat), v = .slice a (List.length (pk bs)) c ∧ b' = (b, .cells #[v0, .int .i64 ((cnt : Nat) : Int)] 91) ∧ RowH 5 1 v0 (pk bs).length ((pk bs).map bV) F' ∧ BSl J (pk bs) (.slice a (List.length (pk bs)) c)) := by
 refine enterM_rule 10 [(0, pB b)] Try.func27 rfl (by kernel_rfl) ?_
 intro w s
 refine seqR ?_
 refine ops_rule (C := []) [(b, .cells #[v0, .int .i64 cnt] 91)] F 1 [] 0 (fun φ1 => [(2, .slice none 0 0)]) (fun φ1 => [(b, .cells #[v0, .int .i64 cnt] 91)]) (fun φ1 => []) s trivial (fun φ1 => by kernel_rfl) ?_
 intro φ1 w1 s
 refine ops_done (by kernel_rfl) ?_
 refine wp_seq ?_
 refine seqR ?_
 refine ops_rule (C := []) _ F 2 [] 0 (fun φ2 => [(4, .bool false), (3, pB b)]) (fun φ2 => [(b, .cells #[v0, .int .i64 cnt] 91)]) (fun φ2 => []) s trivial (fun φ2 => by kernel_rfl) ?_
 intro φ2 w2 s
 refine ops_done (by kernel_rfl) ?_
 refine cond_false_rule (b := false) (by kernel_rfl) rfl ?_
 refine wp_skip ?_
 refine seqR ?_
 refine ops_rule (C := []) _ F 4 [.o 0] 0 (fun φ3 => [(8, v0), (7, pB b), (6, pB b), (5, pB b)]) (fun φ3 => [(b, .cells #[v0, .int .i64 cnt] 91)]) (fun φ3 => [b]) s trivial (fun φ3 => by kernel_rfl) ?_
 intro φ3 w3 s
 obtain ⟨g4, cap4, cur4, hv4, hF4, hc4, hrow4⟩ := row_open h (by rw [pk_len]; omega)
 subst hv4
 subst hF4
 have hle5 : IM.Le I (IM.add I g4 (.cells cur4 5)) := IM.le_add (s.free (g4, .cells cur4 5) (by simp)) _
 refine callLF_rule (H := ([(b, .cells #[.slice (some ⟨g4, 0, none⟩) ((pk bs).length) cap4, .int .i64 cnt] 91), (g4, .cells cur4 5)] ++ [])) (R := fun v F' => RowH 5 1 v (pk bs).length ((pk bs).map bV) F') (some 9) s (IM.add I g4 (.cells cur4 5)) hle5 (add_sub (by simp)) (clone_row (row_lend (I := I) hrow4) (by rw [pk_len]; omega)) (by kernel_rfl) ?_
 intro v6 w6 F6 h6 s
 obtain ⟨I7, le7, hb7, s⟩ := freeze_row (H := [(b, .cells #[.slice (some ⟨g4, 0, none⟩) ((pk bs).length) cap4, .int .i64 ((cnt : Nat) : Int)] 91), (g4, .cells cur4 5)]) (F := F6) s h6
 obtain ⟨a7, c7, hv7, hc7, hb7⟩ := hb7.open
 subst hv7
 refine ops_rule (C := []) [(b, .cells #[.slice (some ⟨g4, 0, none⟩) ((pk bs).length) cap4, .int .i64 cnt] 91), (g4, .cells cur4 5)] [] 1 [] 0 (fun φ8 => [(2, .slice a7 ((pk bs).length) c7)]) (fun φ8 => [(b, .cells #[.slice (some ⟨g4, 0, none⟩) ((pk bs).length) cap4, .int .i64 cnt] 91), (g4, .cells cur4 5)]) (fun φ8 => []) s trivial (fun φ8 => by kernel_rfl) ?_
 intro φ8 w8 s
 refine ops_done (by kernel_rfl) ?_
 refine wp_ret ?_
 refine ret_rule (C := []) _ [] (.slice a7 ((pk bs).length) c7) [] [] s trivial (by kernel_rfl) ?_
 replace s := s.drop (List.Sublist.append (List.Sublist.cons₂ _ (List.Sublist.cons₂ _ List.Sublist.slnil)) (List.Sublist.refl []))
 exact ⟨_, _, _, rfl, s, ⟨_, _, rfl, rfl, _, _, rfl, rfl, hrow4, hb7⟩⟩

end Go.Proofs.Ytgmigcmhnmmdkaa

/- Bits are read. -/
set_option linter.all false
set_option maxRecDepth 100000
namespace Go.Proofs.Ytgmigcmhnmmdkaa
open Go.RowKit Go.Sep
attribute [local irreducible] Go.wpList Go.Code.wp

theorem err_c {I : IM} {r e : Nat} {v0 v1 : Value} : FunM Try.prog 62 #[.pointer (some ⟨r, 0, none⟩)] I [(r, .cells #[v0, v1, .int .i64 ((e : Nat) : Int)] 102)] (fun v J H' => ∃ b' : OB, H' = [b'] ∧ b'.1 = r ∧ v = .int .i64 ((e : Nat) : Int) ∧ b' = (r, .cells #[v0, v1, .int .i64 ((e : Nat) : Int)] 102)) := by
 refine enterM_rule 9 [(0, pB r)] Try.func62 rfl (by kernel_rfl) ?_
 intro w s
 refine seqR ?_
 refine ops_rule (C := []) [(r, .cells #[v0, v1, .int .i64 e] 102)] [] 1 [] 0 (fun φ1 => [(2, .int .i64 0)]) (fun φ1 => [(r, .cells #[v0, v1, .int .i64 e] 102)]) (fun φ1 => []) s trivial (fun φ1 => by kernel_rfl) ?_
 intro φ1 w1 s
 refine ops_done (by kernel_rfl) ?_
 refine wp_seq ?_
 refine seqR ?_
 refine ops_rule (C := []) _ [] 2 [] 0 (fun φ2 => [(4, .bool false), (3, pB r)]) (fun φ2 => [(r, .cells #[v0, v1, .int .i64 e] 102)]) (fun φ2 => []) s trivial (fun φ2 => by kernel_rfl) ?_
 intro φ2 w2 s
 refine ops_done (by kernel_rfl) ?_
 refine cond_false_rule (b := false) (by kernel_rfl) rfl ?_
 refine wp_skip ?_
 refine seqR ?_
 refine ops_rule (C := []) _ [] 5 [.o 0] 0 (fun φ3 => [(2, .int .i64 e), (8, .int .i64 e), (7, .pointer (some ⟨r, 2, none⟩)), (6, pB r), (5, pB r)]) (fun φ3 => [(r, .cells #[v0, v1, .int .i64 e] 102)]) (fun φ3 => [r]) s trivial (fun φ3 => by kernel_rfl) ?_
 intro φ3 w3 s
 refine ops_done (by kernel_rfl) ?_
 refine wp_ret ?_
 refine ret_rule (C := []) _ [] (.int .i64 e) [] [] s trivial (by kernel_rfl) ?_
 exact ⟨_, _, _, rfl, s, ⟨_, rfl, rfl, rfl, rfl⟩⟩

set_option maxHeartbeats 1000000 in
theorem left_c {I : IM} {l : List UInt8} {a : Option Addr} {n c : Nat} (hl : BSl I l (.slice a n c)) (hn9 : l.length ≤ 1000000) {r p : Nat} {e : Nat} (hp : p ≤ l.length * 8) : FunM Try.prog 63 #[.pointer (some ⟨r, 0, none⟩)] I [(r, .cells #[.slice a n c, .int .i64 ((p : Nat) : Int), .int .i64 ((e : Nat) : Int)] 102)] (fun v J H' => ∃ b' : OB, H' = [b'] ∧ b'.1 = r ∧ v = .int .i64 ((l.length * 8 - p : Nat) : Int) ∧ b' = (r, .cells #[.slice a n c, .int .i64 ((p : Nat) : Int), .int .i64 ((e : Nat) : Int)] 102)) := by
 obtain ⟨rfl, -⟩ := hl.cap
 refine enterM_rule 16 [(0, pB r)] Try.func63 rfl (by kernel_rfl) ?_
 intro w s
 refine seqR ?_
 refine ops_rule (C := []) [(r, .cells #[.slice a l.length c, .int .i64 p, .int .i64 e] 102)] [] 1 [] 0 (fun φ1 => [(2, .int .i64 0)]) (fun φ1 => [(r, .cells #[.slice a l.length c, .int .i64 p, .int .i64 e] 102)]) (fun φ1 => []) s trivial (fun φ1 => by kernel_rfl) ?_
 intro φ1 w1 s
 refine ops_done (by kernel_rfl) ?_
 refine wp_seq ?_
 refine seqR ?_
 refine ops_rule (C := []) _ [] 2 [] 0 (fun φ2 => [(4, .bool false), (3, pB r)]) (fun φ2 => [(r, .cells #[.slice a l.length c, .int .i64 p, .int .i64 e] 102)]) (fun φ2 => []) s trivial (fun φ2 => by kernel_rfl) ?_
 intro φ2 w2 s
 refine ops_done (by kernel_rfl) ?_
 refine cond_false_rule (b := false) (by kernel_rfl) rfl ?_
 refine wp_skip ?_
 refine wp_seq ?_
 refine draw_rule (C := []) ⟨(fun φ3 xs3 => [.look 0 [] [], .look 0 [] [], .look 0 [] [], .look 0 [.o 0] [r], .look 0 [] [], .sub 0 [] [] (.int .i64 (IntKind.wrap .i64 (((l.length : Nat) : Int) * ((8 : Nat) : Int)))), .look 0 [] [], .look 0 [] [], .look 0 [] [], .look 0 [.o 0] [r], .sub 0 [] [] (.int .i64 (IntKind.wrap .i64 (((l.length * 8 : Nat) : Int) - ((p : Nat) : Int)))), .look 0 [] []]), (fun φ3 xs3 => [pB r, pB r, pB r, .slice a l.length c, .int .i64 l.length, .int .i64 ((l.length * 8 : Nat) : Int), pB r, pB r, .pointer (some ⟨r, 1, none⟩), .int .i64 p, .int .i64 (((l.length * 8) - p : Nat) : Int), .int .i64 (((l.length * 8) - p : Nat) : Int)]), (fun φ3 xs3 => [[(r, .cells #[.slice a l.length c, .int .i64 p, .int .i64 e] 102)]]), (fun φ3 xs3 => [[default, default, default, default, default, default, default, default, default, default, default, default]]), [], [1, 1, 1, 1, 1, 5, 1, 1, 1, 1, 5, 1]⟩ (fun j => ([MP.any] : List MP).getD j MP.any) [] [5, 10] [] (fun φ3 xs3 => []) (fun φ3 xs3 => [(5, pB r), (6, pB r), (7, pB r), (8, .slice a l.length c), (9, .int .i64 l.length), (10, .int .i64 ((l.length * 8 : Nat) : Int)), (11, pB r), (12, pB r), (13, .pointer (some ⟨r, 1, none⟩)), (14, .int .i64 p), (15, .int .i64 (((l.length * 8) - p : Nat) : Int)), (2, .int .i64 (((l.length * 8) - p : Nat) : Int))]) (fun φ3 xs3 => [(r, .cells #[.slice a l.length c, .int .i64 p, .int .i64 e] 102)]) s trivial (by kernel_rfl) (by kernel_rfl) (fun _ _ => by kernel_rfl) (fun _ _ => by kernel_rfl) ⟨fun _ _ => by kernel_rfl, fun _ _ => by kernel_rfl, fun _ _ => by kernel_rfl, fun _ _ => by kernel_rfl⟩ (fun _ _ _ => by kernel_rfl) (fun _ _ => by kernel_rfl) (fun _ _ => by kernel_rfl) (fun _ _ => by kernel_rfl) (fun _ _ => by kernel_rfl) (fun _ _ => by kernel_rfl) ⟨kcast (A := ∀ (φ3 : Nat → Nat) (xs3 : Xs), (.int .i64 (IntKind.wrap .i64 (((l.length : Nat) : Int) * ((8 : Nat) : Int))) : Value) = .int .i64 ((l.length * 8 : Nat) : Int)) (by kernel_rfl) (fun φ3 xs3 => congrArg (Value.int .i64) ((nat_mulI (a := l.length) (b := 8) (by   (try simp only [List.length_drop, List.length_take, List.length_append, List.length_cons, List.length_nil]); omega)))), ⟨kcast (A := ∀ (φ3 : Nat → Nat) (xs3 : Xs), (.int .i64 (IntKind.wrap .i64 (((l.length * 8 : Nat) : Int) - ((p : Nat) : Int))) : Value) = .int .i64 (((l.length * 8) - p : Nat) : Int)) (by kernel_rfl) (fun φ3 xs3 => congrArg (Value.int .i64) ((nat_subI (a := (l.length * 8)) (b := p) (by   (try simp only [List.length_drop, List.length_take, List.length_append, List.length_cons, List.length_nil]); omega) (by   (try simp only [List.length_drop, List.length_take, List.length_append, List.length_cons, List.length_nil]); omega)))), trivial⟩⟩ trivial (by kernel_rfl) trivial ?k3
 case k3 =>
  rintro φ3 xs3 I3 w3 le3 s 
  refine wp_ret ?_
  refine ret_rule (C := []) [(r, .cells #[.slice a l.length c, .int .i64 p, .int .i64 e] 102)] [] (.int .i64 (((l.length * 8) - p : Nat) : Int)) [] [] s trivial (by kernel_rfl) ?_
  exact ⟨_, _, _, rfl, s, ⟨_, rfl, rfl, rfl, rfl⟩⟩

set_option maxHeartbeats 1000000 in
theorem bit_c {I : IM} {l : List UInt8} {a : Option Addr} {n c : Nat} (hl : BSl I l (.slice a n c)) (hn9 : l.length ≤ 1000000) {r p : Nat} {e j : Nat} (hj : j < l.length * 8) : FunM Try.prog 64 #[.pointer (some ⟨r, 0, none⟩), .int .i64 ((j : Nat) : Int)] I [(r, .cells #[.slice a n c, .int .i64 ((p : Nat) : Int), .int .i64 ((e : Nat) : Int)] 102)] (fun v J H' => ∃ b' : OB, H' = [b'] ∧ b'.1 = r ∧ v = .int .u64 (((bitB l j).toNat : Nat) : Int) ∧ b' = (r, .cells #[.slice a n c, .int .i64 ((p : Nat) : Int), .int .i64 ((e : Nat) : Int)] 102)) := by
 obtain ⟨rfl, -⟩ := hl.cap
 refine enterM_rule 18 [(0, pB r), (1, .int .i64 j)] Try.func64 rfl (by kernel_rfl) ?_
 intro w s
 refine seqR ?_
 refine ops_rule (C := []) [(r, .cells #[.slice a l.length c, .int .i64 p, .int .i64 e] 102)] [] 1 [] 0 (fun φ1 => [(4, .int .u64 0)]) (fun φ1 => [(r, .cells #[.slice a l.length c, .int .i64 p, .int .i64 e] 102)]) (fun φ1 => []) s trivial (fun φ1 => by kernel_rfl) ?_
 intro φ1 w1 s
 refine ops_done (by kernel_rfl) ?_
 refine wp_seq ?_
 refine draw_rule (C := []) ⟨(fun φ2 xs2 => [.look 0 [] [], .look 0 [] [], .look 0 [] [], .look 0 [.o 0] [r], .look 0 [] [], .sub 0 [] [] (.int .i64 (IntKind.wrap .i64 (Int.tdiv ((j : Nat) : Int) ((8 : Nat) : Int)))), .ran (Instr.indexAt 22 (.slice a l.length c) (.int .i64 ((j / 8 : Nat) : Int))), .ran (Instr.loadAt 5 (.pointer (pAt a (j / 8)))), .sub 0 [] [] (.int .u64 (IntKind.wrap .u64 (((l.getD (j / 8) 0).toNat : Nat) : Int))), .look 0 [] [], .call 83 #[.int .i64 j], .ran (binOp .shr 27 (.int .u64 (((l.getD (j / 8) 0).toNat : Nat) : Int)) (.int .i64 ((7 - j % 8 : Nat) : Int))), .ran (binOp .and 27 (.int .u64 ((((l.getD (j / 8) 0).toNat) / 2 ^ (7 - j % 8) : Nat) : Int)) (.int .u64 ((1 : Nat) : Int))), .look 0 [] []]), (fun φ2 xs2 => [pB r, pB r, pB r, .slice a l.length c, .int .i64 j, .int .i64 ((j / 8 : Nat) : Int), .pointer (pAt a (j / 8)), .int .u8 (((l.getD (j / 8) 0).toNat : Nat) : Int), .int .u64 (((l.getD (j / 8) 0).toNat : Nat) : Int), .int .i64 j, .int .i64 ((7 - j % 8 : Nat) : Int), .int .u64 ((((l.getD (j / 8) 0).toNat) / 2 ^ (7 - j % 8) : Nat) : Int), .int .u64 ((band 64 (((l.getD (j / 8) 0).toNat) / 2 ^ (7 - j % 8)) 1 : Nat) : Int), .int .u64 ((band 64 (((l.getD (j / 8) 0).toNat) / 2 ^ (7 - j % 8)) 1 : Nat) : Int)]), (fun φ2 xs2 => [[(r, .cells #[.slice a l.length c, .int .i64 p, .int .i64 e] 102)]]), (fun φ2 xs2 => [[default, default, default, default, default, default, default, default, default, default, default, default, default, default]]), [], [1, 1, 1, 1, 1, 5, 6, 6, 5, 1, 3, 6, 6, 1]⟩ (fun j => ([MP.any] : List MP).getD j MP.any) [10] [5, 8] [6, 7, 11, 12] (fun φ2 xs2 => []) (fun φ2 xs2 => [(5, pB r), (6, pB r), (7, pB r), (8, .slice a l.length c), (9, .int .i64 j), (10, .int .i64 ((j / 8 : Nat) : Int)), (11, .pointer (pAt a (j / 8))), (12, .int .u8 (((l.getD (j / 8) 0).toNat : Nat) : Int)), (13, .int .u64 (((l.getD (j / 8) 0).toNat : Nat) : Int)), (14, .int .i64 j), (15, .int .i64 ((7 - j % 8 : Nat) : Int)), (16, .int .u64 ((((l.getD (j / 8) 0).toNat) / 2 ^ (7 - j % 8) : Nat) : Int)), (17, .int .u64 ((band 64 (((l.getD (j / 8) 0).toNat) / 2 ^ (7 - j % 8)) 1 : Nat) : Int)), (4, .int .u64 ((band 64 (((l.getD (j / 8) 0).toNat) / 2 ^ (7 - j % 8)) 1 : Nat) : Int))]) (fun φ2 xs2 => [(r, .cells #[.slice a l.length c, .int .i64 p, .int .i64 e] 102)]) s trivial (by kernel_rfl) (by kernel_rfl) (fun _ _ => by kernel_rfl) (fun _ _ => by kernel_rfl) ⟨fun _ _ => by kernel_rfl, fun _ _ => by kernel_rfl, fun _ _ => by kernel_rfl, fun _ _ => by kernel_rfl⟩ (fun _ _ _ => by kernel_rfl) (fun _ _ => by kernel_rfl) (fun _ _ => by kernel_rfl) (fun _ _ => by kernel_rfl) (fun _ _ => by kernel_rfl) (fun _ _ => by kernel_rfl) ⟨kcast (A := ∀ (φ2 : Nat → Nat) (xs2 : Xs), (.int .i64 (IntKind.wrap .i64 (Int.tdiv ((j : Nat) : Int) ((8 : Nat) : Int))) : Value) = .int .i64 ((j / 8 : Nat) : Int)) (by kernel_rfl) (fun φ2 xs2 => congrArg (Value.int .i64) ((nat_quoI (a := j) (b := 8) (by   omega)))), ⟨kcast (A := ∀ (φ2 : Nat → Nat) (xs2 : Xs), (.int .u64 (IntKind.wrap .u64 (((l.getD (j / 8) 0).toNat : Nat) : Int)) : Value) = .int .u64 (((l.getD (j / 8) 0).toNat : Nat) : Int)) (by kernel_rfl) (fun φ2 xs2 => congrArg (Value.int .u64) ((nat_wrapU (a := ((l.getD (j / 8) 0).toNat)) (by  have := byte_lt (l.getD (j / 8) 0);  omega)))), trivial⟩⟩ ⟨kcast (A := ∀ (φ2 : Nat → Nat) (xs2 : Xs) (J : IM) (w : World), I.Le J → J.Sub w → ((Instr.indexAt 22 (.slice a l.length c) (.int .i64 ((j / 8 : Nat) : Int))) : Sem Value).run Try.prog w = .ok (.pointer (pAt a (j / 8))) w) (by kernel_rfl) (fun φ2 xs2 J w hJ hS => bsl_idx (BSl.mono hJ hl) (by   omega)), ⟨kcast (A := ∀ (φ2 : Nat → Nat) (xs2 : Xs) (J : IM) (w : World), I.Le J → J.Sub w → ((Instr.loadAt 5 (.pointer (pAt a (j / 8)))) : Sem Value).run Try.prog w = .ok (.int .u8 (((l.getD (j / 8) 0).toNat : Nat) : Int)) w) (by kernel_rfl) (fun φ2 xs2 J w hJ hS => bsl_ld hS (BSl.mono hJ hl) (by   omega)), ⟨kcast (A := ∀ (φ2 : Nat → Nat) (xs2 : Xs) (J : IM) (w : World), I.Le J → J.Sub w → ((binOp .shr 27 (.int .u64 (((l.getD (j / 8) 0).toNat : Nat) : Int)) (.int .i64 ((7 - j % 8 : Nat) : Int))) : Sem Value).run Try.prog w = .ok (.int .u64 ((((l.getD (j / 8) 0).toNat) / 2 ^ (7 - j % 8) : Nat) : Int)) w) (by kernel_rfl) (fun φ2 xs2 J w hJ hS => run_shrU (by show _ < 18446744073709551616;  have := byte_lt (l.getD (j / 8) 0);  omega)), ⟨kcast (A := ∀ (φ2 : Nat → Nat) (xs2 : Xs) (J : IM) (w : World), I.Le J → J.Sub w → ((binOp .and 27 (.int .u64 ((((l.getD (j / 8) 0).toNat) / 2 ^ (7 - j % 8) : Nat) : Int)) (.int .u64 ((1 : Nat) : Int))) : Sem Value).run Try.prog w = .ok (.int .u64 ((band 64 (((l.getD (j / 8) 0).toNat) / 2 ^ (7 - j % 8)) 1 : Nat) : Int)) w) (by kernel_rfl) (fun φ2 xs2 J w hJ hS => run_bit64.2.1), trivial⟩⟩⟩⟩ (by kernel_rfl) ⟨?c2_10, trivial⟩ ?k2
 case c2_10 =>
  refine kcast (A := ∀ (φ2 : Nat → Nat) (xs2 : Xs) (J10_2 : IM), I.Le J10_2 → Fun Try.prog 83 #[.int .i64 j] J10_2 (fun v J' => ∃ x : UX, v = .int .i64 ((7 - j % 8 : Nat) : Int) ∧ (True))) (by kernel_rfl) ?_
  intro φ2 xs2 J10_2 leJ
  exact Fun.mono (shift_c (n := j)) (fun v J' _ h => ⟨UX.d, h, trivial⟩)
 case k2 =>
  rintro φ2 xs2 I2 w2 le2 s _
  refine wp_ret ?_
  refine ret_rule (C := []) [(r, .cells #[.slice a l.length c, .int .i64 p, .int .i64 e] 102)] [] (.int .u64 ((band 64 (((l.getD (j / 8) 0).toNat) / 2 ^ (7 - j % 8)) 1 : Nat) : Int)) [] [] s trivial (by kernel_rfl) ?_
  exact ⟨_, _, _, rfl, s, ⟨_, rfl, rfl, by rw [band64_one (Nat.lt_of_le_of_lt (Nat.div_le_self _ _) (by have := byte_lt (l.getD (j / 8) 0); omega)), bit_read], rfl⟩⟩

theorem rd_63 {l : List UInt8} {a i k : Nat} (h : i < k) (hk : k ≤ 64) : rd l a i < 9223372036854775808 :=
  Nat.lt_of_lt_of_le (rd_lt l a i) (show 2 ^ i ≤ 2 ^ 63 from Nat.pow_le_pow_right (by decide) (by omega))
theorem bit2 (l : List UInt8) (j : Nat) : (bitB l j).toNat < 2 := by have := Bool.toNat_le (bitB l j); omega

set_option maxHeartbeats 2000000 in
theorem get_c {I : IM} {l : List UInt8} {a : Option Addr} {n c : Nat} (hl : BSl I l (.slice a n c)) (hn9 : l.length ≤ 1000000) {r p : Nat} {k : Nat} (hk : k ≤ 64) (hp : p + k ≤ l.length * 8) : FunM Try.prog 30 #[.pointer (some ⟨r, 0, none⟩), .int .i64 ((k : Nat) : Int)] I [(r, .cells #[.slice a n c, .int .i64 ((p : Nat) : Int), .int .i64 0] 102)] (fun v J H' => ∃ b' : OB, H' = [b'] ∧ b'.1 = r ∧ v = .int .u64 ((rd l p k : Nat) : Int) ∧ b' = (r, .cells #[.slice a n c, .int .i64 ((p + k : Nat) : Int), .int .i64 0] 102)) := by
 obtain ⟨rfl, -⟩ := hl.cap
 refine enterM_rule 44 [(0, pB r), (1, .int .i64 k)] Try.func30 rfl (by kernel_rfl) ?_
 intro w s
 refine seqR ?_
 refine ops_rule (C := []) [(r, .cells #[.slice a l.length c, .int .i64 p, .int .i64 0] 102)] [] 1 [] 0 (fun φ1 => [(4, .int .u64 0)]) (fun φ1 => [(r, .cells #[.slice a l.length c, .int .i64 p, .int .i64 0] 102)]) (fun φ1 => []) s trivial (fun φ1 => by kernel_rfl) ?_
 intro φ1 w1 s
 refine ops_done (by kernel_rfl) ?_
 refine seqR ?_
 refine ops_rule (C := []) _ [] 1 [] 0 (fun φ2 => [(7, .int .i64 k)]) (fun φ2 => [(r, .cells #[.slice a l.length c, .int .i64 p, .int .i64 0] 102)]) (fun φ2 => []) s trivial (fun φ2 => by kernel_rfl) ?_
 intro φ2 w2 s
 refine call_rule (some 8) s (held_c (k := k) (by   omega)) (by kernel_rfl) ?_
 intro v3 I3 w3 le3 h3 s
 replace hl := BSl.mono le3 hl
 obtain rfl := h3
 refine ops_rule (C := []) _ [] 1 [] 0 (fun φ4 => [(1, .int .i64 k)]) (fun φ4 => [(r, .cells #[.slice a l.length c, .int .i64 p, .int .i64 0] 102)]) (fun φ4 => []) s trivial (fun φ4 => by kernel_rfl) ?_
 intro φ4 w4 s
 refine ops_done (by kernel_rfl) ?_
 refine wp_seq ?_
 refine seqR ?_
 refine ops_rule (C := []) _ [] 1 [] 0 (fun φ5 => [(9, pB r)]) (fun φ5 => [(r, .cells #[.slice a l.length c, .int .i64 p, .int .i64 0] 102)]) (fun φ5 => []) s trivial (fun φ5 => by kernel_rfl) ?_
 intro φ5 w5 s
 refine callB_rule (b := (r, .cells #[.slice a l.length c, .int .i64 p, .int .i64 0] 102)) (F := []) (Hr := []) (some 10) 0 s (by kernel_rfl) (by kernel_rfl) (err_c (r := r) (v0 := .slice a l.length c) (v1 := .int .i64 p) (e := 0)) (by kernel_rfl) ?_
 rintro v6 I6 w6 b6 le6 - h6 s
 replace hl := BSl.mono le6 hl
 obtain ⟨rfl, rfl⟩ := h6
 refine ops_rule (C := []) _ [] 1 [] 0 (fun φ7 => [(11, .bool false)]) (fun φ7 => [(r, .cells #[.slice a l.length c, .int .i64 p, .int .i64 0] 102)]) (fun φ7 => []) s trivial (fun φ7 => by kernel_rfl) ?_
 intro φ7 w7 s
 refine ops_done (by kernel_rfl) ?_
 refine cond_false_rule (b := false) (by kernel_rfl) rfl ?_
 refine wp_skip ?_
 refine wp_seq ?_
 refine seqR ?_
 refine ops_rule (C := []) _ [] 2 [] 0 (fun φ8 => [(13, pB r), (12, .int .i64 k)]) (fun φ8 => [(r, .cells #[.slice a l.length c, .int .i64 p, .int .i64 0] 102)]) (fun φ8 => []) s trivial (fun φ8 => by kernel_rfl) ?_
 intro φ8 w8 s
 refine callB_rule (b := (r, .cells #[.slice a l.length c, .int .i64 p, .int .i64 0] 102)) (F := []) (Hr := []) (some 14) 0 s (by kernel_rfl) (by kernel_rfl) (left_c (e := 0) (r := r) (p := p) hl (hn9) (by omega)) (by kernel_rfl) ?_
 rintro v9 I9 w9 b9 le9 - h9 s
 replace hl := BSl.mono le9 hl
 obtain ⟨rfl, rfl⟩ := h9
 refine ops_rule (C := []) _ [] 1 [] 0 (fun φ10 => [(15, .bool (decide (((k : Nat) : Int) > ((l.length * 8 - p : Nat) : Int))))]) (fun φ10 => [(r, .cells #[.slice a l.length c, .int .i64 p, .int .i64 0] 102)]) (fun φ10 => []) s trivial (fun φ10 => by kernel_rfl) ?_
 intro φ10 w10 s
 rw [nat_gtr (a := k) (b := (l.length * 8 - p))]
 refine ops_done (by kernel_rfl) ?_
 rcases Bool.eq_false_or_eq_true (decide ((l.length * 8 - p) < k)) with hc11 | hc11
 ·
  exact absurd (of_decide_eq_true hc11) (by omega)
 ·
  rw [hc11]
  refine cond_false_rule (b := false) (by kernel_rfl) rfl ?_
  refine wp_skip ?_
  refine seqR ?_
  refine ops_rule (C := []) _ [] 1 [] 0 (fun φ12 => [(5, .int .u64 0)]) (fun φ12 => [(r, .cells #[.slice a l.length c, .int .i64 p, .int .i64 0] 102)]) (fun φ12 => []) s trivial (fun φ12 => by kernel_rfl) ?_
  intro φ12 w12 s
  refine ops_done (by kernel_rfl) ?_
  refine wp_seq ?_
  refine seqR ?_
  refine ops_rule (C := []) _ [] 2 [] 0 (fun φ13 => [(20, .int .i64 0), (19, .int .i64 k)]) (fun φ13 => [(r, .cells #[.slice a l.length c, .int .i64 p, .int .i64 0] 102)]) (fun φ13 => []) s trivial (fun φ13 => by kernel_rfl) ?_
  intro φ13 w13 s
  refine ops_done (by kernel_rfl) ?_
  refine wp_block ?_
  have hle14 := IM.Le.refl I9
  refine loop_rule (fun (x : Nat) => [(0, pB r), (1, .int .i64 k), (19, .int .i64 k), (5, .int .u64 (rd l p x)), (20, .int .i64 x)]) (fun (x : Nat) => [(r, .cells #[.slice a l.length c, .int .i64 p, .int .i64 0] 102)]) (fun m (x : Nat) J => IM.Le I9 J ∧ x + m = k) (k) 0 s (by kernel_rfl) (List.Sublist.cons₂ _ List.Sublist.slnil) ⟨IM.Le.refl _, Nat.zero_add _⟩ ?_
  rintro m15 i15 I15 w15 ev15 s ⟨le15, hi15_0⟩
  try dsimp only at s hi15_0 ⊢
  replace hl := BSl.mono le15 hl
  replace hle14 := leMono le15 hle14
  refine seqR ?_
  refine ops_rule (C := []) [(r, .cells #[.slice a l.length c, .int .i64 p, .int .i64 0] 102)] [] 1 [] 0 (fun φ16 => [(21, .bool (decide (((i15 : Nat) : Int) < ((k : Nat) : Int))))]) (fun φ16 => [(r, .cells #[.slice a l.length c, .int .i64 p, .int .i64 0] 102)]) (fun φ16 => []) s trivial (fun φ16 => by kernel_rfl) ?_
  intro φ16 w16 s
  rw [nat_lss (a := i15) (b := k)]
  refine ops_done (by kernel_rfl) ?_
  refine wp_seq ?_
  rcases Bool.eq_false_or_eq_true (decide (i15 < k)) with hc17 | hc17
  ·
   rw [hc17]
   refine cond_true_rule (b := true) (by kernel_rfl) rfl ?_
   refine wp_skip ?_
   refine wp_seq ?_
   refine wp_block ?_
   refine seqR ?_
   refine ops_rule (C := []) _ [] 2 [] 0 (fun φ18 => [(6, .int .i64 i15), (22, .int .i64 i15)]) (fun φ18 => [(r, .cells #[.slice a l.length c, .int .i64 p, .int .i64 0] 102)]) (fun φ18 => []) s trivial (fun φ18 => by kernel_rfl) ?_
   intro φ18 w18 s
   refine ops_done (by kernel_rfl) ?_
   refine region_rule ?_
   refine ops_rule (C := []) _ [] 1 [] 0 (fun φ19 => [(23, .int .u64 (rd l p i15))]) (fun φ19 => [(r, .cells #[.slice a l.length c, .int .i64 p, .int .i64 0] 102)]) (fun φ19 => []) s trivial (fun φ19 => by kernel_rfl) ?_
   intro φ19 w19 s
   refine sem_rule (binOp .shl 27 (.int .u64 (rd l p i15)) (.int .u64 ((1 : Nat) : Int))) (some 24) (.int .u64 (bshl 64 (rd l p i15) 1)) (by kernel_rfl) (run_shlU (.inr (.inr (.inl rfl)))) ?_
   refine ops_rule (C := []) _ [] 7 [.o 0] 0 (fun φ20 => [(31, .int .i64 (IntKind.wrap .i64 (((p : Nat) : Int) + ((i15 : Nat) : Int)))), (30, .int .i64 i15), (29, .int .i64 p), (28, .pointer (some ⟨r, 1, none⟩)), (27, pB r), (26, pB r), (25, pB r)]) (fun φ20 => [(r, .cells #[.slice a l.length c, .int .i64 p, .int .i64 0] 102)]) (fun φ20 => [r]) s trivial (fun φ20 => by kernel_rfl) ?_
   intro φ20 w20 s
   rw [nat_addI (a := p) (b := i15) (by  have hq0 := of_decide_eq_false hc11; have hq1 := of_decide_eq_true hc17; omega)]
   refine callB_rule (b := (r, .cells #[.slice a l.length c, .int .i64 p, .int .i64 0] 102)) (F := []) (Hr := []) (some 32) 0 s (by kernel_rfl) (by kernel_rfl) (bit_c (e := 0) (r := r) (p := p) hl (hn9) (j := p + i15) (by have hq0 := of_decide_eq_false hc11; have hq1 := of_decide_eq_true hc17; omega)) (by kernel_rfl) ?_
   rintro v21 I21 w21 b21 le21 - h21 s
   replace hle14 := leMono le21 hle14
   obtain ⟨rfl, rfl⟩ := h21
   refine sem_rule (binOp .or 27 (.int .u64 (bshl 64 (rd l p i15) 1)) (.int .u64 (((bitB l (p + i15)).toNat : Nat) : Int))) (some 33) (.int .u64 (bor 64 (bshl 64 (rd l p i15) 1) ((bitB l (p + i15)).toNat))) (by kernel_rfl) (run_bit64.2.2.1) ?_
   refine ops_rule (C := []) _ [] 1 [] 0 (fun φ22 => [(5, .int .u64 (bor 64 (bshl 64 (rd l p i15) 1) ((bitB l (p + i15)).toNat)))]) (fun φ22 => [(r, .cells #[.slice a l.length c, .int .i64 p, .int .i64 0] 102)]) (fun φ22 => []) s trivial (fun φ22 => by kernel_rfl) ?_
   intro φ22 w22 s
   refine ops_done (by kernel_rfl) ?_
   refine region_rule ?_
   refine ops_rule (C := []) _ [] 2 [] 0 (fun φ23 => [(20, .int .i64 (IntKind.wrap .i64 (((i15 : Nat) : Int) + ((1 : Nat) : Int)))), (34, .int .i64 (IntKind.wrap .i64 (((i15 : Nat) : Int) + ((1 : Nat) : Int))))]) (fun φ23 => [(r, .cells #[.slice a l.length c, .int .i64 p, .int .i64 0] 102)]) (fun φ23 => []) s trivial (fun φ23 => by kernel_rfl) ?_
   intro φ23 w23 s
   rw [nat_addI (a := i15) (b := 1) (by  have hq0 := of_decide_eq_false hc11; have hq1 := of_decide_eq_true hc17; omega)]
   refine ops_done (by kernel_rfl) ?_
   have hq9 := of_decide_eq_true hc17
   rw [bor64_one (rd_63 hq9 hk) (bit2 l (p + i15))]
   exact ⟨⟨m15 - 1, i15 + 1, _, _, _, by omega, rfl, s, (List.Sublist.cons₂ _ List.Sublist.slnil), by kernel_rfl, hle14, by show i15 + 1 + (m15 - 1) = k; omega⟩⟩
  ·
   rw [hc17]
   refine cond_false_rule (b := false) (by kernel_rfl) rfl ?_
   refine wp_exit ?_
   refine seqR ?_
   refine ops_rule (C := []) _ [] 9 [.o 0, .o 0] 0 (fun φ24 => [(42, .pointer (some ⟨r, 1, none⟩)), (41, pB r), (40, .int .i64 (IntKind.wrap .i64 (((p : Nat) : Int) + ((k : Nat) : Int)))), (39, .int .i64 k), (38, .int .i64 p), (37, .pointer (some ⟨r, 1, none⟩)), (36, pB r), (35, pB r)]) (fun φ24 => [(r, .cells #[.slice a l.length c, .int .i64 (IntKind.wrap .i64 (((p : Nat) : Int) + ((k : Nat) : Int))), .int .i64 0] 102)]) (fun φ24 => [r, r]) s trivial (fun φ24 => by kernel_rfl) ?_
   intro φ24 w24 s
   rw [nat_addI (a := p) (b := k) (by  have hq0 := of_decide_eq_false hc11; have hq1 := of_decide_eq_false hc17; omega)] at s ⊢
   refine ops_done (by kernel_rfl) ?_
   refine seqR ?_
   refine ops_rule (C := []) _ [] 2 [] 0 (fun φ25 => [(4, .int .u64 (rd l p i15)), (43, .int .u64 (rd l p i15))]) (fun φ25 => [(r, .cells #[.slice a l.length c, .int .i64 ((p + k : Nat) : Int), .int .i64 0] 102)]) (fun φ25 => []) s trivial (fun φ25 => by kernel_rfl) ?_
   intro φ25 w25 s
   refine ops_done (by kernel_rfl) ?_
   refine wp_ret ?_
   refine ret_rule (C := []) _ [] (.int .u64 (rd l p i15)) [] [] s trivial (by kernel_rfl) ?_
   have hq9 := of_decide_eq_false hc17
   have hi9 := hi15_0
   obtain rfl : k = i15 := (by omega)
   exact ⟨_, _, _, rfl, s, ⟨_, rfl, rfl, rfl, rfl⟩⟩

set_option maxHeartbeats 2000000 in
theorem get_bad {I : IM} {l : List UInt8} {a : Option Addr} {n c : Nat} (hl : BSl I l (.slice a n c)) (hn9 : l.length ≤ 1000000) {r p : Nat} {k : Nat} (hk : k ≤ 64) (hp : p ≤ l.length * 8) (hb : l.length * 8 - p < k) : FunM Try.prog 30 #[.pointer (some ⟨r, 0, none⟩), .int .i64 ((k : Nat) : Int)] I [(r, .cells #[.slice a n c, .int .i64 ((p : Nat) : Int), .int .i64 0] 102)] (fun v J H' => ∃ b' : OB, H' = [b'] ∧ b'.1 = r ∧ v = .int .u64 0 ∧ b' = (r, .cells #[.slice a n c, .int .i64 ((p : Nat) : Int), .int .i64 6] 102)) := by
 obtain ⟨rfl, -⟩ := hl.cap
 refine enterM_rule 44 [(0, pB r), (1, .int .i64 k)] Try.func30 rfl (by kernel_rfl) ?_
 intro w s
 refine seqR ?_
 refine ops_rule (C := []) [(r, .cells #[.slice a l.length c, .int .i64 p, .int .i64 0] 102)] [] 1 [] 0 (fun φ1 => [(4, .int .u64 0)]) (fun φ1 => [(r, .cells #[.slice a l.length c, .int .i64 p, .int .i64 0] 102)]) (fun φ1 => []) s trivial (fun φ1 => by kernel_rfl) ?_
 intro φ1 w1 s
 refine ops_done (by kernel_rfl) ?_
 refine seqR ?_
 refine ops_rule (C := []) _ [] 1 [] 0 (fun φ2 => [(7, .int .i64 k)]) (fun φ2 => [(r, .cells #[.slice a l.length c, .int .i64 p, .int .i64 0] 102)]) (fun φ2 => []) s trivial (fun φ2 => by kernel_rfl) ?_
 intro φ2 w2 s
 refine call_rule (some 8) s (held_c (k := k) (by   omega)) (by kernel_rfl) ?_
 intro v3 I3 w3 le3 h3 s
 replace hl := BSl.mono le3 hl
 obtain rfl := h3
 refine ops_rule (C := []) _ [] 1 [] 0 (fun φ4 => [(1, .int .i64 k)]) (fun φ4 => [(r, .cells #[.slice a l.length c, .int .i64 p, .int .i64 0] 102)]) (fun φ4 => []) s trivial (fun φ4 => by kernel_rfl) ?_
 intro φ4 w4 s
 refine ops_done (by kernel_rfl) ?_
 refine wp_seq ?_
 refine seqR ?_
 refine ops_rule (C := []) _ [] 1 [] 0 (fun φ5 => [(9, pB r)]) (fun φ5 => [(r, .cells #[.slice a l.length c, .int .i64 p, .int .i64 0] 102)]) (fun φ5 => []) s trivial (fun φ5 => by kernel_rfl) ?_
 intro φ5 w5 s
 refine callB_rule (b := (r, .cells #[.slice a l.length c, .int .i64 p, .int .i64 0] 102)) (F := []) (Hr := []) (some 10) 0 s (by kernel_rfl) (by kernel_rfl) (err_c (r := r) (v0 := .slice a l.length c) (v1 := .int .i64 p) (e := 0)) (by kernel_rfl) ?_
 rintro v6 I6 w6 b6 le6 - h6 s
 replace hl := BSl.mono le6 hl
 obtain ⟨rfl, rfl⟩ := h6
 refine ops_rule (C := []) _ [] 1 [] 0 (fun φ7 => [(11, .bool false)]) (fun φ7 => [(r, .cells #[.slice a l.length c, .int .i64 p, .int .i64 0] 102)]) (fun φ7 => []) s trivial (fun φ7 => by kernel_rfl) ?_
 intro φ7 w7 s
 refine ops_done (by kernel_rfl) ?_
 refine cond_false_rule (b := false) (by kernel_rfl) rfl ?_
 refine wp_skip ?_
 refine wp_seq ?_
 refine seqR ?_
 refine ops_rule (C := []) _ [] 2 [] 0 (fun φ8 => [(13, pB r), (12, .int .i64 k)]) (fun φ8 => [(r, .cells #[.slice a l.length c, .int .i64 p, .int .i64 0] 102)]) (fun φ8 => []) s trivial (fun φ8 => by kernel_rfl) ?_
 intro φ8 w8 s
 refine callB_rule (b := (r, .cells #[.slice a l.length c, .int .i64 p, .int .i64 0] 102)) (F := []) (Hr := []) (some 14) 0 s (by kernel_rfl) (by kernel_rfl) (left_c (e := 0) (r := r) (p := p) hl (hn9) (by omega)) (by kernel_rfl) ?_
 rintro v9 I9 w9 b9 le9 - h9 s
 obtain ⟨rfl, rfl⟩ := h9
 refine ops_rule (C := []) _ [] 1 [] 0 (fun φ10 => [(15, .bool (decide (((k : Nat) : Int) > ((l.length * 8 - p : Nat) : Int))))]) (fun φ10 => [(r, .cells #[.slice a l.length c, .int .i64 p, .int .i64 0] 102)]) (fun φ10 => []) s trivial (fun φ10 => by kernel_rfl) ?_
 intro φ10 w10 s
 rw [nat_gtr (a := k) (b := (l.length * 8 - p))]
 refine ops_done (by kernel_rfl) ?_
 rcases Bool.eq_false_or_eq_true (decide ((l.length * 8 - p) < k)) with hc11 | hc11
 ·
  rw [hc11]
  refine cond_true_rule (b := true) (by kernel_rfl) rfl ?_
  refine seqR ?_
  refine ops_rule (C := []) _ [] 4 [.o 0] 0 (fun φ12 => [(18, .pointer (some ⟨r, 2, none⟩)), (17, pB r), (16, pB r)]) (fun φ12 => [(r, .cells #[.slice a l.length c, .int .i64 p, .int .i64 6] 102)]) (fun φ12 => [r]) s trivial (fun φ12 => by kernel_rfl) ?_
  intro φ12 w12 s
  refine ops_done (by kernel_rfl) ?_
  refine seqR ?_
  refine ops_rule (C := []) _ [] 1 [] 0 (fun φ13 => [(4, .int .u64 0)]) (fun φ13 => [(r, .cells #[.slice a l.length c, .int .i64 p, .int .i64 6] 102)]) (fun φ13 => []) s trivial (fun φ13 => by kernel_rfl) ?_
  intro φ13 w13 s
  refine ops_done (by kernel_rfl) ?_
  refine wp_ret ?_
  refine ret_rule (C := []) _ [] (.int .u64 0) [] [] s trivial (by kernel_rfl) ?_
  exact ⟨_, _, _, rfl, s, ⟨_, rfl, rfl, rfl, rfl⟩⟩
 ·
  exact absurd (of_decide_eq_false hc11) (fun q => q (by omega))

theorem newReader_c {I : IM} {l : List UInt8} {a : Option Addr} {n c : Nat} (hl : BSl I l (.slice a n c)) (hn : l.length ≤ 1000000) : FunM Try.prog 26 #[.slice a n c] I [] (fun v J F' => ∃ b a c, v = .pointer (some ⟨b, 0, none⟩) ∧ F' = [(b, .cells #[.slice a (List.length l) c, .int .i64 0, .int .i64 0] 102)] ∧ BSl J l (.slice a (List.length l) c)) := by
 obtain ⟨rfl, -⟩ := hl.cap
 refine enterM_rule 7 [(0, .slice a l.length c)] Try.func26 rfl (by kernel_rfl) ?_
 intro w s
 refine seqR ?_
 refine ops_rule (C := []) [] [] 1 [] 0 (fun φ1 => [(2, .pointer none)]) (fun φ1 => []) (fun φ1 => []) s trivial (fun φ1 => by kernel_rfl) ?_
 intro φ1 w1 s
 refine ops_done (by kernel_rfl) ?_
 refine seqR ?_
 refine ops_rule (C := []) [] [] 1 [] 0 (fun φ2 => [(3, .slice a l.length c)]) (fun φ2 => []) (fun φ2 => []) s trivial (fun φ2 => by kernel_rfl) ?_
 intro φ2 w2 s
 refine call_rule (some 4) s (clone_c hl (by omega)) (by kernel_rfl) ?_
 intro v3 I3 w3 le3 h3 s
 obtain ⟨a3, c3, rfl, h3_0⟩ := h3
 refine ops_rule (C := []) [] [] 3 [] 1 (fun φ4 => [(2, pB (φ4 0)), (6, pB (φ4 0)), (5, .agg #[.slice a3 (List.length l) c3, .int .i64 0, .int .i64 0])]) (fun φ4 => [(φ4 0, .cells #[.slice a3 (List.length l) c3, .int .i64 0, .int .i64 0] 102)]) (fun φ4 => []) s trivial (fun φ4 => by kernel_rfl) ?_
 intro φ4 w4 s
 refine ops_done (by kernel_rfl) ?_
 refine wp_ret ?_
 refine ret_rule (C := []) _ [] (pB (φ4 0)) [] [] s trivial (by kernel_rfl) ?_
 exact ⟨_, _, _, rfl, s, ⟨_, _, _, rfl, rfl, h3_0⟩⟩

end Go.Proofs.Ytgmigcmhnmmdkaa

/- Bits of any bytes are read. -/
set_option linter.all false
set_option maxRecDepth 100000
namespace Go.Proofs.Ytgmigcmhnmmdkaa
open Go.RowKit Go.Sep
attribute [local irreducible] Go.wpList Go.Code.wp

set_option maxHeartbeats 400000 in
theorem heldA_c {I : IM} {z : Int} : Fun Try.prog 57 #[.int .i64 z] I (fun v J => v = .int .i64 ((clampN z : Nat) : Int)) := by
 refine enter_rule 6 [(0, .int .i64 z)] Try.func57 rfl (by kernel_rfl) ?_
 intro w s
 refine seqR ?_
 refine ops_rule (C := []) [] [] 1 [] 0 (fun φ1 => [(2, .int .i64 0)]) (fun φ1 => []) (fun φ1 => []) s trivial (fun φ1 => by kernel_rfl) ?_
 intro φ1 w1 s
 refine ops_done (by kernel_rfl) ?_
 refine seqR ?_
 refine ops_rule (C := []) [] [] 4 [] 0 (fun φ2 => [(2, .int .i64 (if ((64 : Nat) : Int) < (if ((0 : Nat) : Int) > z then ((0 : Nat) : Int) else z) then ((64 : Nat) : Int) else (if ((0 : Nat) : Int) > z then ((0 : Nat) : Int) else z))), (5, .int .i64 (if ((64 : Nat) : Int) < (if ((0 : Nat) : Int) > z then ((0 : Nat) : Int) else z) then ((64 : Nat) : Int) else (if ((0 : Nat) : Int) > z then ((0 : Nat) : Int) else z))), (4, .int .i64 (if ((0 : Nat) : Int) > z then ((0 : Nat) : Int) else z)), (3, .int .i64 z)]) (fun φ2 => []) (fun φ2 => []) s trivial (fun φ2 => by kernel_rfl) ?_
 intro φ2 w2 s
 refine ops_done (by kernel_rfl) ?_
 refine wp_ret ?_
 refine ret_rule (C := []) [] [] (.int .i64 (if ((64 : Nat) : Int) < (if ((0 : Nat) : Int) > z then ((0 : Nat) : Int) else z) then ((64 : Nat) : Int) else (if ((0 : Nat) : Int) > z then ((0 : Nat) : Int) else z))) [] [] s trivial (by kernel_rfl) ?_
 exact ⟨_, _, _, rfl, s, congrArg (Value.int .i64) (by unfold clampN; (repeat' split) <;> omega)⟩

set_option maxHeartbeats 2000000 in
theorem getG_c {I : IM} {l : List UInt8} {a : Option Addr} {n c : Nat} (hl : BSl I l (.slice a n c)) (hn9 : l.length ≤ 1000000) {r p : Nat} {e : Nat} {z : Int} (hp : p ≤ l.length * 8) : FunM Try.prog 30 #[.pointer (some ⟨r, 0, none⟩), .int .i64 z] I [(r, .cells #[.slice a n c, .int .i64 ((p : Nat) : Int), .int .i64 ((e : Nat) : Int)] 102)] (fun v J H' => ∃ b' : OB, H' = [b'] ∧ b'.1 = r ∧ v = .int .u64 ((geV l p e (clampN z) : Nat) : Int) ∧ b' = (r, .cells #[.slice a n c, .int .i64 ((p + geD l p e (clampN z) : Nat) : Int), .int .i64 ((geE l p e (clampN z) : Nat) : Int)] 102)) := by
 obtain ⟨rfl, -⟩ := hl.cap
 refine enterM_rule 44 [(0, pB r), (1, .int .i64 z)] Try.func30 rfl (by kernel_rfl) ?_
 intro w s
 refine seqR ?_
 refine ops_rule (C := []) [(r, .cells #[.slice a l.length c, .int .i64 p, .int .i64 e] 102)] [] 1 [] 0 (fun φ1 => [(4, .int .u64 0)]) (fun φ1 => [(r, .cells #[.slice a l.length c, .int .i64 p, .int .i64 e] 102)]) (fun φ1 => []) s trivial (fun φ1 => by kernel_rfl) ?_
 intro φ1 w1 s
 refine ops_done (by kernel_rfl) ?_
 refine seqR ?_
 refine ops_rule (C := []) _ [] 1 [] 0 (fun φ2 => [(7, .int .i64 z)]) (fun φ2 => [(r, .cells #[.slice a l.length c, .int .i64 p, .int .i64 e] 102)]) (fun φ2 => []) s trivial (fun φ2 => by kernel_rfl) ?_
 intro φ2 w2 s
 refine call_rule (some 8) s (heldA_c (z := z)) (by kernel_rfl) ?_
 intro v3 I3 w3 le3 h3 s
 replace hl := BSl.mono le3 hl
 obtain rfl := h3
 refine ops_rule (C := []) _ [] 1 [] 0 (fun φ4 => [(1, .int .i64 (clampN z))]) (fun φ4 => [(r, .cells #[.slice a l.length c, .int .i64 p, .int .i64 e] 102)]) (fun φ4 => []) s trivial (fun φ4 => by kernel_rfl) ?_
 intro φ4 w4 s
 refine ops_done (by kernel_rfl) ?_
 refine wp_seq ?_
 refine seqR ?_
 refine ops_rule (C := []) _ [] 1 [] 0 (fun φ5 => [(9, pB r)]) (fun φ5 => [(r, .cells #[.slice a l.length c, .int .i64 p, .int .i64 e] 102)]) (fun φ5 => []) s trivial (fun φ5 => by kernel_rfl) ?_
 intro φ5 w5 s
 refine callB_rule (b := (r, .cells #[.slice a l.length c, .int .i64 p, .int .i64 e] 102)) (F := []) (Hr := []) (some 10) 0 s (by kernel_rfl) (by kernel_rfl) (err_c (r := r) (v0 := .slice a l.length c) (v1 := .int .i64 p) (e := e)) (by kernel_rfl) ?_
 rintro v6 I6 w6 b6 le6 - h6 s
 replace hl := BSl.mono le6 hl
 obtain ⟨rfl, rfl⟩ := h6
 refine ops_rule (C := []) _ [] 1 [] 0 (fun φ7 => [(11, .bool (((e : Nat) : Int) != ((0 : Nat) : Int)))]) (fun φ7 => [(r, .cells #[.slice a l.length c, .int .i64 p, .int .i64 e] 102)]) (fun φ7 => []) s trivial (fun φ7 => by kernel_rfl) ?_
 intro φ7 w7 s
 rw [nat_neq (a := e) (b := 0)]
 refine ops_done (by kernel_rfl) ?_
 rcases Bool.eq_false_or_eq_true (decide (e ≠ 0)) with hc8 | hc8
 ·
  rw [hc8]
  refine cond_true_rule (b := true) (by kernel_rfl) rfl ?_
  refine seqR ?_
  refine ops_rule (C := []) _ [] 1 [] 0 (fun φ9 => [(4, .int .u64 0)]) (fun φ9 => [(r, .cells #[.slice a l.length c, .int .i64 p, .int .i64 e] 102)]) (fun φ9 => []) s trivial (fun φ9 => by kernel_rfl) ?_
  intro φ9 w9 s
  refine ops_done (by kernel_rfl) ?_
  refine wp_ret ?_
  refine ret_rule (C := []) _ [] (.int .u64 0) [] [] s trivial (by kernel_rfl) ?_
  exact ⟨_, _, _, rfl, s, (by have hq0 := of_decide_eq_true hc8; exact ⟨_, rfl, rfl, (by unfold geV; rw [if_neg (by omega)]; rfl), (by (unfold geD; first | rw [if_pos (by omega)] | rw [if_neg (by omega)]); (unfold geE; first | rw [if_pos (by omega)] | rw [if_neg (by omega)]); try rfl)⟩)⟩
 ·
  rw [hc8]
  refine cond_false_rule (b := false) (by kernel_rfl) rfl ?_
  refine wp_skip ?_
  refine wp_seq ?_
  refine seqR ?_
  refine ops_rule (C := []) _ [] 2 [] 0 (fun φ10 => [(13, pB r), (12, .int .i64 (clampN z))]) (fun φ10 => [(r, .cells #[.slice a l.length c, .int .i64 p, .int .i64 e] 102)]) (fun φ10 => []) s trivial (fun φ10 => by kernel_rfl) ?_
  intro φ10 w10 s
  refine callB_rule (b := (r, .cells #[.slice a l.length c, .int .i64 p, .int .i64 e] 102)) (F := []) (Hr := []) (some 14) 0 s (by kernel_rfl) (by kernel_rfl) (left_c (e := e) (r := r) (p := p) hl (hn9) (by omega)) (by kernel_rfl) ?_
  rintro v11 I11 w11 b11 le11 - h11 s
  replace hl := BSl.mono le11 hl
  obtain ⟨rfl, rfl⟩ := h11
  refine ops_rule (C := []) _ [] 1 [] 0 (fun φ12 => [(15, .bool (decide (((clampN z : Nat) : Int) > ((l.length * 8 - p : Nat) : Int))))]) (fun φ12 => [(r, .cells #[.slice a l.length c, .int .i64 p, .int .i64 e] 102)]) (fun φ12 => []) s trivial (fun φ12 => by kernel_rfl) ?_
  intro φ12 w12 s
  rw [nat_gtr (a := (clampN z)) (b := (l.length * 8 - p))]
  refine ops_done (by kernel_rfl) ?_
  rcases Bool.eq_false_or_eq_true (decide ((l.length * 8 - p) < (clampN z))) with hc13 | hc13
  ·
   rw [hc13]
   refine cond_true_rule (b := true) (by kernel_rfl) rfl ?_
   refine seqR ?_
   refine ops_rule (C := []) _ [] 4 [.o 0] 0 (fun φ14 => [(18, .pointer (some ⟨r, 2, none⟩)), (17, pB r), (16, pB r)]) (fun φ14 => [(r, .cells #[.slice a l.length c, .int .i64 p, .int .i64 6] 102)]) (fun φ14 => [r]) s trivial (fun φ14 => by kernel_rfl) ?_
   intro φ14 w14 s
   refine ops_done (by kernel_rfl) ?_
   refine seqR ?_
   refine ops_rule (C := []) _ [] 1 [] 0 (fun φ15 => [(4, .int .u64 0)]) (fun φ15 => [(r, .cells #[.slice a l.length c, .int .i64 p, .int .i64 6] 102)]) (fun φ15 => []) s trivial (fun φ15 => by kernel_rfl) ?_
   intro φ15 w15 s
   refine ops_done (by kernel_rfl) ?_
   refine wp_ret ?_
   refine ret_rule (C := []) _ [] (.int .u64 0) [] [] s trivial (by kernel_rfl) ?_
   exact ⟨_, _, _, rfl, s, (by have hq0 := of_decide_eq_false hc8; have hq1 := of_decide_eq_true hc13; exact ⟨_, rfl, rfl, (by unfold geV; rw [if_neg (by omega)]; rfl), (by (unfold geD; first | rw [if_pos (by omega)] | rw [if_neg (by omega)]); (unfold geE; first | rw [if_pos (by omega)] | rw [if_neg (by omega)]); try rfl)⟩)⟩
  ·
   rw [hc13]
   refine cond_false_rule (b := false) (by kernel_rfl) rfl ?_
   refine wp_skip ?_
   refine seqR ?_
   refine ops_rule (C := []) _ [] 1 [] 0 (fun φ16 => [(5, .int .u64 0)]) (fun φ16 => [(r, .cells #[.slice a l.length c, .int .i64 p, .int .i64 e] 102)]) (fun φ16 => []) s trivial (fun φ16 => by kernel_rfl) ?_
   intro φ16 w16 s
   refine ops_done (by kernel_rfl) ?_
   refine wp_seq ?_
   refine seqR ?_
   refine ops_rule (C := []) _ [] 2 [] 0 (fun φ17 => [(20, .int .i64 0), (19, .int .i64 (clampN z))]) (fun φ17 => [(r, .cells #[.slice a l.length c, .int .i64 p, .int .i64 e] 102)]) (fun φ17 => []) s trivial (fun φ17 => by kernel_rfl) ?_
   intro φ17 w17 s
   refine ops_done (by kernel_rfl) ?_
   refine wp_block ?_
   have hle18 := IM.Le.refl I11
   refine loop_rule (fun (x : Nat) => [(0, pB r), (1, .int .i64 (clampN z)), (19, .int .i64 (clampN z)), (5, .int .u64 (rd l p x)), (20, .int .i64 x)]) (fun (x : Nat) => [(r, .cells #[.slice a l.length c, .int .i64 p, .int .i64 e] 102)]) (fun m (x : Nat) J => IM.Le I11 J ∧ x + m = (clampN z)) ((clampN z)) 0 s (by kernel_rfl) (List.Sublist.cons₂ _ List.Sublist.slnil) ⟨IM.Le.refl _, Nat.zero_add _⟩ ?_
   rintro m19 i19 I19 w19 ev19 s ⟨le19, hi19_0⟩
   try dsimp only at s hi19_0 ⊢
   replace hl := BSl.mono le19 hl
   replace hle18 := leMono le19 hle18
   refine seqR ?_
   refine ops_rule (C := []) [(r, .cells #[.slice a l.length c, .int .i64 p, .int .i64 e] 102)] [] 1 [] 0 (fun φ20 => [(21, .bool (decide (((i19 : Nat) : Int) < ((clampN z : Nat) : Int))))]) (fun φ20 => [(r, .cells #[.slice a l.length c, .int .i64 p, .int .i64 e] 102)]) (fun φ20 => []) s trivial (fun φ20 => by kernel_rfl) ?_
   intro φ20 w20 s
   rw [nat_lss (a := i19) (b := (clampN z))]
   refine ops_done (by kernel_rfl) ?_
   refine wp_seq ?_
   rcases Bool.eq_false_or_eq_true (decide (i19 < (clampN z))) with hc21 | hc21
   ·
    rw [hc21]
    refine cond_true_rule (b := true) (by kernel_rfl) rfl ?_
    refine wp_skip ?_
    refine wp_seq ?_
    refine wp_block ?_
    refine seqR ?_
    refine ops_rule (C := []) _ [] 2 [] 0 (fun φ22 => [(6, .int .i64 i19), (22, .int .i64 i19)]) (fun φ22 => [(r, .cells #[.slice a l.length c, .int .i64 p, .int .i64 e] 102)]) (fun φ22 => []) s trivial (fun φ22 => by kernel_rfl) ?_
    intro φ22 w22 s
    refine ops_done (by kernel_rfl) ?_
    refine region_rule ?_
    refine ops_rule (C := []) _ [] 1 [] 0 (fun φ23 => [(23, .int .u64 (rd l p i19))]) (fun φ23 => [(r, .cells #[.slice a l.length c, .int .i64 p, .int .i64 e] 102)]) (fun φ23 => []) s trivial (fun φ23 => by kernel_rfl) ?_
    intro φ23 w23 s
    refine sem_rule (binOp .shl 27 (.int .u64 (rd l p i19)) (.int .u64 ((1 : Nat) : Int))) (some 24) (.int .u64 (bshl 64 (rd l p i19) 1)) (by kernel_rfl) (run_shlU (.inr (.inr (.inl rfl)))) ?_
    refine ops_rule (C := []) _ [] 7 [.o 0] 0 (fun φ24 => [(31, .int .i64 (IntKind.wrap .i64 (((p : Nat) : Int) + ((i19 : Nat) : Int)))), (30, .int .i64 i19), (29, .int .i64 p), (28, .pointer (some ⟨r, 1, none⟩)), (27, pB r), (26, pB r), (25, pB r)]) (fun φ24 => [(r, .cells #[.slice a l.length c, .int .i64 p, .int .i64 e] 102)]) (fun φ24 => [r]) s trivial (fun φ24 => by kernel_rfl) ?_
    intro φ24 w24 s
    rw [nat_addI (a := p) (b := i19) (by have hcl := clampN_le z; have hq0 := of_decide_eq_false hc8; have hq1 := of_decide_eq_false hc13; have hq2 := of_decide_eq_true hc21; omega)]
    refine callB_rule (b := (r, .cells #[.slice a l.length c, .int .i64 p, .int .i64 e] 102)) (F := []) (Hr := []) (some 32) 0 s (by kernel_rfl) (by kernel_rfl) (bit_c (e := e) (r := r) (p := p) hl (hn9) (j := p + i19) (by have hq0 := of_decide_eq_false hc8; have hq1 := of_decide_eq_false hc13; have hq2 := of_decide_eq_true hc21; omega)) (by kernel_rfl) ?_
    rintro v25 I25 w25 b25 le25 - h25 s
    replace hle18 := leMono le25 hle18
    obtain ⟨rfl, rfl⟩ := h25
    refine sem_rule (binOp .or 27 (.int .u64 (bshl 64 (rd l p i19) 1)) (.int .u64 (((bitB l (p + i19)).toNat : Nat) : Int))) (some 33) (.int .u64 (bor 64 (bshl 64 (rd l p i19) 1) ((bitB l (p + i19)).toNat))) (by kernel_rfl) (run_bit64.2.2.1) ?_
    refine ops_rule (C := []) _ [] 1 [] 0 (fun φ26 => [(5, .int .u64 (bor 64 (bshl 64 (rd l p i19) 1) ((bitB l (p + i19)).toNat)))]) (fun φ26 => [(r, .cells #[.slice a l.length c, .int .i64 p, .int .i64 e] 102)]) (fun φ26 => []) s trivial (fun φ26 => by kernel_rfl) ?_
    intro φ26 w26 s
    refine ops_done (by kernel_rfl) ?_
    refine region_rule ?_
    refine ops_rule (C := []) _ [] 2 [] 0 (fun φ27 => [(20, .int .i64 (IntKind.wrap .i64 (((i19 : Nat) : Int) + ((1 : Nat) : Int)))), (34, .int .i64 (IntKind.wrap .i64 (((i19 : Nat) : Int) + ((1 : Nat) : Int))))]) (fun φ27 => [(r, .cells #[.slice a l.length c, .int .i64 p, .int .i64 e] 102)]) (fun φ27 => []) s trivial (fun φ27 => by kernel_rfl) ?_
    intro φ27 w27 s
    rw [nat_addI (a := i19) (b := 1) (by have hcl := clampN_le z; have hq0 := of_decide_eq_false hc8; have hq1 := of_decide_eq_false hc13; have hq2 := of_decide_eq_true hc21; omega)]
    refine ops_done (by kernel_rfl) ?_
    have hq9 := of_decide_eq_true hc21
    rw [bor64_one (rd_63 hq9 (clampN_le z)) (bit2 l (p + i19))]
    exact ⟨⟨m19 - 1, i19 + 1, _, _, _, by omega, rfl, s, (List.Sublist.cons₂ _ List.Sublist.slnil), by kernel_rfl, hle18, by show i19 + 1 + (m19 - 1) = (clampN z); omega⟩⟩
   ·
    rw [hc21]
    refine cond_false_rule (b := false) (by kernel_rfl) rfl ?_
    refine wp_exit ?_
    refine seqR ?_
    refine ops_rule (C := []) _ [] 9 [.o 0, .o 0] 0 (fun φ28 => [(42, .pointer (some ⟨r, 1, none⟩)), (41, pB r), (40, .int .i64 (IntKind.wrap .i64 (((p : Nat) : Int) + ((clampN z : Nat) : Int)))), (39, .int .i64 (clampN z)), (38, .int .i64 p), (37, .pointer (some ⟨r, 1, none⟩)), (36, pB r), (35, pB r)]) (fun φ28 => [(r, .cells #[.slice a l.length c, .int .i64 (IntKind.wrap .i64 (((p : Nat) : Int) + ((clampN z : Nat) : Int))), .int .i64 e] 102)]) (fun φ28 => [r, r]) s trivial (fun φ28 => by kernel_rfl) ?_
    intro φ28 w28 s
    rw [nat_addI (a := p) (b := (clampN z)) (by have hcl := clampN_le z; have hq0 := of_decide_eq_false hc8; have hq1 := of_decide_eq_false hc13; have hq2 := of_decide_eq_false hc21; omega)] at s ⊢
    refine ops_done (by kernel_rfl) ?_
    refine seqR ?_
    refine ops_rule (C := []) _ [] 2 [] 0 (fun φ29 => [(4, .int .u64 (rd l p i19)), (43, .int .u64 (rd l p i19))]) (fun φ29 => [(r, .cells #[.slice a l.length c, .int .i64 ((p + (clampN z) : Nat) : Int), .int .i64 e] 102)]) (fun φ29 => []) s trivial (fun φ29 => by kernel_rfl) ?_
    intro φ29 w29 s
    refine ops_done (by kernel_rfl) ?_
    refine wp_ret ?_
    refine ret_rule (C := []) _ [] (.int .u64 (rd l p i19)) [] [] s trivial (by kernel_rfl) ?_
    exact ⟨_, _, _, rfl, s, (by have hq0 := of_decide_eq_false hc8; have hq1 := of_decide_eq_false hc13; have hq2 := of_decide_eq_false hc21; have hq9 := of_decide_eq_false hc21; have hi9 := hi19_0; have hg9 : i19 = (clampN z) := (by omega); exact ⟨_, rfl, rfl, (by unfold geV; rw [if_pos (by omega), hg9]), (by (unfold geD; first | rw [if_pos (by omega)] | rw [if_neg (by omega)]); (unfold geE; first | rw [if_pos (by omega)] | rw [if_neg (by omega)]); try rfl)⟩)⟩

set_option maxHeartbeats 2000000 in
theorem oneLeft_c {I : IM} {l : List UInt8} {a : Option Addr} {n c : Nat} (hl : BSl I l (.slice a n c)) (hn9 : l.length ≤ 1000000) {r p : Nat} {e : Nat} (hp : p ≤ l.length * 8) : FunM Try.prog 65 #[.pointer (some ⟨r, 0, none⟩)] I [(r, .cells #[.slice a n c, .int .i64 ((p : Nat) : Int), .int .i64 ((e : Nat) : Int)] 102)] (fun v J H' => ∃ b' : OB, H' = [b'] ∧ b'.1 = r ∧ v = .bool (oneL l p) ∧ b' = (r, .cells #[.slice a n c, .int .i64 ((p : Nat) : Int), .int .i64 ((e : Nat) : Int)] 102)) := by
 obtain ⟨rfl, -⟩ := hl.cap
 refine enterM_rule 19 [(0, pB r)] Try.func65 rfl (by kernel_rfl) ?_
 intro w s
 refine seqR ?_
 refine ops_rule (C := []) [(r, .cells #[.slice a l.length c, .int .i64 p, .int .i64 e] 102)] [] 1 [] 0 (fun φ1 => [(2, .bool false)]) (fun φ1 => [(r, .cells #[.slice a l.length c, .int .i64 p, .int .i64 e] 102)]) (fun φ1 => []) s trivial (fun φ1 => by kernel_rfl) ?_
 intro φ1 w1 s
 refine ops_done (by kernel_rfl) ?_
 refine wp_seq ?_
 refine seqR ?_
 refine ops_rule (C := []) _ [] 1 [] 0 (fun φ2 => [(4, pB r)]) (fun φ2 => [(r, .cells #[.slice a l.length c, .int .i64 p, .int .i64 e] 102)]) (fun φ2 => []) s trivial (fun φ2 => by kernel_rfl) ?_
 intro φ2 w2 s
 refine callB_rule (b := (r, .cells #[.slice a l.length c, .int .i64 p, .int .i64 e] 102)) (F := []) (Hr := []) (some 5) 0 s (by kernel_rfl) (by kernel_rfl) (left_c (e := e) (r := r) (p := p) hl (hn9) (by omega)) (by kernel_rfl) ?_
 rintro v3 I3 w3 b3 le3 - h3 s
 replace hl := BSl.mono le3 hl
 obtain ⟨rfl, rfl⟩ := h3
 refine ops_rule (C := []) _ [] 1 [] 0 (fun φ4 => [(6, .int .i64 0)]) (fun φ4 => [(r, .cells #[.slice a l.length c, .int .i64 p, .int .i64 e] 102)]) (fun φ4 => []) s trivial (fun φ4 => by kernel_rfl) ?_
 intro φ4 w4 s
 refine ops_done (by kernel_rfl) ?_
 refine wp_block ?_
 have hle5 := IM.Le.refl I3
 refine loop_rule (fun (x : Nat) => [(0, pB r), (5, .int .i64 ((l.length * 8 - p : Nat) : Int)), (6, .int .i64 x)]) (fun (x : Nat) => [(r, .cells #[.slice a l.length c, .int .i64 p, .int .i64 e] 102)]) (fun m (x : Nat) J => IM.Le I3 J ∧ x + m = l.length * 8 - p ∧ ∀ j, j < x → bitB l (p + j) = false) (l.length * 8 - p) 0 s (by kernel_rfl) (List.Sublist.cons₂ _ List.Sublist.slnil) ⟨IM.Le.refl _, Nat.zero_add _, (fun j hj => absurd hj (Nat.not_lt_zero j))⟩ ?_
 rintro m6 i6 I6 w6 ev6 s ⟨le6, hi6_0, hi6_1⟩
 try dsimp only at s hi6_0 hi6_1 ⊢
 replace hl := BSl.mono le6 hl
 replace hle5 := leMono le6 hle5
 refine seqR ?_
 refine ops_rule (C := []) [(r, .cells #[.slice a l.length c, .int .i64 p, .int .i64 e] 102)] [] 1 [] 0 (fun φ7 => [(7, .bool (decide (((i6 : Nat) : Int) < ((l.length * 8 - p : Nat) : Int))))]) (fun φ7 => [(r, .cells #[.slice a l.length c, .int .i64 p, .int .i64 e] 102)]) (fun φ7 => []) s trivial (fun φ7 => by kernel_rfl) ?_
 intro φ7 w7 s
 rw [nat_lss (a := i6) (b := (l.length * 8 - p))]
 refine ops_done (by kernel_rfl) ?_
 refine wp_seq ?_
 rcases Bool.eq_false_or_eq_true (decide (i6 < (l.length * 8 - p))) with hc8 | hc8
 ·
  rw [hc8]
  refine cond_true_rule (b := true) (by kernel_rfl) rfl ?_
  refine wp_skip ?_
  refine wp_seq ?_
  refine wp_block ?_
  refine seqR ?_
  refine ops_rule (C := []) _ [] 2 [] 0 (fun φ9 => [(3, .int .i64 i6), (8, .int .i64 i6)]) (fun φ9 => [(r, .cells #[.slice a l.length c, .int .i64 p, .int .i64 e] 102)]) (fun φ9 => []) s trivial (fun φ9 => by kernel_rfl) ?_
  intro φ9 w9 s
  refine ops_done (by kernel_rfl) ?_
  refine seqR ?_
  refine ops_rule (C := []) _ [] 7 [.o 0] 0 (fun φ10 => [(15, .int .i64 (IntKind.wrap .i64 (((p : Nat) : Int) + ((i6 : Nat) : Int)))), (14, .int .i64 i6), (13, .int .i64 p), (12, .pointer (some ⟨r, 1, none⟩)), (11, pB r), (10, pB r), (9, pB r)]) (fun φ10 => [(r, .cells #[.slice a l.length c, .int .i64 p, .int .i64 e] 102)]) (fun φ10 => [r]) s trivial (fun φ10 => by kernel_rfl) ?_
  intro φ10 w10 s
  rw [nat_addI (a := p) (b := i6) (by  have hq0 := of_decide_eq_true hc8; omega)]
  refine callB_rule (b := (r, .cells #[.slice a l.length c, .int .i64 p, .int .i64 e] 102)) (F := []) (Hr := []) (some 16) 0 s (by kernel_rfl) (by kernel_rfl) (bit_c (e := e) (r := r) (p := p) hl (hn9) (j := p + i6) (by have hq0 := of_decide_eq_true hc8; omega)) (by kernel_rfl) ?_
  rintro v11 I11 w11 b11 le11 - h11 s
  replace hle5 := leMono le11 hle5
  obtain ⟨rfl, rfl⟩ := h11
  refine ops_rule (C := []) _ [] 1 [] 0 (fun φ12 => [(17, .bool ((((bitB l (p + i6)).toNat : Nat) : Int) == ((1 : Nat) : Int)))]) (fun φ12 => [(r, .cells #[.slice a l.length c, .int .i64 p, .int .i64 e] 102)]) (fun φ12 => []) s trivial (fun φ12 => by kernel_rfl) ?_
  intro φ12 w12 s
  rw [nat_eql (a := ((bitB l (p + i6)).toNat)) (b := 1)]
  refine ops_done (by kernel_rfl) ?_
  rcases Bool.eq_false_or_eq_true (decide (((bitB l (p + i6)).toNat) = 1)) with hc13 | hc13
  ·
   rw [hc13]
   refine cond_true_rule (b := true) (by kernel_rfl) rfl ?_
   refine seqR ?_
   refine ops_rule (C := []) _ [] 1 [] 0 (fun φ14 => [(2, .bool true)]) (fun φ14 => [(r, .cells #[.slice a l.length c, .int .i64 p, .int .i64 e] 102)]) (fun φ14 => []) s trivial (fun φ14 => by kernel_rfl) ?_
   intro φ14 w14 s
   refine ops_done (by kernel_rfl) ?_
   refine wp_ret ?_
   refine ret_rule (C := []) _ [] (.bool true) [] [] s trivial (by kernel_rfl) ?_
   exact ⟨_, _, _, rfl, s, ⟨_, rfl, rfl, (by have hq9 := of_decide_eq_true hc8; have hb9 := of_decide_eq_true hc13; rw [oneL_true (i := i6) hq9 (by cases hbb : bitB l (p + i6) <;> simp [hbb] at hb9 ⊢)]), rfl⟩⟩
  ·
   rw [hc13]
   refine cond_false_rule (b := false) (by kernel_rfl) rfl ?_
   refine wp_skip ?_
   refine region_rule ?_
   refine ops_rule (C := []) _ [] 2 [] 0 (fun φ15 => [(6, .int .i64 (IntKind.wrap .i64 (((i6 : Nat) : Int) + ((1 : Nat) : Int)))), (18, .int .i64 (IntKind.wrap .i64 (((i6 : Nat) : Int) + ((1 : Nat) : Int))))]) (fun φ15 => [(r, .cells #[.slice a l.length c, .int .i64 p, .int .i64 e] 102)]) (fun φ15 => []) s trivial (fun φ15 => by kernel_rfl) ?_
   intro φ15 w15 s
   rw [nat_addI (a := i6) (b := 1) (by  have hq0 := of_decide_eq_true hc8; have hq1 := of_decide_eq_false hc13; omega)]
   refine ops_done (by kernel_rfl) ?_
   have hq9 := of_decide_eq_true hc8
   have hb9 := of_decide_eq_false hc13
   have hs9 := none_step hi6_1 hb9
   exact ⟨⟨m6 - 1, i6 + 1, _, _, _, by omega, rfl, s, (List.Sublist.cons₂ _ List.Sublist.slnil), by kernel_rfl, hle5, by show i6 + 1 + (m6 - 1) = l.length * 8 - p; omega, hs9⟩⟩
 ·
  rw [hc8]
  refine cond_false_rule (b := false) (by kernel_rfl) rfl ?_
  refine wp_exit ?_
  refine seqR ?_
  refine ops_rule (C := []) _ [] 1 [] 0 (fun φ16 => [(2, .bool false)]) (fun φ16 => [(r, .cells #[.slice a l.length c, .int .i64 p, .int .i64 e] 102)]) (fun φ16 => []) s trivial (fun φ16 => by kernel_rfl) ?_
  intro φ16 w16 s
  refine ops_done (by kernel_rfl) ?_
  refine wp_ret ?_
  refine ret_rule (C := []) _ [] (.bool false) [] [] s trivial (by kernel_rfl) ?_
  exact ⟨_, _, _, rfl, s, ⟨_, rfl, rfl, (by have hq9 := of_decide_eq_false hc8; have h9 := hi6_0; rw [oneL_false (fun i hi => hi6_1 i (by omega))]), rfl⟩⟩

set_option maxHeartbeats 2000000 in
theorem endR_c {I : IM} {l : List UInt8} {a : Option Addr} {n c : Nat} (hl : BSl I l (.slice a n c)) (hn9 : l.length ≤ 1000000) {r p : Nat} {e : Nat} (hp : p ≤ l.length * 8) : FunM Try.prog 31 #[.pointer (some ⟨r, 0, none⟩)] I [(r, .cells #[.slice a n c, .int .i64 ((p : Nat) : Int), .int .i64 ((e : Nat) : Int)] 102)] (fun v J H' => ∃ b' : OB, H' = [b'] ∧ b'.1 = r ∧ v = .int .i64 ((eoE l p e : Nat) : Int) ∧ b' = (r, .cells #[.slice a n c, .int .i64 ((p : Nat) : Int), .int .i64 ((eoE l p e : Nat) : Int)] 102)) := by
 obtain ⟨rfl, -⟩ := hl.cap
 refine enterM_rule 20 [(0, pB r)] Try.func31 rfl (by kernel_rfl) ?_
 intro w s
 refine seqR ?_
 refine ops_rule (C := []) [(r, .cells #[.slice a l.length c, .int .i64 p, .int .i64 e] 102)] [] 1 [] 0 (fun φ1 => [(2, .int .i64 0)]) (fun φ1 => [(r, .cells #[.slice a l.length c, .int .i64 p, .int .i64 e] 102)]) (fun φ1 => []) s trivial (fun φ1 => by kernel_rfl) ?_
 intro φ1 w1 s
 refine ops_done (by kernel_rfl) ?_
 refine wp_seq ?_
 refine seqR ?_
 refine ops_rule (C := []) _ [] 1 [] 0 (fun φ2 => [(3, pB r)]) (fun φ2 => [(r, .cells #[.slice a l.length c, .int .i64 p, .int .i64 e] 102)]) (fun φ2 => []) s trivial (fun φ2 => by kernel_rfl) ?_
 intro φ2 w2 s
 refine callB_rule (b := (r, .cells #[.slice a l.length c, .int .i64 p, .int .i64 e] 102)) (F := []) (Hr := []) (some 4) 0 s (by kernel_rfl) (by kernel_rfl) (err_c (r := r) (v0 := .slice a l.length c) (v1 := .int .i64 p) (e := e)) (by kernel_rfl) ?_
 rintro v3 I3 w3 b3 le3 - h3 s
 replace hl := BSl.mono le3 hl
 obtain ⟨rfl, rfl⟩ := h3
 refine ops_rule (C := []) _ [] 2 [] 0 (fun φ4 => [(6, .bool (((e : Nat) : Int) == ((0 : Nat) : Int))), (5, .bool (((e : Nat) : Int) == ((0 : Nat) : Int)))]) (fun φ4 => [(r, .cells #[.slice a l.length c, .int .i64 p, .int .i64 e] 102)]) (fun φ4 => []) s trivial (fun φ4 => by kernel_rfl) ?_
 intro φ4 w4 s
 rw [nat_eql (a := e) (b := 0)]
 rcases Bool.eq_false_or_eq_true (decide (e = 0)) with hc5 | hc5
 ·
  rw [hc5]
  refine ops_rule (C := []) _ [] 1 [] 0 (fun φ6 => [(7, pB r)]) (fun φ6 => [(r, .cells #[.slice a l.length c, .int .i64 p, .int .i64 e] 102)]) (fun φ6 => []) s trivial (fun φ6 => by kernel_rfl) ?_
  intro φ6 w6 s
  refine callB_rule (b := (r, .cells #[.slice a l.length c, .int .i64 p, .int .i64 e] 102)) (F := []) (Hr := []) (some 8) 0 s (by kernel_rfl) (by kernel_rfl) (left_c (e := e) (r := r) (p := p) hl (hn9) (by omega)) (by kernel_rfl) ?_
  rintro v7 I7 w7 b7 le7 - h7 s
  replace hl := BSl.mono le7 hl
  obtain ⟨rfl, rfl⟩ := h7
  refine ops_rule (C := []) _ [] 2 [] 0 (fun φ8 => [(10, .bool (decide (((l.length * 8 - p : Nat) : Int) ≥ ((8 : Nat) : Int)))), (9, .bool (decide (((l.length * 8 - p : Nat) : Int) ≥ ((8 : Nat) : Int))))]) (fun φ8 => [(r, .cells #[.slice a l.length c, .int .i64 p, .int .i64 e] 102)]) (fun φ8 => []) s trivial (fun φ8 => by kernel_rfl) ?_
  intro φ8 w8 s
  rw [nat_geq (a := (l.length * 8 - p)) (b := 8)]
  rcases Bool.eq_false_or_eq_true (decide (8 ≤ (l.length * 8 - p))) with hc9 | hc9
  ·
   rw [hc9]
   refine ops_rule (C := []) _ [] 4 [] 0 (fun φ10 => [(14, .bool true), (13, .bool true), (12, undef), (11, undef)]) (fun φ10 => [(r, .cells #[.slice a l.length c, .int .i64 p, .int .i64 e] 102)]) (fun φ10 => []) s trivial (fun φ10 => by kernel_rfl) ?_
   intro φ10 w10 s
   refine ops_done (by kernel_rfl) ?_
   refine cond_true_rule (b := true) (by kernel_rfl) rfl ?_
   refine region_rule ?_
   refine ops_rule (C := []) _ [] 4 [.o 0] 0 (fun φ11 => [(17, .pointer (some ⟨r, 2, none⟩)), (16, pB r), (15, pB r)]) (fun φ11 => [(r, .cells #[.slice a l.length c, .int .i64 p, .int .i64 6] 102)]) (fun φ11 => [r]) s trivial (fun φ11 => by kernel_rfl) ?_
   intro φ11 w11 s
   refine ops_done (by kernel_rfl) ?_
   refine seqR ?_
   refine ops_rule (C := []) _ [] 1 [] 0 (fun φ12 => [(18, pB r)]) (fun φ12 => [(r, .cells #[.slice a l.length c, .int .i64 p, .int .i64 6] 102)]) (fun φ12 => []) s trivial (fun φ12 => by kernel_rfl) ?_
   intro φ12 w12 s
   refine callB_rule (b := (r, .cells #[.slice a l.length c, .int .i64 p, .int .i64 6] 102)) (F := []) (Hr := []) (some 19) 0 s (by kernel_rfl) (by kernel_rfl) (err_c (r := r) (v0 := .slice a l.length c) (v1 := .int .i64 p) (e := 6)) (by kernel_rfl) ?_
   rintro v13 I13 w13 b13 le13 - h13 s
   replace hl := BSl.mono le13 hl
   obtain ⟨rfl, rfl⟩ := h13
   refine ops_rule (C := []) _ [] 1 [] 0 (fun φ14 => [(2, .int .i64 6)]) (fun φ14 => [(r, .cells #[.slice a l.length c, .int .i64 p, .int .i64 6] 102)]) (fun φ14 => []) s trivial (fun φ14 => by kernel_rfl) ?_
   intro φ14 w14 s
   refine ops_done (by kernel_rfl) ?_
   refine wp_ret ?_
   refine ret_rule (C := []) _ [] (.int .i64 6) [] [] s trivial (by kernel_rfl) ?_
   exact ⟨_, _, _, rfl, s, (by have hq0 := of_decide_eq_true hc5; have hq1 := of_decide_eq_true hc9;  exact ⟨_, rfl, rfl, (by unfold eoE; first | (rw [if_pos (by simp_all)]; done) | (rw [if_neg (by simp_all)]; done) | (rw [if_pos (by simp_all)]; rfl) | (rw [if_neg (by simp_all)]; rfl) | (rw [if_neg (by simp_all; omega)]) | (rw [if_pos (by simp_all; omega)])), (by unfold eoE; first | (rw [if_pos (by simp_all)]; done) | (rw [if_neg (by simp_all)]; done) | (rw [if_pos (by simp_all)]; rfl) | (rw [if_neg (by simp_all)]; rfl) | (rw [if_neg (by simp_all; omega)]) | (rw [if_pos (by simp_all; omega)]))⟩)⟩
  ·
   rw [hc9]
   refine ops_rule (C := []) _ [] 1 [] 0 (fun φ15 => [(11, pB r)]) (fun φ15 => [(r, .cells #[.slice a l.length c, .int .i64 p, .int .i64 e] 102)]) (fun φ15 => []) s trivial (fun φ15 => by kernel_rfl) ?_
   intro φ15 w15 s
   refine callB_rule (b := (r, .cells #[.slice a l.length c, .int .i64 p, .int .i64 e] 102)) (F := []) (Hr := []) (some 12) 0 s (by kernel_rfl) (by kernel_rfl) (oneLeft_c (e := e) (r := r) (p := p) hl (hn9) (by omega)) (by kernel_rfl) ?_
   rintro v16 I16 w16 b16 le16 - h16 s
   obtain ⟨rfl, rfl⟩ := h16
   refine ops_rule (C := []) _ [] 2 [] 0 (fun φ17 => [(14, .bool (oneL l p)), (13, .bool (oneL l p))]) (fun φ17 => [(r, .cells #[.slice a l.length c, .int .i64 p, .int .i64 e] 102)]) (fun φ17 => []) s trivial (fun φ17 => by kernel_rfl) ?_
   intro φ17 w17 s
   refine ops_done (by kernel_rfl) ?_
   rcases Bool.eq_false_or_eq_true (oneL l p) with hc18 | hc18
   ·
    rw [hc18]
    refine cond_true_rule (b := true) (by kernel_rfl) rfl ?_
    refine region_rule ?_
    refine ops_rule (C := []) _ [] 4 [.o 0] 0 (fun φ19 => [(17, .pointer (some ⟨r, 2, none⟩)), (16, pB r), (15, pB r)]) (fun φ19 => [(r, .cells #[.slice a l.length c, .int .i64 p, .int .i64 6] 102)]) (fun φ19 => [r]) s trivial (fun φ19 => by kernel_rfl) ?_
    intro φ19 w19 s
    refine ops_done (by kernel_rfl) ?_
    refine seqR ?_
    refine ops_rule (C := []) _ [] 1 [] 0 (fun φ20 => [(18, pB r)]) (fun φ20 => [(r, .cells #[.slice a l.length c, .int .i64 p, .int .i64 6] 102)]) (fun φ20 => []) s trivial (fun φ20 => by kernel_rfl) ?_
    intro φ20 w20 s
    refine callB_rule (b := (r, .cells #[.slice a l.length c, .int .i64 p, .int .i64 6] 102)) (F := []) (Hr := []) (some 19) 0 s (by kernel_rfl) (by kernel_rfl) (err_c (r := r) (v0 := .slice a l.length c) (v1 := .int .i64 p) (e := 6)) (by kernel_rfl) ?_
    rintro v21 I21 w21 b21 le21 - h21 s
    obtain ⟨rfl, rfl⟩ := h21
    refine ops_rule (C := []) _ [] 1 [] 0 (fun φ22 => [(2, .int .i64 6)]) (fun φ22 => [(r, .cells #[.slice a l.length c, .int .i64 p, .int .i64 6] 102)]) (fun φ22 => []) s trivial (fun φ22 => by kernel_rfl) ?_
    intro φ22 w22 s
    refine ops_done (by kernel_rfl) ?_
    refine wp_ret ?_
    refine ret_rule (C := []) _ [] (.int .i64 6) [] [] s trivial (by kernel_rfl) ?_
    exact ⟨_, _, _, rfl, s, (by have hq0 := of_decide_eq_true hc5; have hq1 := of_decide_eq_false hc9; have ho2 := hc18; exact ⟨_, rfl, rfl, (by unfold eoE; first | (rw [if_pos (by simp_all)]; done) | (rw [if_neg (by simp_all)]; done) | (rw [if_pos (by simp_all)]; rfl) | (rw [if_neg (by simp_all)]; rfl) | (rw [if_neg (by simp_all; omega)]) | (rw [if_pos (by simp_all; omega)])), (by unfold eoE; first | (rw [if_pos (by simp_all)]; done) | (rw [if_neg (by simp_all)]; done) | (rw [if_pos (by simp_all)]; rfl) | (rw [if_neg (by simp_all)]; rfl) | (rw [if_neg (by simp_all; omega)]) | (rw [if_pos (by simp_all; omega)]))⟩)⟩
   ·
    rw [hc18]
    refine cond_false_rule (b := false) (by kernel_rfl) rfl ?_
    refine wp_skip ?_
    refine seqR ?_
    refine ops_rule (C := []) _ [] 1 [] 0 (fun φ23 => [(18, pB r)]) (fun φ23 => [(r, .cells #[.slice a l.length c, .int .i64 p, .int .i64 e] 102)]) (fun φ23 => []) s trivial (fun φ23 => by kernel_rfl) ?_
    intro φ23 w23 s
    refine callB_rule (b := (r, .cells #[.slice a l.length c, .int .i64 p, .int .i64 e] 102)) (F := []) (Hr := []) (some 19) 0 s (by kernel_rfl) (by kernel_rfl) (err_c (r := r) (v0 := .slice a l.length c) (v1 := .int .i64 p) (e := e)) (by kernel_rfl) ?_
    rintro v24 I24 w24 b24 le24 - h24 s
    obtain ⟨rfl, rfl⟩ := h24
    refine ops_rule (C := []) _ [] 1 [] 0 (fun φ25 => [(2, .int .i64 e)]) (fun φ25 => [(r, .cells #[.slice a l.length c, .int .i64 p, .int .i64 e] 102)]) (fun φ25 => []) s trivial (fun φ25 => by kernel_rfl) ?_
    intro φ25 w25 s
    refine ops_done (by kernel_rfl) ?_
    refine wp_ret ?_
    refine ret_rule (C := []) _ [] (.int .i64 e) [] [] s trivial (by kernel_rfl) ?_
    exact ⟨_, _, _, rfl, s, (by have hq0 := of_decide_eq_true hc5; have hq1 := of_decide_eq_false hc9; have ho2 := hc18; exact ⟨_, rfl, rfl, (by unfold eoE; first | (rw [if_pos (by simp_all)]; done) | (rw [if_neg (by simp_all)]; done) | (rw [if_pos (by simp_all)]; rfl) | (rw [if_neg (by simp_all)]; rfl) | (rw [if_neg (by simp_all; omega)]) | (rw [if_pos (by simp_all; omega)])), (by unfold eoE; first | (rw [if_pos (by simp_all)]; done) | (rw [if_neg (by simp_all)]; done) | (rw [if_pos (by simp_all)]; rfl) | (rw [if_neg (by simp_all)]; rfl) | (rw [if_neg (by simp_all; omega)]) | (rw [if_pos (by simp_all; omega)]))⟩)⟩
 ·
  rw [hc5]
  refine ops_rule (C := []) _ [] 8 [] 0 (fun φ26 => [(14, .bool false), (13, undef), (12, undef), (11, undef), (10, undef), (9, undef), (8, undef), (7, undef)]) (fun φ26 => [(r, .cells #[.slice a l.length c, .int .i64 p, .int .i64 e] 102)]) (fun φ26 => []) s trivial (fun φ26 => by kernel_rfl) ?_
  intro φ26 w26 s
  refine ops_done (by kernel_rfl) ?_
  refine cond_false_rule (b := false) (by kernel_rfl) rfl ?_
  refine wp_skip ?_
  refine seqR ?_
  refine ops_rule (C := []) _ [] 1 [] 0 (fun φ27 => [(18, pB r)]) (fun φ27 => [(r, .cells #[.slice a l.length c, .int .i64 p, .int .i64 e] 102)]) (fun φ27 => []) s trivial (fun φ27 => by kernel_rfl) ?_
  intro φ27 w27 s
  refine callB_rule (b := (r, .cells #[.slice a l.length c, .int .i64 p, .int .i64 e] 102)) (F := []) (Hr := []) (some 19) 0 s (by kernel_rfl) (by kernel_rfl) (err_c (r := r) (v0 := .slice a l.length c) (v1 := .int .i64 p) (e := e)) (by kernel_rfl) ?_
  rintro v28 I28 w28 b28 le28 - h28 s
  obtain ⟨rfl, rfl⟩ := h28
  refine ops_rule (C := []) _ [] 1 [] 0 (fun φ29 => [(2, .int .i64 e)]) (fun φ29 => [(r, .cells #[.slice a l.length c, .int .i64 p, .int .i64 e] 102)]) (fun φ29 => []) s trivial (fun φ29 => by kernel_rfl) ?_
  intro φ29 w29 s
  refine ops_done (by kernel_rfl) ?_
  refine wp_ret ?_
  refine ret_rule (C := []) _ [] (.int .i64 e) [] [] s trivial (by kernel_rfl) ?_
  exact ⟨_, _, _, rfl, s, (by have hq0 := of_decide_eq_false hc5;  exact ⟨_, rfl, rfl, (by unfold eoE; first | (rw [if_pos (by simp_all)]; done) | (rw [if_neg (by simp_all)]; done) | (rw [if_pos (by simp_all)]; rfl) | (rw [if_neg (by simp_all)]; rfl) | (rw [if_neg (by simp_all; omega)]) | (rw [if_pos (by simp_all; omega)])), (by unfold eoE; first | (rw [if_pos (by simp_all)]; done) | (rw [if_neg (by simp_all)]; done) | (rw [if_pos (by simp_all)]; rfl) | (rw [if_neg (by simp_all)]; rfl) | (rw [if_neg (by simp_all; omega)]) | (rw [if_pos (by simp_all; omega)]))⟩)⟩

end Go.Proofs.Ytgmigcmhnmmdkaa

/- The program reads a number in few bits. -/
set_option linter.all false
set_option maxRecDepth 100000
namespace Go.Proofs.Ytgmigcmhnmmdkaa
open Go.RowKit Go.Sep
attribute [local irreducible] Go.wpList Go.Code.wp

set_option maxHeartbeats 2000000 in
theorem numR_c {I : IM} {l : List UInt8} {a : Option Addr} {n c : Nat} (hl : BSl I l (.slice a n c)) (hn9 : l.length ≤ 1000000) {r p : Nat} (hp : p ≤ l.length * 8) : FunM Try.prog 95 #[.pointer (some ⟨r, 0, none⟩)] I [(r, .cells #[.slice a n c, .int .i64 ((p : Nat) : Int), .int .i64 0] 102)] (fun v J H' => ∃ b' : OB, H' = [b'] ∧ b'.1 = r ∧ v = .int .u64 ((bnV ((bitsL l).drop p) 0 : Nat) : Int) ∧ b' = (r, .cells #[.slice a n c, .int .i64 ((p + bnD ((bitsL l).drop p) 0 : Nat) : Int), .int .i64 ((bnE ((bitsL l).drop p) 0 : Nat) : Int)] 102)) := by
 obtain ⟨rfl, -⟩ := hl.cap
 refine enterM_rule 49 [(0, pB r)] Try.func95 rfl (by kernel_rfl) ?_
 intro w s
 refine seqR ?_
 refine ops_rule (C := []) [(r, .cells #[.slice a l.length c, .int .i64 p, .int .i64 0] 102)] [] 1 [] 0 (fun φ1 => [(2, .int .u64 0)]) (fun φ1 => [(r, .cells #[.slice a l.length c, .int .i64 p, .int .i64 0] 102)]) (fun φ1 => []) s trivial (fun φ1 => by kernel_rfl) ?_
 intro φ1 w1 s
 refine ops_done (by kernel_rfl) ?_
 have hle2 := IM.Le.refl I
 refine goto_rule s 0 (fun j : Nat => [(0, pB r), (3, .int .i64 p), (4, .int .i64 ((j + 2 : Nat) : Int))]) (fun j : Nat => [(r, .cells #[.slice a l.length c, .int .i64 ((p + j : Nat) : Int), .int .i64 0] 102)]) (fun n j J => IM.Le I J ∧ p + j + n = l.length * 8 ∧ OnesL l p j) rfl ?_ ?_
 ·
  rintro m3 j3 I3 w3 ev3 s ⟨le3, hm3, ho3⟩
  replace hl := BSl.mono le3 hl
  replace hle2 := leMono le3 hle2
  refine wp_seq ?_
  refine wp_skip ?_
  refine wp_seq ?_
  refine seqR ?_
  refine ops_rule (C := []) [(r, .cells #[.slice a l.length c, .int .i64 ((p + j3 : Nat) : Int), .int .i64 0] 102)] [] 1 [] 0 (fun φ4 => [(14, pB r)]) (fun φ4 => [(r, .cells #[.slice a l.length c, .int .i64 ((p + j3 : Nat) : Int), .int .i64 0] 102)]) (fun φ4 => []) s trivial (fun φ4 => by kernel_rfl) ?_
  intro φ4 w4 s
  rcases Bool.eq_false_or_eq_true (decide (p + j3 + 1 ≤ l.length * 8)) with hc5 | hc5
  ·
   refine callB_rule (b := (r, .cells #[.slice a l.length c, .int .i64 ((p + j3 : Nat) : Int), .int .i64 0] 102)) (F := []) (Hr := []) (some 15) 0 s (by kernel_rfl) (by kernel_rfl) (get_c (r := r) (p := p + j3) hl (hn9) (k := 1) (by decide) (of_decide_eq_true hc5)) (by kernel_rfl) ?_
   rintro v6 I6 w6 b6 le6 - h6 s
   replace hl := BSl.mono le6 hl
   replace hle2 := leMono le6 hle2
   obtain ⟨rfl, rfl⟩ := h6
   refine ops_rule (C := []) _ [] 1 [] 0 (fun φ7 => [(16, .bool (((rd l (p + j3) 1 : Nat) : Int) == ((1 : Nat) : Int)))]) (fun φ7 => [(r, .cells #[.slice a l.length c, .int .i64 ((p + j3 + 1 : Nat) : Int), .int .i64 0] 102)]) (fun φ7 => []) s trivial (fun φ7 => by kernel_rfl) ?_
   intro φ7 w7 s
   rw [nat_eql (a := (rd l (p + j3) 1)) (b := 1)]
   refine ops_done (by kernel_rfl) ?_
   rcases Bool.eq_false_or_eq_true (decide ((rd l (p + j3) 1) = 1)) with hc8 | hc8
   ·
    rw [hc8]
    refine cond_true_rule (b := true) (by kernel_rfl) rfl ?_
    refine seqR ?_
    refine ops_rule (C := []) _ [] 3 [] 0 (fun φ9 => [(4, .int .i64 (IntKind.wrap .i64 (((j3 + 2 : Nat) : Int) + ((1 : Nat) : Int)))), (18, .int .i64 (IntKind.wrap .i64 (((j3 + 2 : Nat) : Int) + ((1 : Nat) : Int)))), (17, .int .i64 ((j3 + 2 : Nat) : Int))]) (fun φ9 => [(r, .cells #[.slice a l.length c, .int .i64 ((p + j3 + 1 : Nat) : Int), .int .i64 0] 102)]) (fun φ9 => []) s trivial (fun φ9 => by kernel_rfl) ?_
    intro φ9 w9 s
    rw [nat_addI (a := (j3 + 2)) (b := 1) (by have hp0 := hp; have ho1 := ho3.len;  have hq0 := of_decide_eq_true hc5; have hq1 := of_decide_eq_true hc8; omega)]
    refine ops_done (by kernel_rfl) ?_
    refine wp_goto ?_
    exact ⟨rfl, ⟨⟨m3 - 1, j3 + 1, _, _, _, (by have := of_decide_eq_true hc5; omega), rfl, s, (List.Sublist.cons₂ _ List.Sublist.slnil), by kernel_rfl, hle2, (by have := of_decide_eq_true hc5; show p + (j3 + 1) + (m3 - 1) = _; omega), OnesL.step ho3 (of_decide_eq_true hc5) (bit_one (of_decide_eq_true hc8))⟩⟩⟩
   ·
    rw [hc8]
    refine cond_false_rule (b := false) (by kernel_rfl) rfl ?_
    refine wp_skip ?_
    refine seqR ?_
    refine ops_rule (C := []) _ [] 1 [] 0 (fun φ10 => [(19, .int .i64 ((j3 + 2 : Nat) : Int))]) (fun φ10 => [(r, .cells #[.slice a l.length c, .int .i64 ((p + j3 + 1 : Nat) : Int), .int .i64 0] 102)]) (fun φ10 => []) s trivial (fun φ10 => by kernel_rfl) ?_
    intro φ10 w10 s
    refine sem_rule (binOp .shl 27 (.int .u64 ((1 : Nat) : Int)) (.int .i64 ((j3 + 2 : Nat) : Int))) (some 20) (.int .u64 (bshl 64 1 (j3 + 2))) (by kernel_rfl) (run_shlU (.inr (.inr (.inl rfl)))) ?_
    refine ops_rule (C := []) _ [] 2 [] 0 (fun φ11 => [(5, .int .u64 (IntKind.wrap .u64 (((bshl 64 1 (j3 + 2) : Nat) : Int) - ((4 : Nat) : Int)))), (21, .int .u64 (IntKind.wrap .u64 (((bshl 64 1 (j3 + 2) : Nat) : Int) - ((4 : Nat) : Int))))]) (fun φ11 => [(r, .cells #[.slice a l.length c, .int .i64 ((p + j3 + 1 : Nat) : Int), .int .i64 0] 102)]) (fun φ11 => []) s trivial (fun φ11 => by kernel_rfl) ?_
    intro φ11 w11 s
    refine ops_done (by kernel_rfl) ?_
    refine seqR ?_
    refine ops_rule (C := []) _ [] 3 [] 0 (fun φ12 => [(24, .int .i64 ((j3 + 2 : Nat) : Int)), (23, pB r), (22, .int .u64 (IntKind.wrap .u64 (((bshl 64 1 (j3 + 2) : Nat) : Int) - ((4 : Nat) : Int))))]) (fun φ12 => [(r, .cells #[.slice a l.length c, .int .i64 ((p + j3 + 1 : Nat) : Int), .int .i64 0] 102)]) (fun φ12 => []) s trivial (fun φ12 => by kernel_rfl) ?_
    intro φ12 w12 s
    refine callB_rule (b := (r, .cells #[.slice a l.length c, .int .i64 ((p + j3 + 1 : Nat) : Int), .int .i64 0] 102)) (F := []) (Hr := []) (some 25) 0 s (by kernel_rfl) (by kernel_rfl) (getG_c (e := 0) (z := ((j3 + 2 : Nat) : Int)) (r := r) (p := p + j3 + 1) hl (hn9) (by have hp0 := hp; have ho1 := ho3.len;  have hq0 := of_decide_eq_true hc5; have hq1 := of_decide_eq_false hc8; omega)) (by kernel_rfl) ?_
    rintro v13 I13 w13 b13 le13 - h13 s
    replace hl := BSl.mono le13 hl
    replace hle2 := leMono le13 hle2
    obtain ⟨rfl, rfl⟩ := h13
    refine ops_rule (C := []) _ [] 2 [] 0 (fun φ14 => [(6, .int .u64 (IntKind.wrap .u64 ((IntKind.wrap .u64 (((bshl 64 1 (j3 + 2) : Nat) : Int) - ((4 : Nat) : Int))) + ((geV l (p + j3 + 1) 0 (clampN ((j3 + 2 : Nat) : Int)) : Nat) : Int)))), (26, .int .u64 (IntKind.wrap .u64 ((IntKind.wrap .u64 (((bshl 64 1 (j3 + 2) : Nat) : Int) - ((4 : Nat) : Int))) + ((geV l (p + j3 + 1) 0 (clampN ((j3 + 2 : Nat) : Int)) : Nat) : Int))))]) (fun φ14 => [(r, .cells #[.slice a l.length c, .int .i64 ((p + j3 + 1 + geD l (p + j3 + 1) 0 (clampN ((j3 + 2 : Nat) : Int)) : Nat) : Int), .int .i64 (geE l (p + j3 + 1) 0 (clampN ((j3 + 2 : Nat) : Int)))] 102)]) (fun φ14 => []) s trivial (fun φ14 => by kernel_rfl) ?_
    intro φ14 w14 s
    refine ops_done (by kernel_rfl) ?_
    refine wp_seq ?_
    refine seqR ?_
    refine ops_rule (C := []) _ [] 6 [.o 0] 0 (fun φ15 => [(32, .bool (((geE l (p + j3 + 1) 0 (clampN ((j3 + 2 : Nat) : Int)) : Nat) : Int) != ((0 : Nat) : Int))), (31, .bool (((geE l (p + j3 + 1) 0 (clampN ((j3 + 2 : Nat) : Int)) : Nat) : Int) != ((0 : Nat) : Int))), (30, .int .i64 (geE l (p + j3 + 1) 0 (clampN ((j3 + 2 : Nat) : Int)))), (29, .pointer (some ⟨r, 2, none⟩)), (28, pB r), (27, pB r)]) (fun φ15 => [(r, .cells #[.slice a l.length c, .int .i64 ((p + j3 + 1 + geD l (p + j3 + 1) 0 (clampN ((j3 + 2 : Nat) : Int)) : Nat) : Int), .int .i64 (geE l (p + j3 + 1) 0 (clampN ((j3 + 2 : Nat) : Int)))] 102)]) (fun φ15 => [r]) s trivial (fun φ15 => by kernel_rfl) ?_
    intro φ15 w15 s
    rw [nat_neq (a := (geE l (p + j3 + 1) 0 (clampN ((j3 + 2 : Nat) : Int)))) (b := 0)]
    rcases Bool.eq_false_or_eq_true (decide ((geE l (p + j3 + 1) 0 (clampN ((j3 + 2 : Nat) : Int))) ≠ 0)) with hc16 | hc16
    ·
     rw [hc16]
     refine ops_rule (C := []) _ [] 8 [] 0 (fun φ17 => [(40, .bool true), (39, undef), (38, undef), (37, undef), (36, .bool true), (35, .bool true), (34, undef), (33, undef)]) (fun φ17 => [(r, .cells #[.slice a l.length c, .int .i64 ((p + j3 + 1 + geD l (p + j3 + 1) 0 (clampN ((j3 + 2 : Nat) : Int)) : Nat) : Int), .int .i64 (geE l (p + j3 + 1) 0 (clampN ((j3 + 2 : Nat) : Int)))] 102)]) (fun φ17 => []) s trivial (fun φ17 => by kernel_rfl) ?_
     intro φ17 w17 s
     refine ops_done (by kernel_rfl) ?_
     refine cond_true_rule (b := true) (by kernel_rfl) rfl ?_
     refine seqR ?_
     refine ops_rule (C := []) _ [] 9 [.o 0, .o 0] 0 (fun φ18 => [(47, .pointer (some ⟨r, 2, none⟩)), (46, pB r), (45, .pointer (some ⟨r, 1, none⟩)), (44, pB r), (43, .int .i64 p), (42, pB r), (41, pB r)]) (fun φ18 => [(r, .cells #[.slice a l.length c, .int .i64 p, .int .i64 6] 102)]) (fun φ18 => [r, r]) s trivial (fun φ18 => by kernel_rfl) ?_
     intro φ18 w18 s
     refine ops_done (by kernel_rfl) ?_
     refine seqR ?_
     refine ops_rule (C := []) _ [] 1 [] 0 (fun φ19 => [(2, .int .u64 0)]) (fun φ19 => [(r, .cells #[.slice a l.length c, .int .i64 p, .int .i64 6] 102)]) (fun φ19 => []) s trivial (fun φ19 => by kernel_rfl) ?_
     intro φ19 w19 s
     refine ops_done (by kernel_rfl) ?_
     refine wp_ret ?_
     refine ret_rule (C := []) _ [] (.int .u64 0) [] [] s trivial (by kernel_rfl) ?_
     exact ⟨_, _, _, rfl, s, (by have h8 := num_short (j := j3) ho3 (of_decide_eq_true hc5) (bit_nil (of_decide_eq_false hc8)) (of_decide_eq_true hc16); exact ⟨_, rfl, rfl, (by rw [h8.1]; rfl), (by rw [h8.2.1, h8.2.2]; rfl)⟩)⟩
    ·
     rw [hc16]
     refine ops_rule (C := []) _ [] 4 [] 0 (fun φ20 => [(36, .bool (decide (((j3 + 2 : Nat) : Int) > ((64 : Nat) : Int)))), (35, .bool (decide (((j3 + 2 : Nat) : Int) > ((64 : Nat) : Int)))), (34, .bool (decide (((j3 + 2 : Nat) : Int) > ((64 : Nat) : Int)))), (33, .int .i64 ((j3 + 2 : Nat) : Int))]) (fun φ20 => [(r, .cells #[.slice a l.length c, .int .i64 ((p + j3 + 1 + geD l (p + j3 + 1) 0 (clampN ((j3 + 2 : Nat) : Int)) : Nat) : Int), .int .i64 (geE l (p + j3 + 1) 0 (clampN ((j3 + 2 : Nat) : Int)))] 102)]) (fun φ20 => []) s trivial (fun φ20 => by kernel_rfl) ?_
     intro φ20 w20 s
     rw [nat_gtr (a := (j3 + 2)) (b := 64)]
     rcases Bool.eq_false_or_eq_true (decide (64 < (j3 + 2))) with hc21 | hc21
     ·
      rw [hc21]
      refine ops_rule (C := []) _ [] 4 [] 0 (fun φ22 => [(40, .bool true), (39, undef), (38, undef), (37, undef)]) (fun φ22 => [(r, .cells #[.slice a l.length c, .int .i64 ((p + j3 + 1 + geD l (p + j3 + 1) 0 (clampN ((j3 + 2 : Nat) : Int)) : Nat) : Int), .int .i64 (geE l (p + j3 + 1) 0 (clampN ((j3 + 2 : Nat) : Int)))] 102)]) (fun φ22 => []) s trivial (fun φ22 => by kernel_rfl) ?_
      intro φ22 w22 s
      refine ops_done (by kernel_rfl) ?_
      refine cond_true_rule (b := true) (by kernel_rfl) rfl ?_
      refine seqR ?_
      refine ops_rule (C := []) _ [] 9 [.o 0, .o 0] 0 (fun φ23 => [(47, .pointer (some ⟨r, 2, none⟩)), (46, pB r), (45, .pointer (some ⟨r, 1, none⟩)), (44, pB r), (43, .int .i64 p), (42, pB r), (41, pB r)]) (fun φ23 => [(r, .cells #[.slice a l.length c, .int .i64 p, .int .i64 6] 102)]) (fun φ23 => [r, r]) s trivial (fun φ23 => by kernel_rfl) ?_
      intro φ23 w23 s
      refine ops_done (by kernel_rfl) ?_
      refine seqR ?_
      refine ops_rule (C := []) _ [] 1 [] 0 (fun φ24 => [(2, .int .u64 0)]) (fun φ24 => [(r, .cells #[.slice a l.length c, .int .i64 p, .int .i64 6] 102)]) (fun φ24 => []) s trivial (fun φ24 => by kernel_rfl) ?_
      intro φ24 w24 s
      refine ops_done (by kernel_rfl) ?_
      refine wp_ret ?_
      refine ret_rule (C := []) _ [] (.int .u64 0) [] [] s trivial (by kernel_rfl) ?_
      exact ⟨_, _, _, rfl, s, (by have h8 := num_far (j := j3) ho3 (of_decide_eq_true hc21); exact ⟨_, rfl, rfl, (by rw [h8.1]; rfl), (by rw [h8.2.1, h8.2.2]; rfl)⟩)⟩
     ·
      rw [hc21]
      refine ops_rule (C := []) _ [] 4 [] 0 (fun φ25 => [(40, .bool (decide ((IntKind.wrap .u64 ((IntKind.wrap .u64 (((bshl 64 1 (j3 + 2) : Nat) : Int) - ((4 : Nat) : Int))) + ((geV l (p + j3 + 1) 0 (clampN ((j3 + 2 : Nat) : Int)) : Nat) : Int))) < (IntKind.wrap .u64 (((bshl 64 1 (j3 + 2) : Nat) : Int) - ((4 : Nat) : Int)))))), (39, .bool (decide ((IntKind.wrap .u64 ((IntKind.wrap .u64 (((bshl 64 1 (j3 + 2) : Nat) : Int) - ((4 : Nat) : Int))) + ((geV l (p + j3 + 1) 0 (clampN ((j3 + 2 : Nat) : Int)) : Nat) : Int))) < (IntKind.wrap .u64 (((bshl 64 1 (j3 + 2) : Nat) : Int) - ((4 : Nat) : Int)))))), (38, .int .u64 (IntKind.wrap .u64 (((bshl 64 1 (j3 + 2) : Nat) : Int) - ((4 : Nat) : Int)))), (37, .int .u64 (IntKind.wrap .u64 ((IntKind.wrap .u64 (((bshl 64 1 (j3 + 2) : Nat) : Int) - ((4 : Nat) : Int))) + ((geV l (p + j3 + 1) 0 (clampN ((j3 + 2 : Nat) : Int)) : Nat) : Int))))]) (fun φ25 => [(r, .cells #[.slice a l.length c, .int .i64 ((p + j3 + 1 + geD l (p + j3 + 1) 0 (clampN ((j3 + 2 : Nat) : Int)) : Nat) : Int), .int .i64 (geE l (p + j3 + 1) 0 (clampN ((j3 + 2 : Nat) : Int)))] 102)]) (fun φ25 => []) s trivial (fun φ25 => by kernel_rfl) ?_
      intro φ25 w25 s
      refine ops_done (by kernel_rfl) ?_
      rcases Bool.eq_false_or_eq_true (decide ((IntKind.wrap .u64 ((IntKind.wrap .u64 (((bshl 64 1 (j3 + 2) : Nat) : Int) - ((4 : Nat) : Int))) + ((geV l (p + j3 + 1) 0 (clampN ((j3 + 2 : Nat) : Int)) : Nat) : Int))) < (IntKind.wrap .u64 (((bshl 64 1 (j3 + 2) : Nat) : Int) - ((4 : Nat) : Int))))) with hc26 | hc26
      ·
       rw [hc26]
       refine cond_true_rule (b := true) (by kernel_rfl) rfl ?_
       refine seqR ?_
       refine ops_rule (C := []) _ [] 9 [.o 0, .o 0] 0 (fun φ27 => [(47, .pointer (some ⟨r, 2, none⟩)), (46, pB r), (45, .pointer (some ⟨r, 1, none⟩)), (44, pB r), (43, .int .i64 p), (42, pB r), (41, pB r)]) (fun φ27 => [(r, .cells #[.slice a l.length c, .int .i64 p, .int .i64 6] 102)]) (fun φ27 => [r, r]) s trivial (fun φ27 => by kernel_rfl) ?_
       intro φ27 w27 s
       refine ops_done (by kernel_rfl) ?_
       refine seqR ?_
       refine ops_rule (C := []) _ [] 1 [] 0 (fun φ28 => [(2, .int .u64 0)]) (fun φ28 => [(r, .cells #[.slice a l.length c, .int .i64 p, .int .i64 6] 102)]) (fun φ28 => []) s trivial (fun φ28 => by kernel_rfl) ?_
       intro φ28 w28 s
       refine ops_done (by kernel_rfl) ?_
       refine wp_ret ?_
       refine ret_rule (C := []) _ [] (.int .u64 0) [] [] s trivial (by kernel_rfl) ?_
       exact ⟨_, _, _, rfl, s, (by have h8 := num_over (j := j3) ho3 (of_decide_eq_true hc5) (bit_nil (of_decide_eq_false hc8)) (of_decide_eq_false hc16) (of_decide_eq_false hc21) (of_decide_eq_true hc26); exact ⟨_, rfl, rfl, (by rw [h8.1]; rfl), (by rw [h8.2.1, h8.2.2]; rfl)⟩)⟩
      ·
       rw [hc26]
       refine cond_false_rule (b := false) (by kernel_rfl) rfl ?_
       refine wp_skip ?_
       refine seqR ?_
       refine ops_rule (C := []) _ [] 2 [] 0 (fun φ29 => [(2, .int .u64 (IntKind.wrap .u64 ((IntKind.wrap .u64 (((bshl 64 1 (j3 + 2) : Nat) : Int) - ((4 : Nat) : Int))) + ((geV l (p + j3 + 1) 0 (clampN ((j3 + 2 : Nat) : Int)) : Nat) : Int)))), (48, .int .u64 (IntKind.wrap .u64 ((IntKind.wrap .u64 (((bshl 64 1 (j3 + 2) : Nat) : Int) - ((4 : Nat) : Int))) + ((geV l (p + j3 + 1) 0 (clampN ((j3 + 2 : Nat) : Int)) : Nat) : Int))))]) (fun φ29 => [(r, .cells #[.slice a l.length c, .int .i64 ((p + j3 + 1 + geD l (p + j3 + 1) 0 (clampN ((j3 + 2 : Nat) : Int)) : Nat) : Int), .int .i64 (geE l (p + j3 + 1) 0 (clampN ((j3 + 2 : Nat) : Int)))] 102)]) (fun φ29 => []) s trivial (fun φ29 => by kernel_rfl) ?_
       intro φ29 w29 s
       refine ops_done (by kernel_rfl) ?_
       refine wp_ret ?_
       refine ret_rule (C := []) _ [] (.int .u64 (IntKind.wrap .u64 ((IntKind.wrap .u64 (((bshl 64 1 (j3 + 2) : Nat) : Int) - ((4 : Nat) : Int))) + ((geV l (p + j3 + 1) 0 (clampN ((j3 + 2 : Nat) : Int)) : Nat) : Int)))) [] [] s trivial (by kernel_rfl) ?_
       exact ⟨_, _, _, rfl, s, (by have h8 := num_good (j := j3) ho3 (of_decide_eq_true hc5) (bit_nil (of_decide_eq_false hc8)) (of_decide_eq_false hc16) (of_decide_eq_false hc21) (of_decide_eq_false hc26); exact ⟨_, rfl, rfl, congrArg (Value.int .u64) h8.1, h8.2 _ _⟩)⟩
  ·
   refine callB_rule (b := (r, .cells #[.slice a l.length c, .int .i64 ((p + j3 : Nat) : Int), .int .i64 0] 102)) (F := []) (Hr := []) (some 15) 0 s (by kernel_rfl) (by kernel_rfl) (get_bad (r := r) (p := p + j3) hl (hn9) (k := 1) (by decide) (by have hp0 := hp; have ho1 := ho3.len;  omega) (by have hq0 := of_decide_eq_false hc5; omega)) (by kernel_rfl) ?_
   rintro v30 I30 w30 b30 le30 - h30 s
   replace hl := BSl.mono le30 hl
   replace hle2 := leMono le30 hle2
   obtain ⟨rfl, rfl⟩ := h30
   refine ops_rule (C := []) _ [] 1 [] 0 (fun φ31 => [(16, .bool false)]) (fun φ31 => [(r, .cells #[.slice a l.length c, .int .i64 ((p + j3 : Nat) : Int), .int .i64 6] 102)]) (fun φ31 => []) s trivial (fun φ31 => by kernel_rfl) ?_
   intro φ31 w31 s
   refine ops_done (by kernel_rfl) ?_
   refine cond_false_rule (b := false) (by kernel_rfl) rfl ?_
   refine wp_skip ?_
   refine seqR ?_
   refine ops_rule (C := []) _ [] 1 [] 0 (fun φ32 => [(19, .int .i64 ((j3 + 2 : Nat) : Int))]) (fun φ32 => [(r, .cells #[.slice a l.length c, .int .i64 ((p + j3 : Nat) : Int), .int .i64 6] 102)]) (fun φ32 => []) s trivial (fun φ32 => by kernel_rfl) ?_
   intro φ32 w32 s
   refine sem_rule (binOp .shl 27 (.int .u64 ((1 : Nat) : Int)) (.int .i64 ((j3 + 2 : Nat) : Int))) (some 20) (.int .u64 (bshl 64 1 (j3 + 2))) (by kernel_rfl) (run_shlU (.inr (.inr (.inl rfl)))) ?_
   refine ops_rule (C := []) _ [] 2 [] 0 (fun φ33 => [(5, .int .u64 (IntKind.wrap .u64 (((bshl 64 1 (j3 + 2) : Nat) : Int) - ((4 : Nat) : Int)))), (21, .int .u64 (IntKind.wrap .u64 (((bshl 64 1 (j3 + 2) : Nat) : Int) - ((4 : Nat) : Int))))]) (fun φ33 => [(r, .cells #[.slice a l.length c, .int .i64 ((p + j3 : Nat) : Int), .int .i64 6] 102)]) (fun φ33 => []) s trivial (fun φ33 => by kernel_rfl) ?_
   intro φ33 w33 s
   refine ops_done (by kernel_rfl) ?_
   refine seqR ?_
   refine ops_rule (C := []) _ [] 3 [] 0 (fun φ34 => [(24, .int .i64 ((j3 + 2 : Nat) : Int)), (23, pB r), (22, .int .u64 (IntKind.wrap .u64 (((bshl 64 1 (j3 + 2) : Nat) : Int) - ((4 : Nat) : Int))))]) (fun φ34 => [(r, .cells #[.slice a l.length c, .int .i64 ((p + j3 : Nat) : Int), .int .i64 6] 102)]) (fun φ34 => []) s trivial (fun φ34 => by kernel_rfl) ?_
   intro φ34 w34 s
   refine callB_rule (b := (r, .cells #[.slice a l.length c, .int .i64 ((p + j3 : Nat) : Int), .int .i64 6] 102)) (F := []) (Hr := []) (some 25) 0 s (by kernel_rfl) (by kernel_rfl) (getG_c (e := 6) (z := ((j3 + 2 : Nat) : Int)) (r := r) (p := p + j3) hl (hn9) (by have hp0 := hp; have ho1 := ho3.len;  have hq0 := of_decide_eq_false hc5; omega)) (by kernel_rfl) ?_
   rintro v35 I35 w35 b35 le35 - h35 s
   replace hl := BSl.mono le35 hl
   replace hle2 := leMono le35 hle2
   obtain ⟨rfl, rfl⟩ := h35
   refine ops_rule (C := []) _ [] 2 [] 0 (fun φ36 => [(6, .int .u64 (IntKind.wrap .u64 ((IntKind.wrap .u64 (((bshl 64 1 (j3 + 2) : Nat) : Int) - ((4 : Nat) : Int))) + ((geV l (p + j3) 6 (clampN ((j3 + 2 : Nat) : Int)) : Nat) : Int)))), (26, .int .u64 (IntKind.wrap .u64 ((IntKind.wrap .u64 (((bshl 64 1 (j3 + 2) : Nat) : Int) - ((4 : Nat) : Int))) + ((geV l (p + j3) 6 (clampN ((j3 + 2 : Nat) : Int)) : Nat) : Int))))]) (fun φ36 => [(r, .cells #[.slice a l.length c, .int .i64 ((p + j3 + geD l (p + j3) 6 (clampN ((j3 + 2 : Nat) : Int)) : Nat) : Int), .int .i64 (geE l (p + j3) 6 (clampN ((j3 + 2 : Nat) : Int)))] 102)]) (fun φ36 => []) s trivial (fun φ36 => by kernel_rfl) ?_
   intro φ36 w36 s
   refine ops_done (by kernel_rfl) ?_
   refine wp_seq ?_
   refine seqR ?_
   refine ops_rule (C := []) _ [] 6 [.o 0] 0 (fun φ37 => [(32, .bool (((geE l (p + j3) 6 (clampN ((j3 + 2 : Nat) : Int)) : Nat) : Int) != ((0 : Nat) : Int))), (31, .bool (((geE l (p + j3) 6 (clampN ((j3 + 2 : Nat) : Int)) : Nat) : Int) != ((0 : Nat) : Int))), (30, .int .i64 (geE l (p + j3) 6 (clampN ((j3 + 2 : Nat) : Int)))), (29, .pointer (some ⟨r, 2, none⟩)), (28, pB r), (27, pB r)]) (fun φ37 => [(r, .cells #[.slice a l.length c, .int .i64 ((p + j3 + geD l (p + j3) 6 (clampN ((j3 + 2 : Nat) : Int)) : Nat) : Int), .int .i64 (geE l (p + j3) 6 (clampN ((j3 + 2 : Nat) : Int)))] 102)]) (fun φ37 => [r]) s trivial (fun φ37 => by kernel_rfl) ?_
   intro φ37 w37 s
   rw [nat_neq (a := (geE l (p + j3) 6 (clampN ((j3 + 2 : Nat) : Int)))) (b := 0)]
   rcases Bool.eq_false_or_eq_true (decide ((geE l (p + j3) 6 (clampN ((j3 + 2 : Nat) : Int))) ≠ 0)) with hc38 | hc38
   ·
    rw [hc38]
    refine ops_rule (C := []) _ [] 8 [] 0 (fun φ39 => [(40, .bool true), (39, undef), (38, undef), (37, undef), (36, .bool true), (35, .bool true), (34, undef), (33, undef)]) (fun φ39 => [(r, .cells #[.slice a l.length c, .int .i64 ((p + j3 + geD l (p + j3) 6 (clampN ((j3 + 2 : Nat) : Int)) : Nat) : Int), .int .i64 (geE l (p + j3) 6 (clampN ((j3 + 2 : Nat) : Int)))] 102)]) (fun φ39 => []) s trivial (fun φ39 => by kernel_rfl) ?_
    intro φ39 w39 s
    refine ops_done (by kernel_rfl) ?_
    refine cond_true_rule (b := true) (by kernel_rfl) rfl ?_
    refine seqR ?_
    refine ops_rule (C := []) _ [] 9 [.o 0, .o 0] 0 (fun φ40 => [(47, .pointer (some ⟨r, 2, none⟩)), (46, pB r), (45, .pointer (some ⟨r, 1, none⟩)), (44, pB r), (43, .int .i64 p), (42, pB r), (41, pB r)]) (fun φ40 => [(r, .cells #[.slice a l.length c, .int .i64 p, .int .i64 6] 102)]) (fun φ40 => [r, r]) s trivial (fun φ40 => by kernel_rfl) ?_
    intro φ40 w40 s
    refine ops_done (by kernel_rfl) ?_
    refine seqR ?_
    refine ops_rule (C := []) _ [] 1 [] 0 (fun φ41 => [(2, .int .u64 0)]) (fun φ41 => [(r, .cells #[.slice a l.length c, .int .i64 p, .int .i64 6] 102)]) (fun φ41 => []) s trivial (fun φ41 => by kernel_rfl) ?_
    intro φ41 w41 s
    refine ops_done (by kernel_rfl) ?_
    refine wp_ret ?_
    refine ret_rule (C := []) _ [] (.int .u64 0) [] [] s trivial (by kernel_rfl) ?_
    exact ⟨_, _, _, rfl, s, (by have h8 := num_out (j := j3) ho3 (of_decide_eq_false hc5); exact ⟨_, rfl, rfl, (by rw [h8.1]; rfl), (by rw [h8.2.1, h8.2.2]; rfl)⟩)⟩
   ·
    exact absurd (of_decide_eq_false hc38) (fun q => q (by rw [ge6]; decide))
 ·
  refine wp_seq ?_
  refine seqR ?_
  refine ops_rule (C := []) _ [] 1 [] 0 (fun φ42 => [(7, pB r)]) (fun φ42 => [(r, .cells #[.slice a l.length c, .int .i64 p, .int .i64 0] 102)]) (fun φ42 => []) s trivial (fun φ42 => by kernel_rfl) ?_
  intro φ42 w42 s
  refine callB_rule (b := (r, .cells #[.slice a l.length c, .int .i64 p, .int .i64 0] 102)) (F := []) (Hr := []) (some 8) 0 s (by kernel_rfl) (by kernel_rfl) (err_c (r := r) (v0 := .slice a l.length c) (v1 := .int .i64 p) (e := 0)) (by kernel_rfl) ?_
  rintro v43 I43 w43 b43 le43 - h43 s
  replace hl := BSl.mono le43 hl
  replace hle2 := leMono le43 hle2
  obtain ⟨rfl, rfl⟩ := h43
  refine ops_rule (C := []) _ [] 1 [] 0 (fun φ44 => [(9, .bool false)]) (fun φ44 => [(r, .cells #[.slice a l.length c, .int .i64 p, .int .i64 0] 102)]) (fun φ44 => []) s trivial (fun φ44 => by kernel_rfl) ?_
  intro φ44 w44 s
  refine ops_done (by kernel_rfl) ?_
  refine cond_false_rule (b := false) (by kernel_rfl) rfl ?_
  refine wp_skip ?_
  refine seqR ?_
  refine ops_rule (C := []) _ [] 6 [.o 0] 0 (fun φ45 => [(4, .int .i64 2), (3, .int .i64 p), (13, .int .i64 p), (12, .pointer (some ⟨r, 1, none⟩)), (11, pB r), (10, pB r)]) (fun φ45 => [(r, .cells #[.slice a l.length c, .int .i64 p, .int .i64 0] 102)]) (fun φ45 => [r]) s trivial (fun φ45 => by kernel_rfl) ?_
  intro φ45 w45 s
  refine ops_done (by kernel_rfl) ?_
  refine wp_seq ?_
  refine wp_label ?_
  refine wp_seq ?_
  refine seqR ?_
  refine ops_rule (C := []) _ [] 1 [] 0 (fun φ46 => [(14, pB r)]) (fun φ46 => [(r, .cells #[.slice a l.length c, .int .i64 p, .int .i64 0] 102)]) (fun φ46 => []) s trivial (fun φ46 => by kernel_rfl) ?_
  intro φ46 w46 s
  rcases Bool.eq_false_or_eq_true (decide (p + 1 ≤ l.length * 8)) with hc47 | hc47
  ·
   refine callB_rule (b := (r, .cells #[.slice a l.length c, .int .i64 p, .int .i64 0] 102)) (F := []) (Hr := []) (some 15) 0 s (by kernel_rfl) (by kernel_rfl) (get_c (r := r) (p := p) hl (hn9) (k := 1) (by decide) (of_decide_eq_true hc47)) (by kernel_rfl) ?_
   rintro v48 I48 w48 b48 le48 - h48 s
   replace hl := BSl.mono le48 hl
   replace hle2 := leMono le48 hle2
   obtain ⟨rfl, rfl⟩ := h48
   refine ops_rule (C := []) _ [] 1 [] 0 (fun φ49 => [(16, .bool (((rd l p 1 : Nat) : Int) == ((1 : Nat) : Int)))]) (fun φ49 => [(r, .cells #[.slice a l.length c, .int .i64 ((p + 1 : Nat) : Int), .int .i64 0] 102)]) (fun φ49 => []) s trivial (fun φ49 => by kernel_rfl) ?_
   intro φ49 w49 s
   rw [nat_eql (a := (rd l p 1)) (b := 1)]
   refine ops_done (by kernel_rfl) ?_
   rcases Bool.eq_false_or_eq_true (decide ((rd l p 1) = 1)) with hc50 | hc50
   ·
    rw [hc50]
    refine cond_true_rule (b := true) (by kernel_rfl) rfl ?_
    refine seqR ?_
    refine ops_rule (C := []) _ [] 3 [] 0 (fun φ51 => [(4, .int .i64 3), (18, .int .i64 3), (17, .int .i64 2)]) (fun φ51 => [(r, .cells #[.slice a l.length c, .int .i64 ((p + 1 : Nat) : Int), .int .i64 0] 102)]) (fun φ51 => []) s trivial (fun φ51 => by kernel_rfl) ?_
    intro φ51 w51 s
    refine ops_done (by kernel_rfl) ?_
    refine wp_goto ?_
    exact ⟨rfl, l.length * 8, ⟨⟨l.length * 8 - p - 1, 1, _, _, _, (by have := of_decide_eq_true hc47; omega), rfl, s, (List.Sublist.cons₂ _ List.Sublist.slnil), by kernel_rfl, hle2, (by have := of_decide_eq_true hc47; show p + 1 + (l.length * 8 - p - 1) = _; omega), OnesL.step (OnesL.start hp) (of_decide_eq_true hc47) (bit_one (of_decide_eq_true hc50))⟩⟩⟩
   ·
    rw [hc50]
    refine cond_false_rule (b := false) (by kernel_rfl) rfl ?_
    refine wp_skip ?_
    refine seqR ?_
    refine ops_rule (C := []) _ [] 1 [] 0 (fun φ52 => [(19, .int .i64 2)]) (fun φ52 => [(r, .cells #[.slice a l.length c, .int .i64 ((p + 1 : Nat) : Int), .int .i64 0] 102)]) (fun φ52 => []) s trivial (fun φ52 => by kernel_rfl) ?_
    intro φ52 w52 s
    refine sem_rule (binOp .shl 27 (.int .u64 1) (.int .i64 2)) (some 20) (.int .u64 4) (by kernel_rfl) ((by kernel_rfl : (binOp .shl 27 (.int .u64 1) (.int .i64 2)).run Try.prog w52 = .ok (.int .u64 4) w52)) ?_
    refine ops_rule (C := []) _ [] 2 [] 0 (fun φ53 => [(5, .int .u64 0), (21, .int .u64 0)]) (fun φ53 => [(r, .cells #[.slice a l.length c, .int .i64 ((p + 1 : Nat) : Int), .int .i64 0] 102)]) (fun φ53 => []) s trivial (fun φ53 => by kernel_rfl) ?_
    intro φ53 w53 s
    refine ops_done (by kernel_rfl) ?_
    refine seqR ?_
    refine ops_rule (C := []) _ [] 3 [] 0 (fun φ54 => [(24, .int .i64 2), (23, pB r), (22, .int .u64 0)]) (fun φ54 => [(r, .cells #[.slice a l.length c, .int .i64 ((p + 1 : Nat) : Int), .int .i64 0] 102)]) (fun φ54 => []) s trivial (fun φ54 => by kernel_rfl) ?_
    intro φ54 w54 s
    refine callB_rule (b := (r, .cells #[.slice a l.length c, .int .i64 ((p + 1 : Nat) : Int), .int .i64 0] 102)) (F := []) (Hr := []) (some 25) 0 s (by kernel_rfl) (by kernel_rfl) (getG_c (e := 0) (z := ((2 : Nat) : Int)) (r := r) (p := p + 1) hl (hn9) (by have hp0 := hp;  have hq0 := of_decide_eq_true hc47; have hq1 := of_decide_eq_false hc50; omega)) (by kernel_rfl) ?_
    rintro v55 I55 w55 b55 le55 - h55 s
    replace hl := BSl.mono le55 hl
    obtain ⟨rfl, rfl⟩ := h55
    refine ops_rule (C := []) _ [] 2 [] 0 (fun φ56 => [(6, .int .u64 (IntKind.wrap .u64 (((0 : Nat) : Int) + ((geV l (p + 1) 0 (clampN ((2 : Nat) : Int)) : Nat) : Int)))), (26, .int .u64 (IntKind.wrap .u64 (((0 : Nat) : Int) + ((geV l (p + 1) 0 (clampN ((2 : Nat) : Int)) : Nat) : Int))))]) (fun φ56 => [(r, .cells #[.slice a l.length c, .int .i64 ((p + 1 + geD l (p + 1) 0 (clampN ((2 : Nat) : Int)) : Nat) : Int), .int .i64 (geE l (p + 1) 0 (clampN ((2 : Nat) : Int)))] 102)]) (fun φ56 => []) s trivial (fun φ56 => by kernel_rfl) ?_
    intro φ56 w56 s
    refine ops_done (by kernel_rfl) ?_
    refine wp_seq ?_
    refine seqR ?_
    refine ops_rule (C := []) _ [] 6 [.o 0] 0 (fun φ57 => [(32, .bool (((geE l (p + 1) 0 (clampN ((2 : Nat) : Int)) : Nat) : Int) != ((0 : Nat) : Int))), (31, .bool (((geE l (p + 1) 0 (clampN ((2 : Nat) : Int)) : Nat) : Int) != ((0 : Nat) : Int))), (30, .int .i64 (geE l (p + 1) 0 (clampN ((2 : Nat) : Int)))), (29, .pointer (some ⟨r, 2, none⟩)), (28, pB r), (27, pB r)]) (fun φ57 => [(r, .cells #[.slice a l.length c, .int .i64 ((p + 1 + geD l (p + 1) 0 (clampN ((2 : Nat) : Int)) : Nat) : Int), .int .i64 (geE l (p + 1) 0 (clampN ((2 : Nat) : Int)))] 102)]) (fun φ57 => [r]) s trivial (fun φ57 => by kernel_rfl) ?_
    intro φ57 w57 s
    rw [nat_neq (a := (geE l (p + 1) 0 (clampN ((2 : Nat) : Int)))) (b := 0)]
    rcases Bool.eq_false_or_eq_true (decide ((geE l (p + 1) 0 (clampN ((2 : Nat) : Int))) ≠ 0)) with hc58 | hc58
    ·
     rw [hc58]
     refine ops_rule (C := []) _ [] 8 [] 0 (fun φ59 => [(40, .bool true), (39, undef), (38, undef), (37, undef), (36, .bool true), (35, .bool true), (34, undef), (33, undef)]) (fun φ59 => [(r, .cells #[.slice a l.length c, .int .i64 ((p + 1 + geD l (p + 1) 0 (clampN ((2 : Nat) : Int)) : Nat) : Int), .int .i64 (geE l (p + 1) 0 (clampN ((2 : Nat) : Int)))] 102)]) (fun φ59 => []) s trivial (fun φ59 => by kernel_rfl) ?_
     intro φ59 w59 s
     refine ops_done (by kernel_rfl) ?_
     refine cond_true_rule (b := true) (by kernel_rfl) rfl ?_
     refine seqR ?_
     refine ops_rule (C := []) _ [] 9 [.o 0, .o 0] 0 (fun φ60 => [(47, .pointer (some ⟨r, 2, none⟩)), (46, pB r), (45, .pointer (some ⟨r, 1, none⟩)), (44, pB r), (43, .int .i64 p), (42, pB r), (41, pB r)]) (fun φ60 => [(r, .cells #[.slice a l.length c, .int .i64 p, .int .i64 6] 102)]) (fun φ60 => [r, r]) s trivial (fun φ60 => by kernel_rfl) ?_
     intro φ60 w60 s
     refine ops_done (by kernel_rfl) ?_
     refine seqR ?_
     refine ops_rule (C := []) _ [] 1 [] 0 (fun φ61 => [(2, .int .u64 0)]) (fun φ61 => [(r, .cells #[.slice a l.length c, .int .i64 p, .int .i64 6] 102)]) (fun φ61 => []) s trivial (fun φ61 => by kernel_rfl) ?_
     intro φ61 w61 s
     refine ops_done (by kernel_rfl) ?_
     refine wp_ret ?_
     refine ret_rule (C := []) _ [] (.int .u64 0) [] [] s trivial (by kernel_rfl) ?_
     exact ⟨_, _, _, rfl, s, (by have h8 := num_short (j := 0) (OnesL.start hp) (of_decide_eq_true hc47) (bit_nil (of_decide_eq_false hc50)) (of_decide_eq_true hc58); exact ⟨_, rfl, rfl, (by rw [h8.1]; rfl), (by rw [h8.2.1, h8.2.2]; rfl)⟩)⟩
    ·
     rw [hc58]
     refine ops_rule (C := []) _ [] 8 [] 0 (fun φ62 => [(40, .bool (decide ((IntKind.wrap .u64 (((0 : Nat) : Int) + ((geV l (p + 1) 0 (clampN ((2 : Nat) : Int)) : Nat) : Int))) < ((0 : Nat) : Int)))), (39, .bool (decide ((IntKind.wrap .u64 (((0 : Nat) : Int) + ((geV l (p + 1) 0 (clampN ((2 : Nat) : Int)) : Nat) : Int))) < ((0 : Nat) : Int)))), (38, .int .u64 0), (37, .int .u64 (IntKind.wrap .u64 (((0 : Nat) : Int) + ((geV l (p + 1) 0 (clampN ((2 : Nat) : Int)) : Nat) : Int)))), (36, .bool false), (35, .bool false), (34, .bool false), (33, .int .i64 2)]) (fun φ62 => [(r, .cells #[.slice a l.length c, .int .i64 ((p + 1 + geD l (p + 1) 0 (clampN ((2 : Nat) : Int)) : Nat) : Int), .int .i64 (geE l (p + 1) 0 (clampN ((2 : Nat) : Int)))] 102)]) (fun φ62 => []) s trivial (fun φ62 => by kernel_rfl) ?_
     intro φ62 w62 s
     refine ops_done (by kernel_rfl) ?_
     rcases Bool.eq_false_or_eq_true (decide ((IntKind.wrap .u64 (((0 : Nat) : Int) + ((geV l (p + 1) 0 (clampN ((2 : Nat) : Int)) : Nat) : Int))) < ((0 : Nat) : Int))) with hc63 | hc63
     ·
      rw [hc63]
      refine cond_true_rule (b := true) (by kernel_rfl) rfl ?_
      refine seqR ?_
      refine ops_rule (C := []) _ [] 9 [.o 0, .o 0] 0 (fun φ64 => [(47, .pointer (some ⟨r, 2, none⟩)), (46, pB r), (45, .pointer (some ⟨r, 1, none⟩)), (44, pB r), (43, .int .i64 p), (42, pB r), (41, pB r)]) (fun φ64 => [(r, .cells #[.slice a l.length c, .int .i64 p, .int .i64 6] 102)]) (fun φ64 => [r, r]) s trivial (fun φ64 => by kernel_rfl) ?_
      intro φ64 w64 s
      refine ops_done (by kernel_rfl) ?_
      refine seqR ?_
      refine ops_rule (C := []) _ [] 1 [] 0 (fun φ65 => [(2, .int .u64 0)]) (fun φ65 => [(r, .cells #[.slice a l.length c, .int .i64 p, .int .i64 6] 102)]) (fun φ65 => []) s trivial (fun φ65 => by kernel_rfl) ?_
      intro φ65 w65 s
      refine ops_done (by kernel_rfl) ?_
      refine wp_ret ?_
      refine ret_rule (C := []) _ [] (.int .u64 0) [] [] s trivial (by kernel_rfl) ?_
      exact ⟨_, _, _, rfl, s, (by have h8 := num_over (j := 0) (OnesL.start hp) (of_decide_eq_true hc47) (bit_nil (of_decide_eq_false hc50)) (of_decide_eq_false hc58) (by decide) (of_decide_eq_true hc63); exact ⟨_, rfl, rfl, (by rw [h8.1]; rfl), (by rw [h8.2.1, h8.2.2]; rfl)⟩)⟩
     ·
      rw [hc63]
      refine cond_false_rule (b := false) (by kernel_rfl) rfl ?_
      refine wp_skip ?_
      refine seqR ?_
      refine ops_rule (C := []) _ [] 2 [] 0 (fun φ66 => [(2, .int .u64 (IntKind.wrap .u64 (((0 : Nat) : Int) + ((geV l (p + 1) 0 (clampN ((2 : Nat) : Int)) : Nat) : Int)))), (48, .int .u64 (IntKind.wrap .u64 (((0 : Nat) : Int) + ((geV l (p + 1) 0 (clampN ((2 : Nat) : Int)) : Nat) : Int))))]) (fun φ66 => [(r, .cells #[.slice a l.length c, .int .i64 ((p + 1 + geD l (p + 1) 0 (clampN ((2 : Nat) : Int)) : Nat) : Int), .int .i64 (geE l (p + 1) 0 (clampN ((2 : Nat) : Int)))] 102)]) (fun φ66 => []) s trivial (fun φ66 => by kernel_rfl) ?_
      intro φ66 w66 s
      refine ops_done (by kernel_rfl) ?_
      refine wp_ret ?_
      refine ret_rule (C := []) _ [] (.int .u64 (IntKind.wrap .u64 (((0 : Nat) : Int) + ((geV l (p + 1) 0 (clampN ((2 : Nat) : Int)) : Nat) : Int)))) [] [] s trivial (by kernel_rfl) ?_
      exact ⟨_, _, _, rfl, s, (by have h8 := num_good (j := 0) (OnesL.start hp) (of_decide_eq_true hc47) (bit_nil (of_decide_eq_false hc50)) (of_decide_eq_false hc58) (by decide) (of_decide_eq_false hc63); exact ⟨_, rfl, rfl, congrArg (Value.int .u64) h8.1, h8.2 _ _⟩)⟩
  ·
   refine callB_rule (b := (r, .cells #[.slice a l.length c, .int .i64 p, .int .i64 0] 102)) (F := []) (Hr := []) (some 15) 0 s (by kernel_rfl) (by kernel_rfl) (get_bad (r := r) (p := p) hl (hn9) (k := 1) (by decide) (by have hp0 := hp;  omega) (by have hq0 := of_decide_eq_false hc47; omega)) (by kernel_rfl) ?_
   rintro v67 I67 w67 b67 le67 - h67 s
   replace hl := BSl.mono le67 hl
   obtain ⟨rfl, rfl⟩ := h67
   refine ops_rule (C := []) _ [] 1 [] 0 (fun φ68 => [(16, .bool false)]) (fun φ68 => [(r, .cells #[.slice a l.length c, .int .i64 p, .int .i64 6] 102)]) (fun φ68 => []) s trivial (fun φ68 => by kernel_rfl) ?_
   intro φ68 w68 s
   refine ops_done (by kernel_rfl) ?_
   refine cond_false_rule (b := false) (by kernel_rfl) rfl ?_
   refine wp_skip ?_
   refine seqR ?_
   refine ops_rule (C := []) _ [] 1 [] 0 (fun φ69 => [(19, .int .i64 2)]) (fun φ69 => [(r, .cells #[.slice a l.length c, .int .i64 p, .int .i64 6] 102)]) (fun φ69 => []) s trivial (fun φ69 => by kernel_rfl) ?_
   intro φ69 w69 s
   refine sem_rule (binOp .shl 27 (.int .u64 1) (.int .i64 2)) (some 20) (.int .u64 4) (by kernel_rfl) ((by kernel_rfl : (binOp .shl 27 (.int .u64 1) (.int .i64 2)).run Try.prog w69 = .ok (.int .u64 4) w69)) ?_
   refine ops_rule (C := []) _ [] 2 [] 0 (fun φ70 => [(5, .int .u64 0), (21, .int .u64 0)]) (fun φ70 => [(r, .cells #[.slice a l.length c, .int .i64 p, .int .i64 6] 102)]) (fun φ70 => []) s trivial (fun φ70 => by kernel_rfl) ?_
   intro φ70 w70 s
   refine ops_done (by kernel_rfl) ?_
   refine seqR ?_
   refine ops_rule (C := []) _ [] 3 [] 0 (fun φ71 => [(24, .int .i64 2), (23, pB r), (22, .int .u64 0)]) (fun φ71 => [(r, .cells #[.slice a l.length c, .int .i64 p, .int .i64 6] 102)]) (fun φ71 => []) s trivial (fun φ71 => by kernel_rfl) ?_
   intro φ71 w71 s
   refine callB_rule (b := (r, .cells #[.slice a l.length c, .int .i64 p, .int .i64 6] 102)) (F := []) (Hr := []) (some 25) 0 s (by kernel_rfl) (by kernel_rfl) (getG_c (e := 6) (z := ((2 : Nat) : Int)) (r := r) (p := p) hl (hn9) (by have hp0 := hp;  have hq0 := of_decide_eq_false hc47; omega)) (by kernel_rfl) ?_
   rintro v72 I72 w72 b72 le72 - h72 s
   obtain ⟨rfl, rfl⟩ := h72
   refine ops_rule (C := []) _ [] 2 [] 0 (fun φ73 => [(6, .int .u64 (IntKind.wrap .u64 (((0 : Nat) : Int) + ((geV l p 6 (clampN ((2 : Nat) : Int)) : Nat) : Int)))), (26, .int .u64 (IntKind.wrap .u64 (((0 : Nat) : Int) + ((geV l p 6 (clampN ((2 : Nat) : Int)) : Nat) : Int))))]) (fun φ73 => [(r, .cells #[.slice a l.length c, .int .i64 ((p + geD l p 6 (clampN ((2 : Nat) : Int)) : Nat) : Int), .int .i64 (geE l p 6 (clampN ((2 : Nat) : Int)))] 102)]) (fun φ73 => []) s trivial (fun φ73 => by kernel_rfl) ?_
   intro φ73 w73 s
   refine ops_done (by kernel_rfl) ?_
   refine wp_seq ?_
   refine seqR ?_
   refine ops_rule (C := []) _ [] 6 [.o 0] 0 (fun φ74 => [(32, .bool (((geE l p 6 (clampN ((2 : Nat) : Int)) : Nat) : Int) != ((0 : Nat) : Int))), (31, .bool (((geE l p 6 (clampN ((2 : Nat) : Int)) : Nat) : Int) != ((0 : Nat) : Int))), (30, .int .i64 (geE l p 6 (clampN ((2 : Nat) : Int)))), (29, .pointer (some ⟨r, 2, none⟩)), (28, pB r), (27, pB r)]) (fun φ74 => [(r, .cells #[.slice a l.length c, .int .i64 ((p + geD l p 6 (clampN ((2 : Nat) : Int)) : Nat) : Int), .int .i64 (geE l p 6 (clampN ((2 : Nat) : Int)))] 102)]) (fun φ74 => [r]) s trivial (fun φ74 => by kernel_rfl) ?_
   intro φ74 w74 s
   rw [nat_neq (a := (geE l p 6 (clampN ((2 : Nat) : Int)))) (b := 0)]
   rcases Bool.eq_false_or_eq_true (decide ((geE l p 6 (clampN ((2 : Nat) : Int))) ≠ 0)) with hc75 | hc75
   ·
    rw [hc75]
    refine ops_rule (C := []) _ [] 8 [] 0 (fun φ76 => [(40, .bool true), (39, undef), (38, undef), (37, undef), (36, .bool true), (35, .bool true), (34, undef), (33, undef)]) (fun φ76 => [(r, .cells #[.slice a l.length c, .int .i64 ((p + geD l p 6 (clampN ((2 : Nat) : Int)) : Nat) : Int), .int .i64 (geE l p 6 (clampN ((2 : Nat) : Int)))] 102)]) (fun φ76 => []) s trivial (fun φ76 => by kernel_rfl) ?_
    intro φ76 w76 s
    refine ops_done (by kernel_rfl) ?_
    refine cond_true_rule (b := true) (by kernel_rfl) rfl ?_
    refine seqR ?_
    refine ops_rule (C := []) _ [] 9 [.o 0, .o 0] 0 (fun φ77 => [(47, .pointer (some ⟨r, 2, none⟩)), (46, pB r), (45, .pointer (some ⟨r, 1, none⟩)), (44, pB r), (43, .int .i64 p), (42, pB r), (41, pB r)]) (fun φ77 => [(r, .cells #[.slice a l.length c, .int .i64 p, .int .i64 6] 102)]) (fun φ77 => [r, r]) s trivial (fun φ77 => by kernel_rfl) ?_
    intro φ77 w77 s
    refine ops_done (by kernel_rfl) ?_
    refine seqR ?_
    refine ops_rule (C := []) _ [] 1 [] 0 (fun φ78 => [(2, .int .u64 0)]) (fun φ78 => [(r, .cells #[.slice a l.length c, .int .i64 p, .int .i64 6] 102)]) (fun φ78 => []) s trivial (fun φ78 => by kernel_rfl) ?_
    intro φ78 w78 s
    refine ops_done (by kernel_rfl) ?_
    refine wp_ret ?_
    refine ret_rule (C := []) _ [] (.int .u64 0) [] [] s trivial (by kernel_rfl) ?_
    exact ⟨_, _, _, rfl, s, (by have h8 := num_out (j := 0) (OnesL.start hp) (of_decide_eq_false hc47); exact ⟨_, rfl, rfl, (by rw [h8.1]; rfl), (by rw [h8.2.1, h8.2.2]; rfl)⟩)⟩
   ·
    exact absurd (of_decide_eq_false hc75) (fun q => q (by rw [ge6]; decide))

end Go.Proofs.Ytgmigcmhnmmdkaa

/- The document's bytes. -/
set_option linter.all false
set_option maxRecDepth 100000
namespace Go.Proofs.Ytgmigcmhnmmdkaa
open Go.RowKit Go.Sep
attribute [local irreducible] Go.wpList Go.Code.wp

theorem rd_byte_lt {l : List UInt8} {p i : Nat} (h : i < 8) : rd l p i * 2 + 1 < 256 := by
  have h1 := rd_lt l p i
  have h2 : 2 ^ i ≤ 2 ^ 7 := Nat.pow_le_pow_right (by decide) (by omega)
  have h3 : (2 : Nat) ^ 7 = 128 := by decide
  omega
theorem nat_mulu8 {a b : Nat} (h : a * b < 256) : IntKind.wrap .u8 ((a : Int) * (b : Int)) = ((a * b : Nat) : Int) := by
  rw [show (a : Int) * (b : Int) = ((a * b : Nat) : Int) from rfl]; exact wrapN8 _ h
theorem bs_bit {bs : List Bool} {j : Nat} (h : ¬ j < bs.length) : bitB (pk bs) j = false := by rw [pk_bit]; simp [List.getD, show bs.length ≤ j by omega]
theorem rd_k8 {l : List UInt8} {p k : Nat} (h : k ≤ 8) : rd l p k < 256 := Nat.lt_of_lt_of_le (rd_lt l p k) (show 2 ^ k ≤ 2 ^ 8 from Nat.pow_le_pow_right (by decide) h)
set_option maxHeartbeats 4000000 in
theorem refBytes_r {I : IM} {bs : List Bool} {a : Option Addr} {m c : Nat} (hl : BoS I bs (.slice a m c)) (hn9 : bs.length ≤ 100000) : FunM Try.prog 15 #[.slice a m c] I [] (fun v J F => RowH 5 1 v (pk bs).length ((pk bs).map bV) F) := by
 obtain ⟨rfl, -⟩ := hl.cap
 refine enterM_rule 40 [(0, .slice a bs.length c)] Try.func15 rfl (by kernel_rfl) ?_
 intro w s
 refine seqR ?_
 refine ops_rule (C := []) [] [] 1 [] 0 (fun φ1 => [(2, .slice none 0 0)]) (fun φ1 => []) (fun φ1 => []) s trivial (fun φ1 => by kernel_rfl) ?_
 intro φ1 w1 s
 refine ops_done (by kernel_rfl) ?_
 refine seqR ?_
 refine ops_rule (C := []) [] [] 1 [] 0 (fun φ2 => [(3, .slice none 0 0)]) (fun φ2 => []) (fun φ2 => []) s trivial (fun φ2 => by kernel_rfl) ?_
 intro φ2 w2 s
 refine ops_done (by kernel_rfl) ?_
 refine wp_seq ?_
 refine seqR ?_
 refine ops_rule (C := []) [] [] 1 [] 0 (fun φ3 => [(4, .int .i64 0)]) (fun φ3 => []) (fun φ3 => []) s trivial (fun φ3 => by kernel_rfl) ?_
 intro φ3 w3 s
 refine ops_done (by kernel_rfl) ?_
 refine wp_block ?_
 have hle4 := IM.Le.refl I
 refine loop_rule (fun (x : Nat × Value × List OB) => [(0, .slice a bs.length c), (2, .slice none 0 0), (4, .int .i64 ((x.1 * 8 : Nat) : Int)), (3, x.2.1)]) (fun (x : Nat × Value × List OB) => [] ++ x.2.2) (fun m (x : Nat × Value × List OB) J => IM.Le I J ∧ bs.length ≤ x.1 * 8 + m ∧ x.1 * 8 ≤ bs.length + 7 ∧ RowH 5 1 x.2.1 ((pk bs).take x.1).length (((pk bs).take x.1).map bV) x.2.2) (bs.length) (0, (.slice none 0 0), []) s (by kernel_rfl) (List.Sublist.refl _) ⟨IM.Le.refl _, by omega, by omega, row_nilB⟩ ?_
 rintro m5 ⟨q5, v5, F5⟩ I5 w5 ev5 s ⟨le5, hi5_0, hi5_1, hi5_2⟩
 try dsimp only at s hi5_0 hi5_1 hi5_2 ⊢
 replace hl := BoS.mono le5 hl
 replace hle4 := leMono le5 hle4
 refine wp_seq ?_
 refine seqR ?_
 refine ops_rule (C := []) [] F5 4 [] 0 (fun φ6 => [(10, .bool (decide (((q5 * 8 : Nat) : Int) < ((bs.length : Nat) : Int)))), (9, .int .i64 bs.length), (8, .slice a bs.length c), (7, .int .i64 ((q5 * 8 : Nat) : Int))]) (fun φ6 => []) (fun φ6 => []) s trivial (fun φ6 => by kernel_rfl) ?_
 intro φ6 w6 s
 rw [nat_lss (a := (q5 * 8)) (b := bs.length)]
 refine ops_done (by kernel_rfl) ?_
 rcases Bool.eq_false_or_eq_true (decide ((q5 * 8) < bs.length)) with hc7 | hc7
 ·
  rw [hc7]
  refine cond_true_rule (b := true) (by kernel_rfl) rfl ?_
  refine wp_skip ?_
  refine wp_seq ?_
  refine wp_block ?_
  refine seqR ?_
  refine ops_rule (C := []) [] F5 1 [] 0 (fun φ8 => [(5, .int .u8 0)]) (fun φ8 => []) (fun φ8 => []) s trivial (fun φ8 => by kernel_rfl) ?_
  intro φ8 w8 s
  refine ops_done (by kernel_rfl) ?_
  refine wp_seq ?_
  refine seqR ?_
  refine ops_rule (C := []) [] F5 1 [] 0 (fun φ9 => [(6, .int .i64 0)]) (fun φ9 => []) (fun φ9 => []) s trivial (fun φ9 => by kernel_rfl) ?_
  intro φ9 w9 s
  refine ops_done (by kernel_rfl) ?_
  refine wp_block ?_
  have hle10 := IM.Le.refl I5
  refine loop_rule (fun (x : Nat) => [(0, .slice a bs.length c), (2, .slice none 0 0), (3, v5), (4, .int .i64 ((q5 * 8 : Nat) : Int)), (6, .int .i64 x), (5, .int .u8 (rd (pk bs) (q5 * 8) x))]) (fun (x : Nat) => [] ++ F5) (fun m (x : Nat) J => IM.Le I5 J ∧ x + m = 8) (8) 0 s (by kernel_rfl) (List.Sublist.refl _) ⟨IM.Le.refl _, rfl⟩ ?_
  rintro m11 k11 I11 w11 ev11 s ⟨le11, hi11_0⟩
  try dsimp only at s hi11_0 ⊢
  replace hl := BoS.mono le11 hl
  replace hle4 := leMono le11 hle4
  replace hle10 := leMono le11 hle10
  refine wp_seq ?_
  refine seqR ?_
  refine ops_rule (C := []) [] F5 2 [] 0 (fun φ12 => [(14, .bool (decide (((k11 : Nat) : Int) < ((8 : Nat) : Int)))), (13, .int .i64 k11)]) (fun φ12 => []) (fun φ12 => []) s trivial (fun φ12 => by kernel_rfl) ?_
  intro φ12 w12 s
  rw [nat_lss (a := k11) (b := 8)]
  refine ops_done (by kernel_rfl) ?_
  rcases Bool.eq_false_or_eq_true (decide (k11 < 8)) with hc13 | hc13
  ·
   rw [hc13]
   refine cond_true_rule (b := true) (by kernel_rfl) rfl ?_
   refine wp_skip ?_
   refine wp_seq ?_
   refine wp_block ?_
   refine seqR ?_
   refine ops_rule (C := []) [] F5 3 [] 0 (fun φ14 => [(5, .int .u8 (IntKind.wrap .u8 (((rd (pk bs) (q5 * 8) k11 : Nat) : Int) * ((2 : Nat) : Int)))), (18, .int .u8 (IntKind.wrap .u8 (((rd (pk bs) (q5 * 8) k11 : Nat) : Int) * ((2 : Nat) : Int)))), (17, .int .u8 (rd (pk bs) (q5 * 8) k11))]) (fun φ14 => []) (fun φ14 => []) s trivial (fun φ14 => by kernel_rfl) ?_
   intro φ14 w14 s
   rw [nat_mulu8 (a := (rd (pk bs) (q5 * 8) k11)) (b := 2) (by have h9 := rd_byte_lt (l := pk bs) (p := q5 * 8) (of_decide_eq_true hc13); omega)]
   refine ops_done (by kernel_rfl) ?_
   refine seqR ?_
   refine ops_rule (C := []) [] F5 7 [] 0 (fun φ15 => [(25, .bool (decide ((IntKind.wrap .i64 (((q5 * 8 : Nat) : Int) + ((k11 : Nat) : Int))) < ((bs.length : Nat) : Int)))), (24, .bool (decide ((IntKind.wrap .i64 (((q5 * 8 : Nat) : Int) + ((k11 : Nat) : Int))) < ((bs.length : Nat) : Int)))), (23, .int .i64 bs.length), (22, .slice a bs.length c), (21, .int .i64 (IntKind.wrap .i64 (((q5 * 8 : Nat) : Int) + ((k11 : Nat) : Int)))), (20, .int .i64 k11), (19, .int .i64 ((q5 * 8 : Nat) : Int))]) (fun φ15 => []) (fun φ15 => []) s trivial (fun φ15 => by kernel_rfl) ?_
   intro φ15 w15 s
   rw [nat_addI (a := (q5 * 8)) (b := k11) (by have hz1 := hi5_1; have hz2 := hi11_0; have hz3 := rd_k8 (l := pk bs) (p := q5 * 8) (k := k11) (by omega);  have hq0 := of_decide_eq_true hc7; have hq1 := of_decide_eq_true hc13; omega)]
   rw [nat_lss (a := ((q5 * 8) + k11)) (b := bs.length)]
   rcases Bool.eq_false_or_eq_true (decide (((q5 * 8) + k11) < bs.length)) with hc16 | hc16
   ·
    rw [hc16]
    refine ops_rule (C := []) [] F5 4 [] 0 (fun φ17 => [(29, .int .i64 (IntKind.wrap .i64 (((q5 * 8 : Nat) : Int) + ((k11 : Nat) : Int)))), (28, .int .i64 k11), (27, .int .i64 ((q5 * 8 : Nat) : Int)), (26, .slice a bs.length c)]) (fun φ17 => []) (fun φ17 => []) s trivial (fun φ17 => by kernel_rfl) ?_
    intro φ17 w17 s
    rw [nat_addI (a := (q5 * 8)) (b := k11) (by have hz1 := hi5_1; have hz2 := hi11_0; have hz3 := rd_k8 (l := pk bs) (p := q5 * 8) (k := k11) (by omega);  have hq0 := of_decide_eq_true hc7; have hq1 := of_decide_eq_true hc13; have hq2 := of_decide_eq_true hc16; omega)]
    refine sem_rule (Instr.indexAt 51 (.slice a bs.length c) (.int .i64 (((q5 * 8) + k11 : Nat) : Int))) (some 30) (.pointer (pAt a ((q5 * 8) + k11))) (by kernel_rfl) (bos_idx hl (by have hz1 := hi5_1; have hz2 := hi11_0; have hz3 := rd_k8 (l := pk bs) (p := q5 * 8) (k := k11) (by omega);  have hq0 := of_decide_eq_true hc7; have hq1 := of_decide_eq_true hc13; have hq2 := of_decide_eq_true hc16; omega)) ?_
    refine sem_rule (Instr.loadAt 4 (.pointer (pAt a ((q5 * 8) + k11)))) (some 31) (.bool (bs.getD ((q5 * 8) + k11) false)) (by kernel_rfl) (bos_ld s.sub hl (by have hz1 := hi5_1; have hz2 := hi11_0; have hz3 := rd_k8 (l := pk bs) (p := q5 * 8) (k := k11) (by omega);  have hq0 := of_decide_eq_true hc7; have hq1 := of_decide_eq_true hc13; have hq2 := of_decide_eq_true hc16; omega)) ?_
    refine ops_rule (C := []) [] F5 1 [] 0 (fun φ18 => [(32, .bool (bs.getD ((q5 * 8) + k11) false))]) (fun φ18 => []) (fun φ18 => []) s trivial (fun φ18 => by kernel_rfl) ?_
    intro φ18 w18 s
    refine ops_done (by kernel_rfl) ?_
    rcases Bool.eq_false_or_eq_true (bs.getD ((q5 * 8) + k11) false) with hc19 | hc19
    ·
     rw [hc19]
     refine cond_true_rule (b := true) (by kernel_rfl) rfl ?_
     refine region_rule ?_
     refine ops_rule (C := []) [] F5 3 [] 0 (fun φ20 => [(5, .int .u8 (IntKind.wrap .u8 ((((rd (pk bs) (q5 * 8) k11) * 2 : Nat) : Int) + ((1 : Nat) : Int)))), (34, .int .u8 (IntKind.wrap .u8 ((((rd (pk bs) (q5 * 8) k11) * 2 : Nat) : Int) + ((1 : Nat) : Int)))), (33, .int .u8 (((rd (pk bs) (q5 * 8) k11) * 2 : Nat) : Int))]) (fun φ20 => []) (fun φ20 => []) s trivial (fun φ20 => by kernel_rfl) ?_
     intro φ20 w20 s
     rw [nat_addu8 (a := ((rd (pk bs) (q5 * 8) k11) * 2)) (b := 1) (by have h9 := rd_byte_lt (l := pk bs) (p := q5 * 8) (of_decide_eq_true hc13); omega)]
     refine ops_done (by kernel_rfl) ?_
     refine region_rule ?_
     refine ops_rule (C := []) [] F5 3 [] 0 (fun φ21 => [(6, .int .i64 (IntKind.wrap .i64 (((k11 : Nat) : Int) + ((1 : Nat) : Int)))), (16, .int .i64 (IntKind.wrap .i64 (((k11 : Nat) : Int) + ((1 : Nat) : Int)))), (15, .int .i64 k11)]) (fun φ21 => []) (fun φ21 => []) s trivial (fun φ21 => by kernel_rfl) ?_
     intro φ21 w21 s
     rw [nat_addI (a := k11) (b := 1) (by have hz1 := hi5_1; have hz2 := hi11_0; have hz3 := rd_k8 (l := pk bs) (p := q5 * 8) (k := k11) (by omega);  have hq0 := of_decide_eq_true hc7; have hq1 := of_decide_eq_true hc13; have hq2 := of_decide_eq_true hc16; omega)]
     refine ops_done (by kernel_rfl) ?_
     have hq9 := of_decide_eq_true hc13
     rw [rd_dbl1 (l := pk bs) (p := q5 * 8) (i := k11) ((pk_bit bs (q5 * 8 + k11)).trans hc19)]
     exact ⟨⟨m11 - 1, k11 + 1, _, _, _, by omega, rfl, s, (List.Sublist.append List.Sublist.slnil (List.Sublist.refl _)), by kernel_rfl, hle10, by show k11 + 1 + (m11 - 1) = 8; omega⟩⟩
    ·
     rw [hc19]
     refine cond_false_rule (b := false) (by kernel_rfl) rfl ?_
     refine wp_skip ?_
     refine region_rule ?_
     refine ops_rule (C := []) [] F5 3 [] 0 (fun φ22 => [(6, .int .i64 (IntKind.wrap .i64 (((k11 : Nat) : Int) + ((1 : Nat) : Int)))), (16, .int .i64 (IntKind.wrap .i64 (((k11 : Nat) : Int) + ((1 : Nat) : Int)))), (15, .int .i64 k11)]) (fun φ22 => []) (fun φ22 => []) s trivial (fun φ22 => by kernel_rfl) ?_
     intro φ22 w22 s
     rw [nat_addI (a := k11) (b := 1) (by have hz1 := hi5_1; have hz2 := hi11_0; have hz3 := rd_k8 (l := pk bs) (p := q5 * 8) (k := k11) (by omega);  have hq0 := of_decide_eq_true hc7; have hq1 := of_decide_eq_true hc13; have hq2 := of_decide_eq_true hc16; omega)]
     refine ops_done (by kernel_rfl) ?_
     have hq9 := of_decide_eq_true hc13
     rw [rd_dbl (l := pk bs) (p := q5 * 8) (i := k11) ((pk_bit bs (q5 * 8 + k11)).trans hc19)]
     exact ⟨⟨m11 - 1, k11 + 1, _, _, _, by omega, rfl, s, (List.Sublist.append List.Sublist.slnil (List.Sublist.refl _)), by kernel_rfl, hle10, by show k11 + 1 + (m11 - 1) = 8; omega⟩⟩
   ·
    rw [hc16]
    refine ops_rule (C := []) [] F5 7 [] 0 (fun φ23 => [(32, .bool false), (31, undef), (30, undef), (29, undef), (28, undef), (27, undef), (26, undef)]) (fun φ23 => []) (fun φ23 => []) s trivial (fun φ23 => by kernel_rfl) ?_
    intro φ23 w23 s
    refine ops_done (by kernel_rfl) ?_
    refine cond_false_rule (b := false) (by kernel_rfl) rfl ?_
    refine wp_skip ?_
    refine region_rule ?_
    refine ops_rule (C := []) [] F5 3 [] 0 (fun φ24 => [(6, .int .i64 (IntKind.wrap .i64 (((k11 : Nat) : Int) + ((1 : Nat) : Int)))), (16, .int .i64 (IntKind.wrap .i64 (((k11 : Nat) : Int) + ((1 : Nat) : Int)))), (15, .int .i64 k11)]) (fun φ24 => []) (fun φ24 => []) s trivial (fun φ24 => by kernel_rfl) ?_
    intro φ24 w24 s
    rw [nat_addI (a := k11) (b := 1) (by have hz1 := hi5_1; have hz2 := hi11_0; have hz3 := rd_k8 (l := pk bs) (p := q5 * 8) (k := k11) (by omega);  have hq0 := of_decide_eq_true hc7; have hq1 := of_decide_eq_true hc13; have hq2 := of_decide_eq_false hc16; omega)]
    refine ops_done (by kernel_rfl) ?_
    have hq9 := of_decide_eq_true hc13
    rw [rd_dbl (l := pk bs) (p := q5 * 8) (i := k11) (bs_bit (of_decide_eq_false hc16))]
    exact ⟨⟨m11 - 1, k11 + 1, _, _, _, by omega, rfl, s, (List.Sublist.append List.Sublist.slnil (List.Sublist.refl _)), by kernel_rfl, hle10, by show k11 + 1 + (m11 - 1) = 8; omega⟩⟩
  ·
   rw [hc13]
   refine cond_false_rule (b := false) (by kernel_rfl) rfl ?_
   refine wp_exit ?_
   refine region_rule ?_
   refine ops_rule (C := []) [] F5 3 [] 1 (fun φ25 => [(37, .slice (some ⟨(φ25 0), 0, none⟩) 1 1), (36, .int .u8 (rd (pk bs) (q5 * 8) k11)), (35, v5)]) (fun φ25 => [(φ25 0, .cells #[.int .u8 (rd (pk bs) (q5 * 8) k11)] 5)]) (fun φ25 => []) s trivial (fun φ25 => by kernel_rfl) ?_
   intro φ25 w25 s
   refine append_rule (H := [(φ25 0, .cells #[.int .u8 (rd (pk bs) (q5 * 8) k11)] 5)]) (F := F5) 22 22 5 Try.t5 (.int .u8 0) 1 1 (some 38) s Try.underlying22 (by kernel_rfl) (by kernel_rfl) (by kernel_rfl) (by kernel_rfl) (by kernel_rfl) (by decide) hi5_2 (src_own (H := [(φ25 0, .cells #[.int .u8 (rd (pk bs) (q5 * 8) k11)] 5)]) s 0 (φ25 0) #[.int .u8 (rd (pk bs) (q5 * 8) k11)] 5 22 5 1 1 1 [.int .u8 (rd (pk bs) (q5 * 8) k11)] (by kernel_rfl) under34 (by kernel_rfl) (by kernel_rfl) (by kernel_rfl)) (by have h9 := List.length_take_le q5 (pk bs); have h8 := pk_len bs; (try simp only [maxLen, List.length_append, List.length_cons, List.length_nil]); omega) (by have h9 := List.length_take_le q5 (pk bs); have h8 := pk_len bs; (try simp only [maxLen, List.length_append, List.length_cons, List.length_nil]); omega) (by kernel_rfl) ?_
   intro v26 w26 F26 s h26
   replace h26 : RowH 5 1 v26 ((((pk bs).take q5) ++ ([UInt8.ofNat (rd (pk bs) (q5 * 8) k11)] : List UInt8)).length) ((((pk bs).take q5) ++ ([UInt8.ofNat (rd (pk bs) (q5 * 8) k11)] : List UInt8)).map bV) F26 := row_snoc (x := ((pk bs).take q5)) (y := ([UInt8.ofNat (rd (pk bs) (q5 * 8) k11)] : List UInt8)) h26 (by simp only [List.map_cons, List.map_nil]; exact cells_bytes1 (by have hz1 := hi5_1; have hz2 := hi11_0; have hz3 := rd_k8 (l := pk bs) (p := q5 * 8) (k := k11) (by omega);  have hq0 := of_decide_eq_true hc7; have hq1 := of_decide_eq_false hc13; omega))
   refine ops_rule (C := []) _ F26 1 [] 0 (fun φ27 => [(3, v26)]) (fun φ27 => [(φ25 0, .cells #[.int .u8 (rd (pk bs) (q5 * 8) k11)] 5)]) (fun φ27 => []) s trivial (fun φ27 => by kernel_rfl) ?_
   intro φ27 w27 s
   refine ops_done (by kernel_rfl) ?_
   refine region_rule ?_
   refine ops_rule (C := []) _ F26 3 [] 0 (fun φ28 => [(4, .int .i64 (IntKind.wrap .i64 (((q5 * 8 : Nat) : Int) + ((8 : Nat) : Int)))), (12, .int .i64 (IntKind.wrap .i64 (((q5 * 8 : Nat) : Int) + ((8 : Nat) : Int)))), (11, .int .i64 ((q5 * 8 : Nat) : Int))]) (fun φ28 => [(φ25 0, .cells #[.int .u8 (rd (pk bs) (q5 * 8) k11)] 5)]) (fun φ28 => []) s trivial (fun φ28 => by kernel_rfl) ?_
   intro φ28 w28 s
   rw [nat_addI (a := (q5 * 8)) (b := 8) (by have hz1 := hi5_1; have hz2 := hi11_0; have hz3 := rd_k8 (l := pk bs) (p := q5 * 8) (k := k11) (by omega);  have hq0 := of_decide_eq_true hc7; have hq1 := of_decide_eq_false hc13; omega)]
   refine ops_done (by kernel_rfl) ?_
   have hq9 := of_decide_eq_true hc7
   have hk9 := of_decide_eq_false hc13
   have hk8 := hi11_0
   have hpl9 := pk_len bs
   have e9 : ((pk bs).take q5) ++ ([UInt8.ofNat (rd (pk bs) (q5 * 8) k11)] : List UInt8) = ((pk bs).take (q5 + 1)) := (by rw [show k11 = 8 by omega]; exact take_snocU (by omega))
   have hr9 := h26
   rw [e9] at hr9
   rw [show q5 * 8 + 8 = (q5 + 1) * 8 by omega]
   exact ⟨⟨m5 - 1, (q5 + 1, v26, F26), _, _, _, by have h6 := hi5_0; omega, rfl, s, (List.Sublist.append (List.Sublist.cons _ List.Sublist.slnil) (List.Sublist.refl _)), by kernel_rfl, hle4, by have h6 := hi5_0; show bs.length ≤ (q5 + 1) * 8 + (m5 - 1); omega, by show (q5 + 1) * 8 ≤ bs.length + 7; omega, hr9⟩⟩
 ·
  rw [hc7]
  refine cond_false_rule (b := false) (by kernel_rfl) rfl ?_
  refine wp_exit ?_
  refine seqR ?_
  refine ops_rule (C := []) [] F5 2 [] 0 (fun φ29 => [(2, v5), (39, v5)]) (fun φ29 => []) (fun φ29 => []) s trivial (fun φ29 => by kernel_rfl) ?_
  intro φ29 w29 s
  refine ops_done (by kernel_rfl) ?_
  refine wp_ret ?_
  refine ret_rule (C := []) [] F5 (v5) [] [] s trivial (by kernel_rfl) ?_
  replace s := s.drop (List.sublist_append_right [] F5)
  exact ⟨_, _, _, rfl, s, (by have h9 := of_decide_eq_false hc7; have h8 := pk_len bs; have hr9 := hi5_2; rw [List.take_of_length_le (by omega)] at hr9; exact hr9)⟩

theorem refBytes_c {I : IM} {bs : List Bool} {a : Option Addr} {m c : Nat} (hl : BoS I bs (.slice a m c)) (hn9 : bs.length ≤ 100000) : Fun Try.prog 15 #[.slice a m c] I (fun v J => bsR (pk bs) v J) := fun_of_rowB (refBytes_r hl hn9)

end Go.Proofs.Ytgmigcmhnmmdkaa

/- The program's bytes, of nothing too. -/
set_option linter.all false
set_option maxRecDepth 100000
namespace Go.Proofs.Ytgmigcmhnmmdkaa
open Go.RowKit Go.Sep
attribute [local irreducible] Go.wpList Go.Code.wp

theorem bytes0_c {I : IM} {b cnt : Nat} : FunM Try.prog 27 #[.pointer (some ⟨b, 0, none⟩)] I [(b, .cells #[.slice none 0 0, .int .i64 ((cnt : Nat) : Int)] 91)] (fun v J H' => ∃ (b' : OB) (F' : List OB), H' = b' :: F' ∧ b'.1 = b ∧ ∃ (a : Option Addr) (c : Nat), v = .slice a 0 c ∧ b' = (b, .cells #[.slice none 0 0, .int .i64 ((cnt : Nat) : Int)] 91) ∧ RowH 5 1 (.slice none 0 0) 0 (([] : List UInt8).map bV) F' ∧ BSl J [] (.slice a 0 c)) := by
 refine enterM_rule 10 [(0, pB b)] Try.func27 rfl (by kernel_rfl) ?_
 intro w s
 refine seqR ?_
 refine ops_rule (C := []) [(b, .cells #[.slice none 0 0, .int .i64 cnt] 91)] [] 1 [] 0 (fun φ1 => [(2, .slice none 0 0)]) (fun φ1 => [(b, .cells #[.slice none 0 0, .int .i64 cnt] 91)]) (fun φ1 => []) s trivial (fun φ1 => by kernel_rfl) ?_
 intro φ1 w1 s
 refine ops_done (by kernel_rfl) ?_
 refine wp_seq ?_
 refine seqR ?_
 refine ops_rule (C := []) _ [] 2 [] 0 (fun φ2 => [(4, .bool false), (3, pB b)]) (fun φ2 => [(b, .cells #[.slice none 0 0, .int .i64 cnt] 91)]) (fun φ2 => []) s trivial (fun φ2 => by kernel_rfl) ?_
 intro φ2 w2 s
 refine ops_done (by kernel_rfl) ?_
 refine cond_false_rule (b := false) (by kernel_rfl) rfl ?_
 refine wp_skip ?_
 refine seqR ?_
 refine ops_rule (C := []) _ [] 4 [.o 0] 0 (fun φ3 => [(8, .slice none 0 0), (7, pB b), (6, pB b), (5, pB b)]) (fun φ3 => [(b, .cells #[.slice none 0 0, .int .i64 cnt] 91)]) (fun φ3 => [b]) s trivial (fun φ3 => by kernel_rfl) ?_
 intro φ3 w3 s
 refine call_rule (some 9) s (clone_none (n := 0) (c := 0)) (by kernel_rfl) ?_
 intro v4 I4 w4 le4 h4 s
 obtain rfl := h4
 refine ops_rule (C := []) _ [] 1 [] 0 (fun φ5 => [(2, .slice none 0 0)]) (fun φ5 => [(b, .cells #[.slice none 0 0, .int .i64 cnt] 91)]) (fun φ5 => []) s trivial (fun φ5 => by kernel_rfl) ?_
 intro φ5 w5 s
 refine ops_done (by kernel_rfl) ?_
 refine wp_ret ?_
 refine ret_rule (C := []) _ [] (.slice none 0 0) [] [] s trivial (by kernel_rfl) ?_
 replace s := s.drop (List.Sublist.append (List.Sublist.cons₂ _ List.Sublist.slnil) (List.Sublist.refl []))
 exact ⟨_, _, _, rfl, s, ⟨_, _, rfl, rfl, _, _, rfl, rfl, row_nilB, bsl_nil _⟩⟩

theorem bytes1_c {I : IM} {b cnt g cap : Nat} {cur : Array Value} (hr : RowH 5 1 (.slice (some ⟨g, 0, none⟩) 0 cap) 0 (([] : List UInt8).map bV) [(g, .cells cur 5)]) : FunM Try.prog 27 #[.pointer (some ⟨b, 0, none⟩)] I [(b, .cells #[.slice (some ⟨g, 0, none⟩) 0 cap, .int .i64 ((cnt : Nat) : Int)] 91), (g, .cells cur 5)] (fun v J H' => ∃ (b' : OB) (F' : List OB), H' = b' :: F' ∧ b'.1 = b ∧ ∃ (a : Option Addr) (c : Nat), v = .slice a 0 c ∧ b' = (b, .cells #[.slice (some ⟨g, 0, none⟩) 0 cap, .int .i64 ((cnt : Nat) : Int)] 91) ∧ RowH 5 1 (.slice (some ⟨g, 0, none⟩) 0 cap) 0 (([] : List UInt8).map bV) F' ∧ BSl J [] (.slice a 0 c)) := by
 refine enterM_rule 10 [(0, pB b)] Try.func27 rfl (by kernel_rfl) ?_
 intro w s
 refine seqR ?_
 refine ops_rule (C := []) [(b, .cells #[.slice (some ⟨g, 0, none⟩) 0 cap, .int .i64 cnt] 91), (g, .cells cur 5)] [] 1 [] 0 (fun φ1 => [(2, .slice none 0 0)]) (fun φ1 => [(b, .cells #[.slice (some ⟨g, 0, none⟩) 0 cap, .int .i64 cnt] 91), (g, .cells cur 5)]) (fun φ1 => []) s trivial (fun φ1 => by kernel_rfl) ?_
 intro φ1 w1 s
 refine ops_done (by kernel_rfl) ?_
 refine wp_seq ?_
 refine seqR ?_
 refine ops_rule (C := []) _ [] 2 [] 0 (fun φ2 => [(4, .bool false), (3, pB b)]) (fun φ2 => [(b, .cells #[.slice (some ⟨g, 0, none⟩) 0 cap, .int .i64 cnt] 91), (g, .cells cur 5)]) (fun φ2 => []) s trivial (fun φ2 => by kernel_rfl) ?_
 intro φ2 w2 s
 refine ops_done (by kernel_rfl) ?_
 refine cond_false_rule (b := false) (by kernel_rfl) rfl ?_
 refine wp_skip ?_
 refine seqR ?_
 refine ops_rule (C := []) _ [] 4 [.o 0] 0 (fun φ3 => [(8, .slice (some ⟨g, 0, none⟩) 0 cap), (7, pB b), (6, pB b), (5, pB b)]) (fun φ3 => [(b, .cells #[.slice (some ⟨g, 0, none⟩) 0 cap, .int .i64 cnt] 91), (g, .cells cur 5)]) (fun φ3 => [b]) s trivial (fun φ3 => by kernel_rfl) ?_
 intro φ3 w3 s
 have hle4 : IM.Le I (IM.add I g (.cells cur 5)) := IM.le_add (s.free (g, .cells cur 5) (by simp)) _
 refine callLF_rule (H := ([(b, .cells #[.slice (some ⟨g, 0, none⟩) 0 cap, .int .i64 cnt] 91), (g, .cells cur 5)] ++ [])) (R := fun v F' => RowH 5 1 v (([] : List UInt8)).length ((([] : List UInt8)).map bV) F') (some 9) s (IM.add I g (.cells cur 5)) hle4 (add_sub (by simp)) (clone_row (row_lend (I := I) hr) (by decide)) (by kernel_rfl) ?_
 intro v5 w5 F5 h5 s
 obtain ⟨I6, le6, hb6, s⟩ := freeze_row (H := [(b, .cells #[.slice (some ⟨g, 0, none⟩) 0 cap, .int .i64 ((cnt : Nat) : Int)] 91), (g, .cells cur 5)]) (F := F5) s h5
 obtain ⟨a6, c6, hv6, hc6, hb6⟩ := hb6.open
 subst hv6
 refine ops_rule (C := []) [(b, .cells #[.slice (some ⟨g, 0, none⟩) 0 cap, .int .i64 cnt] 91), (g, .cells cur 5)] [] 1 [] 0 (fun φ7 => [(2, .slice a6 ((([] : List UInt8)).length) c6)]) (fun φ7 => [(b, .cells #[.slice (some ⟨g, 0, none⟩) 0 cap, .int .i64 cnt] 91), (g, .cells cur 5)]) (fun φ7 => []) s trivial (fun φ7 => by kernel_rfl) ?_
 intro φ7 w7 s
 refine ops_done (by kernel_rfl) ?_
 refine wp_ret ?_
 refine ret_rule (C := []) _ [] (.slice a6 ((([] : List UInt8)).length) c6) [] [] s trivial (by kernel_rfl) ?_
 replace s := s.drop (List.Sublist.append (List.Sublist.cons₂ _ (List.Sublist.cons₂ _ List.Sublist.slnil)) (List.Sublist.refl []))
 exact ⟨_, _, _, rfl, s, ⟨_, _, rfl, rfl, _, _, rfl, rfl, hr, hb6⟩⟩

theorem bytesA_c {I : IM} {b cnt : Nat} {bs : List Bool} {v0 : Value} {F : List OB} (hl9 : bs.length ≤ 1000000) (h : RowH 5 1 v0 (pk bs).length ((pk bs).map bV) F) : FunM Try.prog 27 #[.pointer (some ⟨b, 0, none⟩)] I ((b, .cells #[v0, .int .i64 ((cnt : Nat) : Int)] 91) :: F) (fun v J H' => ∃ (b' : OB) (F' : List OB), H' = b' :: F' ∧ b'.1 = b ∧ ∃ (a : Option Addr) (c : Nat), v = .slice a (List.length (pk bs)) c ∧ b' = (b, .cells #[v0, .int .i64 ((cnt : Nat) : Int)] 91) ∧ RowH 5 1 v0 (pk bs).length ((pk bs).map bV) F' ∧ BSl J (pk bs) (.slice a (List.length (pk bs)) c)) := by
  by_cases hp : 0 < bs.length
  · exact bytes_c hp hl9 h
  · have : bs = [] := List.length_eq_zero_iff.1 (by omega)
    subst this
    have h' : RowH 5 1 v0 0 (([] : List UInt8).map bV) F := h
    rcases h'.2 with ⟨rfl, _, rfl⟩ | ⟨g, cap, cur, rfl, rfl, _⟩
    · exact bytes0_c
    · exact bytes1_c h'

end Go.Proofs.Ytgmigcmhnmmdkaa

