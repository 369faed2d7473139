/- Bits are read. -/
import Derived.Test.YtgmigcmhnmmdkaaDoorCdM13
import Derived.Laws.BytesString
import Derived.Laws.Cells
import Derived.Scope
import Derived.Test.YtgmigcmhnmmdkaaDoorCdS13
import Derived.Test.YtgmigcmhnmmdkaaDoorCdS11
import Derived.OrdersHeld
set_option linter.all false
set_option maxRecDepth 100000
namespace Go.Proofs.YtgmigcmhnmmdkaaDoor
open Go.RowKit Go.Sep
attribute [local irreducible] Go.wpList Go.Code.wp

theorem err_c {I : IM} {r e : Nat} {v0 v1 : Value} : FunM Tryd.prog 47 #[.pointer (some ⟨r, 0, none⟩)] I [(r, .cells #[v0, v1, .int .i64 ((e : Nat) : Int)] 74)] (fun v J H' => ∃ b' : OB, H' = [b'] ∧ b'.1 = r ∧ v = .int .i64 ((e : Nat) : Int) ∧ b' = (r, .cells #[v0, v1, .int .i64 ((e : Nat) : Int)] 74)) := by
 refine enterM_rule 9 [(0, pB r)] Tryd.func47 rfl (by kernel_rfl) ?_
 intro w s
 refine seqR ?_
 refine oKD [(r, .cells #[v0, v1, .int .i64 e] 74)] [] 1 [] 0 (fun φ1 => [(2, .int .i64 0)]) (fun φ1 => []) s (fun φ1 => by kernel_rfl) (by kernel_rfl) ?_
 intro φ1 w1 s
 refine wp_seq ?_
 refine seqR ?_
 refine oKD _ [] 2 [] 0 (fun φ2 => [(4, .bool false), (3, pB r)]) (fun φ2 => []) s (fun φ2 => by kernel_rfl) (by kernel_rfl) ?_
 intro φ2 w2 s
 refine cond_false_rule (b := false) (by kernel_rfl) rfl ?_
 refine wp_skip ?_
 refine seqR ?_
 refine oKD _ [] 5 [.o 0] 0 (fun φ3 => [(2, .int .i64 e), (8, .int .i64 e), (7, .pointer (some ⟨r, 2, none⟩)), (6, pB r), (5, pB r)]) (fun φ3 => [r]) s (fun φ3 => by kernel_rfl) (by kernel_rfl) ?_
 intro φ3 w3 s
 refine wp_ret ?_
 refine ret_rule (C := []) _ [] (.int .i64 e) [] [] s trivial (by kernel_rfl) ?_
 exact ⟨_, _, _, rfl, s, ⟨_, rfl, rfl, rfl, rfl⟩⟩

set_option maxHeartbeats 1000000 in
theorem left_c {I : IM} {l : List UInt8} {a : Option Addr} {n c : Nat} (hl : BSl I l (.slice a n c)) (hn9 : l.length ≤ 1000000) {r p : Nat} {e : Nat} (hp : p ≤ l.length * 8) : FunM Tryd.prog 48 #[.pointer (some ⟨r, 0, none⟩)] I [(r, .cells #[.slice a n c, .int .i64 ((p : Nat) : Int), .int .i64 ((e : Nat) : Int)] 74)] (fun v J H' => ∃ b' : OB, H' = [b'] ∧ b'.1 = r ∧ v = .int .i64 ((l.length * 8 - p : Nat) : Int) ∧ b' = (r, .cells #[.slice a n c, .int .i64 ((p : Nat) : Int), .int .i64 ((e : Nat) : Int)] 74)) := by
 obtain ⟨rfl, -⟩ := hl.cap
 refine enterM_rule 16 [(0, pB r)] Tryd.func48 rfl (by kernel_rfl) ?_
 intro w s
 refine seqR ?_
 refine oKD [(r, .cells #[.slice a l.length c, .int .i64 p, .int .i64 e] 74)] [] 1 [] 0 (fun φ1 => [(2, .int .i64 0)]) (fun φ1 => []) s (fun φ1 => by kernel_rfl) (by kernel_rfl) ?_
 intro φ1 w1 s
 refine wp_seq ?_
 refine seqR ?_
 refine oKD _ [] 2 [] 0 (fun φ2 => [(4, .bool false), (3, pB r)]) (fun φ2 => []) s (fun φ2 => by kernel_rfl) (by kernel_rfl) ?_
 intro φ2 w2 s
 refine cond_false_rule (b := false) (by kernel_rfl) rfl ?_
 refine wp_skip ?_
 refine wp_seq ?_
 refine draw_rule (C := []) ⟨(fun φ3 xs3 => [.look 0 [] [], .look 0 [] [], .look 0 [] [], .look 0 [.o 0] [r], .look 0 [] [], .sub 0 [] [] (.int .i64 (IntKind.wrap .i64 (((l.length : Nat) : Int) * ((8 : Nat) : Int)))), .look 0 [] [], .look 0 [] [], .look 0 [] [], .look 0 [.o 0] [r], .sub 0 [] [] (.int .i64 (IntKind.wrap .i64 (((l.length * 8 : Nat) : Int) - ((p : Nat) : Int)))), .look 0 [] []]), (fun φ3 xs3 => [pB r, pB r, pB r, .slice a l.length c, .int .i64 l.length, .int .i64 ((l.length * 8 : Nat) : Int), pB r, pB r, .pointer (some ⟨r, 1, none⟩), .int .i64 p, .int .i64 (((l.length * 8) - p : Nat) : Int), .int .i64 (((l.length * 8) - p : Nat) : Int)]), (fun φ3 xs3 => [[(r, .cells #[.slice a l.length c, .int .i64 p, .int .i64 e] 74)]]), (fun φ3 xs3 => [[default, default, default, default, default, default, default, default, default, default, default, default]]), [], [1, 1, 1, 1, 1, 5, 1, 1, 1, 1, 5, 1]⟩ (fun j => ([MP.any] : List MP).getD j MP.any) [] [5, 10] [] (fun φ3 xs3 => []) (fun φ3 xs3 => [(5, pB r), (6, pB r), (7, pB r), (8, .slice a l.length c), (9, .int .i64 l.length), (10, .int .i64 ((l.length * 8 : Nat) : Int)), (11, pB r), (12, pB r), (13, .pointer (some ⟨r, 1, none⟩)), (14, .int .i64 p), (15, .int .i64 (((l.length * 8) - p : Nat) : Int)), (2, .int .i64 (((l.length * 8) - p : Nat) : Int))]) (fun φ3 xs3 => [(r, .cells #[.slice a l.length c, .int .i64 p, .int .i64 e] 74)]) s trivial (by kernel_rfl) (by kernel_rfl) (fun _ _ => by kernel_rfl) (fun _ _ => by kernel_rfl) ⟨fun _ _ => by kernel_rfl, fun _ _ => by kernel_rfl, fun _ _ => by kernel_rfl, fun _ _ => by kernel_rfl⟩ (fun _ _ _ => by kernel_rfl) (fun _ _ => by kernel_rfl) (fun _ _ => by kernel_rfl) (fun _ _ => by kernel_rfl) (fun _ _ => by kernel_rfl) (fun _ _ => by kernel_rfl) ⟨kcast (A := ∀ (φ3 : Nat → Nat) (xs3 : Xs), (.int .i64 (IntKind.wrap .i64 (((l.length : Nat) : Int) * ((8 : Nat) : Int))) : Value) = .int .i64 ((l.length * 8 : Nat) : Int)) (by kernel_rfl) (fun φ3 xs3 => congrArg (Value.int .i64) ((nat_mulI (a := l.length) (b := 8) (by   (try simp only [List.length_drop, List.length_take, List.length_append, List.length_cons, List.length_nil]); omega)))), ⟨kcast (A := ∀ (φ3 : Nat → Nat) (xs3 : Xs), (.int .i64 (IntKind.wrap .i64 (((l.length * 8 : Nat) : Int) - ((p : Nat) : Int))) : Value) = .int .i64 (((l.length * 8) - p : Nat) : Int)) (by kernel_rfl) (fun φ3 xs3 => congrArg (Value.int .i64) ((nat_subI (a := (l.length * 8)) (b := p) (by   (try simp only [List.length_drop, List.length_take, List.length_append, List.length_cons, List.length_nil]); omega) (by   (try simp only [List.length_drop, List.length_take, List.length_append, List.length_cons, List.length_nil]); omega)))), trivial⟩⟩ trivial (by kernel_rfl) trivial ?k3
 case k3 =>
  rintro φ3 xs3 I3 w3 le3 s 
  refine wp_ret ?_
  refine ret_rule (C := []) [(r, .cells #[.slice a l.length c, .int .i64 p, .int .i64 e] 74)] [] (.int .i64 (((l.length * 8) - p : Nat) : Int)) [] [] s trivial (by kernel_rfl) ?_
  exact ⟨_, _, _, rfl, s, ⟨_, rfl, rfl, rfl, rfl⟩⟩

set_option maxHeartbeats 1000000 in
theorem bit_c {I : IM} {l : List UInt8} {a : Option Addr} {n c : Nat} (hl : BSl I l (.slice a n c)) (hn9 : l.length ≤ 1000000) {r p : Nat} {e j : Nat} (hj : j < l.length * 8) : FunM Tryd.prog 49 #[.pointer (some ⟨r, 0, none⟩), .int .i64 ((j : Nat) : Int)] I [(r, .cells #[.slice a n c, .int .i64 ((p : Nat) : Int), .int .i64 ((e : Nat) : Int)] 74)] (fun v J H' => ∃ b' : OB, H' = [b'] ∧ b'.1 = r ∧ v = .int .u64 (((bitB l j).toNat : Nat) : Int) ∧ b' = (r, .cells #[.slice a n c, .int .i64 ((p : Nat) : Int), .int .i64 ((e : Nat) : Int)] 74)) := by
 obtain ⟨rfl, -⟩ := hl.cap
 refine enterM_rule 18 [(0, pB r), (1, .int .i64 j)] Tryd.func49 rfl (by kernel_rfl) ?_
 intro w s
 refine seqR ?_
 refine oKD [(r, .cells #[.slice a l.length c, .int .i64 p, .int .i64 e] 74)] [] 1 [] 0 (fun φ1 => [(4, .int .u64 0)]) (fun φ1 => []) s (fun φ1 => by kernel_rfl) (by kernel_rfl) ?_
 intro φ1 w1 s
 refine wp_seq ?_
 refine draw_rule (C := []) ⟨(fun φ2 xs2 => [.look 0 [] [], .look 0 [] [], .look 0 [] [], .look 0 [.o 0] [r], .look 0 [] [], .sub 0 [] [] (.int .i64 (IntKind.wrap .i64 (Int.tdiv ((j : Nat) : Int) ((8 : Nat) : Int)))), .ran (Instr.indexAt 22 (.slice a l.length c) (.int .i64 ((j / 8 : Nat) : Int))), .ran (Instr.loadAt 5 (.pointer (pAt a (j / 8)))), .sub 0 [] [] (.int .u64 (IntKind.wrap .u64 (((l.getD (j / 8) 0).toNat : Nat) : Int))), .look 0 [] [], .call 81 #[.int .i64 j], .ran (binOp .shr 41 (.int .u64 (((l.getD (j / 8) 0).toNat : Nat) : Int)) (.int .i64 ((7 - j % 8 : Nat) : Int))), .ran (binOp .and 41 (.int .u64 ((((l.getD (j / 8) 0).toNat) / 2 ^ (7 - j % 8) : Nat) : Int)) (.int .u64 ((1 : Nat) : Int))), .look 0 [] []]), (fun φ2 xs2 => [pB r, pB r, pB r, .slice a l.length c, .int .i64 j, .int .i64 ((j / 8 : Nat) : Int), .pointer (pAt a (j / 8)), .int .u8 (((l.getD (j / 8) 0).toNat : Nat) : Int), .int .u64 (((l.getD (j / 8) 0).toNat : Nat) : Int), .int .i64 j, .int .i64 ((7 - j % 8 : Nat) : Int), .int .u64 ((((l.getD (j / 8) 0).toNat) / 2 ^ (7 - j % 8) : Nat) : Int), .int .u64 ((band 64 (((l.getD (j / 8) 0).toNat) / 2 ^ (7 - j % 8)) 1 : Nat) : Int), .int .u64 ((band 64 (((l.getD (j / 8) 0).toNat) / 2 ^ (7 - j % 8)) 1 : Nat) : Int)]), (fun φ2 xs2 => [[(r, .cells #[.slice a l.length c, .int .i64 p, .int .i64 e] 74)]]), (fun φ2 xs2 => [[default, default, default, default, default, default, default, default, default, default, default, default, default, default]]), [], [1, 1, 1, 1, 1, 5, 6, 6, 5, 1, 3, 6, 6, 1]⟩ (fun j => ([MP.any] : List MP).getD j MP.any) [10] [5, 8] [6, 7, 11, 12] (fun φ2 xs2 => []) (fun φ2 xs2 => [(5, pB r), (6, pB r), (7, pB r), (8, .slice a l.length c), (9, .int .i64 j), (10, .int .i64 ((j / 8 : Nat) : Int)), (11, .pointer (pAt a (j / 8))), (12, .int .u8 (((l.getD (j / 8) 0).toNat : Nat) : Int)), (13, .int .u64 (((l.getD (j / 8) 0).toNat : Nat) : Int)), (14, .int .i64 j), (15, .int .i64 ((7 - j % 8 : Nat) : Int)), (16, .int .u64 ((((l.getD (j / 8) 0).toNat) / 2 ^ (7 - j % 8) : Nat) : Int)), (17, .int .u64 ((band 64 (((l.getD (j / 8) 0).toNat) / 2 ^ (7 - j % 8)) 1 : Nat) : Int)), (4, .int .u64 ((band 64 (((l.getD (j / 8) 0).toNat) / 2 ^ (7 - j % 8)) 1 : Nat) : Int))]) (fun φ2 xs2 => [(r, .cells #[.slice a l.length c, .int .i64 p, .int .i64 e] 74)]) s trivial (by kernel_rfl) (by kernel_rfl) (fun _ _ => by kernel_rfl) (fun _ _ => by kernel_rfl) ⟨fun _ _ => by kernel_rfl, fun _ _ => by kernel_rfl, fun _ _ => by kernel_rfl, fun _ _ => by kernel_rfl⟩ (fun _ _ _ => by kernel_rfl) (fun _ _ => by kernel_rfl) (fun _ _ => by kernel_rfl) (fun _ _ => by kernel_rfl) (fun _ _ => by kernel_rfl) (fun _ _ => by kernel_rfl) ⟨kcast (A := ∀ (φ2 : Nat → Nat) (xs2 : Xs), (.int .i64 (IntKind.wrap .i64 (Int.tdiv ((j : Nat) : Int) ((8 : Nat) : Int))) : Value) = .int .i64 ((j / 8 : Nat) : Int)) (by kernel_rfl) (fun φ2 xs2 => congrArg (Value.int .i64) ((nat_quoI (a := j) (b := 8) (by   omega)))), ⟨kcast (A := ∀ (φ2 : Nat → Nat) (xs2 : Xs), (.int .u64 (IntKind.wrap .u64 (((l.getD (j / 8) 0).toNat : Nat) : Int)) : Value) = .int .u64 (((l.getD (j / 8) 0).toNat : Nat) : Int)) (by kernel_rfl) (fun φ2 xs2 => congrArg (Value.int .u64) ((nat_wrapU (a := ((l.getD (j / 8) 0).toNat)) (by  have := byte_lt (l.getD (j / 8) 0);  omega)))), trivial⟩⟩ ⟨kcast (A := ∀ (φ2 : Nat → Nat) (xs2 : Xs) (J : IM) (w : World), I.Le J → J.Sub w → ((Instr.indexAt 22 (.slice a l.length c) (.int .i64 ((j / 8 : Nat) : Int))) : Sem Value).run Tryd.prog w = .ok (.pointer (pAt a (j / 8))) w) (by kernel_rfl) (fun φ2 xs2 J w hJ hS => bsl_idx (BSl.mono hJ hl) (by   omega)), ⟨kcast (A := ∀ (φ2 : Nat → Nat) (xs2 : Xs) (J : IM) (w : World), I.Le J → J.Sub w → ((Instr.loadAt 5 (.pointer (pAt a (j / 8)))) : Sem Value).run Tryd.prog w = .ok (.int .u8 (((l.getD (j / 8) 0).toNat : Nat) : Int)) w) (by kernel_rfl) (fun φ2 xs2 J w hJ hS => bsl_ld hS (BSl.mono hJ hl) (by   omega)), ⟨kcast (A := ∀ (φ2 : Nat → Nat) (xs2 : Xs) (J : IM) (w : World), I.Le J → J.Sub w → ((binOp .shr 41 (.int .u64 (((l.getD (j / 8) 0).toNat : Nat) : Int)) (.int .i64 ((7 - j % 8 : Nat) : Int))) : Sem Value).run Tryd.prog w = .ok (.int .u64 ((((l.getD (j / 8) 0).toNat) / 2 ^ (7 - j % 8) : Nat) : Int)) w) (by kernel_rfl) (fun φ2 xs2 J w hJ hS => run_shrU (by show _ < 18446744073709551616;  have := byte_lt (l.getD (j / 8) 0);  omega)), ⟨kcast (A := ∀ (φ2 : Nat → Nat) (xs2 : Xs) (J : IM) (w : World), I.Le J → J.Sub w → ((binOp .and 41 (.int .u64 ((((l.getD (j / 8) 0).toNat) / 2 ^ (7 - j % 8) : Nat) : Int)) (.int .u64 ((1 : Nat) : Int))) : Sem Value).run Tryd.prog w = .ok (.int .u64 ((band 64 (((l.getD (j / 8) 0).toNat) / 2 ^ (7 - j % 8)) 1 : Nat) : Int)) w) (by kernel_rfl) (fun φ2 xs2 J w hJ hS => run_bit64.2.1), trivial⟩⟩⟩⟩ (by kernel_rfl) ⟨?c2_10, trivial⟩ ?k2
 case c2_10 =>
  refine kcast (A := ∀ (φ2 : Nat → Nat) (xs2 : Xs) (J10_2 : IM), I.Le J10_2 → Fun Tryd.prog 81 #[.int .i64 j] J10_2 (fun v J' => ∃ x : UX, v = .int .i64 ((7 - j % 8 : Nat) : Int) ∧ (True))) (by kernel_rfl) ?_
  intro φ2 xs2 J10_2 leJ
  exact Fun.mono (shift_c (n := j)) (fun v J' _ h => ⟨UX.d, h, trivial⟩)
 case k2 =>
  rintro φ2 xs2 I2 w2 le2 s _
  refine wp_ret ?_
  refine ret_rule (C := []) [(r, .cells #[.slice a l.length c, .int .i64 p, .int .i64 e] 74)] [] (.int .u64 ((band 64 (((l.getD (j / 8) 0).toNat) / 2 ^ (7 - j % 8)) 1 : Nat) : Int)) [] [] s trivial (by kernel_rfl) ?_
  exact ⟨_, _, _, rfl, s, ⟨_, rfl, rfl, by rw [band64_one (Nat.lt_of_le_of_lt (Nat.div_le_self _ _) (by have := byte_lt (l.getD (j / 8) 0); omega)), bit_read], rfl⟩⟩

theorem rd_63 {l : List UInt8} {a i k : Nat} (h : i < k) (hk : k ≤ 64) : rd l a i < 9223372036854775808 :=
  Nat.lt_of_lt_of_le (rd_lt l a i) (show 2 ^ i ≤ 2 ^ 63 from Nat.pow_le_pow_right (by decide) (by omega))
theorem bit2 (l : List UInt8) (j : Nat) : (bitB l j).toNat < 2 := by have := Bool.toNat_le (bitB l j); omega

set_option maxHeartbeats 2000000 in
theorem get_c {I : IM} {l : List UInt8} {a : Option Addr} {n c : Nat} (hl : BSl I l (.slice a n c)) (hn9 : l.length ≤ 1000000) {r p : Nat} {k : Nat} (hk : k ≤ 64) (hp : p + k ≤ l.length * 8) : FunM Tryd.prog 16 #[.pointer (some ⟨r, 0, none⟩), .int .i64 ((k : Nat) : Int)] I [(r, .cells #[.slice a n c, .int .i64 ((p : Nat) : Int), .int .i64 0] 74)] (fun v J H' => ∃ b' : OB, H' = [b'] ∧ b'.1 = r ∧ v = .int .u64 ((rd l p k : Nat) : Int) ∧ b' = (r, .cells #[.slice a n c, .int .i64 ((p + k : Nat) : Int), .int .i64 0] 74)) := by
 obtain ⟨rfl, -⟩ := hl.cap
 refine enterM_rule 44 [(0, pB r), (1, .int .i64 k)] Tryd.func16 rfl (by kernel_rfl) ?_
 intro w s
 refine seqR ?_
 refine oKD [(r, .cells #[.slice a l.length c, .int .i64 p, .int .i64 0] 74)] [] 1 [] 0 (fun φ1 => [(4, .int .u64 0)]) (fun φ1 => []) s (fun φ1 => by kernel_rfl) (by kernel_rfl) ?_
 intro φ1 w1 s
 refine seqR ?_
 refine oK _ [] 1 [] 0 (fun φ2 => [(7, .int .i64 k)]) (fun φ2 => []) s (fun φ2 => by kernel_rfl) ?_
 intro φ2 w2 s
 refine call_rule (some 8) s (held_c (k := k) (by   omega)) (by kernel_rfl) ?_
 intro v3 I3 w3 le3 h3 s
 replace hl := BSl.mono le3 hl
 obtain rfl := h3
 refine oKD _ [] 1 [] 0 (fun φ4 => [(1, .int .i64 k)]) (fun φ4 => []) s (fun φ4 => by kernel_rfl) (by kernel_rfl) ?_
 intro φ4 w4 s
 refine wp_seq ?_
 refine seqR ?_
 refine oK _ [] 1 [] 0 (fun φ5 => [(9, pB r)]) (fun φ5 => []) s (fun φ5 => by kernel_rfl) ?_
 intro φ5 w5 s
 refine callB_rule (b := (r, .cells #[.slice a l.length c, .int .i64 p, .int .i64 0] 74)) (F := []) (Hr := []) (some 10) 0 s (by kernel_rfl) (by kernel_rfl) (err_c (r := r) (v0 := .slice a l.length c) (v1 := .int .i64 p) (e := 0)) (by kernel_rfl) ?_
 rintro v6 I6 w6 b6 le6 - h6 s
 replace hl := BSl.mono le6 hl
 obtain ⟨rfl, rfl⟩ := h6
 refine oKD _ [] 1 [] 0 (fun φ7 => [(11, .bool false)]) (fun φ7 => []) s (fun φ7 => by kernel_rfl) (by kernel_rfl) ?_
 intro φ7 w7 s
 refine cond_false_rule (b := false) (by kernel_rfl) rfl ?_
 refine wp_skip ?_
 refine wp_seq ?_
 refine seqR ?_
 refine oK _ [] 2 [] 0 (fun φ8 => [(13, pB r), (12, .int .i64 k)]) (fun φ8 => []) s (fun φ8 => by kernel_rfl) ?_
 intro φ8 w8 s
 refine callB_rule (b := (r, .cells #[.slice a l.length c, .int .i64 p, .int .i64 0] 74)) (F := []) (Hr := []) (some 14) 0 s (by kernel_rfl) (by kernel_rfl) (left_c (e := 0) (r := r) (p := p) hl (hn9) (by omega)) (by kernel_rfl) ?_
 rintro v9 I9 w9 b9 le9 - h9 s
 replace hl := BSl.mono le9 hl
 obtain ⟨rfl, rfl⟩ := h9
 refine oK _ [] 1 [] 0 (fun φ10 => [(15, .bool (decide (((k : Nat) : Int) > ((l.length * 8 - p : Nat) : Int))))]) (fun φ10 => []) s (fun φ10 => by kernel_rfl) ?_
 intro φ10 w10 s
 rw [nat_gtr (a := k) (b := (l.length * 8 - p))]
 refine ops_done (by kernel_rfl) ?_
 rcases Bool.eq_false_or_eq_true (decide ((l.length * 8 - p) < k)) with hc11 | hc11
 ·
  exact absurd (of_decide_eq_true hc11) (by omega)
 ·
  rw [hc11]
  refine cond_false_rule (b := false) (by kernel_rfl) rfl ?_
  refine wp_skip ?_
  refine seqR ?_
  refine oKD _ [] 1 [] 0 (fun φ12 => [(5, .int .u64 0)]) (fun φ12 => []) s (fun φ12 => by kernel_rfl) (by kernel_rfl) ?_
  intro φ12 w12 s
  refine wp_seq ?_
  refine seqR ?_
  refine oKD _ [] 2 [] 0 (fun φ13 => [(20, .int .i64 0), (19, .int .i64 k)]) (fun φ13 => []) s (fun φ13 => by kernel_rfl) (by kernel_rfl) ?_
  intro φ13 w13 s
  refine wp_block ?_
  have hle14 := IM.Le.refl I9
  refine loop_rule (fun (x : Nat) => [(0, pB r), (1, .int .i64 k), (19, .int .i64 k), (5, .int .u64 (rd l p x)), (20, .int .i64 x)]) (fun (x : Nat) => [(r, .cells #[.slice a l.length c, .int .i64 p, .int .i64 0] 74)]) (fun m (x : Nat) J => IM.Le I9 J ∧ x + m = k) (k) 0 s (by kernel_rfl) (List.Sublist.cons₂ _ List.Sublist.slnil) ⟨IM.Le.refl _, Nat.zero_add _⟩ ?_
  rintro m15 i15 I15 w15 ev15 s ⟨le15, hi15_0⟩
  try dsimp only at s hi15_0 ⊢
  replace hl := BSl.mono le15 hl
  replace hle14 := leMono le15 hle14
  refine seqR ?_
  refine oK [(r, .cells #[.slice a l.length c, .int .i64 p, .int .i64 0] 74)] [] 1 [] 0 (fun φ16 => [(21, .bool (decide (((i15 : Nat) : Int) < ((k : Nat) : Int))))]) (fun φ16 => []) s (fun φ16 => by kernel_rfl) ?_
  intro φ16 w16 s
  rw [nat_lss (a := i15) (b := k)]
  refine ops_done (by kernel_rfl) ?_
  refine wp_seq ?_
  rcases Bool.eq_false_or_eq_true (decide (i15 < k)) with hc17 | hc17
  ·
   rw [hc17]
   refine cond_true_rule (b := true) (by kernel_rfl) rfl ?_
   refine wp_skip ?_
   refine wp_seq ?_
   refine wp_block ?_
   refine seqR ?_
   refine oKD _ [] 2 [] 0 (fun φ18 => [(6, .int .i64 i15), (22, .int .i64 i15)]) (fun φ18 => []) s (fun φ18 => by kernel_rfl) (by kernel_rfl) ?_
   intro φ18 w18 s
   refine region_rule ?_
   refine oK _ [] 1 [] 0 (fun φ19 => [(23, .int .u64 (rd l p i15))]) (fun φ19 => []) s (fun φ19 => by kernel_rfl) ?_
   intro φ19 w19 s
   refine sem_rule (binOp .shl 41 (.int .u64 (rd l p i15)) (.int .u64 ((1 : Nat) : Int))) (some 24) (.int .u64 (bshl 64 (rd l p i15) 1)) (by kernel_rfl) (run_shlU (.inr (.inr (.inl rfl)))) ?_
   refine oK _ [] 7 [.o 0] 0 (fun φ20 => [(31, .int .i64 (IntKind.wrap .i64 (((p : Nat) : Int) + ((i15 : Nat) : Int)))), (30, .int .i64 i15), (29, .int .i64 p), (28, .pointer (some ⟨r, 1, none⟩)), (27, pB r), (26, pB r), (25, pB r)]) (fun φ20 => [r]) s (fun φ20 => by kernel_rfl) ?_
   intro φ20 w20 s
   rw [nat_addI (a := p) (b := i15) (by  have hq0 := of_decide_eq_false hc11; have hq1 := of_decide_eq_true hc17; omega)]
   refine callB_rule (b := (r, .cells #[.slice a l.length c, .int .i64 p, .int .i64 0] 74)) (F := []) (Hr := []) (some 32) 0 s (by kernel_rfl) (by kernel_rfl) (bit_c (e := 0) (r := r) (p := p) hl (hn9) (j := p + i15) (by have hq0 := of_decide_eq_false hc11; have hq1 := of_decide_eq_true hc17; omega)) (by kernel_rfl) ?_
   rintro v21 I21 w21 b21 le21 - h21 s
   replace hle14 := leMono le21 hle14
   obtain ⟨rfl, rfl⟩ := h21
   refine sem_rule (binOp .or 41 (.int .u64 (bshl 64 (rd l p i15) 1)) (.int .u64 (((bitB l (p + i15)).toNat : Nat) : Int))) (some 33) (.int .u64 (bor 64 (bshl 64 (rd l p i15) 1) ((bitB l (p + i15)).toNat))) (by kernel_rfl) (run_bit64.2.2.1) ?_
   refine oKD _ [] 1 [] 0 (fun φ22 => [(5, .int .u64 (bor 64 (bshl 64 (rd l p i15) 1) ((bitB l (p + i15)).toNat)))]) (fun φ22 => []) s (fun φ22 => by kernel_rfl) (by kernel_rfl) ?_
   intro φ22 w22 s
   refine region_rule ?_
   refine oK _ [] 2 [] 0 (fun φ23 => [(20, .int .i64 (IntKind.wrap .i64 (((i15 : Nat) : Int) + ((1 : Nat) : Int)))), (34, .int .i64 (IntKind.wrap .i64 (((i15 : Nat) : Int) + ((1 : Nat) : Int))))]) (fun φ23 => []) s (fun φ23 => by kernel_rfl) ?_
   intro φ23 w23 s
   rw [nat_addI (a := i15) (b := 1) (by  have hq0 := of_decide_eq_false hc11; have hq1 := of_decide_eq_true hc17; omega)]
   refine ops_done (by kernel_rfl) ?_
   have hq9 := of_decide_eq_true hc17
   rw [bor64_one (rd_63 hq9 hk) (bit2 l (p + i15))]
   exact ⟨⟨m15 - 1, i15 + 1, _, _, _, by omega, rfl, s, (List.Sublist.cons₂ _ List.Sublist.slnil), by kernel_rfl, hle14, by show i15 + 1 + (m15 - 1) = k; omega⟩⟩
  ·
   rw [hc17]
   refine cond_false_rule (b := false) (by kernel_rfl) rfl ?_
   refine wp_exit ?_
   refine seqR ?_
   refine oA _ [] 9 [.o 0, .o 0] 0 (fun φ24 => [(42, .pointer (some ⟨r, 1, none⟩)), (41, pB r), (40, .int .i64 (IntKind.wrap .i64 (((p : Nat) : Int) + ((k : Nat) : Int)))), (39, .int .i64 k), (38, .int .i64 p), (37, .pointer (some ⟨r, 1, none⟩)), (36, pB r), (35, pB r)]) (fun φ24 => [(r, .cells #[.slice a l.length c, .int .i64 (IntKind.wrap .i64 (((p : Nat) : Int) + ((k : Nat) : Int))), .int .i64 0] 74)]) (fun φ24 => [r, r]) s (fun φ24 => by kernel_rfl) ?_
   intro φ24 w24 s
   rw [nat_addI (a := p) (b := k) (by  have hq0 := of_decide_eq_false hc11; have hq1 := of_decide_eq_false hc17; omega)] at s ⊢
   refine ops_done (by kernel_rfl) ?_
   refine seqR ?_
   refine oKD _ [] 2 [] 0 (fun φ25 => [(4, .int .u64 (rd l p i15)), (43, .int .u64 (rd l p i15))]) (fun φ25 => []) s (fun φ25 => by kernel_rfl) (by kernel_rfl) ?_
   intro φ25 w25 s
   refine wp_ret ?_
   refine ret_rule (C := []) _ [] (.int .u64 (rd l p i15)) [] [] s trivial (by kernel_rfl) ?_
   have hq9 := of_decide_eq_false hc17
   have hi9 := hi15_0
   obtain rfl : k = i15 := (by omega)
   exact ⟨_, _, _, rfl, s, ⟨_, rfl, rfl, rfl, rfl⟩⟩

set_option maxHeartbeats 2000000 in
theorem get_bad {I : IM} {l : List UInt8} {a : Option Addr} {n c : Nat} (hl : BSl I l (.slice a n c)) (hn9 : l.length ≤ 1000000) {r p : Nat} {k : Nat} (hk : k ≤ 64) (hp : p ≤ l.length * 8) (hb : l.length * 8 - p < k) : FunM Tryd.prog 16 #[.pointer (some ⟨r, 0, none⟩), .int .i64 ((k : Nat) : Int)] I [(r, .cells #[.slice a n c, .int .i64 ((p : Nat) : Int), .int .i64 0] 74)] (fun v J H' => ∃ b' : OB, H' = [b'] ∧ b'.1 = r ∧ v = .int .u64 0 ∧ b' = (r, .cells #[.slice a n c, .int .i64 ((p : Nat) : Int), .int .i64 6] 74)) := by
 obtain ⟨rfl, -⟩ := hl.cap
 refine enterM_rule 44 [(0, pB r), (1, .int .i64 k)] Tryd.func16 rfl (by kernel_rfl) ?_
 intro w s
 refine seqR ?_
 refine oKD [(r, .cells #[.slice a l.length c, .int .i64 p, .int .i64 0] 74)] [] 1 [] 0 (fun φ1 => [(4, .int .u64 0)]) (fun φ1 => []) s (fun φ1 => by kernel_rfl) (by kernel_rfl) ?_
 intro φ1 w1 s
 refine seqR ?_
 refine oK _ [] 1 [] 0 (fun φ2 => [(7, .int .i64 k)]) (fun φ2 => []) s (fun φ2 => by kernel_rfl) ?_
 intro φ2 w2 s
 refine call_rule (some 8) s (held_c (k := k) (by   omega)) (by kernel_rfl) ?_
 intro v3 I3 w3 le3 h3 s
 replace hl := BSl.mono le3 hl
 obtain rfl := h3
 refine oKD _ [] 1 [] 0 (fun φ4 => [(1, .int .i64 k)]) (fun φ4 => []) s (fun φ4 => by kernel_rfl) (by kernel_rfl) ?_
 intro φ4 w4 s
 refine wp_seq ?_
 refine seqR ?_
 refine oK _ [] 1 [] 0 (fun φ5 => [(9, pB r)]) (fun φ5 => []) s (fun φ5 => by kernel_rfl) ?_
 intro φ5 w5 s
 refine callB_rule (b := (r, .cells #[.slice a l.length c, .int .i64 p, .int .i64 0] 74)) (F := []) (Hr := []) (some 10) 0 s (by kernel_rfl) (by kernel_rfl) (err_c (r := r) (v0 := .slice a l.length c) (v1 := .int .i64 p) (e := 0)) (by kernel_rfl) ?_
 rintro v6 I6 w6 b6 le6 - h6 s
 replace hl := BSl.mono le6 hl
 obtain ⟨rfl, rfl⟩ := h6
 refine oKD _ [] 1 [] 0 (fun φ7 => [(11, .bool false)]) (fun φ7 => []) s (fun φ7 => by kernel_rfl) (by kernel_rfl) ?_
 intro φ7 w7 s
 refine cond_false_rule (b := false) (by kernel_rfl) rfl ?_
 refine wp_skip ?_
 refine wp_seq ?_
 refine seqR ?_
 refine oK _ [] 2 [] 0 (fun φ8 => [(13, pB r), (12, .int .i64 k)]) (fun φ8 => []) s (fun φ8 => by kernel_rfl) ?_
 intro φ8 w8 s
 refine callB_rule (b := (r, .cells #[.slice a l.length c, .int .i64 p, .int .i64 0] 74)) (F := []) (Hr := []) (some 14) 0 s (by kernel_rfl) (by kernel_rfl) (left_c (e := 0) (r := r) (p := p) hl (hn9) (by omega)) (by kernel_rfl) ?_
 rintro v9 I9 w9 b9 le9 - h9 s
 obtain ⟨rfl, rfl⟩ := h9
 refine oK _ [] 1 [] 0 (fun φ10 => [(15, .bool (decide (((k : Nat) : Int) > ((l.length * 8 - p : Nat) : Int))))]) (fun φ10 => []) s (fun φ10 => by kernel_rfl) ?_
 intro φ10 w10 s
 rw [nat_gtr (a := k) (b := (l.length * 8 - p))]
 refine ops_done (by kernel_rfl) ?_
 rcases Bool.eq_false_or_eq_true (decide ((l.length * 8 - p) < k)) with hc11 | hc11
 ·
  rw [hc11]
  refine cond_true_rule (b := true) (by kernel_rfl) rfl ?_
  refine seqR ?_
  refine oAD _ [] 4 [.o 0] 0 (fun φ12 => [(18, .pointer (some ⟨r, 2, none⟩)), (17, pB r), (16, pB r)]) (fun φ12 => [(r, .cells #[.slice a l.length c, .int .i64 p, .int .i64 6] 74)]) (fun φ12 => [r]) s (fun φ12 => by kernel_rfl) (by kernel_rfl) ?_
  intro φ12 w12 s
  refine seqR ?_
  refine oKD _ [] 1 [] 0 (fun φ13 => [(4, .int .u64 0)]) (fun φ13 => []) s (fun φ13 => by kernel_rfl) (by kernel_rfl) ?_
  intro φ13 w13 s
  refine wp_ret ?_
  refine ret_rule (C := []) _ [] (.int .u64 0) [] [] s trivial (by kernel_rfl) ?_
  exact ⟨_, _, _, rfl, s, ⟨_, rfl, rfl, rfl, rfl⟩⟩
 ·
  exact absurd (of_decide_eq_false hc11) (fun q => q (by omega))

theorem newReader_c {I : IM} {l : List UInt8} {a : Option Addr} {n c : Nat} (hl : BSl I l (.slice a n c)) (hn : l.length ≤ 1000000) : FunM Tryd.prog 11 #[.slice a n c] I [] (fun v J F' => ∃ b a c, v = .pointer (some ⟨b, 0, none⟩) ∧ F' = [(b, .cells #[.slice a (List.length l) c, .int .i64 0, .int .i64 0] 74)] ∧ BSl J l (.slice a (List.length l) c)) := by
 obtain ⟨rfl, -⟩ := hl.cap
 refine enterM_rule 7 [(0, .slice a l.length c)] Tryd.func11 rfl (by kernel_rfl) ?_
 intro w s
 refine seqR ?_
 refine oKD [] [] 1 [] 0 (fun φ1 => [(2, .pointer none)]) (fun φ1 => []) s (fun φ1 => by kernel_rfl) (by kernel_rfl) ?_
 intro φ1 w1 s
 refine seqR ?_
 refine oK [] [] 1 [] 0 (fun φ2 => [(3, .slice a l.length c)]) (fun φ2 => []) s (fun φ2 => by kernel_rfl) ?_
 intro φ2 w2 s
 refine call_rule (some 4) s (clone_c hl (by omega)) (by kernel_rfl) ?_
 intro v3 I3 w3 le3 h3 s
 obtain ⟨a3, c3, rfl, h3_0⟩ := h3
 refine oAD [] [] 3 [] 1 (fun φ4 => [(2, pB (φ4 0)), (6, pB (φ4 0)), (5, .agg #[.slice a3 (List.length l) c3, .int .i64 0, .int .i64 0])]) (fun φ4 => [(φ4 0, .cells #[.slice a3 (List.length l) c3, .int .i64 0, .int .i64 0] 74)]) (fun φ4 => []) s (fun φ4 => by kernel_rfl) (by kernel_rfl) ?_
 intro φ4 w4 s
 refine wp_ret ?_
 refine ret_rule (C := []) _ [] (pB (φ4 0)) [] [] s trivial (by kernel_rfl) ?_
 exact ⟨_, _, _, rfl, s, ⟨_, _, _, rfl, rfl, h3_0⟩⟩

end Go.Proofs.YtgmigcmhnmmdkaaDoor

/- Nil ones; rows that come back. -/
set_option linter.all false
set_option maxRecDepth 100000
namespace Go.Proofs.YtgmigcmhnmmdkaaDoor
open Go.RowKit Go.Sep
attribute [local irreducible] Go.wpList Go.Code.wp

theorem row_of_nil {f : FuncId} {args : Array Value} {I : IM} (h : Fun Tryd.prog f args I (fun v J => v = .slice none 0 0)) : FunM Tryd.prog f args I [] (fun v J F => RowH 5 1 v 0 (([] : List UInt8).map bV) F) := fun w hw _ =>
  (h w hw).mono fun e w' ⟨v, I', H', he, s, hv⟩ => ⟨v, I', [], he, s.drop (List.nil_sublist _), by rw [hv]; exact row_nilB⟩
theorem bclone_none {I : IM} {n c : Nat} : Fun Tryd.prog 36 #[.slice none n c] I (fun v J => v = .slice none 0 0) := by
 refine enter_rule 8 [(0, .slice none n c)] Tryd.func36 rfl (by kernel_rfl) ?_
 intro w s
 refine seqR ?_
 refine oKD [] [] 1 [] 0 (fun φ1 => [(2, .slice none 0 0)]) (fun φ1 => []) s (fun φ1 => by kernel_rfl) (by kernel_rfl) ?_
 intro φ1 w1 s
 refine wp_seq ?_
 refine seqR ?_
 refine oK [] [] 1 [] 0 (fun φ2 => [(3, .slice none n c)]) (fun φ2 => []) s (fun φ2 => by kernel_rfl) ?_
 intro φ2 w2 s
 refine sem_rule (binOp .eql 22 (.slice none n c) (.slice none 0 0)) (some 4) (.bool true) (by kernel_rfl) (run_eqnil) ?_
 refine ops_done (by kernel_rfl) ?_
 refine cond_true_rule (b := true) (by kernel_rfl) rfl ?_
 refine seqR ?_
 refine oKD [] [] 1 [] 0 (fun φ3 => [(2, .slice none 0 0)]) (fun φ3 => []) s (fun φ3 => by kernel_rfl) (by kernel_rfl) ?_
 intro φ3 w3 s
 refine wp_ret ?_
 refine ret_rule (C := []) [] [] (.slice none 0 0) [] [] s trivial (by kernel_rfl) ?_
 exact ⟨_, _, _, rfl, s, rfl⟩

set_option maxHeartbeats 400000 in
theorem bclone_some {I : IM} {l : List UInt8} {x : Addr} {c : Nat} (hl : BSl I l (.slice (some x) l.length c)) (hn : l.length ≤ 1000000000) : FunM Tryd.prog 36 #[.slice (some x) l.length c] I [] (fun v J F => RowH 5 1 v l.length (l.map bV) F) := by
 refine enterM_rule 8 [(0, .slice (some x) l.length c)] Tryd.func36 rfl (by kernel_rfl) ?_
 intro w s
 refine seqR ?_
 refine oKD [] [] 1 [] 0 (fun φ1 => [(2, .slice none 0 0)]) (fun φ1 => []) s (fun φ1 => by kernel_rfl) (by kernel_rfl) ?_
 intro φ1 w1 s
 refine wp_seq ?_
 refine seqR ?_
 refine oK [] [] 1 [] 0 (fun φ2 => [(3, .slice (some x) l.length c)]) (fun φ2 => []) s (fun φ2 => by kernel_rfl) ?_
 intro φ2 w2 s
 refine sem_rule (binOp .eql 22 (.slice (some x) l.length c) (.slice none 0 0)) (some 4) (.bool false) (by kernel_rfl) (run_eqnil) ?_
 refine ops_done (by kernel_rfl) ?_
 refine cond_false_rule (b := false) (by kernel_rfl) rfl ?_
 refine wp_skip ?_
 refine seqR ?_
 refine oA [] [] 2 [] 1 (fun φ3 => [(6, .slice (some x) l.length c), (5, .slice (some ⟨(φ3 0), 0, none⟩) 0 0)]) (fun φ3 => [(φ3 0, .cells #[] 5)]) (fun φ3 => []) s (fun φ3 => by kernel_rfl) ?_
 intro φ3 w3 s
 refine append_rule (H := []) (F := [(φ3 0, .cells #[] 5)]) 22 22 5 Tryd.t5 (.int .u8 0) 1 1 (some 7) s Tryd.underlying22 (by kernel_rfl) (by kernel_rfl) (by kernel_rfl) (by kernel_rfl) (by kernel_rfl) (by decide) (row_new (φ3 0)) (src_bsl s.sub hl) (by   (try simp only [maxLen, List.length_append, List.length_cons, List.length_nil, List.length_take, List.length_drop]); omega) (by   (try simp only [maxLen, List.length_append, List.length_cons, List.length_nil, List.length_take, List.length_drop]); omega) (by kernel_rfl) ?_
 intro v4 w4 F4 s h4
 replace h4 : RowH 5 1 v4 ((l).length) ((l).map bV) F4 := row_app (x := []) (y := l) h4
 refine oKD [] F4 1 [] 0 (fun φ5 => [(2, v4)]) (fun φ5 => []) s (fun φ5 => by kernel_rfl) (by kernel_rfl) ?_
 intro φ5 w5 s
 refine wp_ret ?_
 refine ret_rule (C := []) [] F4 (v4) [] [] s trivial (by kernel_rfl) ?_
 replace s := s.drop (List.sublist_append_right [] F4)
 exact ⟨_, _, _, rfl, s, h4⟩

theorem bclone_r {I : IM} {l : List UInt8} {a : Option Addr} {n c : Nat} (hl : BSl I l (.slice a n c)) (hn : l.length ≤ 1000000000) : FunM Tryd.prog 36 #[.slice a n c] I [] (fun v J F => RowH 5 1 v l.length (l.map bV) F) := by
  obtain ⟨rfl, -⟩ := hl.cap
  cases a with
  | none => have := bsl_none hl; subst this; exact row_of_nil bclone_none
  | some x => exact bclone_some hl hn

end Go.Proofs.YtgmigcmhnmmdkaaDoor

/- Bits of any bytes are read. -/
set_option linter.all false
set_option maxRecDepth 100000
namespace Go.Proofs.YtgmigcmhnmmdkaaDoor
open Go.RowKit Go.Sep
attribute [local irreducible] Go.wpList Go.Code.wp

set_option maxHeartbeats 400000 in
theorem heldA_c {I : IM} {z : Int} : Fun Tryd.prog 46 #[.int .i64 z] I (fun v J => v = .int .i64 ((clampN z : Nat) : Int)) := by
 refine enter_rule 6 [(0, .int .i64 z)] Tryd.func46 rfl (by kernel_rfl) ?_
 intro w s
 refine seqR ?_
 refine oKD [] [] 1 [] 0 (fun φ1 => [(2, .int .i64 0)]) (fun φ1 => []) s (fun φ1 => by kernel_rfl) (by kernel_rfl) ?_
 intro φ1 w1 s
 refine seqR ?_
 refine oKD [] [] 4 [] 0 (fun φ2 => [(2, .int .i64 (if ((64 : Nat) : Int) < (if ((0 : Nat) : Int) > z then ((0 : Nat) : Int) else z) then ((64 : Nat) : Int) else (if ((0 : Nat) : Int) > z then ((0 : Nat) : Int) else z))), (5, .int .i64 (if ((64 : Nat) : Int) < (if ((0 : Nat) : Int) > z then ((0 : Nat) : Int) else z) then ((64 : Nat) : Int) else (if ((0 : Nat) : Int) > z then ((0 : Nat) : Int) else z))), (4, .int .i64 (if ((0 : Nat) : Int) > z then ((0 : Nat) : Int) else z)), (3, .int .i64 z)]) (fun φ2 => []) s (fun φ2 => by kernel_rfl) (by kernel_rfl) ?_
 intro φ2 w2 s
 refine wp_ret ?_
 refine ret_rule (C := []) [] [] (.int .i64 (if ((64 : Nat) : Int) < (if ((0 : Nat) : Int) > z then ((0 : Nat) : Int) else z) then ((64 : Nat) : Int) else (if ((0 : Nat) : Int) > z then ((0 : Nat) : Int) else z))) [] [] s trivial (by kernel_rfl) ?_
 exact ⟨_, _, _, rfl, s, congrArg (Value.int .i64) (by unfold clampN; (repeat' split) <;> omega)⟩

set_option maxHeartbeats 2000000 in
theorem getG_c {I : IM} {l : List UInt8} {a : Option Addr} {n c : Nat} (hl : BSl I l (.slice a n c)) (hn9 : l.length ≤ 1000000) {r p : Nat} {e : Nat} {z : Int} (hp : p ≤ l.length * 8) : FunM Tryd.prog 16 #[.pointer (some ⟨r, 0, none⟩), .int .i64 z] I [(r, .cells #[.slice a n c, .int .i64 ((p : Nat) : Int), .int .i64 ((e : Nat) : Int)] 74)] (fun v J H' => ∃ b' : OB, H' = [b'] ∧ b'.1 = r ∧ v = .int .u64 ((geV l p e (clampN z) : Nat) : Int) ∧ b' = (r, .cells #[.slice a n c, .int .i64 ((p + geD l p e (clampN z) : Nat) : Int), .int .i64 ((geE l p e (clampN z) : Nat) : Int)] 74)) := by
 obtain ⟨rfl, -⟩ := hl.cap
 refine enterM_rule 44 [(0, pB r), (1, .int .i64 z)] Tryd.func16 rfl (by kernel_rfl) ?_
 intro w s
 refine seqR ?_
 refine oKD [(r, .cells #[.slice a l.length c, .int .i64 p, .int .i64 e] 74)] [] 1 [] 0 (fun φ1 => [(4, .int .u64 0)]) (fun φ1 => []) s (fun φ1 => by kernel_rfl) (by kernel_rfl) ?_
 intro φ1 w1 s
 refine seqR ?_
 refine oK _ [] 1 [] 0 (fun φ2 => [(7, .int .i64 z)]) (fun φ2 => []) s (fun φ2 => by kernel_rfl) ?_
 intro φ2 w2 s
 refine call_rule (some 8) s (heldA_c (z := z)) (by kernel_rfl) ?_
 intro v3 I3 w3 le3 h3 s
 replace hl := BSl.mono le3 hl
 obtain rfl := h3
 refine oKD _ [] 1 [] 0 (fun φ4 => [(1, .int .i64 (clampN z))]) (fun φ4 => []) s (fun φ4 => by kernel_rfl) (by kernel_rfl) ?_
 intro φ4 w4 s
 refine wp_seq ?_
 refine seqR ?_
 refine oK _ [] 1 [] 0 (fun φ5 => [(9, pB r)]) (fun φ5 => []) s (fun φ5 => by kernel_rfl) ?_
 intro φ5 w5 s
 refine callB_rule (b := (r, .cells #[.slice a l.length c, .int .i64 p, .int .i64 e] 74)) (F := []) (Hr := []) (some 10) 0 s (by kernel_rfl) (by kernel_rfl) (err_c (r := r) (v0 := .slice a l.length c) (v1 := .int .i64 p) (e := e)) (by kernel_rfl) ?_
 rintro v6 I6 w6 b6 le6 - h6 s
 replace hl := BSl.mono le6 hl
 obtain ⟨rfl, rfl⟩ := h6
 refine oK _ [] 1 [] 0 (fun φ7 => [(11, .bool (((e : Nat) : Int) != ((0 : Nat) : Int)))]) (fun φ7 => []) s (fun φ7 => by kernel_rfl) ?_
 intro φ7 w7 s
 rw [nat_neq (a := e) (b := 0)]
 refine ops_done (by kernel_rfl) ?_
 rcases Bool.eq_false_or_eq_true (decide (e ≠ 0)) with hc8 | hc8
 ·
  rw [hc8]
  refine cond_true_rule (b := true) (by kernel_rfl) rfl ?_
  refine seqR ?_
  refine oKD _ [] 1 [] 0 (fun φ9 => [(4, .int .u64 0)]) (fun φ9 => []) s (fun φ9 => by kernel_rfl) (by kernel_rfl) ?_
  intro φ9 w9 s
  refine wp_ret ?_
  refine ret_rule (C := []) _ [] (.int .u64 0) [] [] s trivial (by kernel_rfl) ?_
  exact ⟨_, _, _, rfl, s, (by have hq0 := of_decide_eq_true hc8; exact ⟨_, rfl, rfl, (by unfold geV; rw [if_neg (by omega)]; rfl), (by (unfold geD; first | rw [if_pos (by omega)] | rw [if_neg (by omega)]); (unfold geE; first | rw [if_pos (by omega)] | rw [if_neg (by omega)]); try rfl)⟩)⟩
 ·
  rw [hc8]
  refine cond_false_rule (b := false) (by kernel_rfl) rfl ?_
  refine wp_skip ?_
  refine wp_seq ?_
  refine seqR ?_
  refine oK _ [] 2 [] 0 (fun φ10 => [(13, pB r), (12, .int .i64 (clampN z))]) (fun φ10 => []) s (fun φ10 => by kernel_rfl) ?_
  intro φ10 w10 s
  refine callB_rule (b := (r, .cells #[.slice a l.length c, .int .i64 p, .int .i64 e] 74)) (F := []) (Hr := []) (some 14) 0 s (by kernel_rfl) (by kernel_rfl) (left_c (e := e) (r := r) (p := p) hl (hn9) (by omega)) (by kernel_rfl) ?_
  rintro v11 I11 w11 b11 le11 - h11 s
  replace hl := BSl.mono le11 hl
  obtain ⟨rfl, rfl⟩ := h11
  refine oK _ [] 1 [] 0 (fun φ12 => [(15, .bool (decide (((clampN z : Nat) : Int) > ((l.length * 8 - p : Nat) : Int))))]) (fun φ12 => []) s (fun φ12 => by kernel_rfl) ?_
  intro φ12 w12 s
  rw [nat_gtr (a := (clampN z)) (b := (l.length * 8 - p))]
  refine ops_done (by kernel_rfl) ?_
  rcases Bool.eq_false_or_eq_true (decide ((l.length * 8 - p) < (clampN z))) with hc13 | hc13
  ·
   rw [hc13]
   refine cond_true_rule (b := true) (by kernel_rfl) rfl ?_
   refine seqR ?_
   refine oAD _ [] 4 [.o 0] 0 (fun φ14 => [(18, .pointer (some ⟨r, 2, none⟩)), (17, pB r), (16, pB r)]) (fun φ14 => [(r, .cells #[.slice a l.length c, .int .i64 p, .int .i64 6] 74)]) (fun φ14 => [r]) s (fun φ14 => by kernel_rfl) (by kernel_rfl) ?_
   intro φ14 w14 s
   refine seqR ?_
   refine oKD _ [] 1 [] 0 (fun φ15 => [(4, .int .u64 0)]) (fun φ15 => []) s (fun φ15 => by kernel_rfl) (by kernel_rfl) ?_
   intro φ15 w15 s
   refine wp_ret ?_
   refine ret_rule (C := []) _ [] (.int .u64 0) [] [] s trivial (by kernel_rfl) ?_
   exact ⟨_, _, _, rfl, s, (by have hq0 := of_decide_eq_false hc8; have hq1 := of_decide_eq_true hc13; exact ⟨_, rfl, rfl, (by unfold geV; rw [if_neg (by omega)]; rfl), (by (unfold geD; first | rw [if_pos (by omega)] | rw [if_neg (by omega)]); (unfold geE; first | rw [if_pos (by omega)] | rw [if_neg (by omega)]); try rfl)⟩)⟩
  ·
   rw [hc13]
   refine cond_false_rule (b := false) (by kernel_rfl) rfl ?_
   refine wp_skip ?_
   refine seqR ?_
   refine oKD _ [] 1 [] 0 (fun φ16 => [(5, .int .u64 0)]) (fun φ16 => []) s (fun φ16 => by kernel_rfl) (by kernel_rfl) ?_
   intro φ16 w16 s
   refine wp_seq ?_
   refine seqR ?_
   refine oKD _ [] 2 [] 0 (fun φ17 => [(20, .int .i64 0), (19, .int .i64 (clampN z))]) (fun φ17 => []) s (fun φ17 => by kernel_rfl) (by kernel_rfl) ?_
   intro φ17 w17 s
   refine wp_block ?_
   have hle18 := IM.Le.refl I11
   refine loop_rule (fun (x : Nat) => [(0, pB r), (1, .int .i64 (clampN z)), (19, .int .i64 (clampN z)), (5, .int .u64 (rd l p x)), (20, .int .i64 x)]) (fun (x : Nat) => [(r, .cells #[.slice a l.length c, .int .i64 p, .int .i64 e] 74)]) (fun m (x : Nat) J => IM.Le I11 J ∧ x + m = (clampN z)) ((clampN z)) 0 s (by kernel_rfl) (List.Sublist.cons₂ _ List.Sublist.slnil) ⟨IM.Le.refl _, Nat.zero_add _⟩ ?_
   rintro m19 i19 I19 w19 ev19 s ⟨le19, hi19_0⟩
   try dsimp only at s hi19_0 ⊢
   replace hl := BSl.mono le19 hl
   replace hle18 := leMono le19 hle18
   refine seqR ?_
   refine oK [(r, .cells #[.slice a l.length c, .int .i64 p, .int .i64 e] 74)] [] 1 [] 0 (fun φ20 => [(21, .bool (decide (((i19 : Nat) : Int) < ((clampN z : Nat) : Int))))]) (fun φ20 => []) s (fun φ20 => by kernel_rfl) ?_
   intro φ20 w20 s
   rw [nat_lss (a := i19) (b := (clampN z))]
   refine ops_done (by kernel_rfl) ?_
   refine wp_seq ?_
   rcases Bool.eq_false_or_eq_true (decide (i19 < (clampN z))) with hc21 | hc21
   ·
    rw [hc21]
    refine cond_true_rule (b := true) (by kernel_rfl) rfl ?_
    refine wp_skip ?_
    refine wp_seq ?_
    refine wp_block ?_
    refine seqR ?_
    refine oKD _ [] 2 [] 0 (fun φ22 => [(6, .int .i64 i19), (22, .int .i64 i19)]) (fun φ22 => []) s (fun φ22 => by kernel_rfl) (by kernel_rfl) ?_
    intro φ22 w22 s
    refine region_rule ?_
    refine oK _ [] 1 [] 0 (fun φ23 => [(23, .int .u64 (rd l p i19))]) (fun φ23 => []) s (fun φ23 => by kernel_rfl) ?_
    intro φ23 w23 s
    refine sem_rule (binOp .shl 41 (.int .u64 (rd l p i19)) (.int .u64 ((1 : Nat) : Int))) (some 24) (.int .u64 (bshl 64 (rd l p i19) 1)) (by kernel_rfl) (run_shlU (.inr (.inr (.inl rfl)))) ?_
    refine oK _ [] 7 [.o 0] 0 (fun φ24 => [(31, .int .i64 (IntKind.wrap .i64 (((p : Nat) : Int) + ((i19 : Nat) : Int)))), (30, .int .i64 i19), (29, .int .i64 p), (28, .pointer (some ⟨r, 1, none⟩)), (27, pB r), (26, pB r), (25, pB r)]) (fun φ24 => [r]) s (fun φ24 => by kernel_rfl) ?_
    intro φ24 w24 s
    rw [nat_addI (a := p) (b := i19) (by have hcl := clampN_le z; have hq0 := of_decide_eq_false hc8; have hq1 := of_decide_eq_false hc13; have hq2 := of_decide_eq_true hc21; omega)]
    refine callB_rule (b := (r, .cells #[.slice a l.length c, .int .i64 p, .int .i64 e] 74)) (F := []) (Hr := []) (some 32) 0 s (by kernel_rfl) (by kernel_rfl) (bit_c (e := e) (r := r) (p := p) hl (hn9) (j := p + i19) (by have hq0 := of_decide_eq_false hc8; have hq1 := of_decide_eq_false hc13; have hq2 := of_decide_eq_true hc21; omega)) (by kernel_rfl) ?_
    rintro v25 I25 w25 b25 le25 - h25 s
    replace hle18 := leMono le25 hle18
    obtain ⟨rfl, rfl⟩ := h25
    refine sem_rule (binOp .or 41 (.int .u64 (bshl 64 (rd l p i19) 1)) (.int .u64 (((bitB l (p + i19)).toNat : Nat) : Int))) (some 33) (.int .u64 (bor 64 (bshl 64 (rd l p i19) 1) ((bitB l (p + i19)).toNat))) (by kernel_rfl) (run_bit64.2.2.1) ?_
    refine oKD _ [] 1 [] 0 (fun φ26 => [(5, .int .u64 (bor 64 (bshl 64 (rd l p i19) 1) ((bitB l (p + i19)).toNat)))]) (fun φ26 => []) s (fun φ26 => by kernel_rfl) (by kernel_rfl) ?_
    intro φ26 w26 s
    refine region_rule ?_
    refine oK _ [] 2 [] 0 (fun φ27 => [(20, .int .i64 (IntKind.wrap .i64 (((i19 : Nat) : Int) + ((1 : Nat) : Int)))), (34, .int .i64 (IntKind.wrap .i64 (((i19 : Nat) : Int) + ((1 : Nat) : Int))))]) (fun φ27 => []) s (fun φ27 => by kernel_rfl) ?_
    intro φ27 w27 s
    rw [nat_addI (a := i19) (b := 1) (by have hcl := clampN_le z; have hq0 := of_decide_eq_false hc8; have hq1 := of_decide_eq_false hc13; have hq2 := of_decide_eq_true hc21; omega)]
    refine ops_done (by kernel_rfl) ?_
    have hq9 := of_decide_eq_true hc21
    rw [bor64_one (rd_63 hq9 (clampN_le z)) (bit2 l (p + i19))]
    exact ⟨⟨m19 - 1, i19 + 1, _, _, _, by omega, rfl, s, (List.Sublist.cons₂ _ List.Sublist.slnil), by kernel_rfl, hle18, by show i19 + 1 + (m19 - 1) = (clampN z); omega⟩⟩
   ·
    rw [hc21]
    refine cond_false_rule (b := false) (by kernel_rfl) rfl ?_
    refine wp_exit ?_
    refine seqR ?_
    refine oA _ [] 9 [.o 0, .o 0] 0 (fun φ28 => [(42, .pointer (some ⟨r, 1, none⟩)), (41, pB r), (40, .int .i64 (IntKind.wrap .i64 (((p : Nat) : Int) + ((clampN z : Nat) : Int)))), (39, .int .i64 (clampN z)), (38, .int .i64 p), (37, .pointer (some ⟨r, 1, none⟩)), (36, pB r), (35, pB r)]) (fun φ28 => [(r, .cells #[.slice a l.length c, .int .i64 (IntKind.wrap .i64 (((p : Nat) : Int) + ((clampN z : Nat) : Int))), .int .i64 e] 74)]) (fun φ28 => [r, r]) s (fun φ28 => by kernel_rfl) ?_
    intro φ28 w28 s
    rw [nat_addI (a := p) (b := (clampN z)) (by have hcl := clampN_le z; have hq0 := of_decide_eq_false hc8; have hq1 := of_decide_eq_false hc13; have hq2 := of_decide_eq_false hc21; omega)] at s ⊢
    refine ops_done (by kernel_rfl) ?_
    refine seqR ?_
    refine oKD _ [] 2 [] 0 (fun φ29 => [(4, .int .u64 (rd l p i19)), (43, .int .u64 (rd l p i19))]) (fun φ29 => []) s (fun φ29 => by kernel_rfl) (by kernel_rfl) ?_
    intro φ29 w29 s
    refine wp_ret ?_
    refine ret_rule (C := []) _ [] (.int .u64 (rd l p i19)) [] [] s trivial (by kernel_rfl) ?_
    exact ⟨_, _, _, rfl, s, (by have hq0 := of_decide_eq_false hc8; have hq1 := of_decide_eq_false hc13; have hq2 := of_decide_eq_false hc21; have hq9 := of_decide_eq_false hc21; have hi9 := hi19_0; have hg9 : i19 = (clampN z) := (by omega); exact ⟨_, rfl, rfl, (by unfold geV; rw [if_pos (by omega), hg9]), (by (unfold geD; first | rw [if_pos (by omega)] | rw [if_neg (by omega)]); (unfold geE; first | rw [if_pos (by omega)] | rw [if_neg (by omega)]); try rfl)⟩)⟩

end Go.Proofs.YtgmigcmhnmmdkaaDoor

/- The document reads bits. -/
set_option linter.all false
set_option maxRecDepth 100000
namespace Go.Proofs.YtgmigcmhnmmdkaaDoor
open Go.RowKit Go.Sep
attribute [local irreducible] Go.wpList Go.Code.wp

set_option maxHeartbeats 400000 in
theorem withinA_c {I : IM} {z : Int} : Fun Tryd.prog 76 #[.int .i64 z] I (fun v J => v = .int .i64 ((clampN z : Nat) : Int)) := by
 refine enter_rule 8 [(0, .int .i64 z)] Tryd.func76 rfl (by kernel_rfl) ?_
 intro w s
 refine seqR ?_
 refine oKD [] [] 1 [] 0 (fun φ1 => [(2, .int .i64 0)]) (fun φ1 => []) s (fun φ1 => by kernel_rfl) (by kernel_rfl) ?_
 intro φ1 w1 s
 refine wp_seq ?_
 refine seqR ?_
 refine oKD [] [] 2 [] 0 (fun φ2 => [(4, .bool (decide (z < ((0 : Nat) : Int)))), (3, .int .i64 z)]) (fun φ2 => []) s (fun φ2 => by kernel_rfl) (by kernel_rfl) ?_
 intro φ2 w2 s
 rcases Bool.eq_false_or_eq_true (decide (z < ((0 : Nat) : Int))) with hc3 | hc3
 ·
  rw [hc3]
  refine cond_true_rule (b := true) (by kernel_rfl) rfl ?_
  refine seqR ?_
  refine oKD [] [] 1 [] 0 (fun φ4 => [(2, .int .i64 0)]) (fun φ4 => []) s (fun φ4 => by kernel_rfl) (by kernel_rfl) ?_
  intro φ4 w4 s
  refine wp_ret ?_
  refine ret_rule (C := []) [] [] (.int .i64 0) [] [] s trivial (by kernel_rfl) ?_
  exact ⟨_, _, _, rfl, s, congrArg (Value.int .i64) (by have hq0 := of_decide_eq_true hc3; unfold clampN; omega)⟩
 ·
  rw [hc3]
  refine cond_false_rule (b := false) (by kernel_rfl) rfl ?_
  refine wp_skip ?_
  refine wp_seq ?_
  refine seqR ?_
  refine oKD [] [] 2 [] 0 (fun φ5 => [(6, .bool (decide (z > ((64 : Nat) : Int)))), (5, .int .i64 z)]) (fun φ5 => []) s (fun φ5 => by kernel_rfl) (by kernel_rfl) ?_
  intro φ5 w5 s
  rcases Bool.eq_false_or_eq_true (decide (z > ((64 : Nat) : Int))) with hc6 | hc6
  ·
   rw [hc6]
   refine cond_true_rule (b := true) (by kernel_rfl) rfl ?_
   refine seqR ?_
   refine oKD [] [] 1 [] 0 (fun φ7 => [(2, .int .i64 64)]) (fun φ7 => []) s (fun φ7 => by kernel_rfl) (by kernel_rfl) ?_
   intro φ7 w7 s
   refine wp_ret ?_
   refine ret_rule (C := []) [] [] (.int .i64 64) [] [] s trivial (by kernel_rfl) ?_
   exact ⟨_, _, _, rfl, s, congrArg (Value.int .i64) (by have hq0 := of_decide_eq_false hc3; have hq1 := of_decide_eq_true hc6; unfold clampN; omega)⟩
  ·
   rw [hc6]
   refine cond_false_rule (b := false) (by kernel_rfl) rfl ?_
   refine wp_skip ?_
   refine seqR ?_
   refine oKD [] [] 2 [] 0 (fun φ8 => [(2, .int .i64 z), (7, .int .i64 z)]) (fun φ8 => []) s (fun φ8 => by kernel_rfl) (by kernel_rfl) ?_
   intro φ8 w8 s
   refine wp_ret ?_
   refine ret_rule (C := []) [] [] (.int .i64 z) [] [] s trivial (by kernel_rfl) ?_
   exact ⟨_, _, _, rfl, s, congrArg (Value.int .i64) (by have hq0 := of_decide_eq_false hc3; have hq1 := of_decide_eq_false hc6; unfold clampN; omega)⟩

set_option maxHeartbeats 2000000 in
theorem refGetB_c {I : IM} {bs : List Bool} {a : Option Addr} {n c y e : Nat} (hb : BoS I bs (.slice a n c)) (hn9 : bs.length ≤ 1000000) {z : Int} : FunM Tryd.prog 39 #[.pointer (some ⟨y, 0, none⟩), .int .i64 z] I [(y, .cells #[.slice a n c, .int .i64 ((e : Nat) : Int)] 40)] (fun v J H' => ∃ b' : OB, H' = [b'] ∧ b'.1 = y ∧ ∃ (a' : Option Addr) (n' c' : Nat), v = .int .u64 ((bgV bs e (clampN z) : Nat) : Int) ∧ b' = (y, .cells #[.slice a' n' c', .int .i64 ((bgE bs e (clampN z) : Nat) : Int)] 40) ∧ BoS J (bs.drop (bgD bs e (clampN z))) (.slice a' n' c')) := by
 obtain ⟨rfl, -⟩ := hb.cap
 refine enterM_rule 52 [(0, pB y), (1, .int .i64 z)] Tryd.func39 rfl (by kernel_rfl) ?_
 intro w s
 refine seqR ?_
 refine oKD [(y, .cells #[.slice a bs.length c, .int .i64 e] 40)] [] 1 [] 0 (fun φ1 => [(4, .int .u64 0)]) (fun φ1 => []) s (fun φ1 => by kernel_rfl) (by kernel_rfl) ?_
 intro φ1 w1 s
 refine seqR ?_
 refine oK _ [] 1 [] 0 (fun φ2 => [(8, .int .i64 z)]) (fun φ2 => []) s (fun φ2 => by kernel_rfl) ?_
 intro φ2 w2 s
 refine call_rule (some 9) s (withinA_c (z := z)) (by kernel_rfl) ?_
 intro v3 I3 w3 le3 h3 s
 replace hb := BoS.mono le3 hb
 obtain rfl := h3
 refine oKD _ [] 1 [] 0 (fun φ4 => [(1, .int .i64 (clampN z))]) (fun φ4 => []) s (fun φ4 => by kernel_rfl) (by kernel_rfl) ?_
 intro φ4 w4 s
 refine wp_seq ?_
 refine seqR ?_
 refine oK _ [] 5 [.o 0] 0 (fun φ5 => [(14, .bool (((e : Nat) : Int) != ((0 : Nat) : Int))), (13, .int .i64 e), (12, .pointer (some ⟨y, 1, none⟩)), (11, pB y), (10, pB y)]) (fun φ5 => [y]) s (fun φ5 => by kernel_rfl) ?_
 intro φ5 w5 s
 rw [nat_neq (a := e) (b := 0)]
 refine ops_done (by kernel_rfl) ?_
 rcases Bool.eq_false_or_eq_true (decide (e ≠ 0)) with hc6 | hc6
 ·
  rw [hc6]
  refine cond_true_rule (b := true) (by kernel_rfl) rfl ?_
  refine seqR ?_
  refine oKD _ [] 1 [] 0 (fun φ7 => [(4, .int .u64 0)]) (fun φ7 => []) s (fun φ7 => by kernel_rfl) (by kernel_rfl) ?_
  intro φ7 w7 s
  refine wp_ret ?_
  refine ret_rule (C := []) _ [] (.int .u64 0) [] [] s trivial (by kernel_rfl) ?_
  exact ⟨_, _, _, rfl, s, (by have hq0 := of_decide_eq_true hc6; exact ⟨_, rfl, rfl, _, _, _, (by unfold bgV; rw [if_neg (by omega)]; rfl), (by (unfold bgE; first | rw [if_pos (by omega)] | rw [if_neg (by omega)]); try rfl), bos_eq hb (by unfold bgD; first | (rw [if_pos (by omega)]; done) | (rw [if_neg (by omega)]; rfl))⟩)⟩
 ·
  rw [hc6]
  refine cond_false_rule (b := false) (by kernel_rfl) rfl ?_
  refine wp_skip ?_
  refine wp_seq ?_
  refine seqR ?_
  refine oK _ [] 7 [.o 0] 0 (fun φ8 => [(21, .bool (decide (((bs.length : Nat) : Int) < ((clampN z : Nat) : Int)))), (20, .int .i64 (clampN z)), (19, .int .i64 bs.length), (18, .slice a bs.length c), (17, pB y), (16, pB y), (15, pB y)]) (fun φ8 => [y]) s (fun φ8 => by kernel_rfl) ?_
  intro φ8 w8 s
  rw [nat_lss (a := bs.length) (b := (clampN z))]
  refine ops_done (by kernel_rfl) ?_
  rcases Bool.eq_false_or_eq_true (decide (bs.length < (clampN z))) with hc9 | hc9
  ·
   rw [hc9]
   refine cond_true_rule (b := true) (by kernel_rfl) rfl ?_
   refine seqR ?_
   refine oAD _ [] 4 [.o 0] 0 (fun φ10 => [(24, .pointer (some ⟨y, 1, none⟩)), (23, pB y), (22, pB y)]) (fun φ10 => [(y, .cells #[.slice a bs.length c, .int .i64 6] 40)]) (fun φ10 => [y]) s (fun φ10 => by kernel_rfl) (by kernel_rfl) ?_
   intro φ10 w10 s
   refine seqR ?_
   refine oKD _ [] 1 [] 0 (fun φ11 => [(4, .int .u64 0)]) (fun φ11 => []) s (fun φ11 => by kernel_rfl) (by kernel_rfl) ?_
   intro φ11 w11 s
   refine wp_ret ?_
   refine ret_rule (C := []) _ [] (.int .u64 0) [] [] s trivial (by kernel_rfl) ?_
   exact ⟨_, _, _, rfl, s, (by have hq0 := of_decide_eq_false hc6; have hq1 := of_decide_eq_true hc9; exact ⟨_, rfl, rfl, _, _, _, (by unfold bgV; rw [if_neg (by omega)]; rfl), (by (unfold bgE; first | rw [if_pos (by omega)] | rw [if_neg (by omega)]); try rfl), bos_eq hb (by unfold bgD; first | (rw [if_pos (by omega)]; done) | (rw [if_neg (by omega)]; rfl))⟩)⟩
  ·
   rw [hc9]
   refine cond_false_rule (b := false) (by kernel_rfl) rfl ?_
   refine wp_skip ?_
   refine seqR ?_
   refine oKD _ [] 1 [] 0 (fun φ12 => [(5, .int .u64 0)]) (fun φ12 => []) s (fun φ12 => by kernel_rfl) (by kernel_rfl) ?_
   intro φ12 w12 s
   refine wp_seq ?_
   refine seqR ?_
   refine oK _ [] 5 [.o 0] 0 (fun φ13 => [(29, .int .i64 (clampN z)), (28, .slice a bs.length c), (27, pB y), (26, pB y), (25, pB y)]) (fun φ13 => [y]) s (fun φ13 => by kernel_rfl) ?_
   intro φ13 w13 s
   refine sem_rule (Instr.sliceAt 37 (.slice a bs.length c) none (some (.int .i64 (clampN z))) none) (some 30) (.slice a (clampN z) c) (by kernel_rfl) (run_toB (by have hcp := (BoS.cap hb).2; (try simp only [List.length_drop, List.length_take, List.length_append, List.length_cons, List.length_nil] at hcp ⊢); have hcl := clampN_le z; have htk : (bs.take (clampN z)).length = min (clampN z) bs.length := List.length_take; have hq0 := of_decide_eq_false hc6; have hq1 := of_decide_eq_false hc9; omega)) ?_
   refine oKD _ [] 2 [] 0 (fun φ14 => [(32, .int .i64 0), (31, .int .i64 (((clampN z) : Nat) : Int))]) (fun φ14 => []) s (fun φ14 => by kernel_rfl) (by kernel_rfl) ?_
   intro φ14 w14 s
   refine wp_block ?_
   have hle15 := IM.Le.refl I3
   refine loop_rule (fun (x : Nat) => [(0, pB y), (1, .int .i64 (clampN z)), (30, .slice a (clampN z) c), (31, .int .i64 (((clampN z) : Nat) : Int)), (5, .int .u64 (rdB bs x)), (32, .int .i64 x)]) (fun (x : Nat) => [(y, .cells #[.slice a bs.length c, .int .i64 e] 40)]) (fun m (x : Nat) J => IM.Le I3 J ∧ x + m = (clampN z)) ((clampN z)) 0 s (by kernel_rfl) (List.Sublist.cons₂ _ List.Sublist.slnil) ⟨IM.Le.refl _, Nat.zero_add _⟩ ?_
   rintro m16 i16 I16 w16 ev16 s ⟨le16, hi16_0⟩
   try dsimp only at s hi16_0 ⊢
   replace hb := BoS.mono le16 hb
   replace hle15 := leMono le16 hle15
   refine seqR ?_
   refine oK [(y, .cells #[.slice a bs.length c, .int .i64 e] 40)] [] 1 [] 0 (fun φ17 => [(33, .bool (decide (((i16 : Nat) : Int) < (((clampN z) : Nat) : Int))))]) (fun φ17 => []) s (fun φ17 => by kernel_rfl) ?_
   intro φ17 w17 s
   rw [nat_lss (a := i16) (b := (clampN z))]
   refine ops_done (by kernel_rfl) ?_
   refine wp_seq ?_
   rcases Bool.eq_false_or_eq_true (decide (i16 < (clampN z))) with hc18 | hc18
   ·
    rw [hc18]
    refine cond_true_rule (b := true) (by kernel_rfl) rfl ?_
    refine wp_skip ?_
    refine wp_seq ?_
    refine wp_block ?_
    refine seqR ?_
    refine sem_rule (Instr.indexAt 37 (.slice a (clampN z) c) (.int .i64 i16)) (some 34) (.pointer (pAt a i16)) (by kernel_rfl) (bos_idx (bos_to (hi := clampN z) hb (by have hcp := (BoS.cap hb).2; (try simp only [List.length_drop, List.length_take, List.length_append, List.length_cons, List.length_nil] at hcp ⊢); have hcl := clampN_le z; have htk : (bs.take (clampN z)).length = min (clampN z) bs.length := List.length_take; have hq0 := of_decide_eq_false hc6; have hq1 := of_decide_eq_false hc9; omega)) (by have hcl := clampN_le z; have htk : (bs.take (clampN z)).length = min (clampN z) bs.length := List.length_take; have hr9 := rdB_63 (bs := bs) (of_decide_eq_true hc18) (clampN_le z); have hq0 := of_decide_eq_false hc6; have hq1 := of_decide_eq_false hc9; have hq2 := of_decide_eq_true hc18; omega)) ?_
    refine sem_rule (Instr.loadAt 4 (.pointer (pAt a i16))) (some 35) (.bool ((bs.take (clampN z)).getD i16 false)) (by kernel_rfl) (bos_ld s.sub (bos_to (hi := clampN z) hb (by have hcp := (BoS.cap hb).2; (try simp only [List.length_drop, List.length_take, List.length_append, List.length_cons, List.length_nil] at hcp ⊢); have hcl := clampN_le z; have htk : (bs.take (clampN z)).length = min (clampN z) bs.length := List.length_take; have hq0 := of_decide_eq_false hc6; have hq1 := of_decide_eq_false hc9; omega)) (by have hcl := clampN_le z; have htk : (bs.take (clampN z)).length = min (clampN z) bs.length := List.length_take; have hr9 := rdB_63 (bs := bs) (of_decide_eq_true hc18) (clampN_le z); have hq0 := of_decide_eq_false hc6; have hq1 := of_decide_eq_false hc9; have hq2 := of_decide_eq_true hc18; omega)) ?_
    refine oKD _ [] 1 [] 0 (fun φ19 => [(7, .bool ((bs.take (clampN z)).getD i16 false))]) (fun φ19 => []) s (fun φ19 => by kernel_rfl) (by kernel_rfl) ?_
    intro φ19 w19 s
    refine seqR ?_
    refine oK _ [] 3 [] 0 (fun φ20 => [(5, .int .u64 (IntKind.wrap .u64 (((rdB bs i16 : Nat) : Int) * ((2 : Nat) : Int)))), (37, .int .u64 (IntKind.wrap .u64 (((rdB bs i16 : Nat) : Int) * ((2 : Nat) : Int)))), (36, .int .u64 (rdB bs i16))]) (fun φ20 => []) s (fun φ20 => by kernel_rfl) ?_
    intro φ20 w20 s
    rw [nat_mulU (a := (rdB bs i16)) (b := 2) (by have hcl := clampN_le z; have htk : (bs.take (clampN z)).length = min (clampN z) bs.length := List.length_take; have hr9 := rdB_63 (bs := bs) (of_decide_eq_true hc18) (clampN_le z); have hq0 := of_decide_eq_false hc6; have hq1 := of_decide_eq_false hc9; have hq2 := of_decide_eq_true hc18; omega)]
    refine ops_done (by kernel_rfl) ?_
    refine seqR ?_
    refine oKD _ [] 1 [] 0 (fun φ21 => [(38, .bool ((bs.take (clampN z)).getD i16 false))]) (fun φ21 => []) s (fun φ21 => by kernel_rfl) (by kernel_rfl) ?_
    intro φ21 w21 s
    rcases Bool.eq_false_or_eq_true ((bs.take (clampN z)).getD i16 false) with hc22 | hc22
    ·
     rw [hc22]
     refine cond_true_rule (b := true) (by kernel_rfl) rfl ?_
     refine region_rule ?_
     refine oK _ [] 3 [] 0 (fun φ23 => [(5, .int .u64 (IntKind.wrap .u64 ((((rdB bs i16) * 2 : Nat) : Int) + ((1 : Nat) : Int)))), (40, .int .u64 (IntKind.wrap .u64 ((((rdB bs i16) * 2 : Nat) : Int) + ((1 : Nat) : Int)))), (39, .int .u64 (((rdB bs i16) * 2 : Nat) : Int))]) (fun φ23 => []) s (fun φ23 => by kernel_rfl) ?_
     intro φ23 w23 s
     rw [nat_addU (a := ((rdB bs i16) * 2)) (b := 1) (by have hcl := clampN_le z; have htk : (bs.take (clampN z)).length = min (clampN z) bs.length := List.length_take; have hr9 := rdB_63 (bs := bs) (of_decide_eq_true hc18) (clampN_le z); have hq0 := of_decide_eq_false hc6; have hq1 := of_decide_eq_false hc9; have hq2 := of_decide_eq_true hc18; omega)]
     refine ops_done (by kernel_rfl) ?_
     refine region_rule ?_
     refine oK _ [] 2 [] 0 (fun φ24 => [(32, .int .i64 (IntKind.wrap .i64 (((i16 : Nat) : Int) + ((1 : Nat) : Int)))), (41, .int .i64 (IntKind.wrap .i64 (((i16 : Nat) : Int) + ((1 : Nat) : Int))))]) (fun φ24 => []) s (fun φ24 => by kernel_rfl) ?_
     intro φ24 w24 s
     rw [nat_addI (a := i16) (b := 1) (by have hcl := clampN_le z; have htk : (bs.take (clampN z)).length = min (clampN z) bs.length := List.length_take; have hr9 := rdB_63 (bs := bs) (of_decide_eq_true hc18) (clampN_le z); have hq0 := of_decide_eq_false hc6; have hq1 := of_decide_eq_false hc9; have hq2 := of_decide_eq_true hc18; omega)]
     refine ops_done (by kernel_rfl) ?_
     have hq9 := of_decide_eq_true hc18
     rw [rdB_one hq9 hc22]
     exact ⟨⟨m16 - 1, i16 + 1, _, _, _, by omega, rfl, s, (List.Sublist.cons₂ _ List.Sublist.slnil), by kernel_rfl, hle15, by show i16 + 1 + (m16 - 1) = (clampN z); omega⟩⟩
    ·
     rw [hc22]
     refine cond_false_rule (b := false) (by kernel_rfl) rfl ?_
     refine wp_skip ?_
     refine region_rule ?_
     refine oK _ [] 2 [] 0 (fun φ25 => [(32, .int .i64 (IntKind.wrap .i64 (((i16 : Nat) : Int) + ((1 : Nat) : Int)))), (41, .int .i64 (IntKind.wrap .i64 (((i16 : Nat) : Int) + ((1 : Nat) : Int))))]) (fun φ25 => []) s (fun φ25 => by kernel_rfl) ?_
     intro φ25 w25 s
     rw [nat_addI (a := i16) (b := 1) (by have hcl := clampN_le z; have htk : (bs.take (clampN z)).length = min (clampN z) bs.length := List.length_take; have hr9 := rdB_63 (bs := bs) (of_decide_eq_true hc18) (clampN_le z); have hq0 := of_decide_eq_false hc6; have hq1 := of_decide_eq_false hc9; have hq2 := of_decide_eq_true hc18; omega)]
     refine ops_done (by kernel_rfl) ?_
     have hq9 := of_decide_eq_true hc18
     rw [rdB_nil hq9 hc22]
     exact ⟨⟨m16 - 1, i16 + 1, _, _, _, by omega, rfl, s, (List.Sublist.cons₂ _ List.Sublist.slnil), by kernel_rfl, hle15, by show i16 + 1 + (m16 - 1) = (clampN z); omega⟩⟩
   ·
    rw [hc18]
    refine cond_false_rule (b := false) (by kernel_rfl) rfl ?_
    refine wp_exit ?_
    refine seqR ?_
    refine oK _ [] 6 [.o 0] 0 (fun φ26 => [(47, .int .i64 (clampN z)), (46, .slice a bs.length c), (45, pB y), (44, pB y), (43, pB y), (42, pB y)]) (fun φ26 => [y]) s (fun φ26 => by kernel_rfl) ?_
    intro φ26 w26 s
    refine sem_rule (Instr.sliceAt 37 (.slice a bs.length c) (some (.int .i64 (clampN z))) none none) (some 48) (.slice (subA a (clampN z) c) (bs.length - (clampN z)) (c - (clampN z))) (by kernel_rfl) (run_fromB (by have hcp := (BoS.cap hb).2; (try simp only [List.length_drop, List.length_take, List.length_append, List.length_cons, List.length_nil] at hcp ⊢); have hcl := clampN_le z; have htk : (bs.take (clampN z)).length = min (clampN z) bs.length := List.length_take; have hq0 := of_decide_eq_false hc6; have hq1 := of_decide_eq_false hc9; have hq2 := of_decide_eq_false hc18; omega)) ?_
    refine oAD _ [] 3 [.o 0] 0 (fun φ27 => [(50, pB y), (49, pB y)]) (fun φ27 => [(y, .cells #[.slice (subA a (clampN z) c) (bs.length - (clampN z)) (c - (clampN z)), .int .i64 e] 40)]) (fun φ27 => [y]) s (fun φ27 => by kernel_rfl) (by kernel_rfl) ?_
    intro φ27 w27 s
    refine seqR ?_
    refine oKD _ [] 2 [] 0 (fun φ28 => [(4, .int .u64 (rdB bs i16)), (51, .int .u64 (rdB bs i16))]) (fun φ28 => []) s (fun φ28 => by kernel_rfl) (by kernel_rfl) ?_
    intro φ28 w28 s
    refine wp_ret ?_
    refine ret_rule (C := []) _ [] (.int .u64 (rdB bs i16)) [] [] s trivial (by kernel_rfl) ?_
    exact ⟨_, _, _, rfl, s, (by have hq0 := of_decide_eq_false hc6; have hq1 := of_decide_eq_false hc9; have hq2 := of_decide_eq_false hc18; have hq9 := of_decide_eq_false hc18; have hi9 := hi16_0; have hg9 : i16 = (clampN z) := (by omega); exact ⟨_, rfl, rfl, _, _, _, (by unfold bgV; rw [if_pos (by omega), hg9]), (by (unfold bgE; first | rw [if_pos (by omega)] | rw [if_neg (by omega)]); try rfl), bos_eq (bos_from (lo := clampN z) hb (by have hcp := (BoS.cap hb).2; (try simp only [List.length_drop, List.length_take, List.length_append, List.length_cons, List.length_nil] at hcp ⊢); have hcl := clampN_le z; have htk : (bs.take (clampN z)).length = min (clampN z) bs.length := List.length_take; have hq0 := of_decide_eq_false hc6; have hq1 := of_decide_eq_false hc9; have hq2 := of_decide_eq_false hc18; omega)) (by unfold bgD; first | (rw [if_pos (by omega)]; done) | (rw [if_neg (by omega)]; rfl))⟩)⟩

end Go.Proofs.YtgmigcmhnmmdkaaDoor

/- The document reads a number in few bits. -/
set_option linter.all false
set_option maxRecDepth 100000
namespace Go.Proofs.YtgmigcmhnmmdkaaDoor
open Go.RowKit Go.Sep
attribute [local irreducible] Go.wpList Go.Code.wp

set_option maxHeartbeats 2000000 in
theorem refNumB_c {I : IM} {bs : List Bool} {a : Option Addr} {n c y e : Nat} (hb : BoS I bs (.slice a n c)) (hn9 : bs.length ≤ 1000000) : FunM Tryd.prog 80 #[.pointer (some ⟨y, 0, none⟩)] I [(y, .cells #[.slice a n c, .int .i64 ((e : Nat) : Int)] 40)] (fun v J H' => ∃ b' : OB, H' = [b'] ∧ b'.1 = y ∧ ∃ (a' : Option Addr) (n' c' : Nat), v = .int .u64 ((bnV bs e : Nat) : Int) ∧ b' = (y, .cells #[.slice a' n' c', .int .i64 ((bnE bs e : Nat) : Int)] 40) ∧ BoS J (bs.drop (bnD bs e)) (.slice a' n' c')) := by
 obtain ⟨rfl, -⟩ := hb.cap
 refine enterM_rule 89 [(0, pB y)] Tryd.func80 rfl (by kernel_rfl) ?_
 intro w s
 refine seqR ?_
 refine oKD [(y, .cells #[.slice a bs.length c, .int .i64 e] 40)] [] 1 [] 0 (fun φ1 => [(2, .int .u64 0)]) (fun φ1 => []) s (fun φ1 => by kernel_rfl) (by kernel_rfl) ?_
 intro φ1 w1 s
 refine wp_seq ?_
 refine seqR ?_
 refine oK _ [] 5 [.o 0] 0 (fun φ2 => [(13, .bool (((e : Nat) : Int) != ((0 : Nat) : Int))), (12, .int .i64 e), (11, .pointer (some ⟨y, 1, none⟩)), (10, pB y), (9, pB y)]) (fun φ2 => [y]) s (fun φ2 => by kernel_rfl) ?_
 intro φ2 w2 s
 rw [nat_neq (a := e) (b := 0)]
 refine ops_done (by kernel_rfl) ?_
 rcases Bool.eq_false_or_eq_true (decide (e ≠ 0)) with hc3 | hc3
 ·
  rw [hc3]
  refine cond_true_rule (b := true) (by kernel_rfl) rfl ?_
  refine seqR ?_
  refine oKD _ [] 1 [] 0 (fun φ4 => [(2, .int .u64 0)]) (fun φ4 => []) s (fun φ4 => by kernel_rfl) (by kernel_rfl) ?_
  intro φ4 w4 s
  refine wp_ret ?_
  refine ret_rule (C := []) _ [] (.int .u64 0) [] [] s trivial (by kernel_rfl) ?_
  exact ⟨_, _, _, rfl, s, (by have h9 := of_decide_eq_true hc3; have h8 := bn_err (bs := bs) (e := e) h9; exact ⟨_, rfl, rfl, _, _, _, (by rw [h8.1]; rfl), (by rw [h8.2.2]), bos_eq hb (by rw [h8.2.1]; rfl)⟩)⟩
 ·
  rw [hc3]
  refine cond_false_rule (b := false) (by kernel_rfl) rfl ?_
  refine wp_skip ?_
  refine seqR ?_
  refine oKD _ [] 5 [.o 0] 0 (fun φ5 => [(3, .slice a bs.length c), (17, .slice a bs.length c), (16, pB y), (15, pB y), (14, pB y)]) (fun φ5 => [y]) s (fun φ5 => by kernel_rfl) (by kernel_rfl) ?_
  intro φ5 w5 s
  refine seqR ?_
  refine oKD _ [] 1 [] 0 (fun φ6 => [(4, .int .i64 2)]) (fun φ6 => []) s (fun φ6 => by kernel_rfl) (by kernel_rfl) ?_
  intro φ6 w6 s
  refine seqR ?_
  refine oKD _ [] 1 [] 0 (fun φ7 => [(5, .int .u64 0)]) (fun φ7 => []) s (fun φ7 => by kernel_rfl) (by kernel_rfl) ?_
  intro φ7 w7 s
  refine wp_seq ?_
  refine wp_block ?_
  have hle8 := IM.Le.refl I
  refine loop_rule (fun (x : Nat × Option Addr × Nat × Nat) => [(0, pB y), (3, .slice x.2.1 x.2.2.1 x.2.2.2), (4, .int .i64 ((x.1 + 2 : Nat) : Int)), (5, .int .u64 ((2 ^ (x.1 + 2) - 4 : Nat) : Int))]) (fun (x : Nat × Option Addr × Nat × Nat) => [(y, .cells #[.slice a bs.length c, .int .i64 e] 40)]) (fun m (x : Nat × Option Addr × Nat × Nat) J => IM.Le I J ∧ x.1 + m = 63 ∧ OnesB bs x.1 ∧ BoS J (bs.drop x.1) (.slice x.2.1 x.2.2.1 x.2.2.2)) (63) (0, a, bs.length, c) s (by kernel_rfl) (List.Sublist.cons₂ _ List.Sublist.slnil) ⟨IM.Le.refl _, rfl, OnesB.start bs, bos_eq hb rfl⟩ ?_
  rintro m9 ⟨j9, a9, n9, c9⟩ I9 w9 ev9 s ⟨le9, hi9_0, hi9_1, hi9_2⟩
  try dsimp only at s hi9_0 hi9_1 hi9_2 ⊢
  replace hb := BoS.mono le9 hb
  replace hle8 := leMono le9 hle8
  refine wp_seq ?_
  refine seqR ?_
  refine oK [(y, .cells #[.slice a bs.length c, .int .i64 e] 40)] [] 4 [] 0 (fun φ10 => [(21, .bool (decide (((n9 : Nat) : Int) > ((0 : Nat) : Int)))), (20, .bool (decide (((n9 : Nat) : Int) > ((0 : Nat) : Int)))), (19, .int .i64 n9), (18, .slice a9 n9 c9)]) (fun φ10 => []) s (fun φ10 => by kernel_rfl) ?_
  intro φ10 w10 s
  rw [nat_gtr (a := n9) (b := 0)]
  rcases Bool.eq_false_or_eq_true (decide (0 < n9)) with hc11 | hc11
  ·
   rw [hc11]
   refine oK _ [] 1 [] 0 (fun φ12 => [(22, .slice a9 n9 c9)]) (fun φ12 => []) s (fun φ12 => by kernel_rfl) ?_
   intro φ12 w12 s
   refine sem_rule (Instr.indexAt 37 (.slice a9 n9 c9) (.int .i64 ((0 : Nat) : Int))) (some 23) (.pointer (pAt a9 0)) (by kernel_rfl) (bos_idx hi9_2 (by have hdl : (bs.drop j9).length = bs.length - j9 := List.length_drop; have hdm : (((bs.drop j9).take (1 + (j9 + 2))).drop 1).length = min (1 + (j9 + 2)) (bs.length - j9) - 1 := (by simp only [List.length_drop, List.length_take]); have ho1 := hi9_1.le; have ho2 := hi9_1.len; have hcp1 := (hi9_2).cap; (simp only [List.length_drop] at hcp1); have hbl := base_lt (j := j9) hi9_1.le;  have hq0 := of_decide_eq_false hc3; have hq1 := of_decide_eq_true hc11; omega)) ?_
   refine sem_rule (Instr.loadAt 4 (.pointer (pAt a9 0))) (some 24) (.bool ((bs.drop j9).getD 0 false)) (by kernel_rfl) (bos_ld s.sub hi9_2 (by have hdl : (bs.drop j9).length = bs.length - j9 := List.length_drop; have hdm : (((bs.drop j9).take (1 + (j9 + 2))).drop 1).length = min (1 + (j9 + 2)) (bs.length - j9) - 1 := (by simp only [List.length_drop, List.length_take]); have ho1 := hi9_1.le; have ho2 := hi9_1.len; have hcp1 := (hi9_2).cap; (simp only [List.length_drop] at hcp1); have hbl := base_lt (j := j9) hi9_1.le;  have hq0 := of_decide_eq_false hc3; have hq1 := of_decide_eq_true hc11; omega)) ?_
   refine oK _ [] 2 [] 0 (fun φ13 => [(26, .bool ((bs.drop j9).getD 0 false)), (25, .bool ((bs.drop j9).getD 0 false))]) (fun φ13 => []) s (fun φ13 => by kernel_rfl) ?_
   intro φ13 w13 s
   rcases Bool.eq_false_or_eq_true ((bs.drop j9).getD 0 false) with hc14 | hc14
   ·
    rw [hc14]
    refine oK _ [] 3 [] 0 (fun φ15 => [(29, .bool (decide (((j9 + 2 : Nat) : Int) < ((64 : Nat) : Int)))), (28, .bool (decide (((j9 + 2 : Nat) : Int) < ((64 : Nat) : Int)))), (27, .int .i64 ((j9 + 2 : Nat) : Int))]) (fun φ15 => []) s (fun φ15 => by kernel_rfl) ?_
    intro φ15 w15 s
    rw [nat_lss (a := (j9 + 2)) (b := 64)]
    refine ops_done (by kernel_rfl) ?_
    rcases Bool.eq_false_or_eq_true (decide ((j9 + 2) < 64)) with hc16 | hc16
    ·
     rw [hc16]
     refine cond_true_rule (b := true) (by kernel_rfl) rfl ?_
     refine wp_skip ?_
     refine wp_block ?_
     refine seqR ?_
     refine oK _ [] 2 [] 0 (fun φ17 => [(31, .int .i64 ((j9 + 2 : Nat) : Int)), (30, .int .u64 ((2 ^ (j9 + 2) - 4 : Nat) : Int))]) (fun φ17 => []) s (fun φ17 => by kernel_rfl) ?_
     intro φ17 w17 s
     refine call_rule (some 32) s (power_c (b := j9 + 2) (by have hdl : (bs.drop j9).length = bs.length - j9 := List.length_drop; have hdm : (((bs.drop j9).take (1 + (j9 + 2))).drop 1).length = min (1 + (j9 + 2)) (bs.length - j9) - 1 := (by simp only [List.length_drop, List.length_take]); have ho1 := hi9_1.le; have ho2 := hi9_1.len; have hcp1 := (hi9_2).cap; (simp only [List.length_drop] at hcp1); have hbl := base_lt (j := j9) hi9_1.le; have hpb := pow_base (j := j9) (by have hq0 := of_decide_eq_false hc3; have hq1 := of_decide_eq_true hc11; have hq3 := of_decide_eq_true hc16; omega);  have hq0 := of_decide_eq_false hc3; have hq1 := of_decide_eq_true hc11; have hq3 := of_decide_eq_true hc16; omega)) (by kernel_rfl) ?_
     intro v18 I18 w18 le18 h18 s
     replace hb := BoS.mono le18 hb
     replace hle8 := leMono le18 hle8
     replace hi9_2 := BoS.mono le18 hi9_2
     obtain rfl := h18
     refine oK _ [] 2 [] 0 (fun φ19 => [(5, .int .u64 (IntKind.wrap .u64 (((2 ^ (j9 + 2) - 4 : Nat) : Int) + ((2 ^ (j9 + 2) : Nat) : Int)))), (33, .int .u64 (IntKind.wrap .u64 (((2 ^ (j9 + 2) - 4 : Nat) : Int) + ((2 ^ (j9 + 2) : Nat) : Int))))]) (fun φ19 => []) s (fun φ19 => by kernel_rfl) ?_
     intro φ19 w19 s
     rw [nat_addU (a := (2 ^ (j9 + 2) - 4)) (b := (2 ^ (j9 + 2))) (by have hdl : (bs.drop j9).length = bs.length - j9 := List.length_drop; have hdm : (((bs.drop j9).take (1 + (j9 + 2))).drop 1).length = min (1 + (j9 + 2)) (bs.length - j9) - 1 := (by simp only [List.length_drop, List.length_take]); have ho1 := hi9_1.le; have ho2 := hi9_1.len; have hcp1 := (hi9_2).cap; (simp only [List.length_drop] at hcp1); have hbl := base_lt (j := j9) hi9_1.le; have hpb := pow_base (j := j9) (by have hq0 := of_decide_eq_false hc3; have hq1 := of_decide_eq_true hc11; have hq3 := of_decide_eq_true hc16; omega);  have hq0 := of_decide_eq_false hc3; have hq1 := of_decide_eq_true hc11; have hq3 := of_decide_eq_true hc16; omega)]
     refine ops_done (by kernel_rfl) ?_
     refine seqR ?_
     refine oK _ [] 1 [] 0 (fun φ20 => [(34, .slice a9 n9 c9)]) (fun φ20 => []) s (fun φ20 => by kernel_rfl) ?_
     intro φ20 w20 s
     refine sem_rule (Instr.sliceAt 37 (.slice a9 n9 c9) (some (.int .i64 ((1 : Nat) : Int))) none none) (some 35) (.slice (subA a9 1 c9) (n9 - 1) (c9 - 1)) (by kernel_rfl) (run_fromB (by have hcp := (BoS.cap hi9_2).2; (try simp only [List.length_drop, List.length_take, List.length_append, List.length_cons, List.length_nil] at hcp ⊢); have hdl : (bs.drop j9).length = bs.length - j9 := List.length_drop; have hdm : (((bs.drop j9).take (1 + (j9 + 2))).drop 1).length = min (1 + (j9 + 2)) (bs.length - j9) - 1 := (by simp only [List.length_drop, List.length_take]); have ho1 := hi9_1.le; have ho2 := hi9_1.len; have hcp1 := (hi9_2).cap; (simp only [List.length_drop] at hcp1); have hbl := base_lt (j := j9) hi9_1.le; have hpb := pow_base (j := j9) (by have hq0 := of_decide_eq_false hc3; have hq1 := of_decide_eq_true hc11; have hq3 := of_decide_eq_true hc16; omega);  have hq0 := of_decide_eq_false hc3; have hq1 := of_decide_eq_true hc11; have hq3 := of_decide_eq_true hc16; omega)) ?_
     refine oKD _ [] 1 [] 0 (fun φ21 => [(3, .slice (subA a9 1 c9) (n9 - 1) (c9 - 1))]) (fun φ21 => []) s (fun φ21 => by kernel_rfl) (by kernel_rfl) ?_
     intro φ21 w21 s
     refine region_rule ?_
     refine oK _ [] 3 [] 0 (fun φ22 => [(4, .int .i64 (IntKind.wrap .i64 (((j9 + 2 : Nat) : Int) + ((1 : Nat) : Int)))), (37, .int .i64 (IntKind.wrap .i64 (((j9 + 2 : Nat) : Int) + ((1 : Nat) : Int)))), (36, .int .i64 ((j9 + 2 : Nat) : Int))]) (fun φ22 => []) s (fun φ22 => by kernel_rfl) ?_
     intro φ22 w22 s
     rw [nat_addI (a := (j9 + 2)) (b := 1) (by have hdl : (bs.drop j9).length = bs.length - j9 := List.length_drop; have hdm : (((bs.drop j9).take (1 + (j9 + 2))).drop 1).length = min (1 + (j9 + 2)) (bs.length - j9) - 1 := (by simp only [List.length_drop, List.length_take]); have ho1 := hi9_1.le; have ho2 := hi9_1.len; have hcp1 := (hi9_2).cap; (simp only [List.length_drop] at hcp1); have hbl := base_lt (j := j9) hi9_1.le; have hpb := pow_base (j := j9) (by have hq0 := of_decide_eq_false hc3; have hq1 := of_decide_eq_true hc11; have hq3 := of_decide_eq_true hc16; omega);  have hq0 := of_decide_eq_false hc3; have hq1 := of_decide_eq_true hc11; have hq3 := of_decide_eq_true hc16; omega)]
     refine ops_done (by kernel_rfl) ?_
     have hs9 := OnesB.step hi9_1 (by have hq0 := of_decide_eq_false hc3; have hq1 := of_decide_eq_true hc11; have hq3 := of_decide_eq_true hc16; have hc9 := (hi9_2).cap.1; omega) hc14 (of_decide_eq_true hc16)
     rw [base_step (j := j9)]
     rw [show j9 + 2 + 1 = j9 + 1 + 2 from by omega]
     exact ⟨⟨m9 - 1, (j9 + 1, (subA a9 1 c9), (n9 - 1), (c9 - 1)), _, _, _, by have := hi9_0; have := hs9.le; omega, rfl, s, (List.Sublist.cons₂ _ List.Sublist.slnil), by kernel_rfl, hle8, by have := hi9_0; have := hs9.le; show j9 + 1 + (m9 - 1) = 63; omega, hs9, bos_eq (bos_from (lo := 1) hi9_2 (by have hcp := (BoS.cap hi9_2).2; (try simp only [List.length_drop, List.length_take, List.length_append, List.length_cons, List.length_nil] at hcp ⊢); have hdl : (bs.drop j9).length = bs.length - j9 := List.length_drop; have hdm : (((bs.drop j9).take (1 + (j9 + 2))).drop 1).length = min (1 + (j9 + 2)) (bs.length - j9) - 1 := (by simp only [List.length_drop, List.length_take]); have ho1 := hi9_1.le; have ho2 := hi9_1.len; have hcp1 := (hi9_2).cap; (simp only [List.length_drop] at hcp1); have hbl := base_lt (j := j9) hi9_1.le; have hpb := pow_base (j := j9) (by have hq0 := of_decide_eq_false hc3; have hq1 := of_decide_eq_true hc11; have hq3 := of_decide_eq_true hc16; omega);  have hq0 := of_decide_eq_false hc3; have hq1 := of_decide_eq_true hc11; have hq3 := of_decide_eq_true hc16; omega)) (by rw [List.drop_drop])⟩⟩
    ·
     rw [hc16]
     refine cond_false_rule (b := false) (by kernel_rfl) rfl ?_
     refine wp_exit ?_
     refine wp_seq ?_
     refine seqR ?_
     refine oK _ [] 4 [] 0 (fun φ23 => [(41, .bool (((n9 : Nat) : Int) == ((0 : Nat) : Int))), (40, .bool (((n9 : Nat) : Int) == ((0 : Nat) : Int))), (39, .int .i64 n9), (38, .slice a9 n9 c9)]) (fun φ23 => []) s (fun φ23 => by kernel_rfl) ?_
     intro φ23 w23 s
     rw [nat_eql (a := n9) (b := 0)]
     rcases Bool.eq_false_or_eq_true (decide (n9 = 0)) with hc24 | hc24
     ·
      exact absurd (of_decide_eq_true hc24) (by have q9 := of_decide_eq_true hc11; omega)
     ·
      rw [hc24]
      refine oK _ [] 1 [] 0 (fun φ25 => [(42, .slice a9 n9 c9)]) (fun φ25 => []) s (fun φ25 => by kernel_rfl) ?_
      intro φ25 w25 s
      refine sem_rule (Instr.indexAt 37 (.slice a9 n9 c9) (.int .i64 ((0 : Nat) : Int))) (some 43) (.pointer (pAt a9 0)) (by kernel_rfl) (bos_idx hi9_2 (by have hdl : (bs.drop j9).length = bs.length - j9 := List.length_drop; have hdm : (((bs.drop j9).take (1 + (j9 + 2))).drop 1).length = min (1 + (j9 + 2)) (bs.length - j9) - 1 := (by simp only [List.length_drop, List.length_take]); have ho1 := hi9_1.le; have ho2 := hi9_1.len; have hcp1 := (hi9_2).cap; (simp only [List.length_drop] at hcp1); have hbl := base_lt (j := j9) hi9_1.le;  have hq0 := of_decide_eq_false hc3; have hq1 := of_decide_eq_true hc11; have hq3 := of_decide_eq_false hc16; have hq4 := of_decide_eq_false hc24; omega)) ?_
      refine sem_rule (Instr.loadAt 4 (.pointer (pAt a9 0))) (some 44) (.bool ((bs.drop j9).getD 0 false)) (by kernel_rfl) (bos_ld s.sub hi9_2 (by have hdl : (bs.drop j9).length = bs.length - j9 := List.length_drop; have hdm : (((bs.drop j9).take (1 + (j9 + 2))).drop 1).length = min (1 + (j9 + 2)) (bs.length - j9) - 1 := (by simp only [List.length_drop, List.length_take]); have ho1 := hi9_1.le; have ho2 := hi9_1.len; have hcp1 := (hi9_2).cap; (simp only [List.length_drop] at hcp1); have hbl := base_lt (j := j9) hi9_1.le;  have hq0 := of_decide_eq_false hc3; have hq1 := of_decide_eq_true hc11; have hq3 := of_decide_eq_false hc16; have hq4 := of_decide_eq_false hc24; omega)) ?_
      refine oK _ [] 2 [] 0 (fun φ26 => [(46, .bool ((bs.drop j9).getD 0 false)), (45, .bool ((bs.drop j9).getD 0 false))]) (fun φ26 => []) s (fun φ26 => by kernel_rfl) ?_
      intro φ26 w26 s
      rcases Bool.eq_false_or_eq_true ((bs.drop j9).getD 0 false) with hc27 | hc27
      ·
       rw [hc27]
       refine oKD _ [] 6 [] 0 (fun φ28 => [(52, .bool true), (51, undef), (50, undef), (49, undef), (48, undef), (47, undef)]) (fun φ28 => []) s (fun φ28 => by kernel_rfl) (by kernel_rfl) ?_
       intro φ28 w28 s
       refine cond_true_rule (b := true) (by kernel_rfl) rfl ?_
       refine seqR ?_
       refine oAD _ [] 4 [.o 0] 0 (fun φ29 => [(55, .pointer (some ⟨y, 1, none⟩)), (54, pB y), (53, pB y)]) (fun φ29 => [(y, .cells #[.slice a bs.length c, .int .i64 6] 40)]) (fun φ29 => [y]) s (fun φ29 => by kernel_rfl) (by kernel_rfl) ?_
       intro φ29 w29 s
       refine seqR ?_
       refine oKD _ [] 1 [] 0 (fun φ30 => [(2, .int .u64 0)]) (fun φ30 => []) s (fun φ30 => by kernel_rfl) (by kernel_rfl) ?_
       intro φ30 w30 s
       refine wp_ret ?_
       refine ret_rule (C := []) _ [] (.int .u64 0) [] [] s trivial (by kernel_rfl) ?_
       exact ⟨_, _, _, rfl, s, (by have h8 := bn_bad (bs := bs) (e := e) (j := j9) (by have h9 := of_decide_eq_false hc3; omega) (OnesB.run hi9_1 (.inr (.inr (by have hq0 := of_decide_eq_false hc3; have hq1 := of_decide_eq_true hc11; have hq3 := of_decide_eq_false hc16; have hq4 := of_decide_eq_false hc24; omega)))) (.inr (.inl (by rw [← head_drop]; exact hc27))); exact ⟨_, rfl, rfl, _, _, _, (by rw [h8.1]; rfl), (by rw [h8.2.2]; rfl), bos_eq hb (by rw [h8.2.1]; rfl)⟩)⟩
      ·
       exact absurd (hc14.symm.trans hc27) (by decide)
   ·
    rw [hc14]
    refine oKD _ [] 3 [] 0 (fun φ31 => [(29, .bool false), (28, undef), (27, undef)]) (fun φ31 => []) s (fun φ31 => by kernel_rfl) (by kernel_rfl) ?_
    intro φ31 w31 s
    refine cond_false_rule (b := false) (by kernel_rfl) rfl ?_
    refine wp_exit ?_
    refine wp_seq ?_
    refine seqR ?_
    refine oK _ [] 4 [] 0 (fun φ32 => [(41, .bool (((n9 : Nat) : Int) == ((0 : Nat) : Int))), (40, .bool (((n9 : Nat) : Int) == ((0 : Nat) : Int))), (39, .int .i64 n9), (38, .slice a9 n9 c9)]) (fun φ32 => []) s (fun φ32 => by kernel_rfl) ?_
    intro φ32 w32 s
    rw [nat_eql (a := n9) (b := 0)]
    rcases Bool.eq_false_or_eq_true (decide (n9 = 0)) with hc33 | hc33
    ·
     exact absurd (of_decide_eq_true hc33) (by have q9 := of_decide_eq_true hc11; omega)
    ·
     rw [hc33]
     refine oK _ [] 1 [] 0 (fun φ34 => [(42, .slice a9 n9 c9)]) (fun φ34 => []) s (fun φ34 => by kernel_rfl) ?_
     intro φ34 w34 s
     refine sem_rule (Instr.indexAt 37 (.slice a9 n9 c9) (.int .i64 ((0 : Nat) : Int))) (some 43) (.pointer (pAt a9 0)) (by kernel_rfl) (bos_idx hi9_2 (by have hdl : (bs.drop j9).length = bs.length - j9 := List.length_drop; have hdm : (((bs.drop j9).take (1 + (j9 + 2))).drop 1).length = min (1 + (j9 + 2)) (bs.length - j9) - 1 := (by simp only [List.length_drop, List.length_take]); have ho1 := hi9_1.le; have ho2 := hi9_1.len; have hcp1 := (hi9_2).cap; (simp only [List.length_drop] at hcp1); have hbl := base_lt (j := j9) hi9_1.le;  have hq0 := of_decide_eq_false hc3; have hq1 := of_decide_eq_true hc11; have hq3 := of_decide_eq_false hc33; omega)) ?_
     refine sem_rule (Instr.loadAt 4 (.pointer (pAt a9 0))) (some 44) (.bool ((bs.drop j9).getD 0 false)) (by kernel_rfl) (bos_ld s.sub hi9_2 (by have hdl : (bs.drop j9).length = bs.length - j9 := List.length_drop; have hdm : (((bs.drop j9).take (1 + (j9 + 2))).drop 1).length = min (1 + (j9 + 2)) (bs.length - j9) - 1 := (by simp only [List.length_drop, List.length_take]); have ho1 := hi9_1.le; have ho2 := hi9_1.len; have hcp1 := (hi9_2).cap; (simp only [List.length_drop] at hcp1); have hbl := base_lt (j := j9) hi9_1.le;  have hq0 := of_decide_eq_false hc3; have hq1 := of_decide_eq_true hc11; have hq3 := of_decide_eq_false hc33; omega)) ?_
     refine oK _ [] 2 [] 0 (fun φ35 => [(46, .bool ((bs.drop j9).getD 0 false)), (45, .bool ((bs.drop j9).getD 0 false))]) (fun φ35 => []) s (fun φ35 => by kernel_rfl) ?_
     intro φ35 w35 s
     rcases Bool.eq_false_or_eq_true ((bs.drop j9).getD 0 false) with hc36 | hc36
     ·
      exact absurd (hc14.symm.trans hc36) (by decide)
     ·
      rw [hc36]
      refine oK _ [] 6 [] 0 (fun φ37 => [(52, .bool (decide (((n9 : Nat) : Int) < (IntKind.wrap .i64 (((1 : Nat) : Int) + ((j9 + 2 : Nat) : Int)))))), (51, .bool (decide (((n9 : Nat) : Int) < (IntKind.wrap .i64 (((1 : Nat) : Int) + ((j9 + 2 : Nat) : Int)))))), (50, .int .i64 (IntKind.wrap .i64 (((1 : Nat) : Int) + ((j9 + 2 : Nat) : Int)))), (49, .int .i64 ((j9 + 2 : Nat) : Int)), (48, .int .i64 n9), (47, .slice a9 n9 c9)]) (fun φ37 => []) s (fun φ37 => by kernel_rfl) ?_
      intro φ37 w37 s
      rw [nat_addI (a := 1) (b := (j9 + 2)) (by have hdl : (bs.drop j9).length = bs.length - j9 := List.length_drop; have hdm : (((bs.drop j9).take (1 + (j9 + 2))).drop 1).length = min (1 + (j9 + 2)) (bs.length - j9) - 1 := (by simp only [List.length_drop, List.length_take]); have ho1 := hi9_1.le; have ho2 := hi9_1.len; have hcp1 := (hi9_2).cap; (simp only [List.length_drop] at hcp1); have hbl := base_lt (j := j9) hi9_1.le;  have hq0 := of_decide_eq_false hc3; have hq1 := of_decide_eq_true hc11; have hq3 := of_decide_eq_false hc33; omega)]
      rw [nat_lss (a := n9) (b := (1 + (j9 + 2)))]
      refine ops_done (by kernel_rfl) ?_
      rcases Bool.eq_false_or_eq_true (decide (n9 < (1 + (j9 + 2)))) with hc38 | hc38
      ·
       rw [hc38]
       refine cond_true_rule (b := true) (by kernel_rfl) rfl ?_
       refine seqR ?_
       refine oAD _ [] 4 [.o 0] 0 (fun φ39 => [(55, .pointer (some ⟨y, 1, none⟩)), (54, pB y), (53, pB y)]) (fun φ39 => [(y, .cells #[.slice a bs.length c, .int .i64 6] 40)]) (fun φ39 => [y]) s (fun φ39 => by kernel_rfl) (by kernel_rfl) ?_
       intro φ39 w39 s
       refine seqR ?_
       refine oKD _ [] 1 [] 0 (fun φ40 => [(2, .int .u64 0)]) (fun φ40 => []) s (fun φ40 => by kernel_rfl) (by kernel_rfl) ?_
       intro φ40 w40 s
       refine wp_ret ?_
       refine ret_rule (C := []) _ [] (.int .u64 0) [] [] s trivial (by kernel_rfl) ?_
       exact ⟨_, _, _, rfl, s, (by have h8 := bn_bad (bs := bs) (e := e) (j := j9) (by have h9 := of_decide_eq_false hc3; omega) (OnesB.run hi9_1 (.inr (.inl hc14))) (.inl (by have hq0 := of_decide_eq_false hc3; have hq1 := of_decide_eq_true hc11; have hq3 := of_decide_eq_false hc33; have hq5 := of_decide_eq_true hc38; have hdl : (bs.drop j9).length = bs.length - j9 := List.length_drop; have hdm : (((bs.drop j9).take (1 + (j9 + 2))).drop 1).length = min (1 + (j9 + 2)) (bs.length - j9) - 1 := (by simp only [List.length_drop, List.length_take]); have ho1 := hi9_1.le; have ho2 := hi9_1.len; have hcp1 := (hi9_2).cap; (simp only [List.length_drop] at hcp1); have hbl := base_lt (j := j9) hi9_1.le;  omega)); exact ⟨_, rfl, rfl, _, _, _, (by rw [h8.1]; rfl), (by rw [h8.2.2]; rfl), bos_eq hb (by rw [h8.2.1]; rfl)⟩)⟩
      ·
       rw [hc38]
       refine cond_false_rule (b := false) (by kernel_rfl) rfl ?_
       refine wp_skip ?_
       refine seqR ?_
       refine oKD _ [] 1 [] 0 (fun φ41 => [(6, .int .u64 0)]) (fun φ41 => []) s (fun φ41 => by kernel_rfl) (by kernel_rfl) ?_
       intro φ41 w41 s
       refine wp_seq ?_
       refine seqR ?_
       refine oK _ [] 3 [] 0 (fun φ42 => [(58, .int .i64 (IntKind.wrap .i64 (((1 : Nat) : Int) + ((j9 + 2 : Nat) : Int)))), (57, .int .i64 ((j9 + 2 : Nat) : Int)), (56, .slice a9 n9 c9)]) (fun φ42 => []) s (fun φ42 => by kernel_rfl) ?_
       intro φ42 w42 s
       rw [nat_addI (a := 1) (b := (j9 + 2)) (by have hdl : (bs.drop j9).length = bs.length - j9 := List.length_drop; have hdm : (((bs.drop j9).take (1 + (j9 + 2))).drop 1).length = min (1 + (j9 + 2)) (bs.length - j9) - 1 := (by simp only [List.length_drop, List.length_take]); have ho1 := hi9_1.le; have ho2 := hi9_1.len; have hcp1 := (hi9_2).cap; (simp only [List.length_drop] at hcp1); have hbl := base_lt (j := j9) hi9_1.le;  have hq0 := of_decide_eq_false hc3; have hq1 := of_decide_eq_true hc11; have hq3 := of_decide_eq_false hc33; have hq5 := of_decide_eq_false hc38; omega)]
       refine sem_rule (Instr.sliceAt 37 (.slice a9 n9 c9) (some (.int .i64 ((1 : Nat) : Int))) (some (.int .i64 ((1 + (j9 + 2) : Nat) : Int))) none) (some 59) (.slice (subA a9 1 c9) (1 + (j9 + 2) - 1) (c9 - 1)) (by kernel_rfl) (run_midB (by have hcp := (BoS.cap hi9_2).2; (try simp only [List.length_drop, List.length_take, List.length_append, List.length_cons, List.length_nil] at hcp ⊢); have hdl : (bs.drop j9).length = bs.length - j9 := List.length_drop; have hdm : (((bs.drop j9).take (1 + (j9 + 2))).drop 1).length = min (1 + (j9 + 2)) (bs.length - j9) - 1 := (by simp only [List.length_drop, List.length_take]); have ho1 := hi9_1.le; have ho2 := hi9_1.len; have hcp1 := (hi9_2).cap; (simp only [List.length_drop] at hcp1); have hbl := base_lt (j := j9) hi9_1.le;  have hq0 := of_decide_eq_false hc3; have hq1 := of_decide_eq_true hc11; have hq3 := of_decide_eq_false hc33; have hq5 := of_decide_eq_false hc38; omega) (by have hcp := (BoS.cap hi9_2).2; (try simp only [List.length_drop, List.length_take, List.length_append, List.length_cons, List.length_nil] at hcp ⊢); have hdl : (bs.drop j9).length = bs.length - j9 := List.length_drop; have hdm : (((bs.drop j9).take (1 + (j9 + 2))).drop 1).length = min (1 + (j9 + 2)) (bs.length - j9) - 1 := (by simp only [List.length_drop, List.length_take]); have ho1 := hi9_1.le; have ho2 := hi9_1.len; have hcp1 := (hi9_2).cap; (simp only [List.length_drop] at hcp1); have hbl := base_lt (j := j9) hi9_1.le;  have hq0 := of_decide_eq_false hc3; have hq1 := of_decide_eq_true hc11; have hq3 := of_decide_eq_false hc33; have hq5 := of_decide_eq_false hc38; omega)) ?_
       refine oKD _ [] 2 [] 0 (fun φ43 => [(61, .int .i64 0), (60, .int .i64 (((1 + (j9 + 2) - 1) : Nat) : Int))]) (fun φ43 => []) s (fun φ43 => by kernel_rfl) (by kernel_rfl) ?_
       intro φ43 w43 s
       refine wp_block ?_
       have hle44 := IM.Le.refl I9
       refine loop_rule (fun (x : Nat) => [(0, pB y), (3, .slice a9 n9 c9), (4, .int .i64 ((j9 + 2 : Nat) : Int)), (5, .int .u64 ((2 ^ (j9 + 2) - 4 : Nat) : Int)), (59, .slice (subA a9 1 c9) (1 + (j9 + 2) - 1) (c9 - 1)), (60, .int .i64 (((1 + (j9 + 2) - 1) : Nat) : Int)), (6, .int .u64 ((rdB (((bs.drop j9).take (1 + (j9 + 2))).drop 1) x : Nat) : Int)), (61, .int .i64 x)]) (fun (x : Nat) => [(y, .cells #[.slice a bs.length c, .int .i64 e] 40)]) (fun m (x : Nat) J => IM.Le I9 J ∧ x + m = j9 + 2) (j9 + 2) 0 s (by kernel_rfl) (List.Sublist.cons₂ _ List.Sublist.slnil) ⟨IM.Le.refl _, Nat.zero_add _⟩ ?_
       rintro m45 i45 I45 w45 ev45 s ⟨le45, hi45_0⟩
       try dsimp only at s hi45_0 ⊢
       replace hb := BoS.mono le45 hb
       replace hi9_2 := BoS.mono le45 hi9_2
       replace hle44 := leMono le45 hle44
       refine seqR ?_
       refine oK [(y, .cells #[.slice a bs.length c, .int .i64 e] 40)] [] 1 [] 0 (fun φ46 => [(62, .bool (decide (((i45 : Nat) : Int) < (((1 + (j9 + 2) - 1) : Nat) : Int))))]) (fun φ46 => []) s (fun φ46 => by kernel_rfl) ?_
       intro φ46 w46 s
       rw [nat_lss (a := i45) (b := (1 + (j9 + 2) - 1))]
       refine ops_done (by kernel_rfl) ?_
       refine wp_seq ?_
       rcases Bool.eq_false_or_eq_true (decide (i45 < (1 + (j9 + 2) - 1))) with hc47 | hc47
       ·
        rw [hc47]
        refine cond_true_rule (b := true) (by kernel_rfl) rfl ?_
        refine wp_skip ?_
        refine wp_seq ?_
        refine wp_block ?_
        refine seqR ?_
        refine sem_rule (Instr.indexAt 37 (.slice (subA a9 1 c9) (1 + (j9 + 2) - 1) (c9 - 1)) (.int .i64 i45)) (some 63) (.pointer (pAt (subA a9 1 c9) i45)) (by kernel_rfl) (bos_idx (bos_mid (lo := 1) (hi := 1 + (j9 + 2)) hi9_2 (by have hcp := (BoS.cap hi9_2).2; (try simp only [List.length_drop, List.length_take, List.length_append, List.length_cons, List.length_nil] at hcp ⊢); have hdl : (bs.drop j9).length = bs.length - j9 := List.length_drop; have hdm : (((bs.drop j9).take (1 + (j9 + 2))).drop 1).length = min (1 + (j9 + 2)) (bs.length - j9) - 1 := (by simp only [List.length_drop, List.length_take]); have ho1 := hi9_1.le; have ho2 := hi9_1.len; have hcp1 := (hi9_2).cap; (simp only [List.length_drop] at hcp1); have hbl := base_lt (j := j9) hi9_1.le;  have hq0 := of_decide_eq_false hc3; have hq1 := of_decide_eq_true hc11; have hq3 := of_decide_eq_false hc33; have hq5 := of_decide_eq_false hc38; omega) (by have hcp := (BoS.cap hi9_2).2; (try simp only [List.length_drop, List.length_take, List.length_append, List.length_cons, List.length_nil] at hcp ⊢); have hdl : (bs.drop j9).length = bs.length - j9 := List.length_drop; have hdm : (((bs.drop j9).take (1 + (j9 + 2))).drop 1).length = min (1 + (j9 + 2)) (bs.length - j9) - 1 := (by simp only [List.length_drop, List.length_take]); have ho1 := hi9_1.le; have ho2 := hi9_1.len; have hcp1 := (hi9_2).cap; (simp only [List.length_drop] at hcp1); have hbl := base_lt (j := j9) hi9_1.le;  have hq0 := of_decide_eq_false hc3; have hq1 := of_decide_eq_true hc11; have hq3 := of_decide_eq_false hc33; have hq5 := of_decide_eq_false hc38; omega)) (by have hdl : (bs.drop j9).length = bs.length - j9 := List.length_drop; have hdm : (((bs.drop j9).take (1 + (j9 + 2))).drop 1).length = min (1 + (j9 + 2)) (bs.length - j9) - 1 := (by simp only [List.length_drop, List.length_take]); have ho1 := hi9_1.le; have ho2 := hi9_1.len; have hcp1 := (hi9_2).cap; (simp only [List.length_drop] at hcp1); have hbl := base_lt (j := j9) hi9_1.le; have hr9 := rdB_63 (bs := (((bs.drop j9).take (1 + (j9 + 2))).drop 1)) (i := i45) (k := j9 + 2) (by have hq0 := of_decide_eq_false hc3; have hq1 := of_decide_eq_true hc11; have hq3 := of_decide_eq_false hc33; have hq5 := of_decide_eq_false hc38; have hq6 := of_decide_eq_true hc47; omega) (by omega);  have hq0 := of_decide_eq_false hc3; have hq1 := of_decide_eq_true hc11; have hq3 := of_decide_eq_false hc33; have hq5 := of_decide_eq_false hc38; have hq6 := of_decide_eq_true hc47; omega)) ?_
        refine sem_rule (Instr.loadAt 4 (.pointer (pAt (subA a9 1 c9) i45))) (some 64) (.bool ((((bs.drop j9).take (1 + (j9 + 2))).drop 1).getD i45 false)) (by kernel_rfl) (bos_ld s.sub (bos_mid (lo := 1) (hi := 1 + (j9 + 2)) hi9_2 (by have hcp := (BoS.cap hi9_2).2; (try simp only [List.length_drop, List.length_take, List.length_append, List.length_cons, List.length_nil] at hcp ⊢); have hdl : (bs.drop j9).length = bs.length - j9 := List.length_drop; have hdm : (((bs.drop j9).take (1 + (j9 + 2))).drop 1).length = min (1 + (j9 + 2)) (bs.length - j9) - 1 := (by simp only [List.length_drop, List.length_take]); have ho1 := hi9_1.le; have ho2 := hi9_1.len; have hcp1 := (hi9_2).cap; (simp only [List.length_drop] at hcp1); have hbl := base_lt (j := j9) hi9_1.le;  have hq0 := of_decide_eq_false hc3; have hq1 := of_decide_eq_true hc11; have hq3 := of_decide_eq_false hc33; have hq5 := of_decide_eq_false hc38; omega) (by have hcp := (BoS.cap hi9_2).2; (try simp only [List.length_drop, List.length_take, List.length_append, List.length_cons, List.length_nil] at hcp ⊢); have hdl : (bs.drop j9).length = bs.length - j9 := List.length_drop; have hdm : (((bs.drop j9).take (1 + (j9 + 2))).drop 1).length = min (1 + (j9 + 2)) (bs.length - j9) - 1 := (by simp only [List.length_drop, List.length_take]); have ho1 := hi9_1.le; have ho2 := hi9_1.len; have hcp1 := (hi9_2).cap; (simp only [List.length_drop] at hcp1); have hbl := base_lt (j := j9) hi9_1.le;  have hq0 := of_decide_eq_false hc3; have hq1 := of_decide_eq_true hc11; have hq3 := of_decide_eq_false hc33; have hq5 := of_decide_eq_false hc38; omega)) (by have hdl : (bs.drop j9).length = bs.length - j9 := List.length_drop; have hdm : (((bs.drop j9).take (1 + (j9 + 2))).drop 1).length = min (1 + (j9 + 2)) (bs.length - j9) - 1 := (by simp only [List.length_drop, List.length_take]); have ho1 := hi9_1.le; have ho2 := hi9_1.len; have hcp1 := (hi9_2).cap; (simp only [List.length_drop] at hcp1); have hbl := base_lt (j := j9) hi9_1.le; have hr9 := rdB_63 (bs := (((bs.drop j9).take (1 + (j9 + 2))).drop 1)) (i := i45) (k := j9 + 2) (by have hq0 := of_decide_eq_false hc3; have hq1 := of_decide_eq_true hc11; have hq3 := of_decide_eq_false hc33; have hq5 := of_decide_eq_false hc38; have hq6 := of_decide_eq_true hc47; omega) (by omega);  have hq0 := of_decide_eq_false hc3; have hq1 := of_decide_eq_true hc11; have hq3 := of_decide_eq_false hc33; have hq5 := of_decide_eq_false hc38; have hq6 := of_decide_eq_true hc47; omega)) ?_
        refine oKD _ [] 1 [] 0 (fun φ48 => [(8, .bool ((((bs.drop j9).take (1 + (j9 + 2))).drop 1).getD i45 false))]) (fun φ48 => []) s (fun φ48 => by kernel_rfl) (by kernel_rfl) ?_
        intro φ48 w48 s
        refine seqR ?_
        refine oK _ [] 3 [] 0 (fun φ49 => [(6, .int .u64 (IntKind.wrap .u64 (((rdB (((bs.drop j9).take (1 + (j9 + 2))).drop 1) i45 : Nat) : Int) * ((2 : Nat) : Int)))), (66, .int .u64 (IntKind.wrap .u64 (((rdB (((bs.drop j9).take (1 + (j9 + 2))).drop 1) i45 : Nat) : Int) * ((2 : Nat) : Int)))), (65, .int .u64 ((rdB (((bs.drop j9).take (1 + (j9 + 2))).drop 1) i45 : Nat) : Int))]) (fun φ49 => []) s (fun φ49 => by kernel_rfl) ?_
        intro φ49 w49 s
        rw [nat_mulU (a := (rdB (((bs.drop j9).take (1 + (j9 + 2))).drop 1) i45)) (b := 2) (by have hdl : (bs.drop j9).length = bs.length - j9 := List.length_drop; have hdm : (((bs.drop j9).take (1 + (j9 + 2))).drop 1).length = min (1 + (j9 + 2)) (bs.length - j9) - 1 := (by simp only [List.length_drop, List.length_take]); have ho1 := hi9_1.le; have ho2 := hi9_1.len; have hcp1 := (hi9_2).cap; (simp only [List.length_drop] at hcp1); have hbl := base_lt (j := j9) hi9_1.le; have hr9 := rdB_63 (bs := (((bs.drop j9).take (1 + (j9 + 2))).drop 1)) (i := i45) (k := j9 + 2) (by have hq0 := of_decide_eq_false hc3; have hq1 := of_decide_eq_true hc11; have hq3 := of_decide_eq_false hc33; have hq5 := of_decide_eq_false hc38; have hq6 := of_decide_eq_true hc47; omega) (by omega);  have hq0 := of_decide_eq_false hc3; have hq1 := of_decide_eq_true hc11; have hq3 := of_decide_eq_false hc33; have hq5 := of_decide_eq_false hc38; have hq6 := of_decide_eq_true hc47; omega)]
        refine ops_done (by kernel_rfl) ?_
        refine seqR ?_
        refine oKD _ [] 1 [] 0 (fun φ50 => [(67, .bool ((((bs.drop j9).take (1 + (j9 + 2))).drop 1).getD i45 false))]) (fun φ50 => []) s (fun φ50 => by kernel_rfl) (by kernel_rfl) ?_
        intro φ50 w50 s
        rcases Bool.eq_false_or_eq_true ((((bs.drop j9).take (1 + (j9 + 2))).drop 1).getD i45 false) with hc51 | hc51
        ·
         rw [hc51]
         refine cond_true_rule (b := true) (by kernel_rfl) rfl ?_
         refine region_rule ?_
         refine oK _ [] 3 [] 0 (fun φ52 => [(6, .int .u64 (IntKind.wrap .u64 ((((rdB (((bs.drop j9).take (1 + (j9 + 2))).drop 1) i45) * 2 : Nat) : Int) + ((1 : Nat) : Int)))), (69, .int .u64 (IntKind.wrap .u64 ((((rdB (((bs.drop j9).take (1 + (j9 + 2))).drop 1) i45) * 2 : Nat) : Int) + ((1 : Nat) : Int)))), (68, .int .u64 (((rdB (((bs.drop j9).take (1 + (j9 + 2))).drop 1) i45) * 2 : Nat) : Int))]) (fun φ52 => []) s (fun φ52 => by kernel_rfl) ?_
         intro φ52 w52 s
         rw [nat_addU (a := ((rdB (((bs.drop j9).take (1 + (j9 + 2))).drop 1) i45) * 2)) (b := 1) (by have hdl : (bs.drop j9).length = bs.length - j9 := List.length_drop; have hdm : (((bs.drop j9).take (1 + (j9 + 2))).drop 1).length = min (1 + (j9 + 2)) (bs.length - j9) - 1 := (by simp only [List.length_drop, List.length_take]); have ho1 := hi9_1.le; have ho2 := hi9_1.len; have hcp1 := (hi9_2).cap; (simp only [List.length_drop] at hcp1); have hbl := base_lt (j := j9) hi9_1.le; have hr9 := rdB_63 (bs := (((bs.drop j9).take (1 + (j9 + 2))).drop 1)) (i := i45) (k := j9 + 2) (by have hq0 := of_decide_eq_false hc3; have hq1 := of_decide_eq_true hc11; have hq3 := of_decide_eq_false hc33; have hq5 := of_decide_eq_false hc38; have hq6 := of_decide_eq_true hc47; omega) (by omega);  have hq0 := of_decide_eq_false hc3; have hq1 := of_decide_eq_true hc11; have hq3 := of_decide_eq_false hc33; have hq5 := of_decide_eq_false hc38; have hq6 := of_decide_eq_true hc47; omega)]
         refine ops_done (by kernel_rfl) ?_
         refine region_rule ?_
         refine oK _ [] 2 [] 0 (fun φ53 => [(61, .int .i64 (IntKind.wrap .i64 (((i45 : Nat) : Int) + ((1 : Nat) : Int)))), (70, .int .i64 (IntKind.wrap .i64 (((i45 : Nat) : Int) + ((1 : Nat) : Int))))]) (fun φ53 => []) s (fun φ53 => by kernel_rfl) ?_
         intro φ53 w53 s
         rw [nat_addI (a := i45) (b := 1) (by have hdl : (bs.drop j9).length = bs.length - j9 := List.length_drop; have hdm : (((bs.drop j9).take (1 + (j9 + 2))).drop 1).length = min (1 + (j9 + 2)) (bs.length - j9) - 1 := (by simp only [List.length_drop, List.length_take]); have ho1 := hi9_1.le; have ho2 := hi9_1.len; have hcp1 := (hi9_2).cap; (simp only [List.length_drop] at hcp1); have hbl := base_lt (j := j9) hi9_1.le; have hr9 := rdB_63 (bs := (((bs.drop j9).take (1 + (j9 + 2))).drop 1)) (i := i45) (k := j9 + 2) (by have hq0 := of_decide_eq_false hc3; have hq1 := of_decide_eq_true hc11; have hq3 := of_decide_eq_false hc33; have hq5 := of_decide_eq_false hc38; have hq6 := of_decide_eq_true hc47; omega) (by omega);  have hq0 := of_decide_eq_false hc3; have hq1 := of_decide_eq_true hc11; have hq3 := of_decide_eq_false hc33; have hq5 := of_decide_eq_false hc38; have hq6 := of_decide_eq_true hc47; omega)]
         refine ops_done (by kernel_rfl) ?_
         rw [rdB_one' hc51]
         exact ⟨⟨m45 - 1, i45 + 1, _, _, _, by have := of_decide_eq_true hc47; omega, rfl, s, (List.Sublist.cons₂ _ List.Sublist.slnil), by kernel_rfl, hle44, by have := of_decide_eq_true hc47; show i45 + 1 + (m45 - 1) = j9 + 2; omega⟩⟩
        ·
         rw [hc51]
         refine cond_false_rule (b := false) (by kernel_rfl) rfl ?_
         refine wp_skip ?_
         refine region_rule ?_
         refine oK _ [] 2 [] 0 (fun φ54 => [(61, .int .i64 (IntKind.wrap .i64 (((i45 : Nat) : Int) + ((1 : Nat) : Int)))), (70, .int .i64 (IntKind.wrap .i64 (((i45 : Nat) : Int) + ((1 : Nat) : Int))))]) (fun φ54 => []) s (fun φ54 => by kernel_rfl) ?_
         intro φ54 w54 s
         rw [nat_addI (a := i45) (b := 1) (by have hdl : (bs.drop j9).length = bs.length - j9 := List.length_drop; have hdm : (((bs.drop j9).take (1 + (j9 + 2))).drop 1).length = min (1 + (j9 + 2)) (bs.length - j9) - 1 := (by simp only [List.length_drop, List.length_take]); have ho1 := hi9_1.le; have ho2 := hi9_1.len; have hcp1 := (hi9_2).cap; (simp only [List.length_drop] at hcp1); have hbl := base_lt (j := j9) hi9_1.le; have hr9 := rdB_63 (bs := (((bs.drop j9).take (1 + (j9 + 2))).drop 1)) (i := i45) (k := j9 + 2) (by have hq0 := of_decide_eq_false hc3; have hq1 := of_decide_eq_true hc11; have hq3 := of_decide_eq_false hc33; have hq5 := of_decide_eq_false hc38; have hq6 := of_decide_eq_true hc47; omega) (by omega);  have hq0 := of_decide_eq_false hc3; have hq1 := of_decide_eq_true hc11; have hq3 := of_decide_eq_false hc33; have hq5 := of_decide_eq_false hc38; have hq6 := of_decide_eq_true hc47; omega)]
         refine ops_done (by kernel_rfl) ?_
         rw [rdB_nil' hc51]
         exact ⟨⟨m45 - 1, i45 + 1, _, _, _, by have := of_decide_eq_true hc47; omega, rfl, s, (List.Sublist.cons₂ _ List.Sublist.slnil), by kernel_rfl, hle44, by have := of_decide_eq_true hc47; show i45 + 1 + (m45 - 1) = j9 + 2; omega⟩⟩
       ·
        rw [hc47]
        refine cond_false_rule (b := false) (by kernel_rfl) rfl ?_
        refine wp_exit ?_
        refine wp_seq ?_
        refine seqR ?_
        refine oKD _ [] 5 [] 0 (fun φ55 => [(75, .bool (decide ((IntKind.wrap .u64 (((2 ^ (j9 + 2) - 4 : Nat) : Int) + ((rdB (((bs.drop j9).take (1 + (j9 + 2))).drop 1) i45 : Nat) : Int))) < ((2 ^ (j9 + 2) - 4 : Nat) : Int)))), (74, .int .u64 ((2 ^ (j9 + 2) - 4 : Nat) : Int)), (73, .int .u64 (IntKind.wrap .u64 (((2 ^ (j9 + 2) - 4 : Nat) : Int) + ((rdB (((bs.drop j9).take (1 + (j9 + 2))).drop 1) i45 : Nat) : Int)))), (72, .int .u64 ((rdB (((bs.drop j9).take (1 + (j9 + 2))).drop 1) i45 : Nat) : Int)), (71, .int .u64 ((2 ^ (j9 + 2) - 4 : Nat) : Int))]) (fun φ55 => []) s (fun φ55 => by kernel_rfl) (by kernel_rfl) ?_
        intro φ55 w55 s
        rcases Bool.eq_false_or_eq_true (decide ((IntKind.wrap .u64 (((2 ^ (j9 + 2) - 4 : Nat) : Int) + ((rdB (((bs.drop j9).take (1 + (j9 + 2))).drop 1) i45 : Nat) : Int))) < ((2 ^ (j9 + 2) - 4 : Nat) : Int))) with hc56 | hc56
        ·
         rw [hc56]
         refine cond_true_rule (b := true) (by kernel_rfl) rfl ?_
         refine seqR ?_
         refine oAD _ [] 4 [.o 0] 0 (fun φ57 => [(78, .pointer (some ⟨y, 1, none⟩)), (77, pB y), (76, pB y)]) (fun φ57 => [(y, .cells #[.slice a bs.length c, .int .i64 6] 40)]) (fun φ57 => [y]) s (fun φ57 => by kernel_rfl) (by kernel_rfl) ?_
         intro φ57 w57 s
         refine seqR ?_
         refine oKD _ [] 1 [] 0 (fun φ58 => [(2, .int .u64 0)]) (fun φ58 => []) s (fun φ58 => by kernel_rfl) (by kernel_rfl) ?_
         intro φ58 w58 s
         refine wp_ret ?_
         refine ret_rule (C := []) _ [] (.int .u64 0) [] [] s trivial (by kernel_rfl) ?_
         exact ⟨_, _, _, rfl, s, (by have hi9 := hi45_0; have hq9 := of_decide_eq_false hc47; have hg9 : i45 = j9 + 2 := (by omega); have hm9 : rdB (((bs.drop j9).take (1 + (j9 + 2))).drop 1) i45 = rdB (bs.drop (j9 + 1)) (j9 + 2) := (by rw [hg9]; exact mid_rdB (Nat.le_refl _)); have hbl := base_lt (j := j9) hi9_1.le; have hrl := rdB_lt (bs.drop (j9 + 1)) (j9 + 2); have h64 : 2 ^ (j9 + 2) ≤ 2 ^ 64 := Nat.pow_le_pow_right (by decide) (by have := hi9_1.le; omega); have e64 : (2 : Nat) ^ 64 = 18446744073709551616 := (by decide); have hov := of_decide_eq_true hc56; rw [wrapU_mod, hm9] at hov; have hcp1 := (hi9_2).cap.1; rw [List.length_drop] at hcp1; have h8 := bn_bad (bs := bs) (e := e) (j := j9) (by have h9 := of_decide_eq_false hc3; omega) (OnesB.run hi9_1 (.inr (.inl hc14))) (.inr (.inr (by unfold fewV; generalize rdB (bs.drop (j9 + 1)) (j9 + 2) = R9 at *; generalize 2 ^ (j9 + 2) - 4 = B9 at *; omega))); exact ⟨_, rfl, rfl, _, _, _, (by rw [h8.1]; rfl), (by rw [h8.2.2]; rfl), bos_eq hb (by rw [h8.2.1]; rfl)⟩)⟩
        ·
         rw [hc56]
         refine cond_false_rule (b := false) (by kernel_rfl) rfl ?_
         refine wp_skip ?_
         refine seqR ?_
         refine oK _ [] 4 [] 0 (fun φ59 => [(82, .int .i64 (IntKind.wrap .i64 (((1 : Nat) : Int) + ((j9 + 2 : Nat) : Int)))), (81, .int .i64 ((j9 + 2 : Nat) : Int)), (80, .slice a9 n9 c9), (79, pB y)]) (fun φ59 => []) s (fun φ59 => by kernel_rfl) ?_
         intro φ59 w59 s
         rw [nat_addI (a := 1) (b := (j9 + 2)) (by have hdl : (bs.drop j9).length = bs.length - j9 := List.length_drop; have hdm : (((bs.drop j9).take (1 + (j9 + 2))).drop 1).length = min (1 + (j9 + 2)) (bs.length - j9) - 1 := (by simp only [List.length_drop, List.length_take]); have ho1 := hi9_1.le; have ho2 := hi9_1.len; have hcp1 := (hi9_2).cap; (simp only [List.length_drop] at hcp1); have hbl := base_lt (j := j9) hi9_1.le;  have hq0 := of_decide_eq_false hc3; have hq1 := of_decide_eq_true hc11; have hq3 := of_decide_eq_false hc33; have hq5 := of_decide_eq_false hc38; have hq6 := of_decide_eq_false hc47; have hq7 := of_decide_eq_false hc56; omega)]
         refine sem_rule (Instr.sliceAt 37 (.slice a9 n9 c9) (some (.int .i64 ((1 + (j9 + 2) : Nat) : Int))) none none) (some 83) (.slice (subA a9 (1 + (j9 + 2)) c9) (n9 - (1 + (j9 + 2))) (c9 - (1 + (j9 + 2)))) (by kernel_rfl) (run_fromB (by have hcp := (BoS.cap hi9_2).2; (try simp only [List.length_drop, List.length_take, List.length_append, List.length_cons, List.length_nil] at hcp ⊢); have hdl : (bs.drop j9).length = bs.length - j9 := List.length_drop; have hdm : (((bs.drop j9).take (1 + (j9 + 2))).drop 1).length = min (1 + (j9 + 2)) (bs.length - j9) - 1 := (by simp only [List.length_drop, List.length_take]); have ho1 := hi9_1.le; have ho2 := hi9_1.len; have hcp1 := (hi9_2).cap; (simp only [List.length_drop] at hcp1); have hbl := base_lt (j := j9) hi9_1.le;  have hq0 := of_decide_eq_false hc3; have hq1 := of_decide_eq_true hc11; have hq3 := of_decide_eq_false hc33; have hq5 := of_decide_eq_false hc38; have hq6 := of_decide_eq_false hc47; have hq7 := of_decide_eq_false hc56; omega)) ?_
         refine oAD _ [] 3 [.o 0] 0 (fun φ60 => [(85, pB y), (84, pB y)]) (fun φ60 => [(y, .cells #[.slice (subA a9 (1 + (j9 + 2)) c9) (n9 - (1 + (j9 + 2))) (c9 - (1 + (j9 + 2))), .int .i64 e] 40)]) (fun φ60 => [y]) s (fun φ60 => by kernel_rfl) (by kernel_rfl) ?_
         intro φ60 w60 s
         refine seqR ?_
         refine oKD _ [] 4 [] 0 (fun φ61 => [(2, .int .u64 (IntKind.wrap .u64 (((2 ^ (j9 + 2) - 4 : Nat) : Int) + ((rdB (((bs.drop j9).take (1 + (j9 + 2))).drop 1) i45 : Nat) : Int)))), (88, .int .u64 (IntKind.wrap .u64 (((2 ^ (j9 + 2) - 4 : Nat) : Int) + ((rdB (((bs.drop j9).take (1 + (j9 + 2))).drop 1) i45 : Nat) : Int)))), (87, .int .u64 ((rdB (((bs.drop j9).take (1 + (j9 + 2))).drop 1) i45 : Nat) : Int)), (86, .int .u64 ((2 ^ (j9 + 2) - 4 : Nat) : Int))]) (fun φ61 => []) s (fun φ61 => by kernel_rfl) (by kernel_rfl) ?_
         intro φ61 w61 s
         refine wp_ret ?_
         refine ret_rule (C := []) _ [] (.int .u64 (IntKind.wrap .u64 (((2 ^ (j9 + 2) - 4 : Nat) : Int) + ((rdB (((bs.drop j9).take (1 + (j9 + 2))).drop 1) i45 : Nat) : Int)))) [] [] s trivial (by kernel_rfl) ?_
         exact ⟨_, _, _, rfl, s, (by have hi9 := hi45_0; have hq9 := of_decide_eq_false hc47; have hg9 : i45 = j9 + 2 := (by omega); have hm9 : rdB (((bs.drop j9).take (1 + (j9 + 2))).drop 1) i45 = rdB (bs.drop (j9 + 1)) (j9 + 2) := (by rw [hg9]; exact mid_rdB (Nat.le_refl _)); have hbl := base_lt (j := j9) hi9_1.le; have hrl := rdB_lt (bs.drop (j9 + 1)) (j9 + 2); have h64 : 2 ^ (j9 + 2) ≤ 2 ^ 64 := Nat.pow_le_pow_right (by decide) (by have := hi9_1.le; omega); have e64 : (2 : Nat) ^ 64 = 18446744073709551616 := (by decide); have hov := of_decide_eq_false hc56; rw [wrapU_mod, hm9] at hov; have hcp1 := (hi9_2).cap.1; rw [List.length_drop] at hcp1; have h8 := bn_good (bs := bs) (e := e) (j := j9) (by have h9 := of_decide_eq_false hc3; omega) (OnesB.run hi9_1 (.inr (.inl hc14))) (fun q => q.elim (fun q => (by have := of_decide_eq_false hc38; omega)) (fun q => q.elim (fun q => (by rw [← head_drop, hc36] at q; cases q)) (fun q => (by unfold fewV at q; generalize rdB (bs.drop (j9 + 1)) (j9 + 2) = R9 at *; generalize 2 ^ (j9 + 2) - 4 = B9 at *; omega)))); exact ⟨_, rfl, rfl, _, _, _, (by rw [h8.1, wrapU_mod, hm9]; unfold fewV; exact congrArg (Value.int .u64) (by generalize rdB (bs.drop (j9 + 1)) (j9 + 2) = R9 at *; generalize 2 ^ (j9 + 2) - 4 = B9 at *; omega)), (by rw [h8.2.2]), bos_eq (bos_from (lo := 1 + (j9 + 2)) hi9_2 (by have hcp := (BoS.cap hi9_2).2; (try simp only [List.length_drop, List.length_take, List.length_append, List.length_cons, List.length_nil] at hcp ⊢); have hdl : (bs.drop j9).length = bs.length - j9 := List.length_drop; have hdm : (((bs.drop j9).take (1 + (j9 + 2))).drop 1).length = min (1 + (j9 + 2)) (bs.length - j9) - 1 := (by simp only [List.length_drop, List.length_take]); have ho1 := hi9_1.le; have ho2 := hi9_1.len; have hcp1 := (hi9_2).cap; (simp only [List.length_drop] at hcp1); have hbl := base_lt (j := j9) hi9_1.le;  have hq0 := of_decide_eq_false hc3; have hq1 := of_decide_eq_true hc11; have hq3 := of_decide_eq_false hc33; have hq5 := of_decide_eq_false hc38; have hq6 := of_decide_eq_false hc47; have hq7 := of_decide_eq_false hc56; omega)) (by rw [h8.2.1, List.drop_drop]; congr 1; omega)⟩)⟩
  ·
   rw [hc11]
   refine oKD _ [] 8 [] 0 (fun φ62 => [(29, .bool false), (28, undef), (27, undef), (26, .bool false), (25, .bool false), (24, undef), (23, undef), (22, undef)]) (fun φ62 => []) s (fun φ62 => by kernel_rfl) (by kernel_rfl) ?_
   intro φ62 w62 s
   refine cond_false_rule (b := false) (by kernel_rfl) rfl ?_
   refine wp_exit ?_
   refine wp_seq ?_
   refine seqR ?_
   refine oK _ [] 4 [] 0 (fun φ63 => [(41, .bool (((n9 : Nat) : Int) == ((0 : Nat) : Int))), (40, .bool (((n9 : Nat) : Int) == ((0 : Nat) : Int))), (39, .int .i64 n9), (38, .slice a9 n9 c9)]) (fun φ63 => []) s (fun φ63 => by kernel_rfl) ?_
   intro φ63 w63 s
   rw [nat_eql (a := n9) (b := 0)]
   rcases Bool.eq_false_or_eq_true (decide (n9 = 0)) with hc64 | hc64
   ·
    rw [hc64]
    refine oKD _ [] 11 [] 0 (fun φ65 => [(52, .bool true), (51, undef), (50, undef), (49, undef), (48, undef), (47, undef), (46, .bool true), (45, .bool true), (44, undef), (43, undef), (42, undef)]) (fun φ65 => []) s (fun φ65 => by kernel_rfl) (by kernel_rfl) ?_
    intro φ65 w65 s
    refine cond_true_rule (b := true) (by kernel_rfl) rfl ?_
    refine seqR ?_
    refine oAD _ [] 4 [.o 0] 0 (fun φ66 => [(55, .pointer (some ⟨y, 1, none⟩)), (54, pB y), (53, pB y)]) (fun φ66 => [(y, .cells #[.slice a bs.length c, .int .i64 6] 40)]) (fun φ66 => [y]) s (fun φ66 => by kernel_rfl) (by kernel_rfl) ?_
    intro φ66 w66 s
    refine seqR ?_
    refine oKD _ [] 1 [] 0 (fun φ67 => [(2, .int .u64 0)]) (fun φ67 => []) s (fun φ67 => by kernel_rfl) (by kernel_rfl) ?_
    intro φ67 w67 s
    refine wp_ret ?_
    refine ret_rule (C := []) _ [] (.int .u64 0) [] [] s trivial (by kernel_rfl) ?_
    exact ⟨_, _, _, rfl, s, (by have h8 := bn_bad (bs := bs) (e := e) (j := j9) (by have h9 := of_decide_eq_false hc3; omega) (OnesB.run hi9_1 (.inl (by have hq0 := of_decide_eq_false hc3; have hq1 := of_decide_eq_false hc11; have hq2 := of_decide_eq_true hc64; have hdl : (bs.drop j9).length = bs.length - j9 := List.length_drop; have hdm : (((bs.drop j9).take (1 + (j9 + 2))).drop 1).length = min (1 + (j9 + 2)) (bs.length - j9) - 1 := (by simp only [List.length_drop, List.length_take]); have ho1 := hi9_1.le; have ho2 := hi9_1.len; have hcp1 := (hi9_2).cap; (simp only [List.length_drop] at hcp1); have hbl := base_lt (j := j9) hi9_1.le;  rw [List.length_drop]; omega))) (.inl (by have hq0 := of_decide_eq_false hc3; have hq1 := of_decide_eq_false hc11; have hq2 := of_decide_eq_true hc64; have hdl : (bs.drop j9).length = bs.length - j9 := List.length_drop; have hdm : (((bs.drop j9).take (1 + (j9 + 2))).drop 1).length = min (1 + (j9 + 2)) (bs.length - j9) - 1 := (by simp only [List.length_drop, List.length_take]); have ho1 := hi9_1.le; have ho2 := hi9_1.len; have hcp1 := (hi9_2).cap; (simp only [List.length_drop] at hcp1); have hbl := base_lt (j := j9) hi9_1.le;  omega)); exact ⟨_, rfl, rfl, _, _, _, (by rw [h8.1]; rfl), (by rw [h8.2.2]; rfl), bos_eq hb (by rw [h8.2.1]; rfl)⟩)⟩
   ·
    exact absurd (of_decide_eq_false hc64) (by have q9 := of_decide_eq_false hc11; omega)

end Go.Proofs.YtgmigcmhnmmdkaaDoor

/- The program reads a number in few bits. -/
set_option linter.all false
set_option maxRecDepth 100000
namespace Go.Proofs.YtgmigcmhnmmdkaaDoor
open Go.RowKit Go.Sep
attribute [local irreducible] Go.wpList Go.Code.wp

set_option maxHeartbeats 2000000 in
theorem numR_c {I : IM} {l : List UInt8} {a : Option Addr} {n c : Nat} (hl : BSl I l (.slice a n c)) (hn9 : l.length ≤ 1000000) {r p : Nat} (hp : p ≤ l.length * 8) : FunM Tryd.prog 103 #[.pointer (some ⟨r, 0, none⟩)] I [(r, .cells #[.slice a n c, .int .i64 ((p : Nat) : Int), .int .i64 0] 74)] (fun v J H' => ∃ b' : OB, H' = [b'] ∧ b'.1 = r ∧ v = .int .u64 ((bnV ((bitsL l).drop p) 0 : Nat) : Int) ∧ b' = (r, .cells #[.slice a n c, .int .i64 ((p + bnD ((bitsL l).drop p) 0 : Nat) : Int), .int .i64 ((bnE ((bitsL l).drop p) 0 : Nat) : Int)] 74)) := by
 obtain ⟨rfl, -⟩ := hl.cap
 refine enterM_rule 49 [(0, pB r)] Tryd.func103 rfl (by kernel_rfl) ?_
 intro w s
 refine seqR ?_
 refine oKD [(r, .cells #[.slice a l.length c, .int .i64 p, .int .i64 0] 74)] [] 1 [] 0 (fun φ1 => [(2, .int .u64 0)]) (fun φ1 => []) s (fun φ1 => by kernel_rfl) (by kernel_rfl) ?_
 intro φ1 w1 s
 have hle2 := IM.Le.refl I
 refine goto_rule s 0 (fun j : Nat => [(0, pB r), (3, .int .i64 p), (4, .int .i64 ((j + 2 : Nat) : Int))]) (fun j : Nat => [(r, .cells #[.slice a l.length c, .int .i64 ((p + j : Nat) : Int), .int .i64 0] 74)]) (fun n j J => IM.Le I J ∧ p + j + n = l.length * 8 ∧ OnesL l p j) rfl ?_ ?_
 ·
  rintro m3 j3 I3 w3 ev3 s ⟨le3, hm3, ho3⟩
  replace hl := BSl.mono le3 hl
  replace hle2 := leMono le3 hle2
  refine wp_seq ?_
  refine wp_skip ?_
  refine wp_seq ?_
  refine seqR ?_
  refine oK [(r, .cells #[.slice a l.length c, .int .i64 ((p + j3 : Nat) : Int), .int .i64 0] 74)] [] 1 [] 0 (fun φ4 => [(14, pB r)]) (fun φ4 => []) s (fun φ4 => by kernel_rfl) ?_
  intro φ4 w4 s
  rcases Bool.eq_false_or_eq_true (decide (p + j3 + 1 ≤ l.length * 8)) with hc5 | hc5
  ·
   refine callB_rule (b := (r, .cells #[.slice a l.length c, .int .i64 ((p + j3 : Nat) : Int), .int .i64 0] 74)) (F := []) (Hr := []) (some 15) 0 s (by kernel_rfl) (by kernel_rfl) (get_c (r := r) (p := p + j3) hl (hn9) (k := 1) (by decide) (of_decide_eq_true hc5)) (by kernel_rfl) ?_
   rintro v6 I6 w6 b6 le6 - h6 s
   replace hl := BSl.mono le6 hl
   replace hle2 := leMono le6 hle2
   obtain ⟨rfl, rfl⟩ := h6
   refine oK _ [] 1 [] 0 (fun φ7 => [(16, .bool (((rd l (p + j3) 1 : Nat) : Int) == ((1 : Nat) : Int)))]) (fun φ7 => []) s (fun φ7 => by kernel_rfl) ?_
   intro φ7 w7 s
   rw [nat_eql (a := (rd l (p + j3) 1)) (b := 1)]
   refine ops_done (by kernel_rfl) ?_
   rcases Bool.eq_false_or_eq_true (decide ((rd l (p + j3) 1) = 1)) with hc8 | hc8
   ·
    rw [hc8]
    refine cond_true_rule (b := true) (by kernel_rfl) rfl ?_
    refine seqR ?_
    refine oK _ [] 3 [] 0 (fun φ9 => [(4, .int .i64 (IntKind.wrap .i64 (((j3 + 2 : Nat) : Int) + ((1 : Nat) : Int)))), (18, .int .i64 (IntKind.wrap .i64 (((j3 + 2 : Nat) : Int) + ((1 : Nat) : Int)))), (17, .int .i64 ((j3 + 2 : Nat) : Int))]) (fun φ9 => []) s (fun φ9 => by kernel_rfl) ?_
    intro φ9 w9 s
    rw [nat_addI (a := (j3 + 2)) (b := 1) (by have hp0 := hp; have ho1 := ho3.len;  have hq0 := of_decide_eq_true hc5; have hq1 := of_decide_eq_true hc8; omega)]
    refine ops_done (by kernel_rfl) ?_
    refine wp_goto ?_
    exact ⟨rfl, ⟨⟨m3 - 1, j3 + 1, _, _, _, (by have := of_decide_eq_true hc5; omega), rfl, s, (List.Sublist.cons₂ _ List.Sublist.slnil), by kernel_rfl, hle2, (by have := of_decide_eq_true hc5; show p + (j3 + 1) + (m3 - 1) = _; omega), OnesL.step ho3 (of_decide_eq_true hc5) (bit_one (of_decide_eq_true hc8))⟩⟩⟩
   ·
    rw [hc8]
    refine cond_false_rule (b := false) (by kernel_rfl) rfl ?_
    refine wp_skip ?_
    refine seqR ?_
    refine oK _ [] 1 [] 0 (fun φ10 => [(19, .int .i64 ((j3 + 2 : Nat) : Int))]) (fun φ10 => []) s (fun φ10 => by kernel_rfl) ?_
    intro φ10 w10 s
    refine sem_rule (binOp .shl 41 (.int .u64 ((1 : Nat) : Int)) (.int .i64 ((j3 + 2 : Nat) : Int))) (some 20) (.int .u64 (bshl 64 1 (j3 + 2))) (by kernel_rfl) (run_shlU (.inr (.inr (.inl rfl)))) ?_
    refine oKD _ [] 2 [] 0 (fun φ11 => [(5, .int .u64 (IntKind.wrap .u64 (((bshl 64 1 (j3 + 2) : Nat) : Int) - ((4 : Nat) : Int)))), (21, .int .u64 (IntKind.wrap .u64 (((bshl 64 1 (j3 + 2) : Nat) : Int) - ((4 : Nat) : Int))))]) (fun φ11 => []) s (fun φ11 => by kernel_rfl) (by kernel_rfl) ?_
    intro φ11 w11 s
    refine seqR ?_
    refine oK _ [] 3 [] 0 (fun φ12 => [(24, .int .i64 ((j3 + 2 : Nat) : Int)), (23, pB r), (22, .int .u64 (IntKind.wrap .u64 (((bshl 64 1 (j3 + 2) : Nat) : Int) - ((4 : Nat) : Int))))]) (fun φ12 => []) s (fun φ12 => by kernel_rfl) ?_
    intro φ12 w12 s
    refine callB_rule (b := (r, .cells #[.slice a l.length c, .int .i64 ((p + j3 + 1 : Nat) : Int), .int .i64 0] 74)) (F := []) (Hr := []) (some 25) 0 s (by kernel_rfl) (by kernel_rfl) (getG_c (e := 0) (z := ((j3 + 2 : Nat) : Int)) (r := r) (p := p + j3 + 1) hl (hn9) (by have hp0 := hp; have ho1 := ho3.len;  have hq0 := of_decide_eq_true hc5; have hq1 := of_decide_eq_false hc8; omega)) (by kernel_rfl) ?_
    rintro v13 I13 w13 b13 le13 - h13 s
    replace hl := BSl.mono le13 hl
    replace hle2 := leMono le13 hle2
    obtain ⟨rfl, rfl⟩ := h13
    refine oKD _ [] 2 [] 0 (fun φ14 => [(6, .int .u64 (IntKind.wrap .u64 ((IntKind.wrap .u64 (((bshl 64 1 (j3 + 2) : Nat) : Int) - ((4 : Nat) : Int))) + ((geV l (p + j3 + 1) 0 (clampN ((j3 + 2 : Nat) : Int)) : Nat) : Int)))), (26, .int .u64 (IntKind.wrap .u64 ((IntKind.wrap .u64 (((bshl 64 1 (j3 + 2) : Nat) : Int) - ((4 : Nat) : Int))) + ((geV l (p + j3 + 1) 0 (clampN ((j3 + 2 : Nat) : Int)) : Nat) : Int))))]) (fun φ14 => []) s (fun φ14 => by kernel_rfl) (by kernel_rfl) ?_
    intro φ14 w14 s
    refine wp_seq ?_
    refine seqR ?_
    refine oK _ [] 6 [.o 0] 0 (fun φ15 => [(32, .bool (((geE l (p + j3 + 1) 0 (clampN ((j3 + 2 : Nat) : Int)) : Nat) : Int) != ((0 : Nat) : Int))), (31, .bool (((geE l (p + j3 + 1) 0 (clampN ((j3 + 2 : Nat) : Int)) : Nat) : Int) != ((0 : Nat) : Int))), (30, .int .i64 (geE l (p + j3 + 1) 0 (clampN ((j3 + 2 : Nat) : Int)))), (29, .pointer (some ⟨r, 2, none⟩)), (28, pB r), (27, pB r)]) (fun φ15 => [r]) s (fun φ15 => by kernel_rfl) ?_
    intro φ15 w15 s
    rw [nat_neq (a := (geE l (p + j3 + 1) 0 (clampN ((j3 + 2 : Nat) : Int)))) (b := 0)]
    rcases Bool.eq_false_or_eq_true (decide ((geE l (p + j3 + 1) 0 (clampN ((j3 + 2 : Nat) : Int))) ≠ 0)) with hc16 | hc16
    ·
     rw [hc16]
     refine oKD _ [] 8 [] 0 (fun φ17 => [(40, .bool true), (39, undef), (38, undef), (37, undef), (36, .bool true), (35, .bool true), (34, undef), (33, undef)]) (fun φ17 => []) s (fun φ17 => by kernel_rfl) (by kernel_rfl) ?_
     intro φ17 w17 s
     refine cond_true_rule (b := true) (by kernel_rfl) rfl ?_
     refine seqR ?_
     refine oAD _ [] 9 [.o 0, .o 0] 0 (fun φ18 => [(47, .pointer (some ⟨r, 2, none⟩)), (46, pB r), (45, .pointer (some ⟨r, 1, none⟩)), (44, pB r), (43, .int .i64 p), (42, pB r), (41, pB r)]) (fun φ18 => [(r, .cells #[.slice a l.length c, .int .i64 p, .int .i64 6] 74)]) (fun φ18 => [r, r]) s (fun φ18 => by kernel_rfl) (by kernel_rfl) ?_
     intro φ18 w18 s
     refine seqR ?_
     refine oKD _ [] 1 [] 0 (fun φ19 => [(2, .int .u64 0)]) (fun φ19 => []) s (fun φ19 => by kernel_rfl) (by kernel_rfl) ?_
     intro φ19 w19 s
     refine wp_ret ?_
     refine ret_rule (C := []) _ [] (.int .u64 0) [] [] s trivial (by kernel_rfl) ?_
     exact ⟨_, _, _, rfl, s, (by have h8 := num_short (j := j3) ho3 (of_decide_eq_true hc5) (bit_nil (of_decide_eq_false hc8)) (of_decide_eq_true hc16); exact ⟨_, rfl, rfl, (by rw [h8.1]; rfl), (by rw [h8.2.1, h8.2.2]; rfl)⟩)⟩
    ·
     rw [hc16]
     refine oK _ [] 4 [] 0 (fun φ20 => [(36, .bool (decide (((j3 + 2 : Nat) : Int) > ((64 : Nat) : Int)))), (35, .bool (decide (((j3 + 2 : Nat) : Int) > ((64 : Nat) : Int)))), (34, .bool (decide (((j3 + 2 : Nat) : Int) > ((64 : Nat) : Int)))), (33, .int .i64 ((j3 + 2 : Nat) : Int))]) (fun φ20 => []) s (fun φ20 => by kernel_rfl) ?_
     intro φ20 w20 s
     rw [nat_gtr (a := (j3 + 2)) (b := 64)]
     rcases Bool.eq_false_or_eq_true (decide (64 < (j3 + 2))) with hc21 | hc21
     ·
      rw [hc21]
      refine oKD _ [] 4 [] 0 (fun φ22 => [(40, .bool true), (39, undef), (38, undef), (37, undef)]) (fun φ22 => []) s (fun φ22 => by kernel_rfl) (by kernel_rfl) ?_
      intro φ22 w22 s
      refine cond_true_rule (b := true) (by kernel_rfl) rfl ?_
      refine seqR ?_
      refine oAD _ [] 9 [.o 0, .o 0] 0 (fun φ23 => [(47, .pointer (some ⟨r, 2, none⟩)), (46, pB r), (45, .pointer (some ⟨r, 1, none⟩)), (44, pB r), (43, .int .i64 p), (42, pB r), (41, pB r)]) (fun φ23 => [(r, .cells #[.slice a l.length c, .int .i64 p, .int .i64 6] 74)]) (fun φ23 => [r, r]) s (fun φ23 => by kernel_rfl) (by kernel_rfl) ?_
      intro φ23 w23 s
      refine seqR ?_
      refine oKD _ [] 1 [] 0 (fun φ24 => [(2, .int .u64 0)]) (fun φ24 => []) s (fun φ24 => by kernel_rfl) (by kernel_rfl) ?_
      intro φ24 w24 s
      refine wp_ret ?_
      refine ret_rule (C := []) _ [] (.int .u64 0) [] [] s trivial (by kernel_rfl) ?_
      exact ⟨_, _, _, rfl, s, (by have h8 := num_far (j := j3) ho3 (of_decide_eq_true hc21); exact ⟨_, rfl, rfl, (by rw [h8.1]; rfl), (by rw [h8.2.1, h8.2.2]; rfl)⟩)⟩
     ·
      rw [hc21]
      refine oKD _ [] 4 [] 0 (fun φ25 => [(40, .bool (decide ((IntKind.wrap .u64 ((IntKind.wrap .u64 (((bshl 64 1 (j3 + 2) : Nat) : Int) - ((4 : Nat) : Int))) + ((geV l (p + j3 + 1) 0 (clampN ((j3 + 2 : Nat) : Int)) : Nat) : Int))) < (IntKind.wrap .u64 (((bshl 64 1 (j3 + 2) : Nat) : Int) - ((4 : Nat) : Int)))))), (39, .bool (decide ((IntKind.wrap .u64 ((IntKind.wrap .u64 (((bshl 64 1 (j3 + 2) : Nat) : Int) - ((4 : Nat) : Int))) + ((geV l (p + j3 + 1) 0 (clampN ((j3 + 2 : Nat) : Int)) : Nat) : Int))) < (IntKind.wrap .u64 (((bshl 64 1 (j3 + 2) : Nat) : Int) - ((4 : Nat) : Int)))))), (38, .int .u64 (IntKind.wrap .u64 (((bshl 64 1 (j3 + 2) : Nat) : Int) - ((4 : Nat) : Int)))), (37, .int .u64 (IntKind.wrap .u64 ((IntKind.wrap .u64 (((bshl 64 1 (j3 + 2) : Nat) : Int) - ((4 : Nat) : Int))) + ((geV l (p + j3 + 1) 0 (clampN ((j3 + 2 : Nat) : Int)) : Nat) : Int))))]) (fun φ25 => []) s (fun φ25 => by kernel_rfl) (by kernel_rfl) ?_
      intro φ25 w25 s
      rcases Bool.eq_false_or_eq_true (decide ((IntKind.wrap .u64 ((IntKind.wrap .u64 (((bshl 64 1 (j3 + 2) : Nat) : Int) - ((4 : Nat) : Int))) + ((geV l (p + j3 + 1) 0 (clampN ((j3 + 2 : Nat) : Int)) : Nat) : Int))) < (IntKind.wrap .u64 (((bshl 64 1 (j3 + 2) : Nat) : Int) - ((4 : Nat) : Int))))) with hc26 | hc26
      ·
       rw [hc26]
       refine cond_true_rule (b := true) (by kernel_rfl) rfl ?_
       refine seqR ?_
       refine oAD _ [] 9 [.o 0, .o 0] 0 (fun φ27 => [(47, .pointer (some ⟨r, 2, none⟩)), (46, pB r), (45, .pointer (some ⟨r, 1, none⟩)), (44, pB r), (43, .int .i64 p), (42, pB r), (41, pB r)]) (fun φ27 => [(r, .cells #[.slice a l.length c, .int .i64 p, .int .i64 6] 74)]) (fun φ27 => [r, r]) s (fun φ27 => by kernel_rfl) (by kernel_rfl) ?_
       intro φ27 w27 s
       refine seqR ?_
       refine oKD _ [] 1 [] 0 (fun φ28 => [(2, .int .u64 0)]) (fun φ28 => []) s (fun φ28 => by kernel_rfl) (by kernel_rfl) ?_
       intro φ28 w28 s
       refine wp_ret ?_
       refine ret_rule (C := []) _ [] (.int .u64 0) [] [] s trivial (by kernel_rfl) ?_
       exact ⟨_, _, _, rfl, s, (by have h8 := num_over (j := j3) ho3 (of_decide_eq_true hc5) (bit_nil (of_decide_eq_false hc8)) (of_decide_eq_false hc16) (of_decide_eq_false hc21) (of_decide_eq_true hc26); exact ⟨_, rfl, rfl, (by rw [h8.1]; rfl), (by rw [h8.2.1, h8.2.2]; rfl)⟩)⟩
      ·
       rw [hc26]
       refine cond_false_rule (b := false) (by kernel_rfl) rfl ?_
       refine wp_skip ?_
       refine seqR ?_
       refine oKD _ [] 2 [] 0 (fun φ29 => [(2, .int .u64 (IntKind.wrap .u64 ((IntKind.wrap .u64 (((bshl 64 1 (j3 + 2) : Nat) : Int) - ((4 : Nat) : Int))) + ((geV l (p + j3 + 1) 0 (clampN ((j3 + 2 : Nat) : Int)) : Nat) : Int)))), (48, .int .u64 (IntKind.wrap .u64 ((IntKind.wrap .u64 (((bshl 64 1 (j3 + 2) : Nat) : Int) - ((4 : Nat) : Int))) + ((geV l (p + j3 + 1) 0 (clampN ((j3 + 2 : Nat) : Int)) : Nat) : Int))))]) (fun φ29 => []) s (fun φ29 => by kernel_rfl) (by kernel_rfl) ?_
       intro φ29 w29 s
       refine wp_ret ?_
       refine ret_rule (C := []) _ [] (.int .u64 (IntKind.wrap .u64 ((IntKind.wrap .u64 (((bshl 64 1 (j3 + 2) : Nat) : Int) - ((4 : Nat) : Int))) + ((geV l (p + j3 + 1) 0 (clampN ((j3 + 2 : Nat) : Int)) : Nat) : Int)))) [] [] s trivial (by kernel_rfl) ?_
       exact ⟨_, _, _, rfl, s, (by have h8 := num_good (j := j3) ho3 (of_decide_eq_true hc5) (bit_nil (of_decide_eq_false hc8)) (of_decide_eq_false hc16) (of_decide_eq_false hc21) (of_decide_eq_false hc26); exact ⟨_, rfl, rfl, congrArg (Value.int .u64) h8.1, h8.2 _ _⟩)⟩
  ·
   refine callB_rule (b := (r, .cells #[.slice a l.length c, .int .i64 ((p + j3 : Nat) : Int), .int .i64 0] 74)) (F := []) (Hr := []) (some 15) 0 s (by kernel_rfl) (by kernel_rfl) (get_bad (r := r) (p := p + j3) hl (hn9) (k := 1) (by decide) (by have hp0 := hp; have ho1 := ho3.len;  omega) (by have hq0 := of_decide_eq_false hc5; omega)) (by kernel_rfl) ?_
   rintro v30 I30 w30 b30 le30 - h30 s
   replace hl := BSl.mono le30 hl
   replace hle2 := leMono le30 hle2
   obtain ⟨rfl, rfl⟩ := h30
   refine oKD _ [] 1 [] 0 (fun φ31 => [(16, .bool false)]) (fun φ31 => []) s (fun φ31 => by kernel_rfl) (by kernel_rfl) ?_
   intro φ31 w31 s
   refine cond_false_rule (b := false) (by kernel_rfl) rfl ?_
   refine wp_skip ?_
   refine seqR ?_
   refine oK _ [] 1 [] 0 (fun φ32 => [(19, .int .i64 ((j3 + 2 : Nat) : Int))]) (fun φ32 => []) s (fun φ32 => by kernel_rfl) ?_
   intro φ32 w32 s
   refine sem_rule (binOp .shl 41 (.int .u64 ((1 : Nat) : Int)) (.int .i64 ((j3 + 2 : Nat) : Int))) (some 20) (.int .u64 (bshl 64 1 (j3 + 2))) (by kernel_rfl) (run_shlU (.inr (.inr (.inl rfl)))) ?_
   refine oKD _ [] 2 [] 0 (fun φ33 => [(5, .int .u64 (IntKind.wrap .u64 (((bshl 64 1 (j3 + 2) : Nat) : Int) - ((4 : Nat) : Int)))), (21, .int .u64 (IntKind.wrap .u64 (((bshl 64 1 (j3 + 2) : Nat) : Int) - ((4 : Nat) : Int))))]) (fun φ33 => []) s (fun φ33 => by kernel_rfl) (by kernel_rfl) ?_
   intro φ33 w33 s
   refine seqR ?_
   refine oK _ [] 3 [] 0 (fun φ34 => [(24, .int .i64 ((j3 + 2 : Nat) : Int)), (23, pB r), (22, .int .u64 (IntKind.wrap .u64 (((bshl 64 1 (j3 + 2) : Nat) : Int) - ((4 : Nat) : Int))))]) (fun φ34 => []) s (fun φ34 => by kernel_rfl) ?_
   intro φ34 w34 s
   refine callB_rule (b := (r, .cells #[.slice a l.length c, .int .i64 ((p + j3 : Nat) : Int), .int .i64 6] 74)) (F := []) (Hr := []) (some 25) 0 s (by kernel_rfl) (by kernel_rfl) (getG_c (e := 6) (z := ((j3 + 2 : Nat) : Int)) (r := r) (p := p + j3) hl (hn9) (by have hp0 := hp; have ho1 := ho3.len;  have hq0 := of_decide_eq_false hc5; omega)) (by kernel_rfl) ?_
   rintro v35 I35 w35 b35 le35 - h35 s
   replace hl := BSl.mono le35 hl
   replace hle2 := leMono le35 hle2
   obtain ⟨rfl, rfl⟩ := h35
   refine oKD _ [] 2 [] 0 (fun φ36 => [(6, .int .u64 (IntKind.wrap .u64 ((IntKind.wrap .u64 (((bshl 64 1 (j3 + 2) : Nat) : Int) - ((4 : Nat) : Int))) + ((geV l (p + j3) 6 (clampN ((j3 + 2 : Nat) : Int)) : Nat) : Int)))), (26, .int .u64 (IntKind.wrap .u64 ((IntKind.wrap .u64 (((bshl 64 1 (j3 + 2) : Nat) : Int) - ((4 : Nat) : Int))) + ((geV l (p + j3) 6 (clampN ((j3 + 2 : Nat) : Int)) : Nat) : Int))))]) (fun φ36 => []) s (fun φ36 => by kernel_rfl) (by kernel_rfl) ?_
   intro φ36 w36 s
   refine wp_seq ?_
   refine seqR ?_
   refine oK _ [] 6 [.o 0] 0 (fun φ37 => [(32, .bool (((geE l (p + j3) 6 (clampN ((j3 + 2 : Nat) : Int)) : Nat) : Int) != ((0 : Nat) : Int))), (31, .bool (((geE l (p + j3) 6 (clampN ((j3 + 2 : Nat) : Int)) : Nat) : Int) != ((0 : Nat) : Int))), (30, .int .i64 (geE l (p + j3) 6 (clampN ((j3 + 2 : Nat) : Int)))), (29, .pointer (some ⟨r, 2, none⟩)), (28, pB r), (27, pB r)]) (fun φ37 => [r]) s (fun φ37 => by kernel_rfl) ?_
   intro φ37 w37 s
   rw [nat_neq (a := (geE l (p + j3) 6 (clampN ((j3 + 2 : Nat) : Int)))) (b := 0)]
   rcases Bool.eq_false_or_eq_true (decide ((geE l (p + j3) 6 (clampN ((j3 + 2 : Nat) : Int))) ≠ 0)) with hc38 | hc38
   ·
    rw [hc38]
    refine oKD _ [] 8 [] 0 (fun φ39 => [(40, .bool true), (39, undef), (38, undef), (37, undef), (36, .bool true), (35, .bool true), (34, undef), (33, undef)]) (fun φ39 => []) s (fun φ39 => by kernel_rfl) (by kernel_rfl) ?_
    intro φ39 w39 s
    refine cond_true_rule (b := true) (by kernel_rfl) rfl ?_
    refine seqR ?_
    refine oAD _ [] 9 [.o 0, .o 0] 0 (fun φ40 => [(47, .pointer (some ⟨r, 2, none⟩)), (46, pB r), (45, .pointer (some ⟨r, 1, none⟩)), (44, pB r), (43, .int .i64 p), (42, pB r), (41, pB r)]) (fun φ40 => [(r, .cells #[.slice a l.length c, .int .i64 p, .int .i64 6] 74)]) (fun φ40 => [r, r]) s (fun φ40 => by kernel_rfl) (by kernel_rfl) ?_
    intro φ40 w40 s
    refine seqR ?_
    refine oKD _ [] 1 [] 0 (fun φ41 => [(2, .int .u64 0)]) (fun φ41 => []) s (fun φ41 => by kernel_rfl) (by kernel_rfl) ?_
    intro φ41 w41 s
    refine wp_ret ?_
    refine ret_rule (C := []) _ [] (.int .u64 0) [] [] s trivial (by kernel_rfl) ?_
    exact ⟨_, _, _, rfl, s, (by have h8 := num_out (j := j3) ho3 (of_decide_eq_false hc5); exact ⟨_, rfl, rfl, (by rw [h8.1]; rfl), (by rw [h8.2.1, h8.2.2]; rfl)⟩)⟩
   ·
    exact absurd (of_decide_eq_false hc38) (fun q => q (by rw [ge6]; decide))
 ·
  refine wp_seq ?_
  refine seqR ?_
  refine oK _ [] 1 [] 0 (fun φ42 => [(7, pB r)]) (fun φ42 => []) s (fun φ42 => by kernel_rfl) ?_
  intro φ42 w42 s
  refine callB_rule (b := (r, .cells #[.slice a l.length c, .int .i64 p, .int .i64 0] 74)) (F := []) (Hr := []) (some 8) 0 s (by kernel_rfl) (by kernel_rfl) (err_c (r := r) (v0 := .slice a l.length c) (v1 := .int .i64 p) (e := 0)) (by kernel_rfl) ?_
  rintro v43 I43 w43 b43 le43 - h43 s
  replace hl := BSl.mono le43 hl
  replace hle2 := leMono le43 hle2
  obtain ⟨rfl, rfl⟩ := h43
  refine oKD _ [] 1 [] 0 (fun φ44 => [(9, .bool false)]) (fun φ44 => []) s (fun φ44 => by kernel_rfl) (by kernel_rfl) ?_
  intro φ44 w44 s
  refine cond_false_rule (b := false) (by kernel_rfl) rfl ?_
  refine wp_skip ?_
  refine seqR ?_
  refine oKD _ [] 6 [.o 0] 0 (fun φ45 => [(4, .int .i64 2), (3, .int .i64 p), (13, .int .i64 p), (12, .pointer (some ⟨r, 1, none⟩)), (11, pB r), (10, pB r)]) (fun φ45 => [r]) s (fun φ45 => by kernel_rfl) (by kernel_rfl) ?_
  intro φ45 w45 s
  refine wp_seq ?_
  refine wp_label ?_
  refine wp_seq ?_
  refine seqR ?_
  refine oK _ [] 1 [] 0 (fun φ46 => [(14, pB r)]) (fun φ46 => []) s (fun φ46 => by kernel_rfl) ?_
  intro φ46 w46 s
  rcases Bool.eq_false_or_eq_true (decide (p + 1 ≤ l.length * 8)) with hc47 | hc47
  ·
   refine callB_rule (b := (r, .cells #[.slice a l.length c, .int .i64 p, .int .i64 0] 74)) (F := []) (Hr := []) (some 15) 0 s (by kernel_rfl) (by kernel_rfl) (get_c (r := r) (p := p) hl (hn9) (k := 1) (by decide) (of_decide_eq_true hc47)) (by kernel_rfl) ?_
   rintro v48 I48 w48 b48 le48 - h48 s
   replace hl := BSl.mono le48 hl
   replace hle2 := leMono le48 hle2
   obtain ⟨rfl, rfl⟩ := h48
   refine oK _ [] 1 [] 0 (fun φ49 => [(16, .bool (((rd l p 1 : Nat) : Int) == ((1 : Nat) : Int)))]) (fun φ49 => []) s (fun φ49 => by kernel_rfl) ?_
   intro φ49 w49 s
   rw [nat_eql (a := (rd l p 1)) (b := 1)]
   refine ops_done (by kernel_rfl) ?_
   rcases Bool.eq_false_or_eq_true (decide ((rd l p 1) = 1)) with hc50 | hc50
   ·
    rw [hc50]
    refine cond_true_rule (b := true) (by kernel_rfl) rfl ?_
    refine seqR ?_
    refine oKD _ [] 3 [] 0 (fun φ51 => [(4, .int .i64 3), (18, .int .i64 3), (17, .int .i64 2)]) (fun φ51 => []) s (fun φ51 => by kernel_rfl) (by kernel_rfl) ?_
    intro φ51 w51 s
    refine wp_goto ?_
    exact ⟨rfl, l.length * 8, ⟨⟨l.length * 8 - p - 1, 1, _, _, _, (by have := of_decide_eq_true hc47; omega), rfl, s, (List.Sublist.cons₂ _ List.Sublist.slnil), by kernel_rfl, hle2, (by have := of_decide_eq_true hc47; show p + 1 + (l.length * 8 - p - 1) = _; omega), OnesL.step (OnesL.start hp) (of_decide_eq_true hc47) (bit_one (of_decide_eq_true hc50))⟩⟩⟩
   ·
    rw [hc50]
    refine cond_false_rule (b := false) (by kernel_rfl) rfl ?_
    refine wp_skip ?_
    refine seqR ?_
    refine oK _ [] 1 [] 0 (fun φ52 => [(19, .int .i64 2)]) (fun φ52 => []) s (fun φ52 => by kernel_rfl) ?_
    intro φ52 w52 s
    refine sem_rule (binOp .shl 41 (.int .u64 1) (.int .i64 2)) (some 20) (.int .u64 4) (by kernel_rfl) ((by kernel_rfl : (binOp .shl 41 (.int .u64 1) (.int .i64 2)).run Tryd.prog w52 = .ok (.int .u64 4) w52)) ?_
    refine oKD _ [] 2 [] 0 (fun φ53 => [(5, .int .u64 0), (21, .int .u64 0)]) (fun φ53 => []) s (fun φ53 => by kernel_rfl) (by kernel_rfl) ?_
    intro φ53 w53 s
    refine seqR ?_
    refine oK _ [] 3 [] 0 (fun φ54 => [(24, .int .i64 2), (23, pB r), (22, .int .u64 0)]) (fun φ54 => []) s (fun φ54 => by kernel_rfl) ?_
    intro φ54 w54 s
    refine callB_rule (b := (r, .cells #[.slice a l.length c, .int .i64 ((p + 1 : Nat) : Int), .int .i64 0] 74)) (F := []) (Hr := []) (some 25) 0 s (by kernel_rfl) (by kernel_rfl) (getG_c (e := 0) (z := ((2 : Nat) : Int)) (r := r) (p := p + 1) hl (hn9) (by have hp0 := hp;  have hq0 := of_decide_eq_true hc47; have hq1 := of_decide_eq_false hc50; omega)) (by kernel_rfl) ?_
    rintro v55 I55 w55 b55 le55 - h55 s
    replace hl := BSl.mono le55 hl
    obtain ⟨rfl, rfl⟩ := h55
    refine oKD _ [] 2 [] 0 (fun φ56 => [(6, .int .u64 (IntKind.wrap .u64 (((0 : Nat) : Int) + ((geV l (p + 1) 0 (clampN ((2 : Nat) : Int)) : Nat) : Int)))), (26, .int .u64 (IntKind.wrap .u64 (((0 : Nat) : Int) + ((geV l (p + 1) 0 (clampN ((2 : Nat) : Int)) : Nat) : Int))))]) (fun φ56 => []) s (fun φ56 => by kernel_rfl) (by kernel_rfl) ?_
    intro φ56 w56 s
    refine wp_seq ?_
    refine seqR ?_
    refine oK _ [] 6 [.o 0] 0 (fun φ57 => [(32, .bool (((geE l (p + 1) 0 (clampN ((2 : Nat) : Int)) : Nat) : Int) != ((0 : Nat) : Int))), (31, .bool (((geE l (p + 1) 0 (clampN ((2 : Nat) : Int)) : Nat) : Int) != ((0 : Nat) : Int))), (30, .int .i64 (geE l (p + 1) 0 (clampN ((2 : Nat) : Int)))), (29, .pointer (some ⟨r, 2, none⟩)), (28, pB r), (27, pB r)]) (fun φ57 => [r]) s (fun φ57 => by kernel_rfl) ?_
    intro φ57 w57 s
    rw [nat_neq (a := (geE l (p + 1) 0 (clampN ((2 : Nat) : Int)))) (b := 0)]
    rcases Bool.eq_false_or_eq_true (decide ((geE l (p + 1) 0 (clampN ((2 : Nat) : Int))) ≠ 0)) with hc58 | hc58
    ·
     rw [hc58]
     refine oKD _ [] 8 [] 0 (fun φ59 => [(40, .bool true), (39, undef), (38, undef), (37, undef), (36, .bool true), (35, .bool true), (34, undef), (33, undef)]) (fun φ59 => []) s (fun φ59 => by kernel_rfl) (by kernel_rfl) ?_
     intro φ59 w59 s
     refine cond_true_rule (b := true) (by kernel_rfl) rfl ?_
     refine seqR ?_
     refine oAD _ [] 9 [.o 0, .o 0] 0 (fun φ60 => [(47, .pointer (some ⟨r, 2, none⟩)), (46, pB r), (45, .pointer (some ⟨r, 1, none⟩)), (44, pB r), (43, .int .i64 p), (42, pB r), (41, pB r)]) (fun φ60 => [(r, .cells #[.slice a l.length c, .int .i64 p, .int .i64 6] 74)]) (fun φ60 => [r, r]) s (fun φ60 => by kernel_rfl) (by kernel_rfl) ?_
     intro φ60 w60 s
     refine seqR ?_
     refine oKD _ [] 1 [] 0 (fun φ61 => [(2, .int .u64 0)]) (fun φ61 => []) s (fun φ61 => by kernel_rfl) (by kernel_rfl) ?_
     intro φ61 w61 s
     refine wp_ret ?_
     refine ret_rule (C := []) _ [] (.int .u64 0) [] [] s trivial (by kernel_rfl) ?_
     exact ⟨_, _, _, rfl, s, (by have h8 := num_short (j := 0) (OnesL.start hp) (of_decide_eq_true hc47) (bit_nil (of_decide_eq_false hc50)) (of_decide_eq_true hc58); exact ⟨_, rfl, rfl, (by rw [h8.1]; rfl), (by rw [h8.2.1, h8.2.2]; rfl)⟩)⟩
    ·
     rw [hc58]
     refine oKD _ [] 8 [] 0 (fun φ62 => [(40, .bool (decide ((IntKind.wrap .u64 (((0 : Nat) : Int) + ((geV l (p + 1) 0 (clampN ((2 : Nat) : Int)) : Nat) : Int))) < ((0 : Nat) : Int)))), (39, .bool (decide ((IntKind.wrap .u64 (((0 : Nat) : Int) + ((geV l (p + 1) 0 (clampN ((2 : Nat) : Int)) : Nat) : Int))) < ((0 : Nat) : Int)))), (38, .int .u64 0), (37, .int .u64 (IntKind.wrap .u64 (((0 : Nat) : Int) + ((geV l (p + 1) 0 (clampN ((2 : Nat) : Int)) : Nat) : Int)))), (36, .bool false), (35, .bool false), (34, .bool false), (33, .int .i64 2)]) (fun φ62 => []) s (fun φ62 => by kernel_rfl) (by kernel_rfl) ?_
     intro φ62 w62 s
     rcases Bool.eq_false_or_eq_true (decide ((IntKind.wrap .u64 (((0 : Nat) : Int) + ((geV l (p + 1) 0 (clampN ((2 : Nat) : Int)) : Nat) : Int))) < ((0 : Nat) : Int))) with hc63 | hc63
     ·
      rw [hc63]
      refine cond_true_rule (b := true) (by kernel_rfl) rfl ?_
      refine seqR ?_
      refine oAD _ [] 9 [.o 0, .o 0] 0 (fun φ64 => [(47, .pointer (some ⟨r, 2, none⟩)), (46, pB r), (45, .pointer (some ⟨r, 1, none⟩)), (44, pB r), (43, .int .i64 p), (42, pB r), (41, pB r)]) (fun φ64 => [(r, .cells #[.slice a l.length c, .int .i64 p, .int .i64 6] 74)]) (fun φ64 => [r, r]) s (fun φ64 => by kernel_rfl) (by kernel_rfl) ?_
      intro φ64 w64 s
      refine seqR ?_
      refine oKD _ [] 1 [] 0 (fun φ65 => [(2, .int .u64 0)]) (fun φ65 => []) s (fun φ65 => by kernel_rfl) (by kernel_rfl) ?_
      intro φ65 w65 s
      refine wp_ret ?_
      refine ret_rule (C := []) _ [] (.int .u64 0) [] [] s trivial (by kernel_rfl) ?_
      exact ⟨_, _, _, rfl, s, (by have h8 := num_over (j := 0) (OnesL.start hp) (of_decide_eq_true hc47) (bit_nil (of_decide_eq_false hc50)) (of_decide_eq_false hc58) (by decide) (of_decide_eq_true hc63); exact ⟨_, rfl, rfl, (by rw [h8.1]; rfl), (by rw [h8.2.1, h8.2.2]; rfl)⟩)⟩
     ·
      rw [hc63]
      refine cond_false_rule (b := false) (by kernel_rfl) rfl ?_
      refine wp_skip ?_
      refine seqR ?_
      refine oKD _ [] 2 [] 0 (fun φ66 => [(2, .int .u64 (IntKind.wrap .u64 (((0 : Nat) : Int) + ((geV l (p + 1) 0 (clampN ((2 : Nat) : Int)) : Nat) : Int)))), (48, .int .u64 (IntKind.wrap .u64 (((0 : Nat) : Int) + ((geV l (p + 1) 0 (clampN ((2 : Nat) : Int)) : Nat) : Int))))]) (fun φ66 => []) s (fun φ66 => by kernel_rfl) (by kernel_rfl) ?_
      intro φ66 w66 s
      refine wp_ret ?_
      refine ret_rule (C := []) _ [] (.int .u64 (IntKind.wrap .u64 (((0 : Nat) : Int) + ((geV l (p + 1) 0 (clampN ((2 : Nat) : Int)) : Nat) : Int)))) [] [] s trivial (by kernel_rfl) ?_
      exact ⟨_, _, _, rfl, s, (by have h8 := num_good (j := 0) (OnesL.start hp) (of_decide_eq_true hc47) (bit_nil (of_decide_eq_false hc50)) (of_decide_eq_false hc58) (by decide) (of_decide_eq_false hc63); exact ⟨_, rfl, rfl, congrArg (Value.int .u64) h8.1, h8.2 _ _⟩)⟩
  ·
   refine callB_rule (b := (r, .cells #[.slice a l.length c, .int .i64 p, .int .i64 0] 74)) (F := []) (Hr := []) (some 15) 0 s (by kernel_rfl) (by kernel_rfl) (get_bad (r := r) (p := p) hl (hn9) (k := 1) (by decide) (by have hp0 := hp;  omega) (by have hq0 := of_decide_eq_false hc47; omega)) (by kernel_rfl) ?_
   rintro v67 I67 w67 b67 le67 - h67 s
   replace hl := BSl.mono le67 hl
   obtain ⟨rfl, rfl⟩ := h67
   refine oKD _ [] 1 [] 0 (fun φ68 => [(16, .bool false)]) (fun φ68 => []) s (fun φ68 => by kernel_rfl) (by kernel_rfl) ?_
   intro φ68 w68 s
   refine cond_false_rule (b := false) (by kernel_rfl) rfl ?_
   refine wp_skip ?_
   refine seqR ?_
   refine oK _ [] 1 [] 0 (fun φ69 => [(19, .int .i64 2)]) (fun φ69 => []) s (fun φ69 => by kernel_rfl) ?_
   intro φ69 w69 s
   refine sem_rule (binOp .shl 41 (.int .u64 1) (.int .i64 2)) (some 20) (.int .u64 4) (by kernel_rfl) ((by kernel_rfl : (binOp .shl 41 (.int .u64 1) (.int .i64 2)).run Tryd.prog w69 = .ok (.int .u64 4) w69)) ?_
   refine oKD _ [] 2 [] 0 (fun φ70 => [(5, .int .u64 0), (21, .int .u64 0)]) (fun φ70 => []) s (fun φ70 => by kernel_rfl) (by kernel_rfl) ?_
   intro φ70 w70 s
   refine seqR ?_
   refine oK _ [] 3 [] 0 (fun φ71 => [(24, .int .i64 2), (23, pB r), (22, .int .u64 0)]) (fun φ71 => []) s (fun φ71 => by kernel_rfl) ?_
   intro φ71 w71 s
   refine callB_rule (b := (r, .cells #[.slice a l.length c, .int .i64 p, .int .i64 6] 74)) (F := []) (Hr := []) (some 25) 0 s (by kernel_rfl) (by kernel_rfl) (getG_c (e := 6) (z := ((2 : Nat) : Int)) (r := r) (p := p) hl (hn9) (by have hp0 := hp;  have hq0 := of_decide_eq_false hc47; omega)) (by kernel_rfl) ?_
   rintro v72 I72 w72 b72 le72 - h72 s
   obtain ⟨rfl, rfl⟩ := h72
   refine oKD _ [] 2 [] 0 (fun φ73 => [(6, .int .u64 (IntKind.wrap .u64 (((0 : Nat) : Int) + ((geV l p 6 (clampN ((2 : Nat) : Int)) : Nat) : Int)))), (26, .int .u64 (IntKind.wrap .u64 (((0 : Nat) : Int) + ((geV l p 6 (clampN ((2 : Nat) : Int)) : Nat) : Int))))]) (fun φ73 => []) s (fun φ73 => by kernel_rfl) (by kernel_rfl) ?_
   intro φ73 w73 s
   refine wp_seq ?_
   refine seqR ?_
   refine oK _ [] 6 [.o 0] 0 (fun φ74 => [(32, .bool (((geE l p 6 (clampN ((2 : Nat) : Int)) : Nat) : Int) != ((0 : Nat) : Int))), (31, .bool (((geE l p 6 (clampN ((2 : Nat) : Int)) : Nat) : Int) != ((0 : Nat) : Int))), (30, .int .i64 (geE l p 6 (clampN ((2 : Nat) : Int)))), (29, .pointer (some ⟨r, 2, none⟩)), (28, pB r), (27, pB r)]) (fun φ74 => [r]) s (fun φ74 => by kernel_rfl) ?_
   intro φ74 w74 s
   rw [nat_neq (a := (geE l p 6 (clampN ((2 : Nat) : Int)))) (b := 0)]
   rcases Bool.eq_false_or_eq_true (decide ((geE l p 6 (clampN ((2 : Nat) : Int))) ≠ 0)) with hc75 | hc75
   ·
    rw [hc75]
    refine oKD _ [] 8 [] 0 (fun φ76 => [(40, .bool true), (39, undef), (38, undef), (37, undef), (36, .bool true), (35, .bool true), (34, undef), (33, undef)]) (fun φ76 => []) s (fun φ76 => by kernel_rfl) (by kernel_rfl) ?_
    intro φ76 w76 s
    refine cond_true_rule (b := true) (by kernel_rfl) rfl ?_
    refine seqR ?_
    refine oAD _ [] 9 [.o 0, .o 0] 0 (fun φ77 => [(47, .pointer (some ⟨r, 2, none⟩)), (46, pB r), (45, .pointer (some ⟨r, 1, none⟩)), (44, pB r), (43, .int .i64 p), (42, pB r), (41, pB r)]) (fun φ77 => [(r, .cells #[.slice a l.length c, .int .i64 p, .int .i64 6] 74)]) (fun φ77 => [r, r]) s (fun φ77 => by kernel_rfl) (by kernel_rfl) ?_
    intro φ77 w77 s
    refine seqR ?_
    refine oKD _ [] 1 [] 0 (fun φ78 => [(2, .int .u64 0)]) (fun φ78 => []) s (fun φ78 => by kernel_rfl) (by kernel_rfl) ?_
    intro φ78 w78 s
    refine wp_ret ?_
    refine ret_rule (C := []) _ [] (.int .u64 0) [] [] s trivial (by kernel_rfl) ?_
    exact ⟨_, _, _, rfl, s, (by have h8 := num_out (j := 0) (OnesL.start hp) (of_decide_eq_false hc47); exact ⟨_, rfl, rfl, (by rw [h8.1]; rfl), (by rw [h8.2.1, h8.2.2]; rfl)⟩)⟩
   ·
    exact absurd (of_decide_eq_false hc75) (fun q => q (by rw [ge6]; decide))

end Go.Proofs.YtgmigcmhnmmdkaaDoor

/- The program's bytes, of nothing too. -/
set_option linter.all false
set_option maxRecDepth 100000
namespace Go.Proofs.YtgmigcmhnmmdkaaDoor
open Go.RowKit Go.Sep
attribute [local irreducible] Go.wpList Go.Code.wp

theorem bytes0_c {I : IM} {b cnt : Nat} : FunM Tryd.prog 68 #[.pointer (some ⟨b, 0, none⟩)] I [(b, .cells #[.slice none 0 0, .int .i64 ((cnt : Nat) : Int)] 138)] (fun v J H' => ∃ (b' : OB) (F' : List OB), H' = b' :: F' ∧ b'.1 = b ∧ ∃ (a : Option Addr) (c : Nat), v = .slice a 0 c ∧ b' = (b, .cells #[.slice none 0 0, .int .i64 ((cnt : Nat) : Int)] 138) ∧ RowH 5 1 (.slice none 0 0) 0 (([] : List UInt8).map bV) F' ∧ BSl J [] (.slice a 0 c)) := by
 refine enterM_rule 10 [(0, pB b)] Tryd.func68 rfl (by kernel_rfl) ?_
 intro w s
 refine seqR ?_
 refine oKD [(b, .cells #[.slice none 0 0, .int .i64 cnt] 138)] [] 1 [] 0 (fun φ1 => [(2, .slice none 0 0)]) (fun φ1 => []) s (fun φ1 => by kernel_rfl) (by kernel_rfl) ?_
 intro φ1 w1 s
 refine wp_seq ?_
 refine seqR ?_
 refine oKD _ [] 2 [] 0 (fun φ2 => [(4, .bool false), (3, pB b)]) (fun φ2 => []) s (fun φ2 => by kernel_rfl) (by kernel_rfl) ?_
 intro φ2 w2 s
 refine cond_false_rule (b := false) (by kernel_rfl) rfl ?_
 refine wp_skip ?_
 refine seqR ?_
 refine oK _ [] 4 [.o 0] 0 (fun φ3 => [(8, .slice none 0 0), (7, pB b), (6, pB b), (5, pB b)]) (fun φ3 => [b]) s (fun φ3 => by kernel_rfl) ?_
 intro φ3 w3 s
 refine call_rule (some 9) s (clone_none (n := 0) (c := 0)) (by kernel_rfl) ?_
 intro v4 I4 w4 le4 h4 s
 obtain rfl := h4
 refine oKD _ [] 1 [] 0 (fun φ5 => [(2, .slice none 0 0)]) (fun φ5 => []) s (fun φ5 => by kernel_rfl) (by kernel_rfl) ?_
 intro φ5 w5 s
 refine wp_ret ?_
 refine ret_rule (C := []) _ [] (.slice none 0 0) [] [] s trivial (by kernel_rfl) ?_
 replace s := s.drop (List.Sublist.append (List.Sublist.cons₂ _ List.Sublist.slnil) (List.Sublist.refl []))
 exact ⟨_, _, _, rfl, s, ⟨_, _, rfl, rfl, _, _, rfl, rfl, row_nilB, bsl_nil _⟩⟩

theorem bytes1_c {I : IM} {b cnt g cap : Nat} {cur : Array Value} (hr : RowH 5 1 (.slice (some ⟨g, 0, none⟩) 0 cap) 0 (([] : List UInt8).map bV) [(g, .cells cur 5)]) : FunM Tryd.prog 68 #[.pointer (some ⟨b, 0, none⟩)] I [(b, .cells #[.slice (some ⟨g, 0, none⟩) 0 cap, .int .i64 ((cnt : Nat) : Int)] 138), (g, .cells cur 5)] (fun v J H' => ∃ (b' : OB) (F' : List OB), H' = b' :: F' ∧ b'.1 = b ∧ ∃ (a : Option Addr) (c : Nat), v = .slice a 0 c ∧ b' = (b, .cells #[.slice (some ⟨g, 0, none⟩) 0 cap, .int .i64 ((cnt : Nat) : Int)] 138) ∧ RowH 5 1 (.slice (some ⟨g, 0, none⟩) 0 cap) 0 (([] : List UInt8).map bV) F' ∧ BSl J [] (.slice a 0 c)) := by
 refine enterM_rule 10 [(0, pB b)] Tryd.func68 rfl (by kernel_rfl) ?_
 intro w s
 refine seqR ?_
 refine oKD [(b, .cells #[.slice (some ⟨g, 0, none⟩) 0 cap, .int .i64 cnt] 138), (g, .cells cur 5)] [] 1 [] 0 (fun φ1 => [(2, .slice none 0 0)]) (fun φ1 => []) s (fun φ1 => by kernel_rfl) (by kernel_rfl) ?_
 intro φ1 w1 s
 refine wp_seq ?_
 refine seqR ?_
 refine oKD _ [] 2 [] 0 (fun φ2 => [(4, .bool false), (3, pB b)]) (fun φ2 => []) s (fun φ2 => by kernel_rfl) (by kernel_rfl) ?_
 intro φ2 w2 s
 refine cond_false_rule (b := false) (by kernel_rfl) rfl ?_
 refine wp_skip ?_
 refine seqR ?_
 refine oK _ [] 4 [.o 0] 0 (fun φ3 => [(8, .slice (some ⟨g, 0, none⟩) 0 cap), (7, pB b), (6, pB b), (5, pB b)]) (fun φ3 => [b]) s (fun φ3 => by kernel_rfl) ?_
 intro φ3 w3 s
 have hle4 : IM.Le I (IM.add I g (.cells cur 5)) := IM.le_add (s.free (g, .cells cur 5) (by simp)) _
 refine callLF_rule (H := ([(b, .cells #[.slice (some ⟨g, 0, none⟩) 0 cap, .int .i64 cnt] 138), (g, .cells cur 5)] ++ [])) (R := fun v F' => RowH 5 1 v (([] : List UInt8)).length ((([] : List UInt8)).map bV) F') (some 9) s (IM.add I g (.cells cur 5)) hle4 (add_sub (by simp)) (clone_row (row_lend (I := I) hr) (by decide)) (by kernel_rfl) ?_
 intro v5 w5 F5 h5 s
 obtain ⟨I6, le6, hb6, s⟩ := freeze_row (H := [(b, .cells #[.slice (some ⟨g, 0, none⟩) 0 cap, .int .i64 ((cnt : Nat) : Int)] 138), (g, .cells cur 5)]) (F := F5) s h5
 obtain ⟨a6, c6, hv6, hc6, hb6⟩ := hb6.open
 subst hv6
 refine oKD [(b, .cells #[.slice (some ⟨g, 0, none⟩) 0 cap, .int .i64 cnt] 138), (g, .cells cur 5)] [] 1 [] 0 (fun φ7 => [(2, .slice a6 ((([] : List UInt8)).length) c6)]) (fun φ7 => []) s (fun φ7 => by kernel_rfl) (by kernel_rfl) ?_
 intro φ7 w7 s
 refine wp_ret ?_
 refine ret_rule (C := []) _ [] (.slice a6 ((([] : List UInt8)).length) c6) [] [] s trivial (by kernel_rfl) ?_
 replace s := s.drop (List.Sublist.append (List.Sublist.cons₂ _ (List.Sublist.cons₂ _ List.Sublist.slnil)) (List.Sublist.refl []))
 exact ⟨_, _, _, rfl, s, ⟨_, _, rfl, rfl, _, _, rfl, rfl, hr, hb6⟩⟩

theorem bytesA_c {I : IM} {b cnt : Nat} {bs : List Bool} {v0 : Value} {F : List OB} (hl9 : bs.length ≤ 1000000) (h : RowH 5 1 v0 (pk bs).length ((pk bs).map bV) F) : FunM Tryd.prog 68 #[.pointer (some ⟨b, 0, none⟩)] I ((b, .cells #[v0, .int .i64 ((cnt : Nat) : Int)] 138) :: F) (fun v J H' => ∃ (b' : OB) (F' : List OB), H' = b' :: F' ∧ b'.1 = b ∧ ∃ (a : Option Addr) (c : Nat), v = .slice a (List.length (pk bs)) c ∧ b' = (b, .cells #[v0, .int .i64 ((cnt : Nat) : Int)] 138) ∧ RowH 5 1 v0 (pk bs).length ((pk bs).map bV) F' ∧ BSl J (pk bs) (.slice a (List.length (pk bs)) c)) := by
  by_cases hp : 0 < bs.length
  · exact bytes_c hp hl9 h
  · have : bs = [] := List.length_eq_zero_iff.1 (by omega)
    subst this
    have h' : RowH 5 1 v0 0 (([] : List UInt8).map bV) F := h
    rcases h'.2 with ⟨rfl, _, rfl⟩ | ⟨g, cap, cur, rfl, rfl, _⟩
    · exact bytes0_c
    · exact bytes1_c h'

end Go.Proofs.YtgmigcmhnmmdkaaDoor

