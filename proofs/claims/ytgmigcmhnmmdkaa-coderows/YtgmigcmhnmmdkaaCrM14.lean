/- Bits are read. -/
import Derived.Test.YtgmigcmhnmmdkaaCrM13
import Derived.Test.YtgmigcmhnmmdkaaCrS13
import Derived.Test.YtgmigcmhnmmdkaaCrS11
import Derived.OrdersHeld
import Derived.Scope
set_option linter.all false
set_option maxRecDepth 100000
namespace Go.Proofs.Ytgmigcmhnmmdkaa
open Go.RowKit Go.Sep
attribute [local irreducible] Go.wpList Go.Code.wp

theorem err_c {I : IM} {r e : Nat} {v0 v1 : Value} : FunM Try.prog 62 #[.pointer (some ⟨r, 0, none⟩)] I [(r, .cells #[v0, v1, .int .i64 ((e : Nat) : Int)] 102)] (fun v J H' => ∃ b' : OB, H' = [b'] ∧ b'.1 = r ∧ v = .int .i64 ((e : Nat) : Int) ∧ b' = (r, .cells #[v0, v1, .int .i64 ((e : Nat) : Int)] 102)) := by
 refine enterM_rule 9 [(0, .pointer (some ⟨r, 0, none⟩))] Try.func62 rfl (by kernel_rfl) ?_
 intro w s
 refine wp_seq ?_
 refine region_rule ?_
 refine ops_rule (C := []) [(r, .cells #[v0, v1, .int .i64 ((e : Nat) : Int)] 102)] [] 1 [] 0 (fun φ1 => [(2, .int .i64 0)]) (fun φ1 => [(r, .cells #[v0, v1, .int .i64 ((e : Nat) : Int)] 102)]) (fun φ1 => []) s trivial (fun φ1 => by kernel_rfl) ?_
 intro φ1 w1 s
 refine ops_done (by kernel_rfl) ?_
 refine wp_seq ?_
 refine wp_seq ?_
 refine region_rule ?_
 refine ops_rule (C := []) [(r, .cells #[v0, v1, .int .i64 ((e : Nat) : Int)] 102)] [] 2 [] 0 (fun φ2 => [(4, .bool false), (3, .pointer (some ⟨r, 0, none⟩))]) (fun φ2 => [(r, .cells #[v0, v1, .int .i64 ((e : Nat) : Int)] 102)]) (fun φ2 => []) s trivial (fun φ2 => by kernel_rfl) ?_
 intro φ2 w2 s
 refine ops_done (by kernel_rfl) ?_
 refine cond_false_rule (b := false) (by kernel_rfl) rfl ?_
 refine wp_skip ?_
 refine wp_seq ?_
 refine region_rule ?_
 refine ops_rule (C := []) [(r, .cells #[v0, v1, .int .i64 ((e : Nat) : Int)] 102)] [] 5 [.o 0] 0 (fun φ3 => [(2, .int .i64 ((e : Nat) : Int)), (8, .int .i64 ((e : Nat) : Int)), (7, .pointer (some ⟨r, 2, none⟩)), (6, .pointer (some ⟨r, 0, none⟩)), (5, .pointer (some ⟨r, 0, none⟩))]) (fun φ3 => [(r, .cells #[v0, v1, .int .i64 ((e : Nat) : Int)] 102)]) (fun φ3 => [r]) s trivial (fun φ3 => by kernel_rfl) ?_
 intro φ3 w3 s
 refine ops_done (by kernel_rfl) ?_
 refine wp_ret ?_
 refine ret_rule (C := []) [(r, .cells #[v0, v1, .int .i64 ((e : Nat) : Int)] 102)] [] (.int .i64 ((e : Nat) : Int)) [] [] s trivial (by kernel_rfl) ?_
 exact ⟨_, _, _, rfl, s, ⟨_, rfl, rfl, rfl, rfl⟩⟩

set_option maxHeartbeats 1000000 in
theorem left_c {I : IM} {l : List UInt8} {a : Option Addr} {n c : Nat} (hl : BSl I l (.slice a n c)) (hn9 : l.length ≤ 1000000) {r p : Nat} {e : Nat} (hp : p ≤ l.length * 8) : FunM Try.prog 63 #[.pointer (some ⟨r, 0, none⟩)] I [(r, .cells #[.slice a n c, .int .i64 ((p : Nat) : Int), .int .i64 ((e : Nat) : Int)] 102)] (fun v J H' => ∃ b' : OB, H' = [b'] ∧ b'.1 = r ∧ v = .int .i64 ((l.length * 8 - p : Nat) : Int) ∧ b' = (r, .cells #[.slice a n c, .int .i64 ((p : Nat) : Int), .int .i64 ((e : Nat) : Int)] 102)) := by
 obtain ⟨rfl, -⟩ := hl.cap
 refine enterM_rule 16 [(0, .pointer (some ⟨r, 0, none⟩))] Try.func63 rfl (by kernel_rfl) ?_
 intro w s
 refine wp_seq ?_
 refine region_rule ?_
 refine ops_rule (C := []) [(r, .cells #[.slice a l.length c, .int .i64 ((p : Nat) : Int), .int .i64 ((e : Nat) : Int)] 102)] [] 1 [] 0 (fun φ1 => [(2, .int .i64 0)]) (fun φ1 => [(r, .cells #[.slice a l.length c, .int .i64 ((p : Nat) : Int), .int .i64 ((e : Nat) : Int)] 102)]) (fun φ1 => []) s trivial (fun φ1 => by kernel_rfl) ?_
 intro φ1 w1 s
 refine ops_done (by kernel_rfl) ?_
 refine wp_seq ?_
 refine wp_seq ?_
 refine region_rule ?_
 refine ops_rule (C := []) [(r, .cells #[.slice a l.length c, .int .i64 ((p : Nat) : Int), .int .i64 ((e : Nat) : Int)] 102)] [] 2 [] 0 (fun φ2 => [(4, .bool false), (3, .pointer (some ⟨r, 0, none⟩))]) (fun φ2 => [(r, .cells #[.slice a l.length c, .int .i64 ((p : Nat) : Int), .int .i64 ((e : Nat) : Int)] 102)]) (fun φ2 => []) s trivial (fun φ2 => by kernel_rfl) ?_
 intro φ2 w2 s
 refine ops_done (by kernel_rfl) ?_
 refine cond_false_rule (b := false) (by kernel_rfl) rfl ?_
 refine wp_skip ?_
 refine wp_seq ?_
 refine draw_rule (C := []) ⟨(fun φ3 xs3 => [.look 0 [] [], .look 0 [] [], .look 0 [] [], .look 0 [.o 0] [r], .look 0 [] [], .sub 0 [] [] (.int .i64 (IntKind.wrap .i64 (((l.length : Nat) : Int) * ((8 : Nat) : Int)))), .look 0 [] [], .look 0 [] [], .look 0 [] [], .look 0 [.o 0] [r], .sub 0 [] [] (.int .i64 (IntKind.wrap .i64 (((l.length * 8 : Nat) : Int) - ((p : Nat) : Int)))), .look 0 [] []]), (fun φ3 xs3 => [.pointer (some ⟨r, 0, none⟩), .pointer (some ⟨r, 0, none⟩), .pointer (some ⟨r, 0, none⟩), .slice a l.length c, .int .i64 ((l.length : Nat) : Int), .int .i64 ((l.length * 8 : Nat) : Int), .pointer (some ⟨r, 0, none⟩), .pointer (some ⟨r, 0, none⟩), .pointer (some ⟨r, 1, none⟩), .int .i64 ((p : Nat) : Int), .int .i64 (((l.length * 8) - p : Nat) : Int), .int .i64 (((l.length * 8) - p : Nat) : Int)]), (fun φ3 xs3 => [[(r, .cells #[.slice a l.length c, .int .i64 ((p : Nat) : Int), .int .i64 ((e : Nat) : Int)] 102)]]), (fun φ3 xs3 => [[default, default, default, default, default, default, default, default, default, default, default, default]]), [], [1, 1, 1, 1, 1, 5, 1, 1, 1, 1, 5, 1]⟩ (fun j => ([MP.any, MP.any, MP.any, MP.any, MP.any, MP.any, MP.any, MP.any, MP.any, MP.any, MP.any, MP.any] : List MP).getD j MP.any) [] [5, 10] [] (fun φ3 xs3 => []) (fun φ3 xs3 => [(5, .pointer (some ⟨r, 0, none⟩)), (6, .pointer (some ⟨r, 0, none⟩)), (7, .pointer (some ⟨r, 0, none⟩)), (8, .slice a l.length c), (9, .int .i64 ((l.length : Nat) : Int)), (10, .int .i64 ((l.length * 8 : Nat) : Int)), (11, .pointer (some ⟨r, 0, none⟩)), (12, .pointer (some ⟨r, 0, none⟩)), (13, .pointer (some ⟨r, 1, none⟩)), (14, .int .i64 ((p : Nat) : Int)), (15, .int .i64 (((l.length * 8) - p : Nat) : Int)), (2, .int .i64 (((l.length * 8) - p : Nat) : Int))]) (fun φ3 xs3 => [(r, .cells #[.slice a l.length c, .int .i64 ((p : Nat) : Int), .int .i64 ((e : Nat) : Int)] 102)]) s trivial (by kernel_rfl) (by kernel_rfl) (fun _ _ => by kernel_rfl) (fun _ _ => by kernel_rfl) ⟨fun _ _ => by kernel_rfl, fun _ _ => by kernel_rfl, fun _ _ => by kernel_rfl, fun _ _ => by kernel_rfl⟩ (fun _ _ _ => by kernel_rfl) (fun _ _ => by kernel_rfl) (fun _ _ => by kernel_rfl) (fun _ _ => by kernel_rfl) (fun _ _ => by kernel_rfl) (fun _ _ => by kernel_rfl) ⟨kcast (A := ∀ (φ3 : Nat → Nat) (xs3 : Xs), (.int .i64 (IntKind.wrap .i64 (((l.length : Nat) : Int) * ((8 : Nat) : Int))) : Value) = .int .i64 ((l.length * 8 : Nat) : Int)) (by kernel_rfl) (fun φ3 xs3 => congrArg (Value.int .i64) ((nat_mulI (a := l.length) (b := 8) (by   (try simp only [List.length_drop, List.length_take, List.length_append, List.length_cons, List.length_nil]); omega)))), ⟨kcast (A := ∀ (φ3 : Nat → Nat) (xs3 : Xs), (.int .i64 (IntKind.wrap .i64 (((l.length * 8 : Nat) : Int) - ((p : Nat) : Int))) : Value) = .int .i64 (((l.length * 8) - p : Nat) : Int)) (by kernel_rfl) (fun φ3 xs3 => congrArg (Value.int .i64) ((nat_subI (a := (l.length * 8)) (b := p) (by   (try simp only [List.length_drop, List.length_take, List.length_append, List.length_cons, List.length_nil]); omega) (by   (try simp only [List.length_drop, List.length_take, List.length_append, List.length_cons, List.length_nil]); omega)))), trivial⟩⟩ trivial (by kernel_rfl) trivial ?k3
 case k3 =>
  rintro φ3 xs3 I3 w3 le3 s 
  refine wp_ret ?_
  refine ret_rule (C := []) [(r, .cells #[.slice a l.length c, .int .i64 ((p : Nat) : Int), .int .i64 ((e : Nat) : Int)] 102)] [] (.int .i64 (((l.length * 8) - p : Nat) : Int)) [] [] s trivial (by kernel_rfl) ?_
  exact ⟨_, _, _, rfl, s, ⟨_, rfl, rfl, rfl, rfl⟩⟩

set_option maxHeartbeats 1000000 in
theorem bit_c {I : IM} {l : List UInt8} {a : Option Addr} {n c : Nat} (hl : BSl I l (.slice a n c)) (hn9 : l.length ≤ 1000000) {r p : Nat} {e j : Nat} (hj : j < l.length * 8) : FunM Try.prog 64 #[.pointer (some ⟨r, 0, none⟩), .int .i64 ((j : Nat) : Int)] I [(r, .cells #[.slice a n c, .int .i64 ((p : Nat) : Int), .int .i64 ((e : Nat) : Int)] 102)] (fun v J H' => ∃ b' : OB, H' = [b'] ∧ b'.1 = r ∧ v = .int .u64 (((bitB l j).toNat : Nat) : Int) ∧ b' = (r, .cells #[.slice a n c, .int .i64 ((p : Nat) : Int), .int .i64 ((e : Nat) : Int)] 102)) := by
 obtain ⟨rfl, -⟩ := hl.cap
 refine enterM_rule 18 [(0, .pointer (some ⟨r, 0, none⟩)), (1, .int .i64 ((j : Nat) : Int))] Try.func64 rfl (by kernel_rfl) ?_
 intro w s
 refine wp_seq ?_
 refine region_rule ?_
 refine ops_rule (C := []) [(r, .cells #[.slice a l.length c, .int .i64 ((p : Nat) : Int), .int .i64 ((e : Nat) : Int)] 102)] [] 1 [] 0 (fun φ1 => [(4, .int .u64 0)]) (fun φ1 => [(r, .cells #[.slice a l.length c, .int .i64 ((p : Nat) : Int), .int .i64 ((e : Nat) : Int)] 102)]) (fun φ1 => []) s trivial (fun φ1 => by kernel_rfl) ?_
 intro φ1 w1 s
 refine ops_done (by kernel_rfl) ?_
 refine wp_seq ?_
 refine draw_rule (C := []) ⟨(fun φ2 xs2 => [.look 0 [] [], .look 0 [] [], .look 0 [] [], .look 0 [.o 0] [r], .look 0 [] [], .sub 0 [] [] (.int .i64 (IntKind.wrap .i64 (Int.tdiv ((j : Nat) : Int) ((8 : Nat) : Int)))), .ran (Instr.indexAt 22 (.slice a l.length c) (.int .i64 ((j / 8 : Nat) : Int))), .ran (Instr.loadAt 5 (.pointer (pAt a (j / 8)))), .sub 0 [] [] (.int .u64 (IntKind.wrap .u64 (((l.getD (j / 8) 0).toNat : Nat) : Int))), .look 0 [] [], .call 83 #[.int .i64 ((j : Nat) : Int)], .ran (binOp .shr 27 (.int .u64 (((l.getD (j / 8) 0).toNat : Nat) : Int)) (.int .i64 ((7 - j % 8 : Nat) : Int))), .ran (binOp .and 27 (.int .u64 ((((l.getD (j / 8) 0).toNat) / 2 ^ (7 - j % 8) : Nat) : Int)) (.int .u64 ((1 : Nat) : Int))), .look 0 [] []]), (fun φ2 xs2 => [.pointer (some ⟨r, 0, none⟩), .pointer (some ⟨r, 0, none⟩), .pointer (some ⟨r, 0, none⟩), .slice a l.length c, .int .i64 ((j : Nat) : Int), .int .i64 ((j / 8 : Nat) : Int), .pointer (pAt a (j / 8)), .int .u8 (((l.getD (j / 8) 0).toNat : Nat) : Int), .int .u64 (((l.getD (j / 8) 0).toNat : Nat) : Int), .int .i64 ((j : Nat) : Int), .int .i64 ((7 - j % 8 : Nat) : Int), .int .u64 ((((l.getD (j / 8) 0).toNat) / 2 ^ (7 - j % 8) : Nat) : Int), .int .u64 ((band 64 (((l.getD (j / 8) 0).toNat) / 2 ^ (7 - j % 8)) 1 : Nat) : Int), .int .u64 ((band 64 (((l.getD (j / 8) 0).toNat) / 2 ^ (7 - j % 8)) 1 : Nat) : Int)]), (fun φ2 xs2 => [[(r, .cells #[.slice a l.length c, .int .i64 ((p : Nat) : Int), .int .i64 ((e : Nat) : Int)] 102)]]), (fun φ2 xs2 => [[default, default, default, default, default, default, default, default, default, default, default, default, default, default]]), [], [1, 1, 1, 1, 1, 5, 6, 6, 5, 1, 3, 6, 6, 1]⟩ (fun j => ([MP.any, MP.any, MP.any, MP.any, MP.any, MP.any, MP.any, MP.any, MP.any, MP.any, MP.any, MP.any, MP.any, MP.any] : List MP).getD j MP.any) [10] [5, 8] [6, 7, 11, 12] (fun φ2 xs2 => []) (fun φ2 xs2 => [(5, .pointer (some ⟨r, 0, none⟩)), (6, .pointer (some ⟨r, 0, none⟩)), (7, .pointer (some ⟨r, 0, none⟩)), (8, .slice a l.length c), (9, .int .i64 ((j : Nat) : Int)), (10, .int .i64 ((j / 8 : Nat) : Int)), (11, .pointer (pAt a (j / 8))), (12, .int .u8 (((l.getD (j / 8) 0).toNat : Nat) : Int)), (13, .int .u64 (((l.getD (j / 8) 0).toNat : Nat) : Int)), (14, .int .i64 ((j : Nat) : Int)), (15, .int .i64 ((7 - j % 8 : Nat) : Int)), (16, .int .u64 ((((l.getD (j / 8) 0).toNat) / 2 ^ (7 - j % 8) : Nat) : Int)), (17, .int .u64 ((band 64 (((l.getD (j / 8) 0).toNat) / 2 ^ (7 - j % 8)) 1 : Nat) : Int)), (4, .int .u64 ((band 64 (((l.getD (j / 8) 0).toNat) / 2 ^ (7 - j % 8)) 1 : Nat) : Int))]) (fun φ2 xs2 => [(r, .cells #[.slice a l.length c, .int .i64 ((p : Nat) : Int), .int .i64 ((e : Nat) : Int)] 102)]) s trivial (by kernel_rfl) (by kernel_rfl) (fun _ _ => by kernel_rfl) (fun _ _ => by kernel_rfl) ⟨fun _ _ => by kernel_rfl, fun _ _ => by kernel_rfl, fun _ _ => by kernel_rfl, fun _ _ => by kernel_rfl⟩ (fun _ _ _ => by kernel_rfl) (fun _ _ => by kernel_rfl) (fun _ _ => by kernel_rfl) (fun _ _ => by kernel_rfl) (fun _ _ => by kernel_rfl) (fun _ _ => by kernel_rfl) ⟨kcast (A := ∀ (φ2 : Nat → Nat) (xs2 : Xs), (.int .i64 (IntKind.wrap .i64 (Int.tdiv ((j : Nat) : Int) ((8 : Nat) : Int))) : Value) = .int .i64 ((j / 8 : Nat) : Int)) (by kernel_rfl) (fun φ2 xs2 => congrArg (Value.int .i64) ((nat_quoI (a := j) (b := 8) (by   omega)))), ⟨kcast (A := ∀ (φ2 : Nat → Nat) (xs2 : Xs), (.int .u64 (IntKind.wrap .u64 (((l.getD (j / 8) 0).toNat : Nat) : Int)) : Value) = .int .u64 (((l.getD (j / 8) 0).toNat : Nat) : Int)) (by kernel_rfl) (fun φ2 xs2 => congrArg (Value.int .u64) ((nat_wrapU (a := ((l.getD (j / 8) 0).toNat)) (by  have := byte_lt (l.getD (j / 8) 0);  omega)))), trivial⟩⟩ ⟨kcast (A := ∀ (φ2 : Nat → Nat) (xs2 : Xs) (J : IM) (w : World), I.Le J → J.Sub w → ((Instr.indexAt 22 (.slice a l.length c) (.int .i64 ((j / 8 : Nat) : Int))) : Sem Value).run Try.prog w = .ok (.pointer (pAt a (j / 8))) w) (by kernel_rfl) (fun φ2 xs2 J w hJ hS => bsl_idx (BSl.mono hJ hl) (by   omega)), ⟨kcast (A := ∀ (φ2 : Nat → Nat) (xs2 : Xs) (J : IM) (w : World), I.Le J → J.Sub w → ((Instr.loadAt 5 (.pointer (pAt a (j / 8)))) : Sem Value).run Try.prog w = .ok (.int .u8 (((l.getD (j / 8) 0).toNat : Nat) : Int)) w) (by kernel_rfl) (fun φ2 xs2 J w hJ hS => bsl_ld hS (BSl.mono hJ hl) (by   omega)), ⟨kcast (A := ∀ (φ2 : Nat → Nat) (xs2 : Xs) (J : IM) (w : World), I.Le J → J.Sub w → ((binOp .shr 27 (.int .u64 (((l.getD (j / 8) 0).toNat : Nat) : Int)) (.int .i64 ((7 - j % 8 : Nat) : Int))) : Sem Value).run Try.prog w = .ok (.int .u64 ((((l.getD (j / 8) 0).toNat) / 2 ^ (7 - j % 8) : Nat) : Int)) w) (by kernel_rfl) (fun φ2 xs2 J w hJ hS => run_shrU (by show _ < 18446744073709551616;  have := byte_lt (l.getD (j / 8) 0);  omega)), ⟨kcast (A := ∀ (φ2 : Nat → Nat) (xs2 : Xs) (J : IM) (w : World), I.Le J → J.Sub w → ((binOp .and 27 (.int .u64 ((((l.getD (j / 8) 0).toNat) / 2 ^ (7 - j % 8) : Nat) : Int)) (.int .u64 ((1 : Nat) : Int))) : Sem Value).run Try.prog w = .ok (.int .u64 ((band 64 (((l.getD (j / 8) 0).toNat) / 2 ^ (7 - j % 8)) 1 : Nat) : Int)) w) (by kernel_rfl) (fun φ2 xs2 J w hJ hS => run_bit64.2.1), trivial⟩⟩⟩⟩ (by kernel_rfl) ⟨?c2_10, trivial⟩ ?k2
 case c2_10 =>
  refine kcast (A := ∀ (φ2 : Nat → Nat) (xs2 : Xs) (J10_2 : IM), I.Le J10_2 → Fun Try.prog 83 #[.int .i64 ((j : Nat) : Int)] J10_2 (fun v J' => ∃ x : UX, v = .int .i64 ((7 - j % 8 : Nat) : Int) ∧ (True))) (by kernel_rfl) ?_
  intro φ2 xs2 J10_2 leJ
  exact Fun.mono (shift_c (n := j)) (fun v J' _ h => ⟨UX.d, h, trivial⟩)
 case k2 =>
  rintro φ2 xs2 I2 w2 le2 s _
  refine wp_ret ?_
  refine ret_rule (C := []) [(r, .cells #[.slice a l.length c, .int .i64 ((p : Nat) : Int), .int .i64 ((e : Nat) : Int)] 102)] [] (.int .u64 ((band 64 (((l.getD (j / 8) 0).toNat) / 2 ^ (7 - j % 8)) 1 : Nat) : Int)) [] [] s trivial (by kernel_rfl) ?_
  exact ⟨_, _, _, rfl, s, ⟨_, rfl, rfl, by rw [band64_one (Nat.lt_of_le_of_lt (Nat.div_le_self _ _) (by have := byte_lt (l.getD (j / 8) 0); omega)), bit_read], rfl⟩⟩

theorem rd_63 {l : List UInt8} {a i k : Nat} (h : i < k) (hk : k ≤ 64) : rd l a i < 9223372036854775808 :=
  Nat.lt_of_lt_of_le (rd_lt l a i) (show 2 ^ i ≤ 2 ^ 63 from Nat.pow_le_pow_right (by decide) (by omega))
theorem bit2 (l : List UInt8) (j : Nat) : (bitB l j).toNat < 2 := by have := Bool.toNat_le (bitB l j); omega

set_option maxHeartbeats 2000000 in
theorem get_c {I : IM} {l : List UInt8} {a : Option Addr} {n c : Nat} (hl : BSl I l (.slice a n c)) (hn9 : l.length ≤ 1000000) {r p : Nat} {k : Nat} (hk : k ≤ 64) (hp : p + k ≤ l.length * 8) : FunM Try.prog 30 #[.pointer (some ⟨r, 0, none⟩), .int .i64 ((k : Nat) : Int)] I [(r, .cells #[.slice a n c, .int .i64 ((p : Nat) : Int), .int .i64 0] 102)] (fun v J H' => ∃ b' : OB, H' = [b'] ∧ b'.1 = r ∧ v = .int .u64 ((rd l p k : Nat) : Int) ∧ b' = (r, .cells #[.slice a n c, .int .i64 ((p + k : Nat) : Int), .int .i64 0] 102)) := by
 obtain ⟨rfl, -⟩ := hl.cap
 refine enterM_rule 44 [(0, .pointer (some ⟨r, 0, none⟩)), (1, .int .i64 ((k : Nat) : Int))] Try.func30 rfl (by kernel_rfl) ?_
 intro w s
 refine wp_seq ?_
 refine region_rule ?_
 refine ops_rule (C := []) [(r, .cells #[.slice a l.length c, .int .i64 ((p : Nat) : Int), .int .i64 0] 102)] [] 1 [] 0 (fun φ1 => [(4, .int .u64 0)]) (fun φ1 => [(r, .cells #[.slice a l.length c, .int .i64 ((p : Nat) : Int), .int .i64 0] 102)]) (fun φ1 => []) s trivial (fun φ1 => by kernel_rfl) ?_
 intro φ1 w1 s
 refine ops_done (by kernel_rfl) ?_
 refine wp_seq ?_
 refine region_rule ?_
 refine ops_rule (C := []) [(r, .cells #[.slice a l.length c, .int .i64 ((p : Nat) : Int), .int .i64 0] 102)] [] 1 [] 0 (fun φ2 => [(7, .int .i64 ((k : Nat) : Int))]) (fun φ2 => [(r, .cells #[.slice a l.length c, .int .i64 ((p : Nat) : Int), .int .i64 0] 102)]) (fun φ2 => []) s trivial (fun φ2 => by kernel_rfl) ?_
 intro φ2 w2 s
 refine call_rule (some 8) s (held_c (k := k) (by   omega)) (by kernel_rfl) ?_
 intro v3 I3 w3 le3 h3 s
 replace hl := BSl.mono le3 hl
 obtain rfl := h3
 refine ops_rule (C := []) [(r, .cells #[.slice a l.length c, .int .i64 ((p : Nat) : Int), .int .i64 0] 102)] [] 1 [] 0 (fun φ4 => [(1, .int .i64 ((k : Nat) : Int))]) (fun φ4 => [(r, .cells #[.slice a l.length c, .int .i64 ((p : Nat) : Int), .int .i64 0] 102)]) (fun φ4 => []) s trivial (fun φ4 => by kernel_rfl) ?_
 intro φ4 w4 s
 refine ops_done (by kernel_rfl) ?_
 refine wp_seq ?_
 refine wp_seq ?_
 refine region_rule ?_
 refine ops_rule (C := []) [(r, .cells #[.slice a l.length c, .int .i64 ((p : Nat) : Int), .int .i64 0] 102)] [] 1 [] 0 (fun φ5 => [(9, .pointer (some ⟨r, 0, none⟩))]) (fun φ5 => [(r, .cells #[.slice a l.length c, .int .i64 ((p : Nat) : Int), .int .i64 0] 102)]) (fun φ5 => []) s trivial (fun φ5 => by kernel_rfl) ?_
 intro φ5 w5 s
 refine callB_rule (b := (r, .cells #[.slice a l.length c, .int .i64 ((p : Nat) : Int), .int .i64 0] 102)) (H := [(r, .cells #[.slice a l.length c, .int .i64 ((p : Nat) : Int), .int .i64 0] 102)]) (F := []) (Hr := []) (some 10) 0 s (by kernel_rfl) (by kernel_rfl) (err_c (r := r) (v0 := .slice a l.length c) (v1 := .int .i64 ((p : Nat) : Int)) (e := 0)) (by kernel_rfl) ?_
 rintro v6 I6 w6 b6 le6 - h6 s
 replace hl := BSl.mono le6 hl
 obtain ⟨rfl, rfl⟩ := h6
 refine ops_rule (C := []) [(r, .cells #[.slice a l.length c, .int .i64 ((p : Nat) : Int), .int .i64 0] 102)] [] 1 [] 0 (fun φ7 => [(11, .bool false)]) (fun φ7 => [(r, .cells #[.slice a l.length c, .int .i64 ((p : Nat) : Int), .int .i64 0] 102)]) (fun φ7 => []) s trivial (fun φ7 => by kernel_rfl) ?_
 intro φ7 w7 s
 refine ops_done (by kernel_rfl) ?_
 refine cond_false_rule (b := false) (by kernel_rfl) rfl ?_
 refine wp_skip ?_
 refine wp_seq ?_
 refine wp_seq ?_
 refine region_rule ?_
 refine ops_rule (C := []) [(r, .cells #[.slice a l.length c, .int .i64 ((p : Nat) : Int), .int .i64 0] 102)] [] 2 [] 0 (fun φ8 => [(13, .pointer (some ⟨r, 0, none⟩)), (12, .int .i64 ((k : Nat) : Int))]) (fun φ8 => [(r, .cells #[.slice a l.length c, .int .i64 ((p : Nat) : Int), .int .i64 0] 102)]) (fun φ8 => []) s trivial (fun φ8 => by kernel_rfl) ?_
 intro φ8 w8 s
 refine callB_rule (b := (r, .cells #[.slice a l.length c, .int .i64 ((p : Nat) : Int), .int .i64 0] 102)) (H := [(r, .cells #[.slice a l.length c, .int .i64 ((p : Nat) : Int), .int .i64 0] 102)]) (F := []) (Hr := []) (some 14) 0 s (by kernel_rfl) (by kernel_rfl) (left_c (e := 0) (r := r) (p := p) hl (hn9) (by omega)) (by kernel_rfl) ?_
 rintro v9 I9 w9 b9 le9 - h9 s
 replace hl := BSl.mono le9 hl
 obtain ⟨rfl, rfl⟩ := h9
 refine ops_rule (C := []) [(r, .cells #[.slice a l.length c, .int .i64 ((p : Nat) : Int), .int .i64 0] 102)] [] 1 [] 0 (fun φ10 => [(15, .bool (decide (((k : Nat) : Int) > ((l.length * 8 - p : Nat) : Int))))]) (fun φ10 => [(r, .cells #[.slice a l.length c, .int .i64 ((p : Nat) : Int), .int .i64 0] 102)]) (fun φ10 => []) s trivial (fun φ10 => by kernel_rfl) ?_
 intro φ10 w10 s
 rw [nat_gtr (a := k) (b := (l.length * 8 - p))]
 refine ops_done (by kernel_rfl) ?_
 rcases Bool.eq_false_or_eq_true (decide ((l.length * 8 - p) < k)) with hc11 | hc11
 ·
  exact absurd (of_decide_eq_true hc11) (by omega)
 ·
  rw [hc11]
  refine cond_false_rule (b := false) (by kernel_rfl) rfl ?_
  refine wp_skip ?_
  refine wp_seq ?_
  refine region_rule ?_
  refine ops_rule (C := []) [(r, .cells #[.slice a l.length c, .int .i64 ((p : Nat) : Int), .int .i64 0] 102)] [] 1 [] 0 (fun φ12 => [(5, .int .u64 0)]) (fun φ12 => [(r, .cells #[.slice a l.length c, .int .i64 ((p : Nat) : Int), .int .i64 0] 102)]) (fun φ12 => []) s trivial (fun φ12 => by kernel_rfl) ?_
  intro φ12 w12 s
  refine ops_done (by kernel_rfl) ?_
  refine wp_seq ?_
  refine wp_seq ?_
  refine region_rule ?_
  refine ops_rule (C := []) [(r, .cells #[.slice a l.length c, .int .i64 ((p : Nat) : Int), .int .i64 0] 102)] [] 2 [] 0 (fun φ13 => [(20, .int .i64 0), (19, .int .i64 ((k : Nat) : Int))]) (fun φ13 => [(r, .cells #[.slice a l.length c, .int .i64 ((p : Nat) : Int), .int .i64 0] 102)]) (fun φ13 => []) s trivial (fun φ13 => by kernel_rfl) ?_
  intro φ13 w13 s
  refine ops_done (by kernel_rfl) ?_
  refine wp_block ?_
  have hle14 := IM.Le.refl I9
  refine loop_rule (fun (x : Nat) => [(0, .pointer (some ⟨r, 0, none⟩)), (1, .int .i64 ((k : Nat) : Int)), (19, .int .i64 ((k : Nat) : Int)), (5, .int .u64 ((rd l p x : Nat) : Int)), (20, .int .i64 ((x : Nat) : Int))]) (fun (x : Nat) => [(r, .cells #[.slice a l.length c, .int .i64 ((p : Nat) : Int), .int .i64 0] 102)]) (fun m (x : Nat) J => IM.Le I9 J ∧ x + m = k) (k) 0 s (by kernel_rfl) (List.Sublist.cons₂ _ List.Sublist.slnil) ⟨IM.Le.refl _, Nat.zero_add _⟩ ?_
  rintro m15 i15 I15 w15 ev15 s ⟨le15, hi15_0⟩
  try dsimp only at s hi15_0 ⊢
  replace hl := BSl.mono le15 hl
  replace hle14 := leMono le15 hle14
  refine wp_seq ?_
  refine region_rule ?_
  refine ops_rule (C := []) [(r, .cells #[.slice a l.length c, .int .i64 ((p : Nat) : Int), .int .i64 0] 102)] [] 1 [] 0 (fun φ16 => [(21, .bool (decide (((i15 : Nat) : Int) < ((k : Nat) : Int))))]) (fun φ16 => [(r, .cells #[.slice a l.length c, .int .i64 ((p : Nat) : Int), .int .i64 0] 102)]) (fun φ16 => []) s trivial (fun φ16 => by kernel_rfl) ?_
  intro φ16 w16 s
  rw [nat_lss (a := i15) (b := k)]
  refine ops_done (by kernel_rfl) ?_
  refine wp_seq ?_
  rcases Bool.eq_false_or_eq_true (decide (i15 < k)) with hc17 | hc17
  ·
   rw [hc17]
   refine cond_true_rule (b := true) (by kernel_rfl) rfl ?_
   refine wp_skip ?_
   refine wp_seq ?_
   refine wp_block ?_
   refine wp_seq ?_
   refine region_rule ?_
   refine ops_rule (C := []) [(r, .cells #[.slice a l.length c, .int .i64 ((p : Nat) : Int), .int .i64 0] 102)] [] 2 [] 0 (fun φ18 => [(6, .int .i64 ((i15 : Nat) : Int)), (22, .int .i64 ((i15 : Nat) : Int))]) (fun φ18 => [(r, .cells #[.slice a l.length c, .int .i64 ((p : Nat) : Int), .int .i64 0] 102)]) (fun φ18 => []) s trivial (fun φ18 => by kernel_rfl) ?_
   intro φ18 w18 s
   refine ops_done (by kernel_rfl) ?_
   refine region_rule ?_
   refine ops_rule (C := []) [(r, .cells #[.slice a l.length c, .int .i64 ((p : Nat) : Int), .int .i64 0] 102)] [] 1 [] 0 (fun φ19 => [(23, .int .u64 ((rd l p i15 : Nat) : Int))]) (fun φ19 => [(r, .cells #[.slice a l.length c, .int .i64 ((p : Nat) : Int), .int .i64 0] 102)]) (fun φ19 => []) s trivial (fun φ19 => by kernel_rfl) ?_
   intro φ19 w19 s
   refine sem_rule (binOp .shl 27 (.int .u64 ((rd l p i15 : Nat) : Int)) (.int .u64 ((1 : Nat) : Int))) (some 24) (.int .u64 ((bshl 64 (rd l p i15) 1 : Nat) : Int)) (by kernel_rfl) (run_shlU (.inr (.inr (.inl rfl)))) ?_
   refine ops_rule (C := []) [(r, .cells #[.slice a l.length c, .int .i64 ((p : Nat) : Int), .int .i64 0] 102)] [] 7 [.o 0] 0 (fun φ20 => [(31, .int .i64 (IntKind.wrap .i64 (((p : Nat) : Int) + ((i15 : Nat) : Int)))), (30, .int .i64 ((i15 : Nat) : Int)), (29, .int .i64 ((p : Nat) : Int)), (28, .pointer (some ⟨r, 1, none⟩)), (27, .pointer (some ⟨r, 0, none⟩)), (26, .pointer (some ⟨r, 0, none⟩)), (25, .pointer (some ⟨r, 0, none⟩))]) (fun φ20 => [(r, .cells #[.slice a l.length c, .int .i64 ((p : Nat) : Int), .int .i64 0] 102)]) (fun φ20 => [r]) s trivial (fun φ20 => by kernel_rfl) ?_
   intro φ20 w20 s
   rw [nat_addI (a := p) (b := i15) (by  have hq0 := of_decide_eq_false hc11; have hq1 := of_decide_eq_true hc17; omega)]
   refine callB_rule (b := (r, .cells #[.slice a l.length c, .int .i64 ((p : Nat) : Int), .int .i64 0] 102)) (H := [(r, .cells #[.slice a l.length c, .int .i64 ((p : Nat) : Int), .int .i64 0] 102)]) (F := []) (Hr := []) (some 32) 0 s (by kernel_rfl) (by kernel_rfl) (bit_c (e := 0) (r := r) (p := p) hl (hn9) (j := p + i15) (by have hq0 := of_decide_eq_false hc11; have hq1 := of_decide_eq_true hc17; omega)) (by kernel_rfl) ?_
   rintro v21 I21 w21 b21 le21 - h21 s
   replace hle14 := leMono le21 hle14
   obtain ⟨rfl, rfl⟩ := h21
   refine sem_rule (binOp .or 27 (.int .u64 ((bshl 64 (rd l p i15) 1 : Nat) : Int)) (.int .u64 (((bitB l (p + i15)).toNat : Nat) : Int))) (some 33) (.int .u64 ((bor 64 (bshl 64 (rd l p i15) 1) ((bitB l (p + i15)).toNat) : Nat) : Int)) (by kernel_rfl) (run_bit64.2.2.1) ?_
   refine ops_rule (C := []) [(r, .cells #[.slice a l.length c, .int .i64 ((p : Nat) : Int), .int .i64 0] 102)] [] 1 [] 0 (fun φ22 => [(5, .int .u64 ((bor 64 (bshl 64 (rd l p i15) 1) ((bitB l (p + i15)).toNat) : Nat) : Int))]) (fun φ22 => [(r, .cells #[.slice a l.length c, .int .i64 ((p : Nat) : Int), .int .i64 0] 102)]) (fun φ22 => []) s trivial (fun φ22 => by kernel_rfl) ?_
   intro φ22 w22 s
   refine ops_done (by kernel_rfl) ?_
   refine region_rule ?_
   refine ops_rule (C := []) [(r, .cells #[.slice a l.length c, .int .i64 ((p : Nat) : Int), .int .i64 0] 102)] [] 2 [] 0 (fun φ23 => [(20, .int .i64 (IntKind.wrap .i64 (((i15 : Nat) : Int) + ((1 : Nat) : Int)))), (34, .int .i64 (IntKind.wrap .i64 (((i15 : Nat) : Int) + ((1 : Nat) : Int))))]) (fun φ23 => [(r, .cells #[.slice a l.length c, .int .i64 ((p : Nat) : Int), .int .i64 0] 102)]) (fun φ23 => []) s trivial (fun φ23 => by kernel_rfl) ?_
   intro φ23 w23 s
   rw [nat_addI (a := i15) (b := 1) (by  have hq0 := of_decide_eq_false hc11; have hq1 := of_decide_eq_true hc17; omega)]
   refine ops_done (by kernel_rfl) ?_
   have hq9 := of_decide_eq_true hc17
   rw [bor64_one (rd_63 hq9 hk) (bit2 l (p + i15))]
   exact ⟨⟨m15 - 1, i15 + 1, _, _, _, by omega, rfl, s, (List.Sublist.cons₂ _ List.Sublist.slnil), by kernel_rfl, hle14, by show i15 + 1 + (m15 - 1) = k; omega⟩⟩
  ·
   rw [hc17]
   refine cond_false_rule (b := false) (by kernel_rfl) rfl ?_
   refine wp_exit ?_
   refine wp_seq ?_
   refine region_rule ?_
   refine ops_rule (C := []) [(r, .cells #[.slice a l.length c, .int .i64 ((p : Nat) : Int), .int .i64 0] 102)] [] 9 [.o 0, .o 0] 0 (fun φ24 => [(42, .pointer (some ⟨r, 1, none⟩)), (41, .pointer (some ⟨r, 0, none⟩)), (40, .int .i64 (IntKind.wrap .i64 (((p : Nat) : Int) + ((k : Nat) : Int)))), (39, .int .i64 ((k : Nat) : Int)), (38, .int .i64 ((p : Nat) : Int)), (37, .pointer (some ⟨r, 1, none⟩)), (36, .pointer (some ⟨r, 0, none⟩)), (35, .pointer (some ⟨r, 0, none⟩))]) (fun φ24 => [(r, .cells #[.slice a l.length c, .int .i64 (IntKind.wrap .i64 (((p : Nat) : Int) + ((k : Nat) : Int))), .int .i64 0] 102)]) (fun φ24 => [r, r]) s trivial (fun φ24 => by kernel_rfl) ?_
   intro φ24 w24 s
   rw [nat_addI (a := p) (b := k) (by  have hq0 := of_decide_eq_false hc11; have hq1 := of_decide_eq_false hc17; omega)] at s ⊢
   refine ops_done (by kernel_rfl) ?_
   refine wp_seq ?_
   refine region_rule ?_
   refine ops_rule (C := []) [(r, .cells #[.slice a l.length c, .int .i64 ((p + k : Nat) : Int), .int .i64 0] 102)] [] 2 [] 0 (fun φ25 => [(4, .int .u64 ((rd l p i15 : Nat) : Int)), (43, .int .u64 ((rd l p i15 : Nat) : Int))]) (fun φ25 => [(r, .cells #[.slice a l.length c, .int .i64 ((p + k : Nat) : Int), .int .i64 0] 102)]) (fun φ25 => []) s trivial (fun φ25 => by kernel_rfl) ?_
   intro φ25 w25 s
   refine ops_done (by kernel_rfl) ?_
   refine wp_ret ?_
   refine ret_rule (C := []) [(r, .cells #[.slice a l.length c, .int .i64 ((p + k : Nat) : Int), .int .i64 0] 102)] [] (.int .u64 ((rd l p i15 : Nat) : Int)) [] [] s trivial (by kernel_rfl) ?_
   have hq9 := of_decide_eq_false hc17
   have hi9 := hi15_0
   obtain rfl : k = i15 := (by omega)
   exact ⟨_, _, _, rfl, s, ⟨_, rfl, rfl, rfl, rfl⟩⟩

set_option maxHeartbeats 2000000 in
theorem get_bad {I : IM} {l : List UInt8} {a : Option Addr} {n c : Nat} (hl : BSl I l (.slice a n c)) (hn9 : l.length ≤ 1000000) {r p : Nat} {k : Nat} (hk : k ≤ 64) (hp : p ≤ l.length * 8) (hb : l.length * 8 - p < k) : FunM Try.prog 30 #[.pointer (some ⟨r, 0, none⟩), .int .i64 ((k : Nat) : Int)] I [(r, .cells #[.slice a n c, .int .i64 ((p : Nat) : Int), .int .i64 0] 102)] (fun v J H' => ∃ b' : OB, H' = [b'] ∧ b'.1 = r ∧ v = .int .u64 0 ∧ b' = (r, .cells #[.slice a n c, .int .i64 ((p : Nat) : Int), .int .i64 6] 102)) := by
 obtain ⟨rfl, -⟩ := hl.cap
 refine enterM_rule 44 [(0, .pointer (some ⟨r, 0, none⟩)), (1, .int .i64 ((k : Nat) : Int))] Try.func30 rfl (by kernel_rfl) ?_
 intro w s
 refine wp_seq ?_
 refine region_rule ?_
 refine ops_rule (C := []) [(r, .cells #[.slice a l.length c, .int .i64 ((p : Nat) : Int), .int .i64 0] 102)] [] 1 [] 0 (fun φ1 => [(4, .int .u64 0)]) (fun φ1 => [(r, .cells #[.slice a l.length c, .int .i64 ((p : Nat) : Int), .int .i64 0] 102)]) (fun φ1 => []) s trivial (fun φ1 => by kernel_rfl) ?_
 intro φ1 w1 s
 refine ops_done (by kernel_rfl) ?_
 refine wp_seq ?_
 refine region_rule ?_
 refine ops_rule (C := []) [(r, .cells #[.slice a l.length c, .int .i64 ((p : Nat) : Int), .int .i64 0] 102)] [] 1 [] 0 (fun φ2 => [(7, .int .i64 ((k : Nat) : Int))]) (fun φ2 => [(r, .cells #[.slice a l.length c, .int .i64 ((p : Nat) : Int), .int .i64 0] 102)]) (fun φ2 => []) s trivial (fun φ2 => by kernel_rfl) ?_
 intro φ2 w2 s
 refine call_rule (some 8) s (held_c (k := k) (by   omega)) (by kernel_rfl) ?_
 intro v3 I3 w3 le3 h3 s
 replace hl := BSl.mono le3 hl
 obtain rfl := h3
 refine ops_rule (C := []) [(r, .cells #[.slice a l.length c, .int .i64 ((p : Nat) : Int), .int .i64 0] 102)] [] 1 [] 0 (fun φ4 => [(1, .int .i64 ((k : Nat) : Int))]) (fun φ4 => [(r, .cells #[.slice a l.length c, .int .i64 ((p : Nat) : Int), .int .i64 0] 102)]) (fun φ4 => []) s trivial (fun φ4 => by kernel_rfl) ?_
 intro φ4 w4 s
 refine ops_done (by kernel_rfl) ?_
 refine wp_seq ?_
 refine wp_seq ?_
 refine region_rule ?_
 refine ops_rule (C := []) [(r, .cells #[.slice a l.length c, .int .i64 ((p : Nat) : Int), .int .i64 0] 102)] [] 1 [] 0 (fun φ5 => [(9, .pointer (some ⟨r, 0, none⟩))]) (fun φ5 => [(r, .cells #[.slice a l.length c, .int .i64 ((p : Nat) : Int), .int .i64 0] 102)]) (fun φ5 => []) s trivial (fun φ5 => by kernel_rfl) ?_
 intro φ5 w5 s
 refine callB_rule (b := (r, .cells #[.slice a l.length c, .int .i64 ((p : Nat) : Int), .int .i64 0] 102)) (H := [(r, .cells #[.slice a l.length c, .int .i64 ((p : Nat) : Int), .int .i64 0] 102)]) (F := []) (Hr := []) (some 10) 0 s (by kernel_rfl) (by kernel_rfl) (err_c (r := r) (v0 := .slice a l.length c) (v1 := .int .i64 ((p : Nat) : Int)) (e := 0)) (by kernel_rfl) ?_
 rintro v6 I6 w6 b6 le6 - h6 s
 replace hl := BSl.mono le6 hl
 obtain ⟨rfl, rfl⟩ := h6
 refine ops_rule (C := []) [(r, .cells #[.slice a l.length c, .int .i64 ((p : Nat) : Int), .int .i64 0] 102)] [] 1 [] 0 (fun φ7 => [(11, .bool false)]) (fun φ7 => [(r, .cells #[.slice a l.length c, .int .i64 ((p : Nat) : Int), .int .i64 0] 102)]) (fun φ7 => []) s trivial (fun φ7 => by kernel_rfl) ?_
 intro φ7 w7 s
 refine ops_done (by kernel_rfl) ?_
 refine cond_false_rule (b := false) (by kernel_rfl) rfl ?_
 refine wp_skip ?_
 refine wp_seq ?_
 refine wp_seq ?_
 refine region_rule ?_
 refine ops_rule (C := []) [(r, .cells #[.slice a l.length c, .int .i64 ((p : Nat) : Int), .int .i64 0] 102)] [] 2 [] 0 (fun φ8 => [(13, .pointer (some ⟨r, 0, none⟩)), (12, .int .i64 ((k : Nat) : Int))]) (fun φ8 => [(r, .cells #[.slice a l.length c, .int .i64 ((p : Nat) : Int), .int .i64 0] 102)]) (fun φ8 => []) s trivial (fun φ8 => by kernel_rfl) ?_
 intro φ8 w8 s
 refine callB_rule (b := (r, .cells #[.slice a l.length c, .int .i64 ((p : Nat) : Int), .int .i64 0] 102)) (H := [(r, .cells #[.slice a l.length c, .int .i64 ((p : Nat) : Int), .int .i64 0] 102)]) (F := []) (Hr := []) (some 14) 0 s (by kernel_rfl) (by kernel_rfl) (left_c (e := 0) (r := r) (p := p) hl (hn9) (by omega)) (by kernel_rfl) ?_
 rintro v9 I9 w9 b9 le9 - h9 s
 obtain ⟨rfl, rfl⟩ := h9
 refine ops_rule (C := []) [(r, .cells #[.slice a l.length c, .int .i64 ((p : Nat) : Int), .int .i64 0] 102)] [] 1 [] 0 (fun φ10 => [(15, .bool (decide (((k : Nat) : Int) > ((l.length * 8 - p : Nat) : Int))))]) (fun φ10 => [(r, .cells #[.slice a l.length c, .int .i64 ((p : Nat) : Int), .int .i64 0] 102)]) (fun φ10 => []) s trivial (fun φ10 => by kernel_rfl) ?_
 intro φ10 w10 s
 rw [nat_gtr (a := k) (b := (l.length * 8 - p))]
 refine ops_done (by kernel_rfl) ?_
 rcases Bool.eq_false_or_eq_true (decide ((l.length * 8 - p) < k)) with hc11 | hc11
 ·
  rw [hc11]
  refine cond_true_rule (b := true) (by kernel_rfl) rfl ?_
  refine wp_seq ?_
  refine region_rule ?_
  refine ops_rule (C := []) [(r, .cells #[.slice a l.length c, .int .i64 ((p : Nat) : Int), .int .i64 0] 102)] [] 4 [.o 0] 0 (fun φ12 => [(18, .pointer (some ⟨r, 2, none⟩)), (17, .pointer (some ⟨r, 0, none⟩)), (16, .pointer (some ⟨r, 0, none⟩))]) (fun φ12 => [(r, .cells #[.slice a l.length c, .int .i64 ((p : Nat) : Int), .int .i64 6] 102)]) (fun φ12 => [r]) s trivial (fun φ12 => by kernel_rfl) ?_
  intro φ12 w12 s
  refine ops_done (by kernel_rfl) ?_
  refine wp_seq ?_
  refine region_rule ?_
  refine ops_rule (C := []) [(r, .cells #[.slice a l.length c, .int .i64 ((p : Nat) : Int), .int .i64 6] 102)] [] 1 [] 0 (fun φ13 => [(4, .int .u64 0)]) (fun φ13 => [(r, .cells #[.slice a l.length c, .int .i64 ((p : Nat) : Int), .int .i64 6] 102)]) (fun φ13 => []) s trivial (fun φ13 => by kernel_rfl) ?_
  intro φ13 w13 s
  refine ops_done (by kernel_rfl) ?_
  refine wp_ret ?_
  refine ret_rule (C := []) [(r, .cells #[.slice a l.length c, .int .i64 ((p : Nat) : Int), .int .i64 6] 102)] [] (.int .u64 0) [] [] s trivial (by kernel_rfl) ?_
  exact ⟨_, _, _, rfl, s, ⟨_, rfl, rfl, rfl, rfl⟩⟩
 ·
  exact absurd (of_decide_eq_false hc11) (fun q => q (by omega))

theorem newReader_c {I : IM} {l : List UInt8} {a : Option Addr} {n c : Nat} (hl : BSl I l (.slice a n c)) (hn : l.length ≤ 1000000) : FunM Try.prog 26 #[.slice a n c] I [] (fun v J F' => ∃ b a c, v = .pointer (some ⟨b, 0, none⟩) ∧ F' = [(b, .cells #[.slice a (List.length l) c, .int .i64 0, .int .i64 0] 102)] ∧ BSl J l (.slice a (List.length l) c)) := by
 obtain ⟨rfl, -⟩ := hl.cap
 refine enterM_rule 7 [(0, .slice a l.length c)] Try.func26 rfl (by kernel_rfl) ?_
 intro w s
 refine wp_seq ?_
 refine region_rule ?_
 refine ops_rule (C := []) [] [] 1 [] 0 (fun φ1 => [(2, .pointer none)]) (fun φ1 => []) (fun φ1 => []) s trivial (fun φ1 => by kernel_rfl) ?_
 intro φ1 w1 s
 refine ops_done (by kernel_rfl) ?_
 refine wp_seq ?_
 refine region_rule ?_
 refine ops_rule (C := []) [] [] 1 [] 0 (fun φ2 => [(3, .slice a l.length c)]) (fun φ2 => []) (fun φ2 => []) s trivial (fun φ2 => by kernel_rfl) ?_
 intro φ2 w2 s
 refine call_rule (some 4) s (clone_c hl (by omega)) (by kernel_rfl) ?_
 intro v3 I3 w3 le3 h3 s
 obtain ⟨a3, c3, rfl, h3_0⟩ := h3
 refine ops_rule (C := []) [] [] 3 [] 1 (fun φ4 => [(2, .pointer (some ⟨(φ4 0), 0, none⟩)), (6, .pointer (some ⟨(φ4 0), 0, none⟩)), (5, .agg #[.slice a3 (List.length l) c3, .int .i64 0, .int .i64 0])]) (fun φ4 => [((φ4 0), .cells #[.slice a3 (List.length l) c3, .int .i64 0, .int .i64 0] 102)]) (fun φ4 => []) s trivial (fun φ4 => by kernel_rfl) ?_
 intro φ4 w4 s
 refine ops_done (by kernel_rfl) ?_
 refine wp_ret ?_
 refine ret_rule (C := []) [((φ4 0), .cells #[.slice a3 (List.length l) c3, .int .i64 0, .int .i64 0] 102)] [] (.pointer (some ⟨(φ4 0), 0, none⟩)) [] [] s trivial (by kernel_rfl) ?_
 exact ⟨_, _, _, rfl, s, ⟨_, _, _, rfl, rfl, h3_0⟩⟩

end Go.Proofs.Ytgmigcmhnmmdkaa

/- Bits of any bytes are read. -/
set_option linter.all false
set_option maxRecDepth 100000
namespace Go.Proofs.Ytgmigcmhnmmdkaa
open Go.RowKit Go.Sep
attribute [local irreducible] Go.wpList Go.Code.wp

set_option maxHeartbeats 400000 in
theorem heldA_c {I : IM} {z : Int} : Fun Try.prog 57 #[.int .i64 z] I (fun v J => v = .int .i64 ((clampN z : Nat) : Int)) := by
 refine enter_rule 6 [(0, .int .i64 z)] Try.func57 rfl (by kernel_rfl) ?_
 intro w s
 refine wp_seq ?_
 refine region_rule ?_
 refine ops_rule (C := []) [] [] 1 [] 0 (fun φ1 => [(2, .int .i64 0)]) (fun φ1 => []) (fun φ1 => []) s trivial (fun φ1 => by kernel_rfl) ?_
 intro φ1 w1 s
 refine ops_done (by kernel_rfl) ?_
 refine wp_seq ?_
 refine region_rule ?_
 refine ops_rule (C := []) [] [] 4 [] 0 (fun φ2 => [(2, .int .i64 (if ((64 : Nat) : Int) < (if ((0 : Nat) : Int) > z then ((0 : Nat) : Int) else z) then ((64 : Nat) : Int) else (if ((0 : Nat) : Int) > z then ((0 : Nat) : Int) else z))), (5, .int .i64 (if ((64 : Nat) : Int) < (if ((0 : Nat) : Int) > z then ((0 : Nat) : Int) else z) then ((64 : Nat) : Int) else (if ((0 : Nat) : Int) > z then ((0 : Nat) : Int) else z))), (4, .int .i64 (if ((0 : Nat) : Int) > z then ((0 : Nat) : Int) else z)), (3, .int .i64 z)]) (fun φ2 => []) (fun φ2 => []) s trivial (fun φ2 => by kernel_rfl) ?_
 intro φ2 w2 s
 refine ops_done (by kernel_rfl) ?_
 refine wp_ret ?_
 refine ret_rule (C := []) [] [] (.int .i64 (if ((64 : Nat) : Int) < (if ((0 : Nat) : Int) > z then ((0 : Nat) : Int) else z) then ((64 : Nat) : Int) else (if ((0 : Nat) : Int) > z then ((0 : Nat) : Int) else z))) [] [] s trivial (by kernel_rfl) ?_
 exact ⟨_, _, _, rfl, s, congrArg (Value.int .i64) (by unfold clampN; (repeat' split) <;> omega)⟩

set_option maxHeartbeats 2000000 in
theorem getG_c {I : IM} {l : List UInt8} {a : Option Addr} {n c : Nat} (hl : BSl I l (.slice a n c)) (hn9 : l.length ≤ 1000000) {r p : Nat} {e : Nat} {z : Int} (hp : p ≤ l.length * 8) : FunM Try.prog 30 #[.pointer (some ⟨r, 0, none⟩), .int .i64 z] I [(r, .cells #[.slice a n c, .int .i64 ((p : Nat) : Int), .int .i64 ((e : Nat) : Int)] 102)] (fun v J H' => ∃ b' : OB, H' = [b'] ∧ b'.1 = r ∧ v = .int .u64 ((geV l p e (clampN z) : Nat) : Int) ∧ b' = (r, .cells #[.slice a n c, .int .i64 ((p + geD l p e (clampN z) : Nat) : Int), .int .i64 ((geE l p e (clampN z) : Nat) : Int)] 102)) := by
 obtain ⟨rfl, -⟩ := hl.cap
 refine enterM_rule 44 [(0, .pointer (some ⟨r, 0, none⟩)), (1, .int .i64 z)] Try.func30 rfl (by kernel_rfl) ?_
 intro w s
 refine wp_seq ?_
 refine region_rule ?_
 refine ops_rule (C := []) [(r, .cells #[.slice a l.length c, .int .i64 ((p : Nat) : Int), .int .i64 ((e : Nat) : Int)] 102)] [] 1 [] 0 (fun φ1 => [(4, .int .u64 0)]) (fun φ1 => [(r, .cells #[.slice a l.length c, .int .i64 ((p : Nat) : Int), .int .i64 ((e : Nat) : Int)] 102)]) (fun φ1 => []) s trivial (fun φ1 => by kernel_rfl) ?_
 intro φ1 w1 s
 refine ops_done (by kernel_rfl) ?_
 refine wp_seq ?_
 refine region_rule ?_
 refine ops_rule (C := []) [(r, .cells #[.slice a l.length c, .int .i64 ((p : Nat) : Int), .int .i64 ((e : Nat) : Int)] 102)] [] 1 [] 0 (fun φ2 => [(7, .int .i64 z)]) (fun φ2 => [(r, .cells #[.slice a l.length c, .int .i64 ((p : Nat) : Int), .int .i64 ((e : Nat) : Int)] 102)]) (fun φ2 => []) s trivial (fun φ2 => by kernel_rfl) ?_
 intro φ2 w2 s
 refine call_rule (some 8) s (heldA_c (z := z)) (by kernel_rfl) ?_
 intro v3 I3 w3 le3 h3 s
 replace hl := BSl.mono le3 hl
 obtain rfl := h3
 refine ops_rule (C := []) [(r, .cells #[.slice a l.length c, .int .i64 ((p : Nat) : Int), .int .i64 ((e : Nat) : Int)] 102)] [] 1 [] 0 (fun φ4 => [(1, .int .i64 ((clampN z : Nat) : Int))]) (fun φ4 => [(r, .cells #[.slice a l.length c, .int .i64 ((p : Nat) : Int), .int .i64 ((e : Nat) : Int)] 102)]) (fun φ4 => []) s trivial (fun φ4 => by kernel_rfl) ?_
 intro φ4 w4 s
 refine ops_done (by kernel_rfl) ?_
 refine wp_seq ?_
 refine wp_seq ?_
 refine region_rule ?_
 refine ops_rule (C := []) [(r, .cells #[.slice a l.length c, .int .i64 ((p : Nat) : Int), .int .i64 ((e : Nat) : Int)] 102)] [] 1 [] 0 (fun φ5 => [(9, .pointer (some ⟨r, 0, none⟩))]) (fun φ5 => [(r, .cells #[.slice a l.length c, .int .i64 ((p : Nat) : Int), .int .i64 ((e : Nat) : Int)] 102)]) (fun φ5 => []) s trivial (fun φ5 => by kernel_rfl) ?_
 intro φ5 w5 s
 refine callB_rule (b := (r, .cells #[.slice a l.length c, .int .i64 ((p : Nat) : Int), .int .i64 ((e : Nat) : Int)] 102)) (H := [(r, .cells #[.slice a l.length c, .int .i64 ((p : Nat) : Int), .int .i64 ((e : Nat) : Int)] 102)]) (F := []) (Hr := []) (some 10) 0 s (by kernel_rfl) (by kernel_rfl) (err_c (r := r) (v0 := .slice a l.length c) (v1 := .int .i64 ((p : Nat) : Int)) (e := e)) (by kernel_rfl) ?_
 rintro v6 I6 w6 b6 le6 - h6 s
 replace hl := BSl.mono le6 hl
 obtain ⟨rfl, rfl⟩ := h6
 refine ops_rule (C := []) [(r, .cells #[.slice a l.length c, .int .i64 ((p : Nat) : Int), .int .i64 ((e : Nat) : Int)] 102)] [] 1 [] 0 (fun φ7 => [(11, .bool (((e : Nat) : Int) != ((0 : Nat) : Int)))]) (fun φ7 => [(r, .cells #[.slice a l.length c, .int .i64 ((p : Nat) : Int), .int .i64 ((e : Nat) : Int)] 102)]) (fun φ7 => []) s trivial (fun φ7 => by kernel_rfl) ?_
 intro φ7 w7 s
 rw [nat_neq (a := e) (b := 0)]
 refine ops_done (by kernel_rfl) ?_
 rcases Bool.eq_false_or_eq_true (decide (e ≠ 0)) with hc8 | hc8
 ·
  rw [hc8]
  refine cond_true_rule (b := true) (by kernel_rfl) rfl ?_
  refine wp_seq ?_
  refine region_rule ?_
  refine ops_rule (C := []) [(r, .cells #[.slice a l.length c, .int .i64 ((p : Nat) : Int), .int .i64 ((e : Nat) : Int)] 102)] [] 1 [] 0 (fun φ9 => [(4, .int .u64 0)]) (fun φ9 => [(r, .cells #[.slice a l.length c, .int .i64 ((p : Nat) : Int), .int .i64 ((e : Nat) : Int)] 102)]) (fun φ9 => []) s trivial (fun φ9 => by kernel_rfl) ?_
  intro φ9 w9 s
  refine ops_done (by kernel_rfl) ?_
  refine wp_ret ?_
  refine ret_rule (C := []) [(r, .cells #[.slice a l.length c, .int .i64 ((p : Nat) : Int), .int .i64 ((e : Nat) : Int)] 102)] [] (.int .u64 0) [] [] s trivial (by kernel_rfl) ?_
  exact ⟨_, _, _, rfl, s, (by have hq0 := of_decide_eq_true hc8; exact ⟨_, rfl, rfl, (by unfold geV; rw [if_neg (by omega)]; rfl), (by (unfold geD; first | rw [if_pos (by omega)] | rw [if_neg (by omega)]); (unfold geE; first | rw [if_pos (by omega)] | rw [if_neg (by omega)]); try rfl)⟩)⟩
 ·
  rw [hc8]
  refine cond_false_rule (b := false) (by kernel_rfl) rfl ?_
  refine wp_skip ?_
  refine wp_seq ?_
  refine wp_seq ?_
  refine region_rule ?_
  refine ops_rule (C := []) [(r, .cells #[.slice a l.length c, .int .i64 ((p : Nat) : Int), .int .i64 ((e : Nat) : Int)] 102)] [] 2 [] 0 (fun φ10 => [(13, .pointer (some ⟨r, 0, none⟩)), (12, .int .i64 ((clampN z : Nat) : Int))]) (fun φ10 => [(r, .cells #[.slice a l.length c, .int .i64 ((p : Nat) : Int), .int .i64 ((e : Nat) : Int)] 102)]) (fun φ10 => []) s trivial (fun φ10 => by kernel_rfl) ?_
  intro φ10 w10 s
  refine callB_rule (b := (r, .cells #[.slice a l.length c, .int .i64 ((p : Nat) : Int), .int .i64 ((e : Nat) : Int)] 102)) (H := [(r, .cells #[.slice a l.length c, .int .i64 ((p : Nat) : Int), .int .i64 ((e : Nat) : Int)] 102)]) (F := []) (Hr := []) (some 14) 0 s (by kernel_rfl) (by kernel_rfl) (left_c (e := e) (r := r) (p := p) hl (hn9) (by omega)) (by kernel_rfl) ?_
  rintro v11 I11 w11 b11 le11 - h11 s
  replace hl := BSl.mono le11 hl
  obtain ⟨rfl, rfl⟩ := h11
  refine ops_rule (C := []) [(r, .cells #[.slice a l.length c, .int .i64 ((p : Nat) : Int), .int .i64 ((e : Nat) : Int)] 102)] [] 1 [] 0 (fun φ12 => [(15, .bool (decide (((clampN z : Nat) : Int) > ((l.length * 8 - p : Nat) : Int))))]) (fun φ12 => [(r, .cells #[.slice a l.length c, .int .i64 ((p : Nat) : Int), .int .i64 ((e : Nat) : Int)] 102)]) (fun φ12 => []) s trivial (fun φ12 => by kernel_rfl) ?_
  intro φ12 w12 s
  rw [nat_gtr (a := (clampN z)) (b := (l.length * 8 - p))]
  refine ops_done (by kernel_rfl) ?_
  rcases Bool.eq_false_or_eq_true (decide ((l.length * 8 - p) < (clampN z))) with hc13 | hc13
  ·
   rw [hc13]
   refine cond_true_rule (b := true) (by kernel_rfl) rfl ?_
   refine wp_seq ?_
   refine region_rule ?_
   refine ops_rule (C := []) [(r, .cells #[.slice a l.length c, .int .i64 ((p : Nat) : Int), .int .i64 ((e : Nat) : Int)] 102)] [] 4 [.o 0] 0 (fun φ14 => [(18, .pointer (some ⟨r, 2, none⟩)), (17, .pointer (some ⟨r, 0, none⟩)), (16, .pointer (some ⟨r, 0, none⟩))]) (fun φ14 => [(r, .cells #[.slice a l.length c, .int .i64 ((p : Nat) : Int), .int .i64 6] 102)]) (fun φ14 => [r]) s trivial (fun φ14 => by kernel_rfl) ?_
   intro φ14 w14 s
   refine ops_done (by kernel_rfl) ?_
   refine wp_seq ?_
   refine region_rule ?_
   refine ops_rule (C := []) [(r, .cells #[.slice a l.length c, .int .i64 ((p : Nat) : Int), .int .i64 6] 102)] [] 1 [] 0 (fun φ15 => [(4, .int .u64 0)]) (fun φ15 => [(r, .cells #[.slice a l.length c, .int .i64 ((p : Nat) : Int), .int .i64 6] 102)]) (fun φ15 => []) s trivial (fun φ15 => by kernel_rfl) ?_
   intro φ15 w15 s
   refine ops_done (by kernel_rfl) ?_
   refine wp_ret ?_
   refine ret_rule (C := []) [(r, .cells #[.slice a l.length c, .int .i64 ((p : Nat) : Int), .int .i64 6] 102)] [] (.int .u64 0) [] [] s trivial (by kernel_rfl) ?_
   exact ⟨_, _, _, rfl, s, (by have hq0 := of_decide_eq_false hc8; have hq1 := of_decide_eq_true hc13; exact ⟨_, rfl, rfl, (by unfold geV; rw [if_neg (by omega)]; rfl), (by (unfold geD; first | rw [if_pos (by omega)] | rw [if_neg (by omega)]); (unfold geE; first | rw [if_pos (by omega)] | rw [if_neg (by omega)]); try rfl)⟩)⟩
  ·
   rw [hc13]
   refine cond_false_rule (b := false) (by kernel_rfl) rfl ?_
   refine wp_skip ?_
   refine wp_seq ?_
   refine region_rule ?_
   refine ops_rule (C := []) [(r, .cells #[.slice a l.length c, .int .i64 ((p : Nat) : Int), .int .i64 ((e : Nat) : Int)] 102)] [] 1 [] 0 (fun φ16 => [(5, .int .u64 0)]) (fun φ16 => [(r, .cells #[.slice a l.length c, .int .i64 ((p : Nat) : Int), .int .i64 ((e : Nat) : Int)] 102)]) (fun φ16 => []) s trivial (fun φ16 => by kernel_rfl) ?_
   intro φ16 w16 s
   refine ops_done (by kernel_rfl) ?_
   refine wp_seq ?_
   refine wp_seq ?_
   refine region_rule ?_
   refine ops_rule (C := []) [(r, .cells #[.slice a l.length c, .int .i64 ((p : Nat) : Int), .int .i64 ((e : Nat) : Int)] 102)] [] 2 [] 0 (fun φ17 => [(20, .int .i64 0), (19, .int .i64 ((clampN z : Nat) : Int))]) (fun φ17 => [(r, .cells #[.slice a l.length c, .int .i64 ((p : Nat) : Int), .int .i64 ((e : Nat) : Int)] 102)]) (fun φ17 => []) s trivial (fun φ17 => by kernel_rfl) ?_
   intro φ17 w17 s
   refine ops_done (by kernel_rfl) ?_
   refine wp_block ?_
   have hle18 := IM.Le.refl I11
   refine loop_rule (fun (x : Nat) => [(0, .pointer (some ⟨r, 0, none⟩)), (1, .int .i64 ((clampN z : Nat) : Int)), (19, .int .i64 ((clampN z : Nat) : Int)), (5, .int .u64 ((rd l p x : Nat) : Int)), (20, .int .i64 ((x : Nat) : Int))]) (fun (x : Nat) => [(r, .cells #[.slice a l.length c, .int .i64 ((p : Nat) : Int), .int .i64 ((e : Nat) : Int)] 102)]) (fun m (x : Nat) J => IM.Le I11 J ∧ x + m = (clampN z)) ((clampN z)) 0 s (by kernel_rfl) (List.Sublist.cons₂ _ List.Sublist.slnil) ⟨IM.Le.refl _, Nat.zero_add _⟩ ?_
   rintro m19 i19 I19 w19 ev19 s ⟨le19, hi19_0⟩
   try dsimp only at s hi19_0 ⊢
   replace hl := BSl.mono le19 hl
   replace hle18 := leMono le19 hle18
   refine wp_seq ?_
   refine region_rule ?_
   refine ops_rule (C := []) [(r, .cells #[.slice a l.length c, .int .i64 ((p : Nat) : Int), .int .i64 ((e : Nat) : Int)] 102)] [] 1 [] 0 (fun φ20 => [(21, .bool (decide (((i19 : Nat) : Int) < ((clampN z : Nat) : Int))))]) (fun φ20 => [(r, .cells #[.slice a l.length c, .int .i64 ((p : Nat) : Int), .int .i64 ((e : Nat) : Int)] 102)]) (fun φ20 => []) s trivial (fun φ20 => by kernel_rfl) ?_
   intro φ20 w20 s
   rw [nat_lss (a := i19) (b := (clampN z))]
   refine ops_done (by kernel_rfl) ?_
   refine wp_seq ?_
   rcases Bool.eq_false_or_eq_true (decide (i19 < (clampN z))) with hc21 | hc21
   ·
    rw [hc21]
    refine cond_true_rule (b := true) (by kernel_rfl) rfl ?_
    refine wp_skip ?_
    refine wp_seq ?_
    refine wp_block ?_
    refine wp_seq ?_
    refine region_rule ?_
    refine ops_rule (C := []) [(r, .cells #[.slice a l.length c, .int .i64 ((p : Nat) : Int), .int .i64 ((e : Nat) : Int)] 102)] [] 2 [] 0 (fun φ22 => [(6, .int .i64 ((i19 : Nat) : Int)), (22, .int .i64 ((i19 : Nat) : Int))]) (fun φ22 => [(r, .cells #[.slice a l.length c, .int .i64 ((p : Nat) : Int), .int .i64 ((e : Nat) : Int)] 102)]) (fun φ22 => []) s trivial (fun φ22 => by kernel_rfl) ?_
    intro φ22 w22 s
    refine ops_done (by kernel_rfl) ?_
    refine region_rule ?_
    refine ops_rule (C := []) [(r, .cells #[.slice a l.length c, .int .i64 ((p : Nat) : Int), .int .i64 ((e : Nat) : Int)] 102)] [] 1 [] 0 (fun φ23 => [(23, .int .u64 ((rd l p i19 : Nat) : Int))]) (fun φ23 => [(r, .cells #[.slice a l.length c, .int .i64 ((p : Nat) : Int), .int .i64 ((e : Nat) : Int)] 102)]) (fun φ23 => []) s trivial (fun φ23 => by kernel_rfl) ?_
    intro φ23 w23 s
    refine sem_rule (binOp .shl 27 (.int .u64 ((rd l p i19 : Nat) : Int)) (.int .u64 ((1 : Nat) : Int))) (some 24) (.int .u64 ((bshl 64 (rd l p i19) 1 : Nat) : Int)) (by kernel_rfl) (run_shlU (.inr (.inr (.inl rfl)))) ?_
    refine ops_rule (C := []) [(r, .cells #[.slice a l.length c, .int .i64 ((p : Nat) : Int), .int .i64 ((e : Nat) : Int)] 102)] [] 7 [.o 0] 0 (fun φ24 => [(31, .int .i64 (IntKind.wrap .i64 (((p : Nat) : Int) + ((i19 : Nat) : Int)))), (30, .int .i64 ((i19 : Nat) : Int)), (29, .int .i64 ((p : Nat) : Int)), (28, .pointer (some ⟨r, 1, none⟩)), (27, .pointer (some ⟨r, 0, none⟩)), (26, .pointer (some ⟨r, 0, none⟩)), (25, .pointer (some ⟨r, 0, none⟩))]) (fun φ24 => [(r, .cells #[.slice a l.length c, .int .i64 ((p : Nat) : Int), .int .i64 ((e : Nat) : Int)] 102)]) (fun φ24 => [r]) s trivial (fun φ24 => by kernel_rfl) ?_
    intro φ24 w24 s
    rw [nat_addI (a := p) (b := i19) (by have hcl := clampN_le z; have hq0 := of_decide_eq_false hc8; have hq1 := of_decide_eq_false hc13; have hq2 := of_decide_eq_true hc21; omega)]
    refine callB_rule (b := (r, .cells #[.slice a l.length c, .int .i64 ((p : Nat) : Int), .int .i64 ((e : Nat) : Int)] 102)) (H := [(r, .cells #[.slice a l.length c, .int .i64 ((p : Nat) : Int), .int .i64 ((e : Nat) : Int)] 102)]) (F := []) (Hr := []) (some 32) 0 s (by kernel_rfl) (by kernel_rfl) (bit_c (e := e) (r := r) (p := p) hl (hn9) (j := p + i19) (by have hq0 := of_decide_eq_false hc8; have hq1 := of_decide_eq_false hc13; have hq2 := of_decide_eq_true hc21; omega)) (by kernel_rfl) ?_
    rintro v25 I25 w25 b25 le25 - h25 s
    replace hle18 := leMono le25 hle18
    obtain ⟨rfl, rfl⟩ := h25
    refine sem_rule (binOp .or 27 (.int .u64 ((bshl 64 (rd l p i19) 1 : Nat) : Int)) (.int .u64 (((bitB l (p + i19)).toNat : Nat) : Int))) (some 33) (.int .u64 ((bor 64 (bshl 64 (rd l p i19) 1) ((bitB l (p + i19)).toNat) : Nat) : Int)) (by kernel_rfl) (run_bit64.2.2.1) ?_
    refine ops_rule (C := []) [(r, .cells #[.slice a l.length c, .int .i64 ((p : Nat) : Int), .int .i64 ((e : Nat) : Int)] 102)] [] 1 [] 0 (fun φ26 => [(5, .int .u64 ((bor 64 (bshl 64 (rd l p i19) 1) ((bitB l (p + i19)).toNat) : Nat) : Int))]) (fun φ26 => [(r, .cells #[.slice a l.length c, .int .i64 ((p : Nat) : Int), .int .i64 ((e : Nat) : Int)] 102)]) (fun φ26 => []) s trivial (fun φ26 => by kernel_rfl) ?_
    intro φ26 w26 s
    refine ops_done (by kernel_rfl) ?_
    refine region_rule ?_
    refine ops_rule (C := []) [(r, .cells #[.slice a l.length c, .int .i64 ((p : Nat) : Int), .int .i64 ((e : Nat) : Int)] 102)] [] 2 [] 0 (fun φ27 => [(20, .int .i64 (IntKind.wrap .i64 (((i19 : Nat) : Int) + ((1 : Nat) : Int)))), (34, .int .i64 (IntKind.wrap .i64 (((i19 : Nat) : Int) + ((1 : Nat) : Int))))]) (fun φ27 => [(r, .cells #[.slice a l.length c, .int .i64 ((p : Nat) : Int), .int .i64 ((e : Nat) : Int)] 102)]) (fun φ27 => []) s trivial (fun φ27 => by kernel_rfl) ?_
    intro φ27 w27 s
    rw [nat_addI (a := i19) (b := 1) (by have hcl := clampN_le z; have hq0 := of_decide_eq_false hc8; have hq1 := of_decide_eq_false hc13; have hq2 := of_decide_eq_true hc21; omega)]
    refine ops_done (by kernel_rfl) ?_
    have hq9 := of_decide_eq_true hc21
    rw [bor64_one (rd_63 hq9 (clampN_le z)) (bit2 l (p + i19))]
    exact ⟨⟨m19 - 1, i19 + 1, _, _, _, by omega, rfl, s, (List.Sublist.cons₂ _ List.Sublist.slnil), by kernel_rfl, hle18, by show i19 + 1 + (m19 - 1) = (clampN z); omega⟩⟩
   ·
    rw [hc21]
    refine cond_false_rule (b := false) (by kernel_rfl) rfl ?_
    refine wp_exit ?_
    refine wp_seq ?_
    refine region_rule ?_
    refine ops_rule (C := []) [(r, .cells #[.slice a l.length c, .int .i64 ((p : Nat) : Int), .int .i64 ((e : Nat) : Int)] 102)] [] 9 [.o 0, .o 0] 0 (fun φ28 => [(42, .pointer (some ⟨r, 1, none⟩)), (41, .pointer (some ⟨r, 0, none⟩)), (40, .int .i64 (IntKind.wrap .i64 (((p : Nat) : Int) + ((clampN z : Nat) : Int)))), (39, .int .i64 ((clampN z : Nat) : Int)), (38, .int .i64 ((p : Nat) : Int)), (37, .pointer (some ⟨r, 1, none⟩)), (36, .pointer (some ⟨r, 0, none⟩)), (35, .pointer (some ⟨r, 0, none⟩))]) (fun φ28 => [(r, .cells #[.slice a l.length c, .int .i64 (IntKind.wrap .i64 (((p : Nat) : Int) + ((clampN z : Nat) : Int))), .int .i64 ((e : Nat) : Int)] 102)]) (fun φ28 => [r, r]) s trivial (fun φ28 => by kernel_rfl) ?_
    intro φ28 w28 s
    rw [nat_addI (a := p) (b := (clampN z)) (by have hcl := clampN_le z; have hq0 := of_decide_eq_false hc8; have hq1 := of_decide_eq_false hc13; have hq2 := of_decide_eq_false hc21; omega)] at s ⊢
    refine ops_done (by kernel_rfl) ?_
    refine wp_seq ?_
    refine region_rule ?_
    refine ops_rule (C := []) [(r, .cells #[.slice a l.length c, .int .i64 ((p + (clampN z) : Nat) : Int), .int .i64 ((e : Nat) : Int)] 102)] [] 2 [] 0 (fun φ29 => [(4, .int .u64 ((rd l p i19 : Nat) : Int)), (43, .int .u64 ((rd l p i19 : Nat) : Int))]) (fun φ29 => [(r, .cells #[.slice a l.length c, .int .i64 ((p + (clampN z) : Nat) : Int), .int .i64 ((e : Nat) : Int)] 102)]) (fun φ29 => []) s trivial (fun φ29 => by kernel_rfl) ?_
    intro φ29 w29 s
    refine ops_done (by kernel_rfl) ?_
    refine wp_ret ?_
    refine ret_rule (C := []) [(r, .cells #[.slice a l.length c, .int .i64 ((p + (clampN z) : Nat) : Int), .int .i64 ((e : Nat) : Int)] 102)] [] (.int .u64 ((rd l p i19 : Nat) : Int)) [] [] s trivial (by kernel_rfl) ?_
    exact ⟨_, _, _, rfl, s, (by have hq0 := of_decide_eq_false hc8; have hq1 := of_decide_eq_false hc13; have hq2 := of_decide_eq_false hc21; have hq9 := of_decide_eq_false hc21; have hi9 := hi19_0; have hg9 : i19 = (clampN z) := (by omega); exact ⟨_, rfl, rfl, (by unfold geV; rw [if_pos (by omega), hg9]), (by (unfold geD; first | rw [if_pos (by omega)] | rw [if_neg (by omega)]); (unfold geE; first | rw [if_pos (by omega)] | rw [if_neg (by omega)]); try rfl)⟩)⟩

set_option maxHeartbeats 2000000 in
theorem oneLeft_c {I : IM} {l : List UInt8} {a : Option Addr} {n c : Nat} (hl : BSl I l (.slice a n c)) (hn9 : l.length ≤ 1000000) {r p : Nat} {e : Nat} (hp : p ≤ l.length * 8) : FunM Try.prog 65 #[.pointer (some ⟨r, 0, none⟩)] I [(r, .cells #[.slice a n c, .int .i64 ((p : Nat) : Int), .int .i64 ((e : Nat) : Int)] 102)] (fun v J H' => ∃ b' : OB, H' = [b'] ∧ b'.1 = r ∧ v = .bool (oneL l p) ∧ b' = (r, .cells #[.slice a n c, .int .i64 ((p : Nat) : Int), .int .i64 ((e : Nat) : Int)] 102)) := by
 obtain ⟨rfl, -⟩ := hl.cap
 refine enterM_rule 19 [(0, .pointer (some ⟨r, 0, none⟩))] Try.func65 rfl (by kernel_rfl) ?_
 intro w s
 refine wp_seq ?_
 refine region_rule ?_
 refine ops_rule (C := []) [(r, .cells #[.slice a l.length c, .int .i64 ((p : Nat) : Int), .int .i64 ((e : Nat) : Int)] 102)] [] 1 [] 0 (fun φ1 => [(2, .bool false)]) (fun φ1 => [(r, .cells #[.slice a l.length c, .int .i64 ((p : Nat) : Int), .int .i64 ((e : Nat) : Int)] 102)]) (fun φ1 => []) s trivial (fun φ1 => by kernel_rfl) ?_
 intro φ1 w1 s
 refine ops_done (by kernel_rfl) ?_
 refine wp_seq ?_
 refine wp_seq ?_
 refine region_rule ?_
 refine ops_rule (C := []) [(r, .cells #[.slice a l.length c, .int .i64 ((p : Nat) : Int), .int .i64 ((e : Nat) : Int)] 102)] [] 1 [] 0 (fun φ2 => [(4, .pointer (some ⟨r, 0, none⟩))]) (fun φ2 => [(r, .cells #[.slice a l.length c, .int .i64 ((p : Nat) : Int), .int .i64 ((e : Nat) : Int)] 102)]) (fun φ2 => []) s trivial (fun φ2 => by kernel_rfl) ?_
 intro φ2 w2 s
 refine callB_rule (b := (r, .cells #[.slice a l.length c, .int .i64 ((p : Nat) : Int), .int .i64 ((e : Nat) : Int)] 102)) (H := [(r, .cells #[.slice a l.length c, .int .i64 ((p : Nat) : Int), .int .i64 ((e : Nat) : Int)] 102)]) (F := []) (Hr := []) (some 5) 0 s (by kernel_rfl) (by kernel_rfl) (left_c (e := e) (r := r) (p := p) hl (hn9) (by omega)) (by kernel_rfl) ?_
 rintro v3 I3 w3 b3 le3 - h3 s
 replace hl := BSl.mono le3 hl
 obtain ⟨rfl, rfl⟩ := h3
 refine ops_rule (C := []) [(r, .cells #[.slice a l.length c, .int .i64 ((p : Nat) : Int), .int .i64 ((e : Nat) : Int)] 102)] [] 1 [] 0 (fun φ4 => [(6, .int .i64 0)]) (fun φ4 => [(r, .cells #[.slice a l.length c, .int .i64 ((p : Nat) : Int), .int .i64 ((e : Nat) : Int)] 102)]) (fun φ4 => []) s trivial (fun φ4 => by kernel_rfl) ?_
 intro φ4 w4 s
 refine ops_done (by kernel_rfl) ?_
 refine wp_block ?_
 have hle5 := IM.Le.refl I3
 refine loop_rule (fun (x : Nat) => [(0, .pointer (some ⟨r, 0, none⟩)), (5, .int .i64 ((l.length * 8 - p : Nat) : Int)), (6, .int .i64 ((x : Nat) : Int))]) (fun (x : Nat) => [(r, .cells #[.slice a l.length c, .int .i64 ((p : Nat) : Int), .int .i64 ((e : Nat) : Int)] 102)]) (fun m (x : Nat) J => IM.Le I3 J ∧ x + m = l.length * 8 - p ∧ ∀ j, j < x → bitB l (p + j) = false) (l.length * 8 - p) 0 s (by kernel_rfl) (List.Sublist.cons₂ _ List.Sublist.slnil) ⟨IM.Le.refl _, Nat.zero_add _, (fun j hj => absurd hj (Nat.not_lt_zero j))⟩ ?_
 rintro m6 i6 I6 w6 ev6 s ⟨le6, hi6_0, hi6_1⟩
 try dsimp only at s hi6_0 hi6_1 ⊢
 replace hl := BSl.mono le6 hl
 replace hle5 := leMono le6 hle5
 refine wp_seq ?_
 refine region_rule ?_
 refine ops_rule (C := []) [(r, .cells #[.slice a l.length c, .int .i64 ((p : Nat) : Int), .int .i64 ((e : Nat) : Int)] 102)] [] 1 [] 0 (fun φ7 => [(7, .bool (decide (((i6 : Nat) : Int) < ((l.length * 8 - p : Nat) : Int))))]) (fun φ7 => [(r, .cells #[.slice a l.length c, .int .i64 ((p : Nat) : Int), .int .i64 ((e : Nat) : Int)] 102)]) (fun φ7 => []) s trivial (fun φ7 => by kernel_rfl) ?_
 intro φ7 w7 s
 rw [nat_lss (a := i6) (b := (l.length * 8 - p))]
 refine ops_done (by kernel_rfl) ?_
 refine wp_seq ?_
 rcases Bool.eq_false_or_eq_true (decide (i6 < (l.length * 8 - p))) with hc8 | hc8
 ·
  rw [hc8]
  refine cond_true_rule (b := true) (by kernel_rfl) rfl ?_
  refine wp_skip ?_
  refine wp_seq ?_
  refine wp_block ?_
  refine wp_seq ?_
  refine region_rule ?_
  refine ops_rule (C := []) [(r, .cells #[.slice a l.length c, .int .i64 ((p : Nat) : Int), .int .i64 ((e : Nat) : Int)] 102)] [] 2 [] 0 (fun φ9 => [(3, .int .i64 ((i6 : Nat) : Int)), (8, .int .i64 ((i6 : Nat) : Int))]) (fun φ9 => [(r, .cells #[.slice a l.length c, .int .i64 ((p : Nat) : Int), .int .i64 ((e : Nat) : Int)] 102)]) (fun φ9 => []) s trivial (fun φ9 => by kernel_rfl) ?_
  intro φ9 w9 s
  refine ops_done (by kernel_rfl) ?_
  refine wp_seq ?_
  refine region_rule ?_
  refine ops_rule (C := []) [(r, .cells #[.slice a l.length c, .int .i64 ((p : Nat) : Int), .int .i64 ((e : Nat) : Int)] 102)] [] 7 [.o 0] 0 (fun φ10 => [(15, .int .i64 (IntKind.wrap .i64 (((p : Nat) : Int) + ((i6 : Nat) : Int)))), (14, .int .i64 ((i6 : Nat) : Int)), (13, .int .i64 ((p : Nat) : Int)), (12, .pointer (some ⟨r, 1, none⟩)), (11, .pointer (some ⟨r, 0, none⟩)), (10, .pointer (some ⟨r, 0, none⟩)), (9, .pointer (some ⟨r, 0, none⟩))]) (fun φ10 => [(r, .cells #[.slice a l.length c, .int .i64 ((p : Nat) : Int), .int .i64 ((e : Nat) : Int)] 102)]) (fun φ10 => [r]) s trivial (fun φ10 => by kernel_rfl) ?_
  intro φ10 w10 s
  rw [nat_addI (a := p) (b := i6) (by  have hq0 := of_decide_eq_true hc8; omega)]
  refine callB_rule (b := (r, .cells #[.slice a l.length c, .int .i64 ((p : Nat) : Int), .int .i64 ((e : Nat) : Int)] 102)) (H := [(r, .cells #[.slice a l.length c, .int .i64 ((p : Nat) : Int), .int .i64 ((e : Nat) : Int)] 102)]) (F := []) (Hr := []) (some 16) 0 s (by kernel_rfl) (by kernel_rfl) (bit_c (e := e) (r := r) (p := p) hl (hn9) (j := p + i6) (by have hq0 := of_decide_eq_true hc8; omega)) (by kernel_rfl) ?_
  rintro v11 I11 w11 b11 le11 - h11 s
  replace hle5 := leMono le11 hle5
  obtain ⟨rfl, rfl⟩ := h11
  refine ops_rule (C := []) [(r, .cells #[.slice a l.length c, .int .i64 ((p : Nat) : Int), .int .i64 ((e : Nat) : Int)] 102)] [] 1 [] 0 (fun φ12 => [(17, .bool ((((bitB l (p + i6)).toNat : Nat) : Int) == ((1 : Nat) : Int)))]) (fun φ12 => [(r, .cells #[.slice a l.length c, .int .i64 ((p : Nat) : Int), .int .i64 ((e : Nat) : Int)] 102)]) (fun φ12 => []) s trivial (fun φ12 => by kernel_rfl) ?_
  intro φ12 w12 s
  rw [nat_eql (a := ((bitB l (p + i6)).toNat)) (b := 1)]
  refine ops_done (by kernel_rfl) ?_
  rcases Bool.eq_false_or_eq_true (decide (((bitB l (p + i6)).toNat) = 1)) with hc13 | hc13
  ·
   rw [hc13]
   refine cond_true_rule (b := true) (by kernel_rfl) rfl ?_
   refine wp_seq ?_
   refine region_rule ?_
   refine ops_rule (C := []) [(r, .cells #[.slice a l.length c, .int .i64 ((p : Nat) : Int), .int .i64 ((e : Nat) : Int)] 102)] [] 1 [] 0 (fun φ14 => [(2, .bool true)]) (fun φ14 => [(r, .cells #[.slice a l.length c, .int .i64 ((p : Nat) : Int), .int .i64 ((e : Nat) : Int)] 102)]) (fun φ14 => []) s trivial (fun φ14 => by kernel_rfl) ?_
   intro φ14 w14 s
   refine ops_done (by kernel_rfl) ?_
   refine wp_ret ?_
   refine ret_rule (C := []) [(r, .cells #[.slice a l.length c, .int .i64 ((p : Nat) : Int), .int .i64 ((e : Nat) : Int)] 102)] [] (.bool true) [] [] s trivial (by kernel_rfl) ?_
   exact ⟨_, _, _, rfl, s, ⟨_, rfl, rfl, (by have hq9 := of_decide_eq_true hc8; have hb9 := of_decide_eq_true hc13; rw [oneL_true (i := i6) hq9 (by cases hbb : bitB l (p + i6) <;> simp [hbb] at hb9 ⊢)]), rfl⟩⟩
  ·
   rw [hc13]
   refine cond_false_rule (b := false) (by kernel_rfl) rfl ?_
   refine wp_skip ?_
   refine region_rule ?_
   refine ops_rule (C := []) [(r, .cells #[.slice a l.length c, .int .i64 ((p : Nat) : Int), .int .i64 ((e : Nat) : Int)] 102)] [] 2 [] 0 (fun φ15 => [(6, .int .i64 (IntKind.wrap .i64 (((i6 : Nat) : Int) + ((1 : Nat) : Int)))), (18, .int .i64 (IntKind.wrap .i64 (((i6 : Nat) : Int) + ((1 : Nat) : Int))))]) (fun φ15 => [(r, .cells #[.slice a l.length c, .int .i64 ((p : Nat) : Int), .int .i64 ((e : Nat) : Int)] 102)]) (fun φ15 => []) s trivial (fun φ15 => by kernel_rfl) ?_
   intro φ15 w15 s
   rw [nat_addI (a := i6) (b := 1) (by  have hq0 := of_decide_eq_true hc8; have hq1 := of_decide_eq_false hc13; omega)]
   refine ops_done (by kernel_rfl) ?_
   have hq9 := of_decide_eq_true hc8
   have hb9 := of_decide_eq_false hc13
   have hs9 := none_step hi6_1 hb9
   exact ⟨⟨m6 - 1, i6 + 1, _, _, _, by omega, rfl, s, (List.Sublist.cons₂ _ List.Sublist.slnil), by kernel_rfl, hle5, by show i6 + 1 + (m6 - 1) = l.length * 8 - p; omega, hs9⟩⟩
 ·
  rw [hc8]
  refine cond_false_rule (b := false) (by kernel_rfl) rfl ?_
  refine wp_exit ?_
  refine wp_seq ?_
  refine region_rule ?_
  refine ops_rule (C := []) [(r, .cells #[.slice a l.length c, .int .i64 ((p : Nat) : Int), .int .i64 ((e : Nat) : Int)] 102)] [] 1 [] 0 (fun φ16 => [(2, .bool false)]) (fun φ16 => [(r, .cells #[.slice a l.length c, .int .i64 ((p : Nat) : Int), .int .i64 ((e : Nat) : Int)] 102)]) (fun φ16 => []) s trivial (fun φ16 => by kernel_rfl) ?_
  intro φ16 w16 s
  refine ops_done (by kernel_rfl) ?_
  refine wp_ret ?_
  refine ret_rule (C := []) [(r, .cells #[.slice a l.length c, .int .i64 ((p : Nat) : Int), .int .i64 ((e : Nat) : Int)] 102)] [] (.bool false) [] [] s trivial (by kernel_rfl) ?_
  exact ⟨_, _, _, rfl, s, ⟨_, rfl, rfl, (by have hq9 := of_decide_eq_false hc8; have h9 := hi6_0; rw [oneL_false (fun i hi => hi6_1 i (by omega))]), rfl⟩⟩

set_option maxHeartbeats 2000000 in
theorem endR_c {I : IM} {l : List UInt8} {a : Option Addr} {n c : Nat} (hl : BSl I l (.slice a n c)) (hn9 : l.length ≤ 1000000) {r p : Nat} {e : Nat} (hp : p ≤ l.length * 8) : FunM Try.prog 31 #[.pointer (some ⟨r, 0, none⟩)] I [(r, .cells #[.slice a n c, .int .i64 ((p : Nat) : Int), .int .i64 ((e : Nat) : Int)] 102)] (fun v J H' => ∃ b' : OB, H' = [b'] ∧ b'.1 = r ∧ v = .int .i64 ((eoE l p e : Nat) : Int) ∧ b' = (r, .cells #[.slice a n c, .int .i64 ((p : Nat) : Int), .int .i64 ((eoE l p e : Nat) : Int)] 102)) := by
 obtain ⟨rfl, -⟩ := hl.cap
 refine enterM_rule 20 [(0, .pointer (some ⟨r, 0, none⟩))] Try.func31 rfl (by kernel_rfl) ?_
 intro w s
 refine wp_seq ?_
 refine region_rule ?_
 refine ops_rule (C := []) [(r, .cells #[.slice a l.length c, .int .i64 ((p : Nat) : Int), .int .i64 ((e : Nat) : Int)] 102)] [] 1 [] 0 (fun φ1 => [(2, .int .i64 0)]) (fun φ1 => [(r, .cells #[.slice a l.length c, .int .i64 ((p : Nat) : Int), .int .i64 ((e : Nat) : Int)] 102)]) (fun φ1 => []) s trivial (fun φ1 => by kernel_rfl) ?_
 intro φ1 w1 s
 refine ops_done (by kernel_rfl) ?_
 refine wp_seq ?_
 refine wp_seq ?_
 refine region_rule ?_
 refine ops_rule (C := []) [(r, .cells #[.slice a l.length c, .int .i64 ((p : Nat) : Int), .int .i64 ((e : Nat) : Int)] 102)] [] 1 [] 0 (fun φ2 => [(3, .pointer (some ⟨r, 0, none⟩))]) (fun φ2 => [(r, .cells #[.slice a l.length c, .int .i64 ((p : Nat) : Int), .int .i64 ((e : Nat) : Int)] 102)]) (fun φ2 => []) s trivial (fun φ2 => by kernel_rfl) ?_
 intro φ2 w2 s
 refine callB_rule (b := (r, .cells #[.slice a l.length c, .int .i64 ((p : Nat) : Int), .int .i64 ((e : Nat) : Int)] 102)) (H := [(r, .cells #[.slice a l.length c, .int .i64 ((p : Nat) : Int), .int .i64 ((e : Nat) : Int)] 102)]) (F := []) (Hr := []) (some 4) 0 s (by kernel_rfl) (by kernel_rfl) (err_c (r := r) (v0 := .slice a l.length c) (v1 := .int .i64 ((p : Nat) : Int)) (e := e)) (by kernel_rfl) ?_
 rintro v3 I3 w3 b3 le3 - h3 s
 replace hl := BSl.mono le3 hl
 obtain ⟨rfl, rfl⟩ := h3
 refine ops_rule (C := []) [(r, .cells #[.slice a l.length c, .int .i64 ((p : Nat) : Int), .int .i64 ((e : Nat) : Int)] 102)] [] 2 [] 0 (fun φ4 => [(6, .bool (((e : Nat) : Int) == ((0 : Nat) : Int))), (5, .bool (((e : Nat) : Int) == ((0 : Nat) : Int)))]) (fun φ4 => [(r, .cells #[.slice a l.length c, .int .i64 ((p : Nat) : Int), .int .i64 ((e : Nat) : Int)] 102)]) (fun φ4 => []) s trivial (fun φ4 => by kernel_rfl) ?_
 intro φ4 w4 s
 rw [nat_eql (a := e) (b := 0)]
 rcases Bool.eq_false_or_eq_true (decide (e = 0)) with hc5 | hc5
 ·
  rw [hc5]
  refine ops_rule (C := []) [(r, .cells #[.slice a l.length c, .int .i64 ((p : Nat) : Int), .int .i64 ((e : Nat) : Int)] 102)] [] 1 [] 0 (fun φ6 => [(7, .pointer (some ⟨r, 0, none⟩))]) (fun φ6 => [(r, .cells #[.slice a l.length c, .int .i64 ((p : Nat) : Int), .int .i64 ((e : Nat) : Int)] 102)]) (fun φ6 => []) s trivial (fun φ6 => by kernel_rfl) ?_
  intro φ6 w6 s
  refine callB_rule (b := (r, .cells #[.slice a l.length c, .int .i64 ((p : Nat) : Int), .int .i64 ((e : Nat) : Int)] 102)) (H := [(r, .cells #[.slice a l.length c, .int .i64 ((p : Nat) : Int), .int .i64 ((e : Nat) : Int)] 102)]) (F := []) (Hr := []) (some 8) 0 s (by kernel_rfl) (by kernel_rfl) (left_c (e := e) (r := r) (p := p) hl (hn9) (by omega)) (by kernel_rfl) ?_
  rintro v7 I7 w7 b7 le7 - h7 s
  replace hl := BSl.mono le7 hl
  obtain ⟨rfl, rfl⟩ := h7
  refine ops_rule (C := []) [(r, .cells #[.slice a l.length c, .int .i64 ((p : Nat) : Int), .int .i64 ((e : Nat) : Int)] 102)] [] 2 [] 0 (fun φ8 => [(10, .bool (decide (((l.length * 8 - p : Nat) : Int) ≥ ((8 : Nat) : Int)))), (9, .bool (decide (((l.length * 8 - p : Nat) : Int) ≥ ((8 : Nat) : Int))))]) (fun φ8 => [(r, .cells #[.slice a l.length c, .int .i64 ((p : Nat) : Int), .int .i64 ((e : Nat) : Int)] 102)]) (fun φ8 => []) s trivial (fun φ8 => by kernel_rfl) ?_
  intro φ8 w8 s
  rw [nat_geq (a := (l.length * 8 - p)) (b := 8)]
  rcases Bool.eq_false_or_eq_true (decide (8 ≤ (l.length * 8 - p))) with hc9 | hc9
  ·
   rw [hc9]
   refine ops_rule (C := []) [(r, .cells #[.slice a l.length c, .int .i64 ((p : Nat) : Int), .int .i64 ((e : Nat) : Int)] 102)] [] 4 [] 0 (fun φ10 => [(14, .bool true), (13, .bool true), (12, undef), (11, undef)]) (fun φ10 => [(r, .cells #[.slice a l.length c, .int .i64 ((p : Nat) : Int), .int .i64 ((e : Nat) : Int)] 102)]) (fun φ10 => []) s trivial (fun φ10 => by kernel_rfl) ?_
   intro φ10 w10 s
   refine ops_done (by kernel_rfl) ?_
   refine cond_true_rule (b := true) (by kernel_rfl) rfl ?_
   refine region_rule ?_
   refine ops_rule (C := []) [(r, .cells #[.slice a l.length c, .int .i64 ((p : Nat) : Int), .int .i64 ((e : Nat) : Int)] 102)] [] 4 [.o 0] 0 (fun φ11 => [(17, .pointer (some ⟨r, 2, none⟩)), (16, .pointer (some ⟨r, 0, none⟩)), (15, .pointer (some ⟨r, 0, none⟩))]) (fun φ11 => [(r, .cells #[.slice a l.length c, .int .i64 ((p : Nat) : Int), .int .i64 6] 102)]) (fun φ11 => [r]) s trivial (fun φ11 => by kernel_rfl) ?_
   intro φ11 w11 s
   refine ops_done (by kernel_rfl) ?_
   refine wp_seq ?_
   refine region_rule ?_
   refine ops_rule (C := []) [(r, .cells #[.slice a l.length c, .int .i64 ((p : Nat) : Int), .int .i64 6] 102)] [] 1 [] 0 (fun φ12 => [(18, .pointer (some ⟨r, 0, none⟩))]) (fun φ12 => [(r, .cells #[.slice a l.length c, .int .i64 ((p : Nat) : Int), .int .i64 6] 102)]) (fun φ12 => []) s trivial (fun φ12 => by kernel_rfl) ?_
   intro φ12 w12 s
   refine callB_rule (b := (r, .cells #[.slice a l.length c, .int .i64 ((p : Nat) : Int), .int .i64 6] 102)) (H := [(r, .cells #[.slice a l.length c, .int .i64 ((p : Nat) : Int), .int .i64 6] 102)]) (F := []) (Hr := []) (some 19) 0 s (by kernel_rfl) (by kernel_rfl) (err_c (r := r) (v0 := .slice a l.length c) (v1 := .int .i64 ((p : Nat) : Int)) (e := 6)) (by kernel_rfl) ?_
   rintro v13 I13 w13 b13 le13 - h13 s
   replace hl := BSl.mono le13 hl
   obtain ⟨rfl, rfl⟩ := h13
   refine ops_rule (C := []) [(r, .cells #[.slice a l.length c, .int .i64 ((p : Nat) : Int), .int .i64 6] 102)] [] 1 [] 0 (fun φ14 => [(2, .int .i64 6)]) (fun φ14 => [(r, .cells #[.slice a l.length c, .int .i64 ((p : Nat) : Int), .int .i64 6] 102)]) (fun φ14 => []) s trivial (fun φ14 => by kernel_rfl) ?_
   intro φ14 w14 s
   refine ops_done (by kernel_rfl) ?_
   refine wp_ret ?_
   refine ret_rule (C := []) [(r, .cells #[.slice a l.length c, .int .i64 ((p : Nat) : Int), .int .i64 6] 102)] [] (.int .i64 6) [] [] s trivial (by kernel_rfl) ?_
   exact ⟨_, _, _, rfl, s, (by have hq0 := of_decide_eq_true hc5; have hq1 := of_decide_eq_true hc9;  exact ⟨_, rfl, rfl, (by unfold eoE; first | (rw [if_pos (by simp_all)]; done) | (rw [if_neg (by simp_all)]; done) | (rw [if_pos (by simp_all)]; rfl) | (rw [if_neg (by simp_all)]; rfl) | (rw [if_neg (by simp_all; omega)]) | (rw [if_pos (by simp_all; omega)])), (by unfold eoE; first | (rw [if_pos (by simp_all)]; done) | (rw [if_neg (by simp_all)]; done) | (rw [if_pos (by simp_all)]; rfl) | (rw [if_neg (by simp_all)]; rfl) | (rw [if_neg (by simp_all; omega)]) | (rw [if_pos (by simp_all; omega)]))⟩)⟩
  ·
   rw [hc9]
   refine ops_rule (C := []) [(r, .cells #[.slice a l.length c, .int .i64 ((p : Nat) : Int), .int .i64 ((e : Nat) : Int)] 102)] [] 1 [] 0 (fun φ15 => [(11, .pointer (some ⟨r, 0, none⟩))]) (fun φ15 => [(r, .cells #[.slice a l.length c, .int .i64 ((p : Nat) : Int), .int .i64 ((e : Nat) : Int)] 102)]) (fun φ15 => []) s trivial (fun φ15 => by kernel_rfl) ?_
   intro φ15 w15 s
   refine callB_rule (b := (r, .cells #[.slice a l.length c, .int .i64 ((p : Nat) : Int), .int .i64 ((e : Nat) : Int)] 102)) (H := [(r, .cells #[.slice a l.length c, .int .i64 ((p : Nat) : Int), .int .i64 ((e : Nat) : Int)] 102)]) (F := []) (Hr := []) (some 12) 0 s (by kernel_rfl) (by kernel_rfl) (oneLeft_c (e := e) (r := r) (p := p) hl (hn9) (by omega)) (by kernel_rfl) ?_
   rintro v16 I16 w16 b16 le16 - h16 s
   obtain ⟨rfl, rfl⟩ := h16
   refine ops_rule (C := []) [(r, .cells #[.slice a l.length c, .int .i64 ((p : Nat) : Int), .int .i64 ((e : Nat) : Int)] 102)] [] 2 [] 0 (fun φ17 => [(14, .bool (oneL l p)), (13, .bool (oneL l p))]) (fun φ17 => [(r, .cells #[.slice a l.length c, .int .i64 ((p : Nat) : Int), .int .i64 ((e : Nat) : Int)] 102)]) (fun φ17 => []) s trivial (fun φ17 => by kernel_rfl) ?_
   intro φ17 w17 s
   refine ops_done (by kernel_rfl) ?_
   rcases Bool.eq_false_or_eq_true (oneL l p) with hc18 | hc18
   ·
    rw [hc18]
    refine cond_true_rule (b := true) (by kernel_rfl) rfl ?_
    refine region_rule ?_
    refine ops_rule (C := []) [(r, .cells #[.slice a l.length c, .int .i64 ((p : Nat) : Int), .int .i64 ((e : Nat) : Int)] 102)] [] 4 [.o 0] 0 (fun φ19 => [(17, .pointer (some ⟨r, 2, none⟩)), (16, .pointer (some ⟨r, 0, none⟩)), (15, .pointer (some ⟨r, 0, none⟩))]) (fun φ19 => [(r, .cells #[.slice a l.length c, .int .i64 ((p : Nat) : Int), .int .i64 6] 102)]) (fun φ19 => [r]) s trivial (fun φ19 => by kernel_rfl) ?_
    intro φ19 w19 s
    refine ops_done (by kernel_rfl) ?_
    refine wp_seq ?_
    refine region_rule ?_
    refine ops_rule (C := []) [(r, .cells #[.slice a l.length c, .int .i64 ((p : Nat) : Int), .int .i64 6] 102)] [] 1 [] 0 (fun φ20 => [(18, .pointer (some ⟨r, 0, none⟩))]) (fun φ20 => [(r, .cells #[.slice a l.length c, .int .i64 ((p : Nat) : Int), .int .i64 6] 102)]) (fun φ20 => []) s trivial (fun φ20 => by kernel_rfl) ?_
    intro φ20 w20 s
    refine callB_rule (b := (r, .cells #[.slice a l.length c, .int .i64 ((p : Nat) : Int), .int .i64 6] 102)) (H := [(r, .cells #[.slice a l.length c, .int .i64 ((p : Nat) : Int), .int .i64 6] 102)]) (F := []) (Hr := []) (some 19) 0 s (by kernel_rfl) (by kernel_rfl) (err_c (r := r) (v0 := .slice a l.length c) (v1 := .int .i64 ((p : Nat) : Int)) (e := 6)) (by kernel_rfl) ?_
    rintro v21 I21 w21 b21 le21 - h21 s
    obtain ⟨rfl, rfl⟩ := h21
    refine ops_rule (C := []) [(r, .cells #[.slice a l.length c, .int .i64 ((p : Nat) : Int), .int .i64 6] 102)] [] 1 [] 0 (fun φ22 => [(2, .int .i64 6)]) (fun φ22 => [(r, .cells #[.slice a l.length c, .int .i64 ((p : Nat) : Int), .int .i64 6] 102)]) (fun φ22 => []) s trivial (fun φ22 => by kernel_rfl) ?_
    intro φ22 w22 s
    refine ops_done (by kernel_rfl) ?_
    refine wp_ret ?_
    refine ret_rule (C := []) [(r, .cells #[.slice a l.length c, .int .i64 ((p : Nat) : Int), .int .i64 6] 102)] [] (.int .i64 6) [] [] s trivial (by kernel_rfl) ?_
    exact ⟨_, _, _, rfl, s, (by have hq0 := of_decide_eq_true hc5; have hq1 := of_decide_eq_false hc9; have ho2 := hc18; exact ⟨_, rfl, rfl, (by unfold eoE; first | (rw [if_pos (by simp_all)]; done) | (rw [if_neg (by simp_all)]; done) | (rw [if_pos (by simp_all)]; rfl) | (rw [if_neg (by simp_all)]; rfl) | (rw [if_neg (by simp_all; omega)]) | (rw [if_pos (by simp_all; omega)])), (by unfold eoE; first | (rw [if_pos (by simp_all)]; done) | (rw [if_neg (by simp_all)]; done) | (rw [if_pos (by simp_all)]; rfl) | (rw [if_neg (by simp_all)]; rfl) | (rw [if_neg (by simp_all; omega)]) | (rw [if_pos (by simp_all; omega)]))⟩)⟩
   ·
    rw [hc18]
    refine cond_false_rule (b := false) (by kernel_rfl) rfl ?_
    refine wp_skip ?_
    refine wp_seq ?_
    refine region_rule ?_
    refine ops_rule (C := []) [(r, .cells #[.slice a l.length c, .int .i64 ((p : Nat) : Int), .int .i64 ((e : Nat) : Int)] 102)] [] 1 [] 0 (fun φ23 => [(18, .pointer (some ⟨r, 0, none⟩))]) (fun φ23 => [(r, .cells #[.slice a l.length c, .int .i64 ((p : Nat) : Int), .int .i64 ((e : Nat) : Int)] 102)]) (fun φ23 => []) s trivial (fun φ23 => by kernel_rfl) ?_
    intro φ23 w23 s
    refine callB_rule (b := (r, .cells #[.slice a l.length c, .int .i64 ((p : Nat) : Int), .int .i64 ((e : Nat) : Int)] 102)) (H := [(r, .cells #[.slice a l.length c, .int .i64 ((p : Nat) : Int), .int .i64 ((e : Nat) : Int)] 102)]) (F := []) (Hr := []) (some 19) 0 s (by kernel_rfl) (by kernel_rfl) (err_c (r := r) (v0 := .slice a l.length c) (v1 := .int .i64 ((p : Nat) : Int)) (e := e)) (by kernel_rfl) ?_
    rintro v24 I24 w24 b24 le24 - h24 s
    obtain ⟨rfl, rfl⟩ := h24
    refine ops_rule (C := []) [(r, .cells #[.slice a l.length c, .int .i64 ((p : Nat) : Int), .int .i64 ((e : Nat) : Int)] 102)] [] 1 [] 0 (fun φ25 => [(2, .int .i64 ((e : Nat) : Int))]) (fun φ25 => [(r, .cells #[.slice a l.length c, .int .i64 ((p : Nat) : Int), .int .i64 ((e : Nat) : Int)] 102)]) (fun φ25 => []) s trivial (fun φ25 => by kernel_rfl) ?_
    intro φ25 w25 s
    refine ops_done (by kernel_rfl) ?_
    refine wp_ret ?_
    refine ret_rule (C := []) [(r, .cells #[.slice a l.length c, .int .i64 ((p : Nat) : Int), .int .i64 ((e : Nat) : Int)] 102)] [] (.int .i64 ((e : Nat) : Int)) [] [] s trivial (by kernel_rfl) ?_
    exact ⟨_, _, _, rfl, s, (by have hq0 := of_decide_eq_true hc5; have hq1 := of_decide_eq_false hc9; have ho2 := hc18; exact ⟨_, rfl, rfl, (by unfold eoE; first | (rw [if_pos (by simp_all)]; done) | (rw [if_neg (by simp_all)]; done) | (rw [if_pos (by simp_all)]; rfl) | (rw [if_neg (by simp_all)]; rfl) | (rw [if_neg (by simp_all; omega)]) | (rw [if_pos (by simp_all; omega)])), (by unfold eoE; first | (rw [if_pos (by simp_all)]; done) | (rw [if_neg (by simp_all)]; done) | (rw [if_pos (by simp_all)]; rfl) | (rw [if_neg (by simp_all)]; rfl) | (rw [if_neg (by simp_all; omega)]) | (rw [if_pos (by simp_all; omega)]))⟩)⟩
 ·
  rw [hc5]
  refine ops_rule (C := []) [(r, .cells #[.slice a l.length c, .int .i64 ((p : Nat) : Int), .int .i64 ((e : Nat) : Int)] 102)] [] 8 [] 0 (fun φ26 => [(14, .bool false), (13, undef), (12, undef), (11, undef), (10, undef), (9, undef), (8, undef), (7, undef)]) (fun φ26 => [(r, .cells #[.slice a l.length c, .int .i64 ((p : Nat) : Int), .int .i64 ((e : Nat) : Int)] 102)]) (fun φ26 => []) s trivial (fun φ26 => by kernel_rfl) ?_
  intro φ26 w26 s
  refine ops_done (by kernel_rfl) ?_
  refine cond_false_rule (b := false) (by kernel_rfl) rfl ?_
  refine wp_skip ?_
  refine wp_seq ?_
  refine region_rule ?_
  refine ops_rule (C := []) [(r, .cells #[.slice a l.length c, .int .i64 ((p : Nat) : Int), .int .i64 ((e : Nat) : Int)] 102)] [] 1 [] 0 (fun φ27 => [(18, .pointer (some ⟨r, 0, none⟩))]) (fun φ27 => [(r, .cells #[.slice a l.length c, .int .i64 ((p : Nat) : Int), .int .i64 ((e : Nat) : Int)] 102)]) (fun φ27 => []) s trivial (fun φ27 => by kernel_rfl) ?_
  intro φ27 w27 s
  refine callB_rule (b := (r, .cells #[.slice a l.length c, .int .i64 ((p : Nat) : Int), .int .i64 ((e : Nat) : Int)] 102)) (H := [(r, .cells #[.slice a l.length c, .int .i64 ((p : Nat) : Int), .int .i64 ((e : Nat) : Int)] 102)]) (F := []) (Hr := []) (some 19) 0 s (by kernel_rfl) (by kernel_rfl) (err_c (r := r) (v0 := .slice a l.length c) (v1 := .int .i64 ((p : Nat) : Int)) (e := e)) (by kernel_rfl) ?_
  rintro v28 I28 w28 b28 le28 - h28 s
  obtain ⟨rfl, rfl⟩ := h28
  refine ops_rule (C := []) [(r, .cells #[.slice a l.length c, .int .i64 ((p : Nat) : Int), .int .i64 ((e : Nat) : Int)] 102)] [] 1 [] 0 (fun φ29 => [(2, .int .i64 ((e : Nat) : Int))]) (fun φ29 => [(r, .cells #[.slice a l.length c, .int .i64 ((p : Nat) : Int), .int .i64 ((e : Nat) : Int)] 102)]) (fun φ29 => []) s trivial (fun φ29 => by kernel_rfl) ?_
  intro φ29 w29 s
  refine ops_done (by kernel_rfl) ?_
  refine wp_ret ?_
  refine ret_rule (C := []) [(r, .cells #[.slice a l.length c, .int .i64 ((p : Nat) : Int), .int .i64 ((e : Nat) : Int)] 102)] [] (.int .i64 ((e : Nat) : Int)) [] [] s trivial (by kernel_rfl) ?_
  exact ⟨_, _, _, rfl, s, (by have hq0 := of_decide_eq_false hc5;  exact ⟨_, rfl, rfl, (by unfold eoE; first | (rw [if_pos (by simp_all)]; done) | (rw [if_neg (by simp_all)]; done) | (rw [if_pos (by simp_all)]; rfl) | (rw [if_neg (by simp_all)]; rfl) | (rw [if_neg (by simp_all; omega)]) | (rw [if_pos (by simp_all; omega)])), (by unfold eoE; first | (rw [if_pos (by simp_all)]; done) | (rw [if_neg (by simp_all)]; done) | (rw [if_pos (by simp_all)]; rfl) | (rw [if_neg (by simp_all)]; rfl) | (rw [if_neg (by simp_all; omega)]) | (rw [if_pos (by simp_all; omega)]))⟩)⟩

end Go.Proofs.Ytgmigcmhnmmdkaa

/- The program reads a number in few bits. -/
set_option linter.all false
set_option maxRecDepth 100000
namespace Go.Proofs.Ytgmigcmhnmmdkaa
open Go.RowKit Go.Sep
attribute [local irreducible] Go.wpList Go.Code.wp

set_option maxHeartbeats 2000000 in
theorem numR_c {I : IM} {l : List UInt8} {a : Option Addr} {n c : Nat} (hl : BSl I l (.slice a n c)) (hn9 : l.length ≤ 1000000) {r p : Nat} (hp : p ≤ l.length * 8) : FunM Try.prog 95 #[.pointer (some ⟨r, 0, none⟩)] I [(r, .cells #[.slice a n c, .int .i64 ((p : Nat) : Int), .int .i64 0] 102)] (fun v J H' => ∃ b' : OB, H' = [b'] ∧ b'.1 = r ∧ v = .int .u64 ((bnV ((bitsL l).drop p) 0 : Nat) : Int) ∧ b' = (r, .cells #[.slice a n c, .int .i64 ((p + bnD ((bitsL l).drop p) 0 : Nat) : Int), .int .i64 ((bnE ((bitsL l).drop p) 0 : Nat) : Int)] 102)) := by
 obtain ⟨rfl, -⟩ := hl.cap
 refine enterM_rule 49 [(0, .pointer (some ⟨r, 0, none⟩))] Try.func95 rfl (by kernel_rfl) ?_
 intro w s
 refine wp_seq ?_
 refine region_rule ?_
 refine ops_rule (C := []) [(r, .cells #[.slice a l.length c, .int .i64 ((p : Nat) : Int), .int .i64 0] 102)] [] 1 [] 0 (fun φ1 => [(2, .int .u64 0)]) (fun φ1 => [(r, .cells #[.slice a l.length c, .int .i64 ((p : Nat) : Int), .int .i64 0] 102)]) (fun φ1 => []) s trivial (fun φ1 => by kernel_rfl) ?_
 intro φ1 w1 s
 refine ops_done (by kernel_rfl) ?_
 have hle2 := IM.Le.refl I
 refine goto_rule s 0 (fun j : Nat => [(0, .pointer (some ⟨r, 0, none⟩)), (3, .int .i64 ((p : Nat) : Int)), (4, .int .i64 ((j + 2 : Nat) : Int))]) (fun j : Nat => [(r, .cells #[.slice a l.length c, .int .i64 ((p + j : Nat) : Int), .int .i64 0] 102)]) (fun n j J => IM.Le I J ∧ p + j + n = l.length * 8 ∧ OnesL l p j) rfl ?_ ?_
 ·
  rintro m3 j3 I3 w3 ev3 s ⟨le3, hm3, ho3⟩
  replace hl := BSl.mono le3 hl
  replace hle2 := leMono le3 hle2
  refine wp_seq ?_
  refine wp_skip ?_
  refine wp_seq ?_
  refine wp_seq ?_
  refine region_rule ?_
  refine ops_rule (C := []) [(r, .cells #[.slice a l.length c, .int .i64 ((p + j3 : Nat) : Int), .int .i64 0] 102)] [] 1 [] 0 (fun φ4 => [(14, .pointer (some ⟨r, 0, none⟩))]) (fun φ4 => [(r, .cells #[.slice a l.length c, .int .i64 ((p + j3 : Nat) : Int), .int .i64 0] 102)]) (fun φ4 => []) s trivial (fun φ4 => by kernel_rfl) ?_
  intro φ4 w4 s
  rcases Bool.eq_false_or_eq_true (decide (p + j3 + 1 ≤ l.length * 8)) with hc5 | hc5
  ·
   refine callB_rule (b := (r, .cells #[.slice a l.length c, .int .i64 ((p + j3 : Nat) : Int), .int .i64 0] 102)) (H := [(r, .cells #[.slice a l.length c, .int .i64 ((p + j3 : Nat) : Int), .int .i64 0] 102)]) (F := []) (Hr := []) (some 15) 0 s (by kernel_rfl) (by kernel_rfl) (get_c (r := r) (p := p + j3) hl (hn9) (k := 1) (by decide) (of_decide_eq_true hc5)) (by kernel_rfl) ?_
   rintro v6 I6 w6 b6 le6 - h6 s
   replace hl := BSl.mono le6 hl
   replace hle2 := leMono le6 hle2
   obtain ⟨rfl, rfl⟩ := h6
   refine ops_rule (C := []) [(r, .cells #[.slice a l.length c, .int .i64 ((p + j3 + 1 : Nat) : Int), .int .i64 0] 102)] [] 1 [] 0 (fun φ7 => [(16, .bool (((rd l (p + j3) 1 : Nat) : Int) == ((1 : Nat) : Int)))]) (fun φ7 => [(r, .cells #[.slice a l.length c, .int .i64 ((p + j3 + 1 : Nat) : Int), .int .i64 0] 102)]) (fun φ7 => []) s trivial (fun φ7 => by kernel_rfl) ?_
   intro φ7 w7 s
   rw [nat_eql (a := (rd l (p + j3) 1)) (b := 1)]
   refine ops_done (by kernel_rfl) ?_
   rcases Bool.eq_false_or_eq_true (decide ((rd l (p + j3) 1) = 1)) with hc8 | hc8
   ·
    rw [hc8]
    refine cond_true_rule (b := true) (by kernel_rfl) rfl ?_
    refine wp_seq ?_
    refine region_rule ?_
    refine ops_rule (C := []) [(r, .cells #[.slice a l.length c, .int .i64 ((p + j3 + 1 : Nat) : Int), .int .i64 0] 102)] [] 3 [] 0 (fun φ9 => [(4, .int .i64 (IntKind.wrap .i64 (((j3 + 2 : Nat) : Int) + ((1 : Nat) : Int)))), (18, .int .i64 (IntKind.wrap .i64 (((j3 + 2 : Nat) : Int) + ((1 : Nat) : Int)))), (17, .int .i64 ((j3 + 2 : Nat) : Int))]) (fun φ9 => [(r, .cells #[.slice a l.length c, .int .i64 ((p + j3 + 1 : Nat) : Int), .int .i64 0] 102)]) (fun φ9 => []) s trivial (fun φ9 => by kernel_rfl) ?_
    intro φ9 w9 s
    rw [nat_addI (a := (j3 + 2)) (b := 1) (by have hp0 := hp; have ho1 := ho3.len;  have hq0 := of_decide_eq_true hc5; have hq1 := of_decide_eq_true hc8; omega)]
    refine ops_done (by kernel_rfl) ?_
    refine wp_goto ?_
    exact ⟨rfl, ⟨⟨m3 - 1, j3 + 1, _, _, _, (by have := of_decide_eq_true hc5; omega), rfl, s, (List.Sublist.cons₂ _ List.Sublist.slnil), by kernel_rfl, hle2, (by have := of_decide_eq_true hc5; show p + (j3 + 1) + (m3 - 1) = _; omega), OnesL.step ho3 (of_decide_eq_true hc5) (bit_one (of_decide_eq_true hc8))⟩⟩⟩
   ·
    rw [hc8]
    refine cond_false_rule (b := false) (by kernel_rfl) rfl ?_
    refine wp_skip ?_
    refine wp_seq ?_
    refine region_rule ?_
    refine ops_rule (C := []) [(r, .cells #[.slice a l.length c, .int .i64 ((p + j3 + 1 : Nat) : Int), .int .i64 0] 102)] [] 1 [] 0 (fun φ10 => [(19, .int .i64 ((j3 + 2 : Nat) : Int))]) (fun φ10 => [(r, .cells #[.slice a l.length c, .int .i64 ((p + j3 + 1 : Nat) : Int), .int .i64 0] 102)]) (fun φ10 => []) s trivial (fun φ10 => by kernel_rfl) ?_
    intro φ10 w10 s
    refine sem_rule (binOp .shl 27 (.int .u64 ((1 : Nat) : Int)) (.int .i64 ((j3 + 2 : Nat) : Int))) (some 20) (.int .u64 ((bshl 64 1 (j3 + 2) : Nat) : Int)) (by kernel_rfl) (run_shlU (.inr (.inr (.inl rfl)))) ?_
    refine ops_rule (C := []) [(r, .cells #[.slice a l.length c, .int .i64 ((p + j3 + 1 : Nat) : Int), .int .i64 0] 102)] [] 2 [] 0 (fun φ11 => [(5, .int .u64 (IntKind.wrap .u64 (((bshl 64 1 (j3 + 2) : Nat) : Int) - ((4 : Nat) : Int)))), (21, .int .u64 (IntKind.wrap .u64 (((bshl 64 1 (j3 + 2) : Nat) : Int) - ((4 : Nat) : Int))))]) (fun φ11 => [(r, .cells #[.slice a l.length c, .int .i64 ((p + j3 + 1 : Nat) : Int), .int .i64 0] 102)]) (fun φ11 => []) s trivial (fun φ11 => by kernel_rfl) ?_
    intro φ11 w11 s
    refine ops_done (by kernel_rfl) ?_
    refine wp_seq ?_
    refine region_rule ?_
    refine ops_rule (C := []) [(r, .cells #[.slice a l.length c, .int .i64 ((p + j3 + 1 : Nat) : Int), .int .i64 0] 102)] [] 3 [] 0 (fun φ12 => [(24, .int .i64 ((j3 + 2 : Nat) : Int)), (23, .pointer (some ⟨r, 0, none⟩)), (22, .int .u64 (IntKind.wrap .u64 (((bshl 64 1 (j3 + 2) : Nat) : Int) - ((4 : Nat) : Int))))]) (fun φ12 => [(r, .cells #[.slice a l.length c, .int .i64 ((p + j3 + 1 : Nat) : Int), .int .i64 0] 102)]) (fun φ12 => []) s trivial (fun φ12 => by kernel_rfl) ?_
    intro φ12 w12 s
    refine callB_rule (b := (r, .cells #[.slice a l.length c, .int .i64 ((p + j3 + 1 : Nat) : Int), .int .i64 0] 102)) (H := [(r, .cells #[.slice a l.length c, .int .i64 ((p + j3 + 1 : Nat) : Int), .int .i64 0] 102)]) (F := []) (Hr := []) (some 25) 0 s (by kernel_rfl) (by kernel_rfl) (getG_c (e := 0) (z := ((j3 + 2 : Nat) : Int)) (r := r) (p := p + j3 + 1) hl (hn9) (by have hp0 := hp; have ho1 := ho3.len;  have hq0 := of_decide_eq_true hc5; have hq1 := of_decide_eq_false hc8; omega)) (by kernel_rfl) ?_
    rintro v13 I13 w13 b13 le13 - h13 s
    replace hl := BSl.mono le13 hl
    replace hle2 := leMono le13 hle2
    obtain ⟨rfl, rfl⟩ := h13
    refine ops_rule (C := []) [(r, .cells #[.slice a l.length c, .int .i64 ((p + j3 + 1 + geD l (p + j3 + 1) 0 (clampN ((j3 + 2 : Nat) : Int)) : Nat) : Int), .int .i64 ((geE l (p + j3 + 1) 0 (clampN ((j3 + 2 : Nat) : Int)) : Nat) : Int)] 102)] [] 2 [] 0 (fun φ14 => [(6, .int .u64 (IntKind.wrap .u64 ((IntKind.wrap .u64 (((bshl 64 1 (j3 + 2) : Nat) : Int) - ((4 : Nat) : Int))) + ((geV l (p + j3 + 1) 0 (clampN ((j3 + 2 : Nat) : Int)) : Nat) : Int)))), (26, .int .u64 (IntKind.wrap .u64 ((IntKind.wrap .u64 (((bshl 64 1 (j3 + 2) : Nat) : Int) - ((4 : Nat) : Int))) + ((geV l (p + j3 + 1) 0 (clampN ((j3 + 2 : Nat) : Int)) : Nat) : Int))))]) (fun φ14 => [(r, .cells #[.slice a l.length c, .int .i64 ((p + j3 + 1 + geD l (p + j3 + 1) 0 (clampN ((j3 + 2 : Nat) : Int)) : Nat) : Int), .int .i64 ((geE l (p + j3 + 1) 0 (clampN ((j3 + 2 : Nat) : Int)) : Nat) : Int)] 102)]) (fun φ14 => []) s trivial (fun φ14 => by kernel_rfl) ?_
    intro φ14 w14 s
    refine ops_done (by kernel_rfl) ?_
    refine wp_seq ?_
    refine wp_seq ?_
    refine region_rule ?_
    refine ops_rule (C := []) [(r, .cells #[.slice a l.length c, .int .i64 ((p + j3 + 1 + geD l (p + j3 + 1) 0 (clampN ((j3 + 2 : Nat) : Int)) : Nat) : Int), .int .i64 ((geE l (p + j3 + 1) 0 (clampN ((j3 + 2 : Nat) : Int)) : Nat) : Int)] 102)] [] 6 [.o 0] 0 (fun φ15 => [(32, .bool (((geE l (p + j3 + 1) 0 (clampN ((j3 + 2 : Nat) : Int)) : Nat) : Int) != ((0 : Nat) : Int))), (31, .bool (((geE l (p + j3 + 1) 0 (clampN ((j3 + 2 : Nat) : Int)) : Nat) : Int) != ((0 : Nat) : Int))), (30, .int .i64 ((geE l (p + j3 + 1) 0 (clampN ((j3 + 2 : Nat) : Int)) : Nat) : Int)), (29, .pointer (some ⟨r, 2, none⟩)), (28, .pointer (some ⟨r, 0, none⟩)), (27, .pointer (some ⟨r, 0, none⟩))]) (fun φ15 => [(r, .cells #[.slice a l.length c, .int .i64 ((p + j3 + 1 + geD l (p + j3 + 1) 0 (clampN ((j3 + 2 : Nat) : Int)) : Nat) : Int), .int .i64 ((geE l (p + j3 + 1) 0 (clampN ((j3 + 2 : Nat) : Int)) : Nat) : Int)] 102)]) (fun φ15 => [r]) s trivial (fun φ15 => by kernel_rfl) ?_
    intro φ15 w15 s
    rw [nat_neq (a := (geE l (p + j3 + 1) 0 (clampN ((j3 + 2 : Nat) : Int)))) (b := 0)]
    rcases Bool.eq_false_or_eq_true (decide ((geE l (p + j3 + 1) 0 (clampN ((j3 + 2 : Nat) : Int))) ≠ 0)) with hc16 | hc16
    ·
     rw [hc16]
     refine ops_rule (C := []) [(r, .cells #[.slice a l.length c, .int .i64 ((p + j3 + 1 + geD l (p + j3 + 1) 0 (clampN ((j3 + 2 : Nat) : Int)) : Nat) : Int), .int .i64 ((geE l (p + j3 + 1) 0 (clampN ((j3 + 2 : Nat) : Int)) : Nat) : Int)] 102)] [] 8 [] 0 (fun φ17 => [(40, .bool true), (39, undef), (38, undef), (37, undef), (36, .bool true), (35, .bool true), (34, undef), (33, undef)]) (fun φ17 => [(r, .cells #[.slice a l.length c, .int .i64 ((p + j3 + 1 + geD l (p + j3 + 1) 0 (clampN ((j3 + 2 : Nat) : Int)) : Nat) : Int), .int .i64 ((geE l (p + j3 + 1) 0 (clampN ((j3 + 2 : Nat) : Int)) : Nat) : Int)] 102)]) (fun φ17 => []) s trivial (fun φ17 => by kernel_rfl) ?_
     intro φ17 w17 s
     refine ops_done (by kernel_rfl) ?_
     refine cond_true_rule (b := true) (by kernel_rfl) rfl ?_
     refine wp_seq ?_
     refine region_rule ?_
     refine ops_rule (C := []) [(r, .cells #[.slice a l.length c, .int .i64 ((p + j3 + 1 + geD l (p + j3 + 1) 0 (clampN ((j3 + 2 : Nat) : Int)) : Nat) : Int), .int .i64 ((geE l (p + j3 + 1) 0 (clampN ((j3 + 2 : Nat) : Int)) : Nat) : Int)] 102)] [] 9 [.o 0, .o 0] 0 (fun φ18 => [(47, .pointer (some ⟨r, 2, none⟩)), (46, .pointer (some ⟨r, 0, none⟩)), (45, .pointer (some ⟨r, 1, none⟩)), (44, .pointer (some ⟨r, 0, none⟩)), (43, .int .i64 ((p : Nat) : Int)), (42, .pointer (some ⟨r, 0, none⟩)), (41, .pointer (some ⟨r, 0, none⟩))]) (fun φ18 => [(r, .cells #[.slice a l.length c, .int .i64 ((p : Nat) : Int), .int .i64 6] 102)]) (fun φ18 => [r, r]) s trivial (fun φ18 => by kernel_rfl) ?_
     intro φ18 w18 s
     refine ops_done (by kernel_rfl) ?_
     refine wp_seq ?_
     refine region_rule ?_
     refine ops_rule (C := []) [(r, .cells #[.slice a l.length c, .int .i64 ((p : Nat) : Int), .int .i64 6] 102)] [] 1 [] 0 (fun φ19 => [(2, .int .u64 0)]) (fun φ19 => [(r, .cells #[.slice a l.length c, .int .i64 ((p : Nat) : Int), .int .i64 6] 102)]) (fun φ19 => []) s trivial (fun φ19 => by kernel_rfl) ?_
     intro φ19 w19 s
     refine ops_done (by kernel_rfl) ?_
     refine wp_ret ?_
     refine ret_rule (C := []) [(r, .cells #[.slice a l.length c, .int .i64 ((p : Nat) : Int), .int .i64 6] 102)] [] (.int .u64 0) [] [] s trivial (by kernel_rfl) ?_
     exact ⟨_, _, _, rfl, s, (by have h8 := num_short (j := j3) ho3 (of_decide_eq_true hc5) (bit_nil (of_decide_eq_false hc8)) (of_decide_eq_true hc16); exact ⟨_, rfl, rfl, (by rw [h8.1]; rfl), (by rw [h8.2.1, h8.2.2]; rfl)⟩)⟩
    ·
     rw [hc16]
     refine ops_rule (C := []) [(r, .cells #[.slice a l.length c, .int .i64 ((p + j3 + 1 + geD l (p + j3 + 1) 0 (clampN ((j3 + 2 : Nat) : Int)) : Nat) : Int), .int .i64 ((geE l (p + j3 + 1) 0 (clampN ((j3 + 2 : Nat) : Int)) : Nat) : Int)] 102)] [] 4 [] 0 (fun φ20 => [(36, .bool (decide (((j3 + 2 : Nat) : Int) > ((64 : Nat) : Int)))), (35, .bool (decide (((j3 + 2 : Nat) : Int) > ((64 : Nat) : Int)))), (34, .bool (decide (((j3 + 2 : Nat) : Int) > ((64 : Nat) : Int)))), (33, .int .i64 ((j3 + 2 : Nat) : Int))]) (fun φ20 => [(r, .cells #[.slice a l.length c, .int .i64 ((p + j3 + 1 + geD l (p + j3 + 1) 0 (clampN ((j3 + 2 : Nat) : Int)) : Nat) : Int), .int .i64 ((geE l (p + j3 + 1) 0 (clampN ((j3 + 2 : Nat) : Int)) : Nat) : Int)] 102)]) (fun φ20 => []) s trivial (fun φ20 => by kernel_rfl) ?_
     intro φ20 w20 s
     rw [nat_gtr (a := (j3 + 2)) (b := 64)]
     rcases Bool.eq_false_or_eq_true (decide (64 < (j3 + 2))) with hc21 | hc21
     ·
      rw [hc21]
      refine ops_rule (C := []) [(r, .cells #[.slice a l.length c, .int .i64 ((p + j3 + 1 + geD l (p + j3 + 1) 0 (clampN ((j3 + 2 : Nat) : Int)) : Nat) : Int), .int .i64 ((geE l (p + j3 + 1) 0 (clampN ((j3 + 2 : Nat) : Int)) : Nat) : Int)] 102)] [] 4 [] 0 (fun φ22 => [(40, .bool true), (39, undef), (38, undef), (37, undef)]) (fun φ22 => [(r, .cells #[.slice a l.length c, .int .i64 ((p + j3 + 1 + geD l (p + j3 + 1) 0 (clampN ((j3 + 2 : Nat) : Int)) : Nat) : Int), .int .i64 ((geE l (p + j3 + 1) 0 (clampN ((j3 + 2 : Nat) : Int)) : Nat) : Int)] 102)]) (fun φ22 => []) s trivial (fun φ22 => by kernel_rfl) ?_
      intro φ22 w22 s
      refine ops_done (by kernel_rfl) ?_
      refine cond_true_rule (b := true) (by kernel_rfl) rfl ?_
      refine wp_seq ?_
      refine region_rule ?_
      refine ops_rule (C := []) [(r, .cells #[.slice a l.length c, .int .i64 ((p + j3 + 1 + geD l (p + j3 + 1) 0 (clampN ((j3 + 2 : Nat) : Int)) : Nat) : Int), .int .i64 ((geE l (p + j3 + 1) 0 (clampN ((j3 + 2 : Nat) : Int)) : Nat) : Int)] 102)] [] 9 [.o 0, .o 0] 0 (fun φ23 => [(47, .pointer (some ⟨r, 2, none⟩)), (46, .pointer (some ⟨r, 0, none⟩)), (45, .pointer (some ⟨r, 1, none⟩)), (44, .pointer (some ⟨r, 0, none⟩)), (43, .int .i64 ((p : Nat) : Int)), (42, .pointer (some ⟨r, 0, none⟩)), (41, .pointer (some ⟨r, 0, none⟩))]) (fun φ23 => [(r, .cells #[.slice a l.length c, .int .i64 ((p : Nat) : Int), .int .i64 6] 102)]) (fun φ23 => [r, r]) s trivial (fun φ23 => by kernel_rfl) ?_
      intro φ23 w23 s
      refine ops_done (by kernel_rfl) ?_
      refine wp_seq ?_
      refine region_rule ?_
      refine ops_rule (C := []) [(r, .cells #[.slice a l.length c, .int .i64 ((p : Nat) : Int), .int .i64 6] 102)] [] 1 [] 0 (fun φ24 => [(2, .int .u64 0)]) (fun φ24 => [(r, .cells #[.slice a l.length c, .int .i64 ((p : Nat) : Int), .int .i64 6] 102)]) (fun φ24 => []) s trivial (fun φ24 => by kernel_rfl) ?_
      intro φ24 w24 s
      refine ops_done (by kernel_rfl) ?_
      refine wp_ret ?_
      refine ret_rule (C := []) [(r, .cells #[.slice a l.length c, .int .i64 ((p : Nat) : Int), .int .i64 6] 102)] [] (.int .u64 0) [] [] s trivial (by kernel_rfl) ?_
      exact ⟨_, _, _, rfl, s, (by have h8 := num_far (j := j3) ho3 (of_decide_eq_true hc21); exact ⟨_, rfl, rfl, (by rw [h8.1]; rfl), (by rw [h8.2.1, h8.2.2]; rfl)⟩)⟩
     ·
      rw [hc21]
      refine ops_rule (C := []) [(r, .cells #[.slice a l.length c, .int .i64 ((p + j3 + 1 + geD l (p + j3 + 1) 0 (clampN ((j3 + 2 : Nat) : Int)) : Nat) : Int), .int .i64 ((geE l (p + j3 + 1) 0 (clampN ((j3 + 2 : Nat) : Int)) : Nat) : Int)] 102)] [] 4 [] 0 (fun φ25 => [(40, .bool (decide ((IntKind.wrap .u64 ((IntKind.wrap .u64 (((bshl 64 1 (j3 + 2) : Nat) : Int) - ((4 : Nat) : Int))) + ((geV l (p + j3 + 1) 0 (clampN ((j3 + 2 : Nat) : Int)) : Nat) : Int))) < (IntKind.wrap .u64 (((bshl 64 1 (j3 + 2) : Nat) : Int) - ((4 : Nat) : Int)))))), (39, .bool (decide ((IntKind.wrap .u64 ((IntKind.wrap .u64 (((bshl 64 1 (j3 + 2) : Nat) : Int) - ((4 : Nat) : Int))) + ((geV l (p + j3 + 1) 0 (clampN ((j3 + 2 : Nat) : Int)) : Nat) : Int))) < (IntKind.wrap .u64 (((bshl 64 1 (j3 + 2) : Nat) : Int) - ((4 : Nat) : Int)))))), (38, .int .u64 (IntKind.wrap .u64 (((bshl 64 1 (j3 + 2) : Nat) : Int) - ((4 : Nat) : Int)))), (37, .int .u64 (IntKind.wrap .u64 ((IntKind.wrap .u64 (((bshl 64 1 (j3 + 2) : Nat) : Int) - ((4 : Nat) : Int))) + ((geV l (p + j3 + 1) 0 (clampN ((j3 + 2 : Nat) : Int)) : Nat) : Int))))]) (fun φ25 => [(r, .cells #[.slice a l.length c, .int .i64 ((p + j3 + 1 + geD l (p + j3 + 1) 0 (clampN ((j3 + 2 : Nat) : Int)) : Nat) : Int), .int .i64 ((geE l (p + j3 + 1) 0 (clampN ((j3 + 2 : Nat) : Int)) : Nat) : Int)] 102)]) (fun φ25 => []) s trivial (fun φ25 => by kernel_rfl) ?_
      intro φ25 w25 s
      refine ops_done (by kernel_rfl) ?_
      rcases Bool.eq_false_or_eq_true (decide ((IntKind.wrap .u64 ((IntKind.wrap .u64 (((bshl 64 1 (j3 + 2) : Nat) : Int) - ((4 : Nat) : Int))) + ((geV l (p + j3 + 1) 0 (clampN ((j3 + 2 : Nat) : Int)) : Nat) : Int))) < (IntKind.wrap .u64 (((bshl 64 1 (j3 + 2) : Nat) : Int) - ((4 : Nat) : Int))))) with hc26 | hc26
      ·
       rw [hc26]
       refine cond_true_rule (b := true) (by kernel_rfl) rfl ?_
       refine wp_seq ?_
       refine region_rule ?_
       refine ops_rule (C := []) [(r, .cells #[.slice a l.length c, .int .i64 ((p + j3 + 1 + geD l (p + j3 + 1) 0 (clampN ((j3 + 2 : Nat) : Int)) : Nat) : Int), .int .i64 ((geE l (p + j3 + 1) 0 (clampN ((j3 + 2 : Nat) : Int)) : Nat) : Int)] 102)] [] 9 [.o 0, .o 0] 0 (fun φ27 => [(47, .pointer (some ⟨r, 2, none⟩)), (46, .pointer (some ⟨r, 0, none⟩)), (45, .pointer (some ⟨r, 1, none⟩)), (44, .pointer (some ⟨r, 0, none⟩)), (43, .int .i64 ((p : Nat) : Int)), (42, .pointer (some ⟨r, 0, none⟩)), (41, .pointer (some ⟨r, 0, none⟩))]) (fun φ27 => [(r, .cells #[.slice a l.length c, .int .i64 ((p : Nat) : Int), .int .i64 6] 102)]) (fun φ27 => [r, r]) s trivial (fun φ27 => by kernel_rfl) ?_
       intro φ27 w27 s
       refine ops_done (by kernel_rfl) ?_
       refine wp_seq ?_
       refine region_rule ?_
       refine ops_rule (C := []) [(r, .cells #[.slice a l.length c, .int .i64 ((p : Nat) : Int), .int .i64 6] 102)] [] 1 [] 0 (fun φ28 => [(2, .int .u64 0)]) (fun φ28 => [(r, .cells #[.slice a l.length c, .int .i64 ((p : Nat) : Int), .int .i64 6] 102)]) (fun φ28 => []) s trivial (fun φ28 => by kernel_rfl) ?_
       intro φ28 w28 s
       refine ops_done (by kernel_rfl) ?_
       refine wp_ret ?_
       refine ret_rule (C := []) [(r, .cells #[.slice a l.length c, .int .i64 ((p : Nat) : Int), .int .i64 6] 102)] [] (.int .u64 0) [] [] s trivial (by kernel_rfl) ?_
       exact ⟨_, _, _, rfl, s, (by have h8 := num_over (j := j3) ho3 (of_decide_eq_true hc5) (bit_nil (of_decide_eq_false hc8)) (of_decide_eq_false hc16) (of_decide_eq_false hc21) (of_decide_eq_true hc26); exact ⟨_, rfl, rfl, (by rw [h8.1]; rfl), (by rw [h8.2.1, h8.2.2]; rfl)⟩)⟩
      ·
       rw [hc26]
       refine cond_false_rule (b := false) (by kernel_rfl) rfl ?_
       refine wp_skip ?_
       refine wp_seq ?_
       refine region_rule ?_
       refine ops_rule (C := []) [(r, .cells #[.slice a l.length c, .int .i64 ((p + j3 + 1 + geD l (p + j3 + 1) 0 (clampN ((j3 + 2 : Nat) : Int)) : Nat) : Int), .int .i64 ((geE l (p + j3 + 1) 0 (clampN ((j3 + 2 : Nat) : Int)) : Nat) : Int)] 102)] [] 2 [] 0 (fun φ29 => [(2, .int .u64 (IntKind.wrap .u64 ((IntKind.wrap .u64 (((bshl 64 1 (j3 + 2) : Nat) : Int) - ((4 : Nat) : Int))) + ((geV l (p + j3 + 1) 0 (clampN ((j3 + 2 : Nat) : Int)) : Nat) : Int)))), (48, .int .u64 (IntKind.wrap .u64 ((IntKind.wrap .u64 (((bshl 64 1 (j3 + 2) : Nat) : Int) - ((4 : Nat) : Int))) + ((geV l (p + j3 + 1) 0 (clampN ((j3 + 2 : Nat) : Int)) : Nat) : Int))))]) (fun φ29 => [(r, .cells #[.slice a l.length c, .int .i64 ((p + j3 + 1 + geD l (p + j3 + 1) 0 (clampN ((j3 + 2 : Nat) : Int)) : Nat) : Int), .int .i64 ((geE l (p + j3 + 1) 0 (clampN ((j3 + 2 : Nat) : Int)) : Nat) : Int)] 102)]) (fun φ29 => []) s trivial (fun φ29 => by kernel_rfl) ?_
       intro φ29 w29 s
       refine ops_done (by kernel_rfl) ?_
       refine wp_ret ?_
       refine ret_rule (C := []) [(r, .cells #[.slice a l.length c, .int .i64 ((p + j3 + 1 + geD l (p + j3 + 1) 0 (clampN ((j3 + 2 : Nat) : Int)) : Nat) : Int), .int .i64 ((geE l (p + j3 + 1) 0 (clampN ((j3 + 2 : Nat) : Int)) : Nat) : Int)] 102)] [] (.int .u64 (IntKind.wrap .u64 ((IntKind.wrap .u64 (((bshl 64 1 (j3 + 2) : Nat) : Int) - ((4 : Nat) : Int))) + ((geV l (p + j3 + 1) 0 (clampN ((j3 + 2 : Nat) : Int)) : Nat) : Int)))) [] [] s trivial (by kernel_rfl) ?_
       exact ⟨_, _, _, rfl, s, (by have h8 := num_good (j := j3) ho3 (of_decide_eq_true hc5) (bit_nil (of_decide_eq_false hc8)) (of_decide_eq_false hc16) (of_decide_eq_false hc21) (of_decide_eq_false hc26); exact ⟨_, rfl, rfl, congrArg (Value.int .u64) h8.1, h8.2 _ _⟩)⟩
  ·
   refine callB_rule (b := (r, .cells #[.slice a l.length c, .int .i64 ((p + j3 : Nat) : Int), .int .i64 0] 102)) (H := [(r, .cells #[.slice a l.length c, .int .i64 ((p + j3 : Nat) : Int), .int .i64 0] 102)]) (F := []) (Hr := []) (some 15) 0 s (by kernel_rfl) (by kernel_rfl) (get_bad (r := r) (p := p + j3) hl (hn9) (k := 1) (by decide) (by have hp0 := hp; have ho1 := ho3.len;  omega) (by have hq0 := of_decide_eq_false hc5; omega)) (by kernel_rfl) ?_
   rintro v30 I30 w30 b30 le30 - h30 s
   replace hl := BSl.mono le30 hl
   replace hle2 := leMono le30 hle2
   obtain ⟨rfl, rfl⟩ := h30
   refine ops_rule (C := []) [(r, .cells #[.slice a l.length c, .int .i64 ((p + j3 : Nat) : Int), .int .i64 6] 102)] [] 1 [] 0 (fun φ31 => [(16, .bool false)]) (fun φ31 => [(r, .cells #[.slice a l.length c, .int .i64 ((p + j3 : Nat) : Int), .int .i64 6] 102)]) (fun φ31 => []) s trivial (fun φ31 => by kernel_rfl) ?_
   intro φ31 w31 s
   refine ops_done (by kernel_rfl) ?_
   refine cond_false_rule (b := false) (by kernel_rfl) rfl ?_
   refine wp_skip ?_
   refine wp_seq ?_
   refine region_rule ?_
   refine ops_rule (C := []) [(r, .cells #[.slice a l.length c, .int .i64 ((p + j3 : Nat) : Int), .int .i64 6] 102)] [] 1 [] 0 (fun φ32 => [(19, .int .i64 ((j3 + 2 : Nat) : Int))]) (fun φ32 => [(r, .cells #[.slice a l.length c, .int .i64 ((p + j3 : Nat) : Int), .int .i64 6] 102)]) (fun φ32 => []) s trivial (fun φ32 => by kernel_rfl) ?_
   intro φ32 w32 s
   refine sem_rule (binOp .shl 27 (.int .u64 ((1 : Nat) : Int)) (.int .i64 ((j3 + 2 : Nat) : Int))) (some 20) (.int .u64 ((bshl 64 1 (j3 + 2) : Nat) : Int)) (by kernel_rfl) (run_shlU (.inr (.inr (.inl rfl)))) ?_
   refine ops_rule (C := []) [(r, .cells #[.slice a l.length c, .int .i64 ((p + j3 : Nat) : Int), .int .i64 6] 102)] [] 2 [] 0 (fun φ33 => [(5, .int .u64 (IntKind.wrap .u64 (((bshl 64 1 (j3 + 2) : Nat) : Int) - ((4 : Nat) : Int)))), (21, .int .u64 (IntKind.wrap .u64 (((bshl 64 1 (j3 + 2) : Nat) : Int) - ((4 : Nat) : Int))))]) (fun φ33 => [(r, .cells #[.slice a l.length c, .int .i64 ((p + j3 : Nat) : Int), .int .i64 6] 102)]) (fun φ33 => []) s trivial (fun φ33 => by kernel_rfl) ?_
   intro φ33 w33 s
   refine ops_done (by kernel_rfl) ?_
   refine wp_seq ?_
   refine region_rule ?_
   refine ops_rule (C := []) [(r, .cells #[.slice a l.length c, .int .i64 ((p + j3 : Nat) : Int), .int .i64 6] 102)] [] 3 [] 0 (fun φ34 => [(24, .int .i64 ((j3 + 2 : Nat) : Int)), (23, .pointer (some ⟨r, 0, none⟩)), (22, .int .u64 (IntKind.wrap .u64 (((bshl 64 1 (j3 + 2) : Nat) : Int) - ((4 : Nat) : Int))))]) (fun φ34 => [(r, .cells #[.slice a l.length c, .int .i64 ((p + j3 : Nat) : Int), .int .i64 6] 102)]) (fun φ34 => []) s trivial (fun φ34 => by kernel_rfl) ?_
   intro φ34 w34 s
   refine callB_rule (b := (r, .cells #[.slice a l.length c, .int .i64 ((p + j3 : Nat) : Int), .int .i64 6] 102)) (H := [(r, .cells #[.slice a l.length c, .int .i64 ((p + j3 : Nat) : Int), .int .i64 6] 102)]) (F := []) (Hr := []) (some 25) 0 s (by kernel_rfl) (by kernel_rfl) (getG_c (e := 6) (z := ((j3 + 2 : Nat) : Int)) (r := r) (p := p + j3) hl (hn9) (by have hp0 := hp; have ho1 := ho3.len;  have hq0 := of_decide_eq_false hc5; omega)) (by kernel_rfl) ?_
   rintro v35 I35 w35 b35 le35 - h35 s
   replace hl := BSl.mono le35 hl
   replace hle2 := leMono le35 hle2
   obtain ⟨rfl, rfl⟩ := h35
   refine ops_rule (C := []) [(r, .cells #[.slice a l.length c, .int .i64 ((p + j3 + geD l (p + j3) 6 (clampN ((j3 + 2 : Nat) : Int)) : Nat) : Int), .int .i64 ((geE l (p + j3) 6 (clampN ((j3 + 2 : Nat) : Int)) : Nat) : Int)] 102)] [] 2 [] 0 (fun φ36 => [(6, .int .u64 (IntKind.wrap .u64 ((IntKind.wrap .u64 (((bshl 64 1 (j3 + 2) : Nat) : Int) - ((4 : Nat) : Int))) + ((geV l (p + j3) 6 (clampN ((j3 + 2 : Nat) : Int)) : Nat) : Int)))), (26, .int .u64 (IntKind.wrap .u64 ((IntKind.wrap .u64 (((bshl 64 1 (j3 + 2) : Nat) : Int) - ((4 : Nat) : Int))) + ((geV l (p + j3) 6 (clampN ((j3 + 2 : Nat) : Int)) : Nat) : Int))))]) (fun φ36 => [(r, .cells #[.slice a l.length c, .int .i64 ((p + j3 + geD l (p + j3) 6 (clampN ((j3 + 2 : Nat) : Int)) : Nat) : Int), .int .i64 ((geE l (p + j3) 6 (clampN ((j3 + 2 : Nat) : Int)) : Nat) : Int)] 102)]) (fun φ36 => []) s trivial (fun φ36 => by kernel_rfl) ?_
   intro φ36 w36 s
   refine ops_done (by kernel_rfl) ?_
   refine wp_seq ?_
   refine wp_seq ?_
   refine region_rule ?_
   refine ops_rule (C := []) [(r, .cells #[.slice a l.length c, .int .i64 ((p + j3 + geD l (p + j3) 6 (clampN ((j3 + 2 : Nat) : Int)) : Nat) : Int), .int .i64 ((geE l (p + j3) 6 (clampN ((j3 + 2 : Nat) : Int)) : Nat) : Int)] 102)] [] 6 [.o 0] 0 (fun φ37 => [(32, .bool (((geE l (p + j3) 6 (clampN ((j3 + 2 : Nat) : Int)) : Nat) : Int) != ((0 : Nat) : Int))), (31, .bool (((geE l (p + j3) 6 (clampN ((j3 + 2 : Nat) : Int)) : Nat) : Int) != ((0 : Nat) : Int))), (30, .int .i64 ((geE l (p + j3) 6 (clampN ((j3 + 2 : Nat) : Int)) : Nat) : Int)), (29, .pointer (some ⟨r, 2, none⟩)), (28, .pointer (some ⟨r, 0, none⟩)), (27, .pointer (some ⟨r, 0, none⟩))]) (fun φ37 => [(r, .cells #[.slice a l.length c, .int .i64 ((p + j3 + geD l (p + j3) 6 (clampN ((j3 + 2 : Nat) : Int)) : Nat) : Int), .int .i64 ((geE l (p + j3) 6 (clampN ((j3 + 2 : Nat) : Int)) : Nat) : Int)] 102)]) (fun φ37 => [r]) s trivial (fun φ37 => by kernel_rfl) ?_
   intro φ37 w37 s
   rw [nat_neq (a := (geE l (p + j3) 6 (clampN ((j3 + 2 : Nat) : Int)))) (b := 0)]
   rcases Bool.eq_false_or_eq_true (decide ((geE l (p + j3) 6 (clampN ((j3 + 2 : Nat) : Int))) ≠ 0)) with hc38 | hc38
   ·
    rw [hc38]
    refine ops_rule (C := []) [(r, .cells #[.slice a l.length c, .int .i64 ((p + j3 + geD l (p + j3) 6 (clampN ((j3 + 2 : Nat) : Int)) : Nat) : Int), .int .i64 ((geE l (p + j3) 6 (clampN ((j3 + 2 : Nat) : Int)) : Nat) : Int)] 102)] [] 8 [] 0 (fun φ39 => [(40, .bool true), (39, undef), (38, undef), (37, undef), (36, .bool true), (35, .bool true), (34, undef), (33, undef)]) (fun φ39 => [(r, .cells #[.slice a l.length c, .int .i64 ((p + j3 + geD l (p + j3) 6 (clampN ((j3 + 2 : Nat) : Int)) : Nat) : Int), .int .i64 ((geE l (p + j3) 6 (clampN ((j3 + 2 : Nat) : Int)) : Nat) : Int)] 102)]) (fun φ39 => []) s trivial (fun φ39 => by kernel_rfl) ?_
    intro φ39 w39 s
    refine ops_done (by kernel_rfl) ?_
    refine cond_true_rule (b := true) (by kernel_rfl) rfl ?_
    refine wp_seq ?_
    refine region_rule ?_
    refine ops_rule (C := []) [(r, .cells #[.slice a l.length c, .int .i64 ((p + j3 + geD l (p + j3) 6 (clampN ((j3 + 2 : Nat) : Int)) : Nat) : Int), .int .i64 ((geE l (p + j3) 6 (clampN ((j3 + 2 : Nat) : Int)) : Nat) : Int)] 102)] [] 9 [.o 0, .o 0] 0 (fun φ40 => [(47, .pointer (some ⟨r, 2, none⟩)), (46, .pointer (some ⟨r, 0, none⟩)), (45, .pointer (some ⟨r, 1, none⟩)), (44, .pointer (some ⟨r, 0, none⟩)), (43, .int .i64 ((p : Nat) : Int)), (42, .pointer (some ⟨r, 0, none⟩)), (41, .pointer (some ⟨r, 0, none⟩))]) (fun φ40 => [(r, .cells #[.slice a l.length c, .int .i64 ((p : Nat) : Int), .int .i64 6] 102)]) (fun φ40 => [r, r]) s trivial (fun φ40 => by kernel_rfl) ?_
    intro φ40 w40 s
    refine ops_done (by kernel_rfl) ?_
    refine wp_seq ?_
    refine region_rule ?_
    refine ops_rule (C := []) [(r, .cells #[.slice a l.length c, .int .i64 ((p : Nat) : Int), .int .i64 6] 102)] [] 1 [] 0 (fun φ41 => [(2, .int .u64 0)]) (fun φ41 => [(r, .cells #[.slice a l.length c, .int .i64 ((p : Nat) : Int), .int .i64 6] 102)]) (fun φ41 => []) s trivial (fun φ41 => by kernel_rfl) ?_
    intro φ41 w41 s
    refine ops_done (by kernel_rfl) ?_
    refine wp_ret ?_
    refine ret_rule (C := []) [(r, .cells #[.slice a l.length c, .int .i64 ((p : Nat) : Int), .int .i64 6] 102)] [] (.int .u64 0) [] [] s trivial (by kernel_rfl) ?_
    exact ⟨_, _, _, rfl, s, (by have h8 := num_out (j := j3) ho3 (of_decide_eq_false hc5); exact ⟨_, rfl, rfl, (by rw [h8.1]; rfl), (by rw [h8.2.1, h8.2.2]; rfl)⟩)⟩
   ·
    exact absurd (of_decide_eq_false hc38) (fun q => q (by rw [ge6]; decide))
 ·
  refine wp_seq ?_
  refine wp_seq ?_
  refine region_rule ?_
  refine ops_rule (C := []) [(r, .cells #[.slice a l.length c, .int .i64 ((p : Nat) : Int), .int .i64 0] 102)] [] 1 [] 0 (fun φ42 => [(7, .pointer (some ⟨r, 0, none⟩))]) (fun φ42 => [(r, .cells #[.slice a l.length c, .int .i64 ((p : Nat) : Int), .int .i64 0] 102)]) (fun φ42 => []) s trivial (fun φ42 => by kernel_rfl) ?_
  intro φ42 w42 s
  refine callB_rule (b := (r, .cells #[.slice a l.length c, .int .i64 ((p : Nat) : Int), .int .i64 0] 102)) (H := [(r, .cells #[.slice a l.length c, .int .i64 ((p : Nat) : Int), .int .i64 0] 102)]) (F := []) (Hr := []) (some 8) 0 s (by kernel_rfl) (by kernel_rfl) (err_c (r := r) (v0 := .slice a l.length c) (v1 := .int .i64 ((p : Nat) : Int)) (e := 0)) (by kernel_rfl) ?_
  rintro v43 I43 w43 b43 le43 - h43 s
  replace hl := BSl.mono le43 hl
  replace hle2 := leMono le43 hle2
  obtain ⟨rfl, rfl⟩ := h43
  refine ops_rule (C := []) [(r, .cells #[.slice a l.length c, .int .i64 ((p : Nat) : Int), .int .i64 0] 102)] [] 1 [] 0 (fun φ44 => [(9, .bool false)]) (fun φ44 => [(r, .cells #[.slice a l.length c, .int .i64 ((p : Nat) : Int), .int .i64 0] 102)]) (fun φ44 => []) s trivial (fun φ44 => by kernel_rfl) ?_
  intro φ44 w44 s
  refine ops_done (by kernel_rfl) ?_
  refine cond_false_rule (b := false) (by kernel_rfl) rfl ?_
  refine wp_skip ?_
  refine wp_seq ?_
  refine region_rule ?_
  refine ops_rule (C := []) [(r, .cells #[.slice a l.length c, .int .i64 ((p : Nat) : Int), .int .i64 0] 102)] [] 6 [.o 0] 0 (fun φ45 => [(4, .int .i64 2), (3, .int .i64 ((p : Nat) : Int)), (13, .int .i64 ((p : Nat) : Int)), (12, .pointer (some ⟨r, 1, none⟩)), (11, .pointer (some ⟨r, 0, none⟩)), (10, .pointer (some ⟨r, 0, none⟩))]) (fun φ45 => [(r, .cells #[.slice a l.length c, .int .i64 ((p : Nat) : Int), .int .i64 0] 102)]) (fun φ45 => [r]) s trivial (fun φ45 => by kernel_rfl) ?_
  intro φ45 w45 s
  refine ops_done (by kernel_rfl) ?_
  refine wp_seq ?_
  refine wp_label ?_
  refine wp_seq ?_
  refine wp_seq ?_
  refine region_rule ?_
  refine ops_rule (C := []) [(r, .cells #[.slice a l.length c, .int .i64 ((p : Nat) : Int), .int .i64 0] 102)] [] 1 [] 0 (fun φ46 => [(14, .pointer (some ⟨r, 0, none⟩))]) (fun φ46 => [(r, .cells #[.slice a l.length c, .int .i64 ((p : Nat) : Int), .int .i64 0] 102)]) (fun φ46 => []) s trivial (fun φ46 => by kernel_rfl) ?_
  intro φ46 w46 s
  rcases Bool.eq_false_or_eq_true (decide (p + 1 ≤ l.length * 8)) with hc47 | hc47
  ·
   refine callB_rule (b := (r, .cells #[.slice a l.length c, .int .i64 ((p : Nat) : Int), .int .i64 0] 102)) (H := [(r, .cells #[.slice a l.length c, .int .i64 ((p : Nat) : Int), .int .i64 0] 102)]) (F := []) (Hr := []) (some 15) 0 s (by kernel_rfl) (by kernel_rfl) (get_c (r := r) (p := p) hl (hn9) (k := 1) (by decide) (of_decide_eq_true hc47)) (by kernel_rfl) ?_
   rintro v48 I48 w48 b48 le48 - h48 s
   replace hl := BSl.mono le48 hl
   replace hle2 := leMono le48 hle2
   obtain ⟨rfl, rfl⟩ := h48
   refine ops_rule (C := []) [(r, .cells #[.slice a l.length c, .int .i64 ((p + 1 : Nat) : Int), .int .i64 0] 102)] [] 1 [] 0 (fun φ49 => [(16, .bool (((rd l p 1 : Nat) : Int) == ((1 : Nat) : Int)))]) (fun φ49 => [(r, .cells #[.slice a l.length c, .int .i64 ((p + 1 : Nat) : Int), .int .i64 0] 102)]) (fun φ49 => []) s trivial (fun φ49 => by kernel_rfl) ?_
   intro φ49 w49 s
   rw [nat_eql (a := (rd l p 1)) (b := 1)]
   refine ops_done (by kernel_rfl) ?_
   rcases Bool.eq_false_or_eq_true (decide ((rd l p 1) = 1)) with hc50 | hc50
   ·
    rw [hc50]
    refine cond_true_rule (b := true) (by kernel_rfl) rfl ?_
    refine wp_seq ?_
    refine region_rule ?_
    refine ops_rule (C := []) [(r, .cells #[.slice a l.length c, .int .i64 ((p + 1 : Nat) : Int), .int .i64 0] 102)] [] 3 [] 0 (fun φ51 => [(4, .int .i64 3), (18, .int .i64 3), (17, .int .i64 2)]) (fun φ51 => [(r, .cells #[.slice a l.length c, .int .i64 ((p + 1 : Nat) : Int), .int .i64 0] 102)]) (fun φ51 => []) s trivial (fun φ51 => by kernel_rfl) ?_
    intro φ51 w51 s
    refine ops_done (by kernel_rfl) ?_
    refine wp_goto ?_
    exact ⟨rfl, l.length * 8, ⟨⟨l.length * 8 - p - 1, 1, _, _, _, (by have := of_decide_eq_true hc47; omega), rfl, s, (List.Sublist.cons₂ _ List.Sublist.slnil), by kernel_rfl, hle2, (by have := of_decide_eq_true hc47; show p + 1 + (l.length * 8 - p - 1) = _; omega), OnesL.step (OnesL.start hp) (of_decide_eq_true hc47) (bit_one (of_decide_eq_true hc50))⟩⟩⟩
   ·
    rw [hc50]
    refine cond_false_rule (b := false) (by kernel_rfl) rfl ?_
    refine wp_skip ?_
    refine wp_seq ?_
    refine region_rule ?_
    refine ops_rule (C := []) [(r, .cells #[.slice a l.length c, .int .i64 ((p + 1 : Nat) : Int), .int .i64 0] 102)] [] 1 [] 0 (fun φ52 => [(19, .int .i64 2)]) (fun φ52 => [(r, .cells #[.slice a l.length c, .int .i64 ((p + 1 : Nat) : Int), .int .i64 0] 102)]) (fun φ52 => []) s trivial (fun φ52 => by kernel_rfl) ?_
    intro φ52 w52 s
    refine sem_rule (binOp .shl 27 (.int .u64 1) (.int .i64 2)) (some 20) (.int .u64 4) (by kernel_rfl) ((by kernel_rfl : (binOp .shl 27 (.int .u64 1) (.int .i64 2)).run Try.prog w52 = .ok (.int .u64 4) w52)) ?_
    refine ops_rule (C := []) [(r, .cells #[.slice a l.length c, .int .i64 ((p + 1 : Nat) : Int), .int .i64 0] 102)] [] 2 [] 0 (fun φ53 => [(5, .int .u64 0), (21, .int .u64 0)]) (fun φ53 => [(r, .cells #[.slice a l.length c, .int .i64 ((p + 1 : Nat) : Int), .int .i64 0] 102)]) (fun φ53 => []) s trivial (fun φ53 => by kernel_rfl) ?_
    intro φ53 w53 s
    refine ops_done (by kernel_rfl) ?_
    refine wp_seq ?_
    refine region_rule ?_
    refine ops_rule (C := []) [(r, .cells #[.slice a l.length c, .int .i64 ((p + 1 : Nat) : Int), .int .i64 0] 102)] [] 3 [] 0 (fun φ54 => [(24, .int .i64 2), (23, .pointer (some ⟨r, 0, none⟩)), (22, .int .u64 0)]) (fun φ54 => [(r, .cells #[.slice a l.length c, .int .i64 ((p + 1 : Nat) : Int), .int .i64 0] 102)]) (fun φ54 => []) s trivial (fun φ54 => by kernel_rfl) ?_
    intro φ54 w54 s
    refine callB_rule (b := (r, .cells #[.slice a l.length c, .int .i64 ((p + 1 : Nat) : Int), .int .i64 0] 102)) (H := [(r, .cells #[.slice a l.length c, .int .i64 ((p + 1 : Nat) : Int), .int .i64 0] 102)]) (F := []) (Hr := []) (some 25) 0 s (by kernel_rfl) (by kernel_rfl) (getG_c (e := 0) (z := ((2 : Nat) : Int)) (r := r) (p := p + 1) hl (hn9) (by have hp0 := hp;  have hq0 := of_decide_eq_true hc47; have hq1 := of_decide_eq_false hc50; omega)) (by kernel_rfl) ?_
    rintro v55 I55 w55 b55 le55 - h55 s
    replace hl := BSl.mono le55 hl
    obtain ⟨rfl, rfl⟩ := h55
    refine ops_rule (C := []) [(r, .cells #[.slice a l.length c, .int .i64 ((p + 1 + geD l (p + 1) 0 (clampN ((2 : Nat) : Int)) : Nat) : Int), .int .i64 ((geE l (p + 1) 0 (clampN ((2 : Nat) : Int)) : Nat) : Int)] 102)] [] 2 [] 0 (fun φ56 => [(6, .int .u64 (IntKind.wrap .u64 (((0 : Nat) : Int) + ((geV l (p + 1) 0 (clampN ((2 : Nat) : Int)) : Nat) : Int)))), (26, .int .u64 (IntKind.wrap .u64 (((0 : Nat) : Int) + ((geV l (p + 1) 0 (clampN ((2 : Nat) : Int)) : Nat) : Int))))]) (fun φ56 => [(r, .cells #[.slice a l.length c, .int .i64 ((p + 1 + geD l (p + 1) 0 (clampN ((2 : Nat) : Int)) : Nat) : Int), .int .i64 ((geE l (p + 1) 0 (clampN ((2 : Nat) : Int)) : Nat) : Int)] 102)]) (fun φ56 => []) s trivial (fun φ56 => by kernel_rfl) ?_
    intro φ56 w56 s
    refine ops_done (by kernel_rfl) ?_
    refine wp_seq ?_
    refine wp_seq ?_
    refine region_rule ?_
    refine ops_rule (C := []) [(r, .cells #[.slice a l.length c, .int .i64 ((p + 1 + geD l (p + 1) 0 (clampN ((2 : Nat) : Int)) : Nat) : Int), .int .i64 ((geE l (p + 1) 0 (clampN ((2 : Nat) : Int)) : Nat) : Int)] 102)] [] 6 [.o 0] 0 (fun φ57 => [(32, .bool (((geE l (p + 1) 0 (clampN ((2 : Nat) : Int)) : Nat) : Int) != ((0 : Nat) : Int))), (31, .bool (((geE l (p + 1) 0 (clampN ((2 : Nat) : Int)) : Nat) : Int) != ((0 : Nat) : Int))), (30, .int .i64 ((geE l (p + 1) 0 (clampN ((2 : Nat) : Int)) : Nat) : Int)), (29, .pointer (some ⟨r, 2, none⟩)), (28, .pointer (some ⟨r, 0, none⟩)), (27, .pointer (some ⟨r, 0, none⟩))]) (fun φ57 => [(r, .cells #[.slice a l.length c, .int .i64 ((p + 1 + geD l (p + 1) 0 (clampN ((2 : Nat) : Int)) : Nat) : Int), .int .i64 ((geE l (p + 1) 0 (clampN ((2 : Nat) : Int)) : Nat) : Int)] 102)]) (fun φ57 => [r]) s trivial (fun φ57 => by kernel_rfl) ?_
    intro φ57 w57 s
    rw [nat_neq (a := (geE l (p + 1) 0 (clampN ((2 : Nat) : Int)))) (b := 0)]
    rcases Bool.eq_false_or_eq_true (decide ((geE l (p + 1) 0 (clampN ((2 : Nat) : Int))) ≠ 0)) with hc58 | hc58
    ·
     rw [hc58]
     refine ops_rule (C := []) [(r, .cells #[.slice a l.length c, .int .i64 ((p + 1 + geD l (p + 1) 0 (clampN ((2 : Nat) : Int)) : Nat) : Int), .int .i64 ((geE l (p + 1) 0 (clampN ((2 : Nat) : Int)) : Nat) : Int)] 102)] [] 8 [] 0 (fun φ59 => [(40, .bool true), (39, undef), (38, undef), (37, undef), (36, .bool true), (35, .bool true), (34, undef), (33, undef)]) (fun φ59 => [(r, .cells #[.slice a l.length c, .int .i64 ((p + 1 + geD l (p + 1) 0 (clampN ((2 : Nat) : Int)) : Nat) : Int), .int .i64 ((geE l (p + 1) 0 (clampN ((2 : Nat) : Int)) : Nat) : Int)] 102)]) (fun φ59 => []) s trivial (fun φ59 => by kernel_rfl) ?_
     intro φ59 w59 s
     refine ops_done (by kernel_rfl) ?_
     refine cond_true_rule (b := true) (by kernel_rfl) rfl ?_
     refine wp_seq ?_
     refine region_rule ?_
     refine ops_rule (C := []) [(r, .cells #[.slice a l.length c, .int .i64 ((p + 1 + geD l (p + 1) 0 (clampN ((2 : Nat) : Int)) : Nat) : Int), .int .i64 ((geE l (p + 1) 0 (clampN ((2 : Nat) : Int)) : Nat) : Int)] 102)] [] 9 [.o 0, .o 0] 0 (fun φ60 => [(47, .pointer (some ⟨r, 2, none⟩)), (46, .pointer (some ⟨r, 0, none⟩)), (45, .pointer (some ⟨r, 1, none⟩)), (44, .pointer (some ⟨r, 0, none⟩)), (43, .int .i64 ((p : Nat) : Int)), (42, .pointer (some ⟨r, 0, none⟩)), (41, .pointer (some ⟨r, 0, none⟩))]) (fun φ60 => [(r, .cells #[.slice a l.length c, .int .i64 ((p : Nat) : Int), .int .i64 6] 102)]) (fun φ60 => [r, r]) s trivial (fun φ60 => by kernel_rfl) ?_
     intro φ60 w60 s
     refine ops_done (by kernel_rfl) ?_
     refine wp_seq ?_
     refine region_rule ?_
     refine ops_rule (C := []) [(r, .cells #[.slice a l.length c, .int .i64 ((p : Nat) : Int), .int .i64 6] 102)] [] 1 [] 0 (fun φ61 => [(2, .int .u64 0)]) (fun φ61 => [(r, .cells #[.slice a l.length c, .int .i64 ((p : Nat) : Int), .int .i64 6] 102)]) (fun φ61 => []) s trivial (fun φ61 => by kernel_rfl) ?_
     intro φ61 w61 s
     refine ops_done (by kernel_rfl) ?_
     refine wp_ret ?_
     refine ret_rule (C := []) [(r, .cells #[.slice a l.length c, .int .i64 ((p : Nat) : Int), .int .i64 6] 102)] [] (.int .u64 0) [] [] s trivial (by kernel_rfl) ?_
     exact ⟨_, _, _, rfl, s, (by have h8 := num_short (j := 0) (OnesL.start hp) (of_decide_eq_true hc47) (bit_nil (of_decide_eq_false hc50)) (of_decide_eq_true hc58); exact ⟨_, rfl, rfl, (by rw [h8.1]; rfl), (by rw [h8.2.1, h8.2.2]; rfl)⟩)⟩
    ·
     rw [hc58]
     refine ops_rule (C := []) [(r, .cells #[.slice a l.length c, .int .i64 ((p + 1 + geD l (p + 1) 0 (clampN ((2 : Nat) : Int)) : Nat) : Int), .int .i64 ((geE l (p + 1) 0 (clampN ((2 : Nat) : Int)) : Nat) : Int)] 102)] [] 8 [] 0 (fun φ62 => [(40, .bool (decide ((IntKind.wrap .u64 (((0 : Nat) : Int) + ((geV l (p + 1) 0 (clampN ((2 : Nat) : Int)) : Nat) : Int))) < ((0 : Nat) : Int)))), (39, .bool (decide ((IntKind.wrap .u64 (((0 : Nat) : Int) + ((geV l (p + 1) 0 (clampN ((2 : Nat) : Int)) : Nat) : Int))) < ((0 : Nat) : Int)))), (38, .int .u64 0), (37, .int .u64 (IntKind.wrap .u64 (((0 : Nat) : Int) + ((geV l (p + 1) 0 (clampN ((2 : Nat) : Int)) : Nat) : Int)))), (36, .bool false), (35, .bool false), (34, .bool false), (33, .int .i64 2)]) (fun φ62 => [(r, .cells #[.slice a l.length c, .int .i64 ((p + 1 + geD l (p + 1) 0 (clampN ((2 : Nat) : Int)) : Nat) : Int), .int .i64 ((geE l (p + 1) 0 (clampN ((2 : Nat) : Int)) : Nat) : Int)] 102)]) (fun φ62 => []) s trivial (fun φ62 => by kernel_rfl) ?_
     intro φ62 w62 s
     refine ops_done (by kernel_rfl) ?_
     rcases Bool.eq_false_or_eq_true (decide ((IntKind.wrap .u64 (((0 : Nat) : Int) + ((geV l (p + 1) 0 (clampN ((2 : Nat) : Int)) : Nat) : Int))) < ((0 : Nat) : Int))) with hc63 | hc63
     ·
      rw [hc63]
      refine cond_true_rule (b := true) (by kernel_rfl) rfl ?_
      refine wp_seq ?_
      refine region_rule ?_
      refine ops_rule (C := []) [(r, .cells #[.slice a l.length c, .int .i64 ((p + 1 + geD l (p + 1) 0 (clampN ((2 : Nat) : Int)) : Nat) : Int), .int .i64 ((geE l (p + 1) 0 (clampN ((2 : Nat) : Int)) : Nat) : Int)] 102)] [] 9 [.o 0, .o 0] 0 (fun φ64 => [(47, .pointer (some ⟨r, 2, none⟩)), (46, .pointer (some ⟨r, 0, none⟩)), (45, .pointer (some ⟨r, 1, none⟩)), (44, .pointer (some ⟨r, 0, none⟩)), (43, .int .i64 ((p : Nat) : Int)), (42, .pointer (some ⟨r, 0, none⟩)), (41, .pointer (some ⟨r, 0, none⟩))]) (fun φ64 => [(r, .cells #[.slice a l.length c, .int .i64 ((p : Nat) : Int), .int .i64 6] 102)]) (fun φ64 => [r, r]) s trivial (fun φ64 => by kernel_rfl) ?_
      intro φ64 w64 s
      refine ops_done (by kernel_rfl) ?_
      refine wp_seq ?_
      refine region_rule ?_
      refine ops_rule (C := []) [(r, .cells #[.slice a l.length c, .int .i64 ((p : Nat) : Int), .int .i64 6] 102)] [] 1 [] 0 (fun φ65 => [(2, .int .u64 0)]) (fun φ65 => [(r, .cells #[.slice a l.length c, .int .i64 ((p : Nat) : Int), .int .i64 6] 102)]) (fun φ65 => []) s trivial (fun φ65 => by kernel_rfl) ?_
      intro φ65 w65 s
      refine ops_done (by kernel_rfl) ?_
      refine wp_ret ?_
      refine ret_rule (C := []) [(r, .cells #[.slice a l.length c, .int .i64 ((p : Nat) : Int), .int .i64 6] 102)] [] (.int .u64 0) [] [] s trivial (by kernel_rfl) ?_
      exact ⟨_, _, _, rfl, s, (by have h8 := num_over (j := 0) (OnesL.start hp) (of_decide_eq_true hc47) (bit_nil (of_decide_eq_false hc50)) (of_decide_eq_false hc58) (by decide) (of_decide_eq_true hc63); exact ⟨_, rfl, rfl, (by rw [h8.1]; rfl), (by rw [h8.2.1, h8.2.2]; rfl)⟩)⟩
     ·
      rw [hc63]
      refine cond_false_rule (b := false) (by kernel_rfl) rfl ?_
      refine wp_skip ?_
      refine wp_seq ?_
      refine region_rule ?_
      refine ops_rule (C := []) [(r, .cells #[.slice a l.length c, .int .i64 ((p + 1 + geD l (p + 1) 0 (clampN ((2 : Nat) : Int)) : Nat) : Int), .int .i64 ((geE l (p + 1) 0 (clampN ((2 : Nat) : Int)) : Nat) : Int)] 102)] [] 2 [] 0 (fun φ66 => [(2, .int .u64 (IntKind.wrap .u64 (((0 : Nat) : Int) + ((geV l (p + 1) 0 (clampN ((2 : Nat) : Int)) : Nat) : Int)))), (48, .int .u64 (IntKind.wrap .u64 (((0 : Nat) : Int) + ((geV l (p + 1) 0 (clampN ((2 : Nat) : Int)) : Nat) : Int))))]) (fun φ66 => [(r, .cells #[.slice a l.length c, .int .i64 ((p + 1 + geD l (p + 1) 0 (clampN ((2 : Nat) : Int)) : Nat) : Int), .int .i64 ((geE l (p + 1) 0 (clampN ((2 : Nat) : Int)) : Nat) : Int)] 102)]) (fun φ66 => []) s trivial (fun φ66 => by kernel_rfl) ?_
      intro φ66 w66 s
      refine ops_done (by kernel_rfl) ?_
      refine wp_ret ?_
      refine ret_rule (C := []) [(r, .cells #[.slice a l.length c, .int .i64 ((p + 1 + geD l (p + 1) 0 (clampN ((2 : Nat) : Int)) : Nat) : Int), .int .i64 ((geE l (p + 1) 0 (clampN ((2 : Nat) : Int)) : Nat) : Int)] 102)] [] (.int .u64 (IntKind.wrap .u64 (((0 : Nat) : Int) + ((geV l (p + 1) 0 (clampN ((2 : Nat) : Int)) : Nat) : Int)))) [] [] s trivial (by kernel_rfl) ?_
      exact ⟨_, _, _, rfl, s, (by have h8 := num_good (j := 0) (OnesL.start hp) (of_decide_eq_true hc47) (bit_nil (of_decide_eq_false hc50)) (of_decide_eq_false hc58) (by decide) (of_decide_eq_false hc63); exact ⟨_, rfl, rfl, congrArg (Value.int .u64) h8.1, h8.2 _ _⟩)⟩
  ·
   refine callB_rule (b := (r, .cells #[.slice a l.length c, .int .i64 ((p : Nat) : Int), .int .i64 0] 102)) (H := [(r, .cells #[.slice a l.length c, .int .i64 ((p : Nat) : Int), .int .i64 0] 102)]) (F := []) (Hr := []) (some 15) 0 s (by kernel_rfl) (by kernel_rfl) (get_bad (r := r) (p := p) hl (hn9) (k := 1) (by decide) (by have hp0 := hp;  omega) (by have hq0 := of_decide_eq_false hc47; omega)) (by kernel_rfl) ?_
   rintro v67 I67 w67 b67 le67 - h67 s
   replace hl := BSl.mono le67 hl
   obtain ⟨rfl, rfl⟩ := h67
   refine ops_rule (C := []) [(r, .cells #[.slice a l.length c, .int .i64 ((p : Nat) : Int), .int .i64 6] 102)] [] 1 [] 0 (fun φ68 => [(16, .bool false)]) (fun φ68 => [(r, .cells #[.slice a l.length c, .int .i64 ((p : Nat) : Int), .int .i64 6] 102)]) (fun φ68 => []) s trivial (fun φ68 => by kernel_rfl) ?_
   intro φ68 w68 s
   refine ops_done (by kernel_rfl) ?_
   refine cond_false_rule (b := false) (by kernel_rfl) rfl ?_
   refine wp_skip ?_
   refine wp_seq ?_
   refine region_rule ?_
   refine ops_rule (C := []) [(r, .cells #[.slice a l.length c, .int .i64 ((p : Nat) : Int), .int .i64 6] 102)] [] 1 [] 0 (fun φ69 => [(19, .int .i64 2)]) (fun φ69 => [(r, .cells #[.slice a l.length c, .int .i64 ((p : Nat) : Int), .int .i64 6] 102)]) (fun φ69 => []) s trivial (fun φ69 => by kernel_rfl) ?_
   intro φ69 w69 s
   refine sem_rule (binOp .shl 27 (.int .u64 1) (.int .i64 2)) (some 20) (.int .u64 4) (by kernel_rfl) ((by kernel_rfl : (binOp .shl 27 (.int .u64 1) (.int .i64 2)).run Try.prog w69 = .ok (.int .u64 4) w69)) ?_
   refine ops_rule (C := []) [(r, .cells #[.slice a l.length c, .int .i64 ((p : Nat) : Int), .int .i64 6] 102)] [] 2 [] 0 (fun φ70 => [(5, .int .u64 0), (21, .int .u64 0)]) (fun φ70 => [(r, .cells #[.slice a l.length c, .int .i64 ((p : Nat) : Int), .int .i64 6] 102)]) (fun φ70 => []) s trivial (fun φ70 => by kernel_rfl) ?_
   intro φ70 w70 s
   refine ops_done (by kernel_rfl) ?_
   refine wp_seq ?_
   refine region_rule ?_
   refine ops_rule (C := []) [(r, .cells #[.slice a l.length c, .int .i64 ((p : Nat) : Int), .int .i64 6] 102)] [] 3 [] 0 (fun φ71 => [(24, .int .i64 2), (23, .pointer (some ⟨r, 0, none⟩)), (22, .int .u64 0)]) (fun φ71 => [(r, .cells #[.slice a l.length c, .int .i64 ((p : Nat) : Int), .int .i64 6] 102)]) (fun φ71 => []) s trivial (fun φ71 => by kernel_rfl) ?_
   intro φ71 w71 s
   refine callB_rule (b := (r, .cells #[.slice a l.length c, .int .i64 ((p : Nat) : Int), .int .i64 6] 102)) (H := [(r, .cells #[.slice a l.length c, .int .i64 ((p : Nat) : Int), .int .i64 6] 102)]) (F := []) (Hr := []) (some 25) 0 s (by kernel_rfl) (by kernel_rfl) (getG_c (e := 6) (z := ((2 : Nat) : Int)) (r := r) (p := p) hl (hn9) (by have hp0 := hp;  have hq0 := of_decide_eq_false hc47; omega)) (by kernel_rfl) ?_
   rintro v72 I72 w72 b72 le72 - h72 s
   obtain ⟨rfl, rfl⟩ := h72
   refine ops_rule (C := []) [(r, .cells #[.slice a l.length c, .int .i64 ((p + geD l p 6 (clampN ((2 : Nat) : Int)) : Nat) : Int), .int .i64 ((geE l p 6 (clampN ((2 : Nat) : Int)) : Nat) : Int)] 102)] [] 2 [] 0 (fun φ73 => [(6, .int .u64 (IntKind.wrap .u64 (((0 : Nat) : Int) + ((geV l p 6 (clampN ((2 : Nat) : Int)) : Nat) : Int)))), (26, .int .u64 (IntKind.wrap .u64 (((0 : Nat) : Int) + ((geV l p 6 (clampN ((2 : Nat) : Int)) : Nat) : Int))))]) (fun φ73 => [(r, .cells #[.slice a l.length c, .int .i64 ((p + geD l p 6 (clampN ((2 : Nat) : Int)) : Nat) : Int), .int .i64 ((geE l p 6 (clampN ((2 : Nat) : Int)) : Nat) : Int)] 102)]) (fun φ73 => []) s trivial (fun φ73 => by kernel_rfl) ?_
   intro φ73 w73 s
   refine ops_done (by kernel_rfl) ?_
   refine wp_seq ?_
   refine wp_seq ?_
   refine region_rule ?_
   refine ops_rule (C := []) [(r, .cells #[.slice a l.length c, .int .i64 ((p + geD l p 6 (clampN ((2 : Nat) : Int)) : Nat) : Int), .int .i64 ((geE l p 6 (clampN ((2 : Nat) : Int)) : Nat) : Int)] 102)] [] 6 [.o 0] 0 (fun φ74 => [(32, .bool (((geE l p 6 (clampN ((2 : Nat) : Int)) : Nat) : Int) != ((0 : Nat) : Int))), (31, .bool (((geE l p 6 (clampN ((2 : Nat) : Int)) : Nat) : Int) != ((0 : Nat) : Int))), (30, .int .i64 ((geE l p 6 (clampN ((2 : Nat) : Int)) : Nat) : Int)), (29, .pointer (some ⟨r, 2, none⟩)), (28, .pointer (some ⟨r, 0, none⟩)), (27, .pointer (some ⟨r, 0, none⟩))]) (fun φ74 => [(r, .cells #[.slice a l.length c, .int .i64 ((p + geD l p 6 (clampN ((2 : Nat) : Int)) : Nat) : Int), .int .i64 ((geE l p 6 (clampN ((2 : Nat) : Int)) : Nat) : Int)] 102)]) (fun φ74 => [r]) s trivial (fun φ74 => by kernel_rfl) ?_
   intro φ74 w74 s
   rw [nat_neq (a := (geE l p 6 (clampN ((2 : Nat) : Int)))) (b := 0)]
   rcases Bool.eq_false_or_eq_true (decide ((geE l p 6 (clampN ((2 : Nat) : Int))) ≠ 0)) with hc75 | hc75
   ·
    rw [hc75]
    refine ops_rule (C := []) [(r, .cells #[.slice a l.length c, .int .i64 ((p + geD l p 6 (clampN ((2 : Nat) : Int)) : Nat) : Int), .int .i64 ((geE l p 6 (clampN ((2 : Nat) : Int)) : Nat) : Int)] 102)] [] 8 [] 0 (fun φ76 => [(40, .bool true), (39, undef), (38, undef), (37, undef), (36, .bool true), (35, .bool true), (34, undef), (33, undef)]) (fun φ76 => [(r, .cells #[.slice a l.length c, .int .i64 ((p + geD l p 6 (clampN ((2 : Nat) : Int)) : Nat) : Int), .int .i64 ((geE l p 6 (clampN ((2 : Nat) : Int)) : Nat) : Int)] 102)]) (fun φ76 => []) s trivial (fun φ76 => by kernel_rfl) ?_
    intro φ76 w76 s
    refine ops_done (by kernel_rfl) ?_
    refine cond_true_rule (b := true) (by kernel_rfl) rfl ?_
    refine wp_seq ?_
    refine region_rule ?_
    refine ops_rule (C := []) [(r, .cells #[.slice a l.length c, .int .i64 ((p + geD l p 6 (clampN ((2 : Nat) : Int)) : Nat) : Int), .int .i64 ((geE l p 6 (clampN ((2 : Nat) : Int)) : Nat) : Int)] 102)] [] 9 [.o 0, .o 0] 0 (fun φ77 => [(47, .pointer (some ⟨r, 2, none⟩)), (46, .pointer (some ⟨r, 0, none⟩)), (45, .pointer (some ⟨r, 1, none⟩)), (44, .pointer (some ⟨r, 0, none⟩)), (43, .int .i64 ((p : Nat) : Int)), (42, .pointer (some ⟨r, 0, none⟩)), (41, .pointer (some ⟨r, 0, none⟩))]) (fun φ77 => [(r, .cells #[.slice a l.length c, .int .i64 ((p : Nat) : Int), .int .i64 6] 102)]) (fun φ77 => [r, r]) s trivial (fun φ77 => by kernel_rfl) ?_
    intro φ77 w77 s
    refine ops_done (by kernel_rfl) ?_
    refine wp_seq ?_
    refine region_rule ?_
    refine ops_rule (C := []) [(r, .cells #[.slice a l.length c, .int .i64 ((p : Nat) : Int), .int .i64 6] 102)] [] 1 [] 0 (fun φ78 => [(2, .int .u64 0)]) (fun φ78 => [(r, .cells #[.slice a l.length c, .int .i64 ((p : Nat) : Int), .int .i64 6] 102)]) (fun φ78 => []) s trivial (fun φ78 => by kernel_rfl) ?_
    intro φ78 w78 s
    refine ops_done (by kernel_rfl) ?_
    refine wp_ret ?_
    refine ret_rule (C := []) [(r, .cells #[.slice a l.length c, .int .i64 ((p : Nat) : Int), .int .i64 6] 102)] [] (.int .u64 0) [] [] s trivial (by kernel_rfl) ?_
    exact ⟨_, _, _, rfl, s, (by have h8 := num_out (j := 0) (OnesL.start hp) (of_decide_eq_false hc47); exact ⟨_, rfl, rfl, (by rw [h8.1]; rfl), (by rw [h8.2.1, h8.2.2]; rfl)⟩)⟩
   ·
    exact absurd (of_decide_eq_false hc75) (fun q => q (by rw [ge6]; decide))

end Go.Proofs.Ytgmigcmhnmmdkaa

/- The program's bytes, of nothing too. -/
set_option linter.all false
set_option maxRecDepth 100000
namespace Go.Proofs.Ytgmigcmhnmmdkaa
open Go.RowKit Go.Sep
attribute [local irreducible] Go.wpList Go.Code.wp

theorem bytes0_c {I : IM} {b cnt : Nat} : FunM Try.prog 27 #[.pointer (some ⟨b, 0, none⟩)] I [(b, .cells #[.slice none 0 0, .int .i64 ((cnt : Nat) : Int)] 91)] (fun v J H' => ∃ (b' : OB) (F' : List OB), H' = b' :: F' ∧ b'.1 = b ∧ ∃ (a : Option Addr) (c : Nat), v = .slice a 0 c ∧ b' = (b, .cells #[.slice none 0 0, .int .i64 ((cnt : Nat) : Int)] 91) ∧ RowH 5 1 (.slice none 0 0) 0 (([] : List UInt8).map bV) F' ∧ BSl J [] (.slice a 0 c)) := by
 refine enterM_rule 10 [(0, .pointer (some ⟨b, 0, none⟩))] Try.func27 rfl (by kernel_rfl) ?_
 intro w s
 refine wp_seq ?_
 refine region_rule ?_
 refine ops_rule (C := []) [(b, .cells #[.slice none 0 0, .int .i64 ((cnt : Nat) : Int)] 91)] [] 1 [] 0 (fun φ1 => [(2, .slice none 0 0)]) (fun φ1 => [(b, .cells #[.slice none 0 0, .int .i64 ((cnt : Nat) : Int)] 91)]) (fun φ1 => []) s trivial (fun φ1 => by kernel_rfl) ?_
 intro φ1 w1 s
 refine ops_done (by kernel_rfl) ?_
 refine wp_seq ?_
 refine wp_seq ?_
 refine region_rule ?_
 refine ops_rule (C := []) [(b, .cells #[.slice none 0 0, .int .i64 ((cnt : Nat) : Int)] 91)] [] 2 [] 0 (fun φ2 => [(4, .bool false), (3, .pointer (some ⟨b, 0, none⟩))]) (fun φ2 => [(b, .cells #[.slice none 0 0, .int .i64 ((cnt : Nat) : Int)] 91)]) (fun φ2 => []) s trivial (fun φ2 => by kernel_rfl) ?_
 intro φ2 w2 s
 refine ops_done (by kernel_rfl) ?_
 refine cond_false_rule (b := false) (by kernel_rfl) rfl ?_
 refine wp_skip ?_
 refine wp_seq ?_
 refine region_rule ?_
 refine ops_rule (C := []) [(b, .cells #[.slice none 0 0, .int .i64 ((cnt : Nat) : Int)] 91)] [] 4 [.o 0] 0 (fun φ3 => [(8, .slice none 0 0), (7, .pointer (some ⟨b, 0, none⟩)), (6, .pointer (some ⟨b, 0, none⟩)), (5, .pointer (some ⟨b, 0, none⟩))]) (fun φ3 => [(b, .cells #[.slice none 0 0, .int .i64 ((cnt : Nat) : Int)] 91)]) (fun φ3 => [b]) s trivial (fun φ3 => by kernel_rfl) ?_
 intro φ3 w3 s
 refine call_rule (some 9) s (clone_none (n := 0) (c := 0)) (by kernel_rfl) ?_
 intro v4 I4 w4 le4 h4 s
 obtain rfl := h4
 refine ops_rule (C := []) [(b, .cells #[.slice none 0 0, .int .i64 ((cnt : Nat) : Int)] 91)] [] 1 [] 0 (fun φ5 => [(2, .slice none 0 0)]) (fun φ5 => [(b, .cells #[.slice none 0 0, .int .i64 ((cnt : Nat) : Int)] 91)]) (fun φ5 => []) s trivial (fun φ5 => by kernel_rfl) ?_
 intro φ5 w5 s
 refine ops_done (by kernel_rfl) ?_
 refine wp_ret ?_
 refine ret_rule (C := []) [(b, .cells #[.slice none 0 0, .int .i64 ((cnt : Nat) : Int)] 91)] [] (.slice none 0 0) [] [] s trivial (by kernel_rfl) ?_
 replace s := s.drop (List.Sublist.append (List.Sublist.cons₂ _ List.Sublist.slnil) (List.Sublist.refl []))
 exact ⟨_, _, _, rfl, s, ⟨_, _, rfl, rfl, _, _, rfl, rfl, row_nilB, bsl_nil _⟩⟩

theorem bytes1_c {I : IM} {b cnt g cap : Nat} {cur : Array Value} (hr : RowH 5 1 (.slice (some ⟨g, 0, none⟩) 0 cap) 0 (([] : List UInt8).map bV) [(g, .cells cur 5)]) : FunM Try.prog 27 #[.pointer (some ⟨b, 0, none⟩)] I [(b, .cells #[.slice (some ⟨g, 0, none⟩) 0 cap, .int .i64 ((cnt : Nat) : Int)] 91), (g, .cells cur 5)] (fun v J H' => ∃ (b' : OB) (F' : List OB), H' = b' :: F' ∧ b'.1 = b ∧ ∃ (a : Option Addr) (c : Nat), v = .slice a 0 c ∧ b' = (b, .cells #[.slice (some ⟨g, 0, none⟩) 0 cap, .int .i64 ((cnt : Nat) : Int)] 91) ∧ RowH 5 1 (.slice (some ⟨g, 0, none⟩) 0 cap) 0 (([] : List UInt8).map bV) F' ∧ BSl J [] (.slice a 0 c)) := by
 refine enterM_rule 10 [(0, .pointer (some ⟨b, 0, none⟩))] Try.func27 rfl (by kernel_rfl) ?_
 intro w s
 refine wp_seq ?_
 refine region_rule ?_
 refine ops_rule (C := []) [(b, .cells #[.slice (some ⟨g, 0, none⟩) 0 cap, .int .i64 ((cnt : Nat) : Int)] 91), (g, .cells cur 5)] [] 1 [] 0 (fun φ1 => [(2, .slice none 0 0)]) (fun φ1 => [(b, .cells #[.slice (some ⟨g, 0, none⟩) 0 cap, .int .i64 ((cnt : Nat) : Int)] 91), (g, .cells cur 5)]) (fun φ1 => []) s trivial (fun φ1 => by kernel_rfl) ?_
 intro φ1 w1 s
 refine ops_done (by kernel_rfl) ?_
 refine wp_seq ?_
 refine wp_seq ?_
 refine region_rule ?_
 refine ops_rule (C := []) [(b, .cells #[.slice (some ⟨g, 0, none⟩) 0 cap, .int .i64 ((cnt : Nat) : Int)] 91), (g, .cells cur 5)] [] 2 [] 0 (fun φ2 => [(4, .bool false), (3, .pointer (some ⟨b, 0, none⟩))]) (fun φ2 => [(b, .cells #[.slice (some ⟨g, 0, none⟩) 0 cap, .int .i64 ((cnt : Nat) : Int)] 91), (g, .cells cur 5)]) (fun φ2 => []) s trivial (fun φ2 => by kernel_rfl) ?_
 intro φ2 w2 s
 refine ops_done (by kernel_rfl) ?_
 refine cond_false_rule (b := false) (by kernel_rfl) rfl ?_
 refine wp_skip ?_
 refine wp_seq ?_
 refine region_rule ?_
 refine ops_rule (C := []) [(b, .cells #[.slice (some ⟨g, 0, none⟩) 0 cap, .int .i64 ((cnt : Nat) : Int)] 91), (g, .cells cur 5)] [] 4 [.o 0] 0 (fun φ3 => [(8, .slice (some ⟨g, 0, none⟩) 0 cap), (7, .pointer (some ⟨b, 0, none⟩)), (6, .pointer (some ⟨b, 0, none⟩)), (5, .pointer (some ⟨b, 0, none⟩))]) (fun φ3 => [(b, .cells #[.slice (some ⟨g, 0, none⟩) 0 cap, .int .i64 ((cnt : Nat) : Int)] 91), (g, .cells cur 5)]) (fun φ3 => [b]) s trivial (fun φ3 => by kernel_rfl) ?_
 intro φ3 w3 s
 have hle4 : IM.Le I (IM.add I g (.cells cur 5)) := IM.le_add (s.free (g, .cells cur 5) (by simp)) _
 refine callLF_rule (H := ([(b, .cells #[.slice (some ⟨g, 0, none⟩) 0 cap, .int .i64 ((cnt : Nat) : Int)] 91), (g, .cells cur 5)] ++ [])) (R := fun v F' => RowH 5 1 v (([] : List UInt8)).length ((([] : List UInt8)).map bV) F') (some 9) s (IM.add I g (.cells cur 5)) hle4 (add_sub (by simp)) (clone_row (row_lend (I := I) hr) (by decide)) (by kernel_rfl) ?_
 intro v5 w5 F5 h5 s
 obtain ⟨I6, le6, hb6, s⟩ := freeze_row (H := [(b, .cells #[.slice (some ⟨g, 0, none⟩) 0 cap, .int .i64 ((cnt : Nat) : Int)] 91), (g, .cells cur 5)]) (F := F5) s h5
 obtain ⟨a6, c6, hv6, hc6, hb6⟩ := hb6.open
 subst hv6
 refine ops_rule (C := []) [(b, .cells #[.slice (some ⟨g, 0, none⟩) 0 cap, .int .i64 ((cnt : Nat) : Int)] 91), (g, .cells cur 5)] [] 1 [] 0 (fun φ7 => [(2, .slice a6 ((([] : List UInt8)).length) c6)]) (fun φ7 => [(b, .cells #[.slice (some ⟨g, 0, none⟩) 0 cap, .int .i64 ((cnt : Nat) : Int)] 91), (g, .cells cur 5)]) (fun φ7 => []) s trivial (fun φ7 => by kernel_rfl) ?_
 intro φ7 w7 s
 refine ops_done (by kernel_rfl) ?_
 refine wp_ret ?_
 refine ret_rule (C := []) [(b, .cells #[.slice (some ⟨g, 0, none⟩) 0 cap, .int .i64 ((cnt : Nat) : Int)] 91), (g, .cells cur 5)] [] (.slice a6 ((([] : List UInt8)).length) c6) [] [] s trivial (by kernel_rfl) ?_
 replace s := s.drop (List.Sublist.append (List.Sublist.cons₂ _ (List.Sublist.cons₂ _ List.Sublist.slnil)) (List.Sublist.refl []))
 exact ⟨_, _, _, rfl, s, ⟨_, _, rfl, rfl, _, _, rfl, rfl, hr, hb6⟩⟩

theorem bytesA_c {I : IM} {b cnt : Nat} {bs : List Bool} {v0 : Value} {F : List OB} (hl9 : bs.length ≤ 1000000) (h : RowH 5 1 v0 (pk bs).length ((pk bs).map bV) F) : FunM Try.prog 27 #[.pointer (some ⟨b, 0, none⟩)] I ((b, .cells #[v0, .int .i64 ((cnt : Nat) : Int)] 91) :: F) (fun v J H' => ∃ (b' : OB) (F' : List OB), H' = b' :: F' ∧ b'.1 = b ∧ ∃ (a : Option Addr) (c : Nat), v = .slice a (List.length (pk bs)) c ∧ b' = (b, .cells #[v0, .int .i64 ((cnt : Nat) : Int)] 91) ∧ RowH 5 1 v0 (pk bs).length ((pk bs).map bV) F' ∧ BSl J (pk bs) (.slice a (List.length (pk bs)) c)) := by
  by_cases hp : 0 < bs.length
  · exact bytes_c hp hl9 h
  · have : bs = [] := List.length_eq_zero_iff.1 (by omega)
    subst this
    have h' : RowH 5 1 v0 0 (([] : List UInt8).map bV) F := h
    rcases h'.2 with ⟨rfl, _, rfl⟩ | ⟨g, cap, cur, rfl, rfl, _⟩
    · exact bytes0_c
    · exact bytes1_c h'

end Go.Proofs.Ytgmigcmhnmmdkaa

