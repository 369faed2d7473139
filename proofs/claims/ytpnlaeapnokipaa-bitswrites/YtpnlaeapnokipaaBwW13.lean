/- Bits are read. -/
import Derived.Test.YtpnlaeapnokipaaBwW12
import Derived.Test.YtpnlaeapnokipaaBwB6
import Derived.Test.YtpnlaeapnokipaaBwC5
set_option linter.all false
set_option maxRecDepth 100000
namespace Go.Proofs.Ytpnlaeapnokipaa
open Go.RowKit Go.Sep
attribute [local irreducible] Go.wpList Go.Code.wp

theorem equal_c {I : IM} {l : List UInt8} {a a2 : Option Addr} {n c n2 c2 : Nat} (hl : BSl I l (.slice a n c)) (hl2 : BSl I l (.slice a2 n2 c2)) : Fun Try.prog 22 #[.slice a n c, .slice a2 n2 c2] I (fun v J => v = .bool true) := by
  obtain ⟨rfl, -⟩ := hl.cap
  obtain ⟨rfl, -⟩ := hl2.cap
  refine enter_rule 10 [(0, .slice a l.length c), (1, .slice a2 l.length c2)] Try.func22 rfl (by kernel_rfl) ?_
  intro w s
  refine wp_seq ?_
  refine region_rule ?_
  refine ops_rule (C := []) [] [] 1 [] 0 (fun φ1 => [(4, .bool false)]) (fun φ1 => []) (fun φ1 => []) s trivial (fun φ1 => by kernel_rfl) ?_
  intro φ1 w1 s
  refine ops_done (by kernel_rfl) ?_
  refine wp_seq ?_
  refine region_rule ?_
  refine ops_rule (C := []) [] [] 1 [] 0 (fun φ2 => [(5, .slice a l.length c)]) (fun φ2 => []) (fun φ2 => []) s trivial (fun φ2 => by kernel_rfl) ?_
  intro φ2 w2 s
  refine sem_rule (convert 34 9 (.slice a l.length c)) (some 6) (.string ⟨(l).toArray⟩) (by kernel_rfl) (run_b2s s.sub hl) ?_
  refine ops_rule (C := []) [] [] 1 [] 0 (fun φ3 => [(7, .slice a2 l.length c2)]) (fun φ3 => []) (fun φ3 => []) s trivial (fun φ3 => by kernel_rfl) ?_
  intro φ3 w3 s
  refine sem_rule (convert 34 9 (.slice a2 l.length c2)) (some 8) (.string ⟨(l).toArray⟩) (by kernel_rfl) (run_b2s s.sub hl2) ?_
  refine ops_rule (C := []) [] [] 2 [] 0 (fun φ4 => [(4, .bool ((⟨(l).toArray⟩ : ByteArray).toList == (⟨(l).toArray⟩ : ByteArray).toList)), (9, .bool ((⟨(l).toArray⟩ : ByteArray).toList == (⟨(l).toArray⟩ : ByteArray).toList))]) (fun φ4 => []) (fun φ4 => []) s trivial (fun φ4 => by kernel_rfl) ?_
  intro φ4 w4 s
  rw [beq_self_eq_true _]
  refine ops_done (by kernel_rfl) ?_
  refine wp_ret ?_
  refine ret_rule (C := []) [] [] (.bool true) [] [] s trivial (by kernel_rfl) ?_
  exact ⟨_, _, _, rfl, s, rfl⟩

theorem err_c {I : IM} {r e : Nat} {v0 v1 : Value} : FunM Try.prog 27 #[.pointer (some ⟨r, 0, none⟩)] I [(r, .cells #[v0, v1, .int .i64 ((e : Nat) : Int)] 99)] (fun v J H' => ∃ b' : OB, H' = [b'] ∧ b'.1 = r ∧ v = .int .i64 ((e : Nat) : Int) ∧ b' = (r, .cells #[v0, v1, .int .i64 ((e : Nat) : Int)] 99)) := by
  refine enterM_rule 9 [(0, .pointer (some ⟨r, 0, none⟩))] Try.func27 rfl (by kernel_rfl) ?_
  intro w s
  refine wp_seq ?_
  refine region_rule ?_
  refine ops_rule (C := []) [(r, .cells #[v0, v1, .int .i64 ((e : Nat) : Int)] 99)] [] 1 [] 0 (fun φ1 => [(2, .int .i64 0)]) (fun φ1 => [(r, .cells #[v0, v1, .int .i64 ((e : Nat) : Int)] 99)]) (fun φ1 => []) s trivial (fun φ1 => by kernel_rfl) ?_
  intro φ1 w1 s
  refine ops_done (by kernel_rfl) ?_
  refine wp_seq ?_
  refine wp_seq ?_
  refine region_rule ?_
  refine ops_rule (C := []) [(r, .cells #[v0, v1, .int .i64 ((e : Nat) : Int)] 99)] [] 2 [] 0 (fun φ2 => [(4, .bool false), (3, .pointer (some ⟨r, 0, none⟩))]) (fun φ2 => [(r, .cells #[v0, v1, .int .i64 ((e : Nat) : Int)] 99)]) (fun φ2 => []) s trivial (fun φ2 => by kernel_rfl) ?_
  intro φ2 w2 s
  refine ops_done (by kernel_rfl) ?_
  refine cond_false_rule (b := false) (by kernel_rfl) rfl ?_
  refine wp_skip ?_
  refine wp_seq ?_
  refine region_rule ?_
  refine ops_rule (C := []) [(r, .cells #[v0, v1, .int .i64 ((e : Nat) : Int)] 99)] [] 5 [.o 0] 0 (fun φ3 => [(2, .int .i64 ((e : Nat) : Int)), (8, .int .i64 ((e : Nat) : Int)), (7, .pointer (some ⟨r, 2, none⟩)), (6, .pointer (some ⟨r, 0, none⟩)), (5, .pointer (some ⟨r, 0, none⟩))]) (fun φ3 => [(r, .cells #[v0, v1, .int .i64 ((e : Nat) : Int)] 99)]) (fun φ3 => [r]) s trivial (fun φ3 => by kernel_rfl) ?_
  intro φ3 w3 s
  refine ops_done (by kernel_rfl) ?_
  refine wp_ret ?_
  refine ret_rule (C := []) [(r, .cells #[v0, v1, .int .i64 ((e : Nat) : Int)] 99)] [] (.int .i64 ((e : Nat) : Int)) [] [] s trivial (by kernel_rfl) ?_
  exact ⟨_, _, _, rfl, s, ⟨_, rfl, rfl, rfl, rfl⟩⟩

set_option maxHeartbeats 1000000 in
theorem left_c {I : IM} {l : List UInt8} {a : Option Addr} {n c : Nat} (hl : BSl I l (.slice a n c)) (hn9 : l.length ≤ 1000000) {r p : Nat} {e : Nat} (hp : p ≤ l.length * 8) : FunM Try.prog 28 #[.pointer (some ⟨r, 0, none⟩)] I [(r, .cells #[.slice a n c, .int .i64 ((p : Nat) : Int), .int .i64 ((e : Nat) : Int)] 99)] (fun v J H' => ∃ b' : OB, H' = [b'] ∧ b'.1 = r ∧ v = .int .i64 ((l.length * 8 - p : Nat) : Int) ∧ b' = (r, .cells #[.slice a n c, .int .i64 ((p : Nat) : Int), .int .i64 ((e : Nat) : Int)] 99)) := by
  obtain ⟨rfl, -⟩ := hl.cap
  refine enterM_rule 16 [(0, .pointer (some ⟨r, 0, none⟩))] Try.func28 rfl (by kernel_rfl) ?_
  intro w s
  refine wp_seq ?_
  refine region_rule ?_
  refine ops_rule (C := []) [(r, .cells #[.slice a l.length c, .int .i64 ((p : Nat) : Int), .int .i64 ((e : Nat) : Int)] 99)] [] 1 [] 0 (fun φ1 => [(2, .int .i64 0)]) (fun φ1 => [(r, .cells #[.slice a l.length c, .int .i64 ((p : Nat) : Int), .int .i64 ((e : Nat) : Int)] 99)]) (fun φ1 => []) s trivial (fun φ1 => by kernel_rfl) ?_
  intro φ1 w1 s
  refine ops_done (by kernel_rfl) ?_
  refine wp_seq ?_
  refine wp_seq ?_
  refine region_rule ?_
  refine ops_rule (C := []) [(r, .cells #[.slice a l.length c, .int .i64 ((p : Nat) : Int), .int .i64 ((e : Nat) : Int)] 99)] [] 2 [] 0 (fun φ2 => [(4, .bool false), (3, .pointer (some ⟨r, 0, none⟩))]) (fun φ2 => [(r, .cells #[.slice a l.length c, .int .i64 ((p : Nat) : Int), .int .i64 ((e : Nat) : Int)] 99)]) (fun φ2 => []) s trivial (fun φ2 => by kernel_rfl) ?_
  intro φ2 w2 s
  refine ops_done (by kernel_rfl) ?_
  refine cond_false_rule (b := false) (by kernel_rfl) rfl ?_
  refine wp_skip ?_
  refine wp_seq ?_
  refine draw_rule (C := []) ⟨(fun φ3 xs3 => [.look 0 [] [], .look 0 [] [], .look 0 [] [], .look 0 [.o 0] [r], .look 0 [] [], .sub 0 [] [] (.int .i64 (IntKind.wrap .i64 (((l.length : Nat) : Int) * ((8 : Nat) : Int)))), .look 0 [] [], .look 0 [] [], .look 0 [] [], .look 0 [.o 0] [r], .sub 0 [] [] (.int .i64 (IntKind.wrap .i64 (((l.length * 8 : Nat) : Int) - ((p : Nat) : Int)))), .look 0 [] []]), (fun φ3 xs3 => [.pointer (some ⟨r, 0, none⟩), .pointer (some ⟨r, 0, none⟩), .pointer (some ⟨r, 0, none⟩), .slice a l.length c, .int .i64 ((l.length : Nat) : Int), .int .i64 ((l.length * 8 : Nat) : Int), .pointer (some ⟨r, 0, none⟩), .pointer (some ⟨r, 0, none⟩), .pointer (some ⟨r, 1, none⟩), .int .i64 ((p : Nat) : Int), .int .i64 (((l.length * 8) - p : Nat) : Int), .int .i64 (((l.length * 8) - p : Nat) : Int)]), (fun φ3 xs3 => [[(r, .cells #[.slice a l.length c, .int .i64 ((p : Nat) : Int), .int .i64 ((e : Nat) : Int)] 99)]]), (fun φ3 xs3 => [[default, default, default, default, default, default, default, default, default, default, default, default]]), [], [1, 1, 1, 1, 1, 5, 1, 1, 1, 1, 5, 1]⟩ (fun j => ([MP.any, MP.any, MP.any, MP.any, MP.any, MP.any, MP.any, MP.any, MP.any, MP.any, MP.any, MP.any] : List MP).getD j MP.any) [] [5, 10] [] (fun φ3 xs3 => []) (fun φ3 xs3 => [(5, .pointer (some ⟨r, 0, none⟩)), (6, .pointer (some ⟨r, 0, none⟩)), (7, .pointer (some ⟨r, 0, none⟩)), (8, .slice a l.length c), (9, .int .i64 ((l.length : Nat) : Int)), (10, .int .i64 ((l.length * 8 : Nat) : Int)), (11, .pointer (some ⟨r, 0, none⟩)), (12, .pointer (some ⟨r, 0, none⟩)), (13, .pointer (some ⟨r, 1, none⟩)), (14, .int .i64 ((p : Nat) : Int)), (15, .int .i64 (((l.length * 8) - p : Nat) : Int)), (2, .int .i64 (((l.length * 8) - p : Nat) : Int))]) (fun φ3 xs3 => [(r, .cells #[.slice a l.length c, .int .i64 ((p : Nat) : Int), .int .i64 ((e : Nat) : Int)] 99)]) s trivial (by kernel_rfl) (by kernel_rfl) (fun _ _ => by kernel_rfl) (fun _ _ => by kernel_rfl) ⟨fun _ _ => by kernel_rfl, fun _ _ => by kernel_rfl, fun _ _ => by kernel_rfl, fun _ _ => by kernel_rfl⟩ (fun _ _ _ => by kernel_rfl) (fun _ _ => by kernel_rfl) (fun _ _ => by kernel_rfl) (fun _ _ => by kernel_rfl) (fun _ _ => by kernel_rfl) (fun _ _ => by kernel_rfl) ⟨kcast (A := ∀ (φ3 : Nat → Nat) (xs3 : Xs), (.int .i64 (IntKind.wrap .i64 (((l.length : Nat) : Int) * ((8 : Nat) : Int))) : Value) = .int .i64 ((l.length * 8 : Nat) : Int)) (by kernel_rfl) (fun φ3 xs3 => congrArg (Value.int .i64) ((nat_mulI (a := l.length) (b := 8) (by   (try simp only [List.length_drop, List.length_take, List.length_append, List.length_cons, List.length_nil]); omega)))), ⟨kcast (A := ∀ (φ3 : Nat → Nat) (xs3 : Xs), (.int .i64 (IntKind.wrap .i64 (((l.length * 8 : Nat) : Int) - ((p : Nat) : Int))) : Value) = .int .i64 (((l.length * 8) - p : Nat) : Int)) (by kernel_rfl) (fun φ3 xs3 => congrArg (Value.int .i64) ((nat_subI (a := (l.length * 8)) (b := p) (by   (try simp only [List.length_drop, List.length_take, List.length_append, List.length_cons, List.length_nil]); omega) (by   (try simp only [List.length_drop, List.length_take, List.length_append, List.length_cons, List.length_nil]); omega)))), trivial⟩⟩ trivial (by kernel_rfl) trivial ?k3
  case k3 =>
    rintro φ3 xs3 I3 w3 le3 s 
    replace hl := BSl.mono le3 hl
    refine wp_ret ?_
    refine ret_rule (C := []) [(r, .cells #[.slice a l.length c, .int .i64 ((p : Nat) : Int), .int .i64 ((e : Nat) : Int)] 99)] [] (.int .i64 (((l.length * 8) - p : Nat) : Int)) [] [] s trivial (by kernel_rfl) ?_
    exact ⟨_, _, _, rfl, s, ⟨_, rfl, rfl, rfl, rfl⟩⟩

set_option maxHeartbeats 1000000 in
theorem bit_c {I : IM} {l : List UInt8} {a : Option Addr} {n c : Nat} (hl : BSl I l (.slice a n c)) (hn9 : l.length ≤ 1000000) {r p : Nat} {e j : Nat} (hj : j < l.length * 8) : FunM Try.prog 67 #[.pointer (some ⟨r, 0, none⟩), .int .i64 ((j : Nat) : Int)] I [(r, .cells #[.slice a n c, .int .i64 ((p : Nat) : Int), .int .i64 ((e : Nat) : Int)] 99)] (fun v J H' => ∃ b' : OB, H' = [b'] ∧ b'.1 = r ∧ v = .int .u64 (((bitB l j).toNat : Nat) : Int) ∧ b' = (r, .cells #[.slice a n c, .int .i64 ((p : Nat) : Int), .int .i64 ((e : Nat) : Int)] 99)) := by
  obtain ⟨rfl, -⟩ := hl.cap
  refine enterM_rule 18 [(0, .pointer (some ⟨r, 0, none⟩)), (1, .int .i64 ((j : Nat) : Int))] Try.func67 rfl (by kernel_rfl) ?_
  intro w s
  refine wp_seq ?_
  refine region_rule ?_
  refine ops_rule (C := []) [(r, .cells #[.slice a l.length c, .int .i64 ((p : Nat) : Int), .int .i64 ((e : Nat) : Int)] 99)] [] 1 [] 0 (fun φ1 => [(4, .int .u64 0)]) (fun φ1 => [(r, .cells #[.slice a l.length c, .int .i64 ((p : Nat) : Int), .int .i64 ((e : Nat) : Int)] 99)]) (fun φ1 => []) s trivial (fun φ1 => by kernel_rfl) ?_
  intro φ1 w1 s
  refine ops_done (by kernel_rfl) ?_
  refine wp_seq ?_
  refine draw_rule (C := []) ⟨(fun φ2 xs2 => [.look 0 [] [], .look 0 [] [], .look 0 [] [], .look 0 [.o 0] [r], .look 0 [] [], .sub 0 [] [] (.int .i64 (IntKind.wrap .i64 (Int.tdiv ((j : Nat) : Int) ((8 : Nat) : Int)))), .ran (Instr.indexAt 34 (.slice a l.length c) (.int .i64 ((j / 8 : Nat) : Int))), .ran (Instr.loadAt 5 (.pointer (pAt a (j / 8)))), .sub 0 [] [] (.int .u64 (IntKind.wrap .u64 (((l.getD (j / 8) 0).toNat : Nat) : Int))), .look 0 [] [], .call 77 #[.int .i64 ((j : Nat) : Int)], .ran (binOp .shr 27 (.int .u64 (((l.getD (j / 8) 0).toNat : Nat) : Int)) (.int .i64 ((7 - j % 8 : Nat) : Int))), .ran (binOp .and 27 (.int .u64 ((((l.getD (j / 8) 0).toNat) / 2 ^ (7 - j % 8) : Nat) : Int)) (.int .u64 ((1 : Nat) : Int))), .look 0 [] []]), (fun φ2 xs2 => [.pointer (some ⟨r, 0, none⟩), .pointer (some ⟨r, 0, none⟩), .pointer (some ⟨r, 0, none⟩), .slice a l.length c, .int .i64 ((j : Nat) : Int), .int .i64 ((j / 8 : Nat) : Int), .pointer (pAt a (j / 8)), .int .u8 (((l.getD (j / 8) 0).toNat : Nat) : Int), .int .u64 (((l.getD (j / 8) 0).toNat : Nat) : Int), .int .i64 ((j : Nat) : Int), .int .i64 ((7 - j % 8 : Nat) : Int), .int .u64 ((((l.getD (j / 8) 0).toNat) / 2 ^ (7 - j % 8) : Nat) : Int), .int .u64 ((band 64 (((l.getD (j / 8) 0).toNat) / 2 ^ (7 - j % 8)) 1 : Nat) : Int), .int .u64 ((band 64 (((l.getD (j / 8) 0).toNat) / 2 ^ (7 - j % 8)) 1 : Nat) : Int)]), (fun φ2 xs2 => [[(r, .cells #[.slice a l.length c, .int .i64 ((p : Nat) : Int), .int .i64 ((e : Nat) : Int)] 99)]]), (fun φ2 xs2 => [[default, default, default, default, default, default, default, default, default, default, default, default, default, default]]), [], [1, 1, 1, 1, 1, 5, 6, 6, 5, 1, 3, 6, 6, 1]⟩ (fun j => ([MP.any, MP.any, MP.any, MP.any, MP.any, MP.any, MP.any, MP.any, MP.any, MP.any, MP.any, MP.any, MP.any, MP.any] : List MP).getD j MP.any) [10] [5, 8] [6, 7, 11, 12] (fun φ2 xs2 => []) (fun φ2 xs2 => [(5, .pointer (some ⟨r, 0, none⟩)), (6, .pointer (some ⟨r, 0, none⟩)), (7, .pointer (some ⟨r, 0, none⟩)), (8, .slice a l.length c), (9, .int .i64 ((j : Nat) : Int)), (10, .int .i64 ((j / 8 : Nat) : Int)), (11, .pointer (pAt a (j / 8))), (12, .int .u8 (((l.getD (j / 8) 0).toNat : Nat) : Int)), (13, .int .u64 (((l.getD (j / 8) 0).toNat : Nat) : Int)), (14, .int .i64 ((j : Nat) : Int)), (15, .int .i64 ((7 - j % 8 : Nat) : Int)), (16, .int .u64 ((((l.getD (j / 8) 0).toNat) / 2 ^ (7 - j % 8) : Nat) : Int)), (17, .int .u64 ((band 64 (((l.getD (j / 8) 0).toNat) / 2 ^ (7 - j % 8)) 1 : Nat) : Int)), (4, .int .u64 ((band 64 (((l.getD (j / 8) 0).toNat) / 2 ^ (7 - j % 8)) 1 : Nat) : Int))]) (fun φ2 xs2 => [(r, .cells #[.slice a l.length c, .int .i64 ((p : Nat) : Int), .int .i64 ((e : Nat) : Int)] 99)]) s trivial (by kernel_rfl) (by kernel_rfl) (fun _ _ => by kernel_rfl) (fun _ _ => by kernel_rfl) ⟨fun _ _ => by kernel_rfl, fun _ _ => by kernel_rfl, fun _ _ => by kernel_rfl, fun _ _ => by kernel_rfl⟩ (fun _ _ _ => by kernel_rfl) (fun _ _ => by kernel_rfl) (fun _ _ => by kernel_rfl) (fun _ _ => by kernel_rfl) (fun _ _ => by kernel_rfl) (fun _ _ => by kernel_rfl) ⟨kcast (A := ∀ (φ2 : Nat → Nat) (xs2 : Xs), (.int .i64 (IntKind.wrap .i64 (Int.tdiv ((j : Nat) : Int) ((8 : Nat) : Int))) : Value) = .int .i64 ((j / 8 : Nat) : Int)) (by kernel_rfl) (fun φ2 xs2 => congrArg (Value.int .i64) ((nat_quoI (a := j) (b := 8) (by   omega)))), ⟨kcast (A := ∀ (φ2 : Nat → Nat) (xs2 : Xs), (.int .u64 (IntKind.wrap .u64 (((l.getD (j / 8) 0).toNat : Nat) : Int)) : Value) = .int .u64 (((l.getD (j / 8) 0).toNat : Nat) : Int)) (by kernel_rfl) (fun φ2 xs2 => congrArg (Value.int .u64) ((nat_wrapU (a := ((l.getD (j / 8) 0).toNat)) (by  have := byte_lt (l.getD (j / 8) 0);  omega)))), trivial⟩⟩ ⟨kcast (A := ∀ (φ2 : Nat → Nat) (xs2 : Xs) (J : IM) (w : World), I.Le J → J.Sub w → ((Instr.indexAt 34 (.slice a l.length c) (.int .i64 ((j / 8 : Nat) : Int))) : Sem Value).run Try.prog w = .ok (.pointer (pAt a (j / 8))) w) (by kernel_rfl) (fun φ2 xs2 J w hJ hS => bsl_idx (BSl.mono hJ hl) (by   omega)), ⟨kcast (A := ∀ (φ2 : Nat → Nat) (xs2 : Xs) (J : IM) (w : World), I.Le J → J.Sub w → ((Instr.loadAt 5 (.pointer (pAt a (j / 8)))) : Sem Value).run Try.prog w = .ok (.int .u8 (((l.getD (j / 8) 0).toNat : Nat) : Int)) w) (by kernel_rfl) (fun φ2 xs2 J w hJ hS => bsl_ld hS (BSl.mono hJ hl) (by   omega)), ⟨kcast (A := ∀ (φ2 : Nat → Nat) (xs2 : Xs) (J : IM) (w : World), I.Le J → J.Sub w → ((binOp .shr 27 (.int .u64 (((l.getD (j / 8) 0).toNat : Nat) : Int)) (.int .i64 ((7 - j % 8 : Nat) : Int))) : Sem Value).run Try.prog w = .ok (.int .u64 ((((l.getD (j / 8) 0).toNat) / 2 ^ (7 - j % 8) : Nat) : Int)) w) (by kernel_rfl) (fun φ2 xs2 J w hJ hS => run_shrU (by show _ < 18446744073709551616;  have := byte_lt (l.getD (j / 8) 0);  omega)), ⟨kcast (A := ∀ (φ2 : Nat → Nat) (xs2 : Xs) (J : IM) (w : World), I.Le J → J.Sub w → ((binOp .and 27 (.int .u64 ((((l.getD (j / 8) 0).toNat) / 2 ^ (7 - j % 8) : Nat) : Int)) (.int .u64 ((1 : Nat) : Int))) : Sem Value).run Try.prog w = .ok (.int .u64 ((band 64 (((l.getD (j / 8) 0).toNat) / 2 ^ (7 - j % 8)) 1 : Nat) : Int)) w) (by kernel_rfl) (fun φ2 xs2 J w hJ hS => run_bit64.2.1), trivial⟩⟩⟩⟩ (by kernel_rfl) ⟨?c2_10, trivial⟩ ?k2
  case c2_10 =>
    refine kcast (A := ∀ (φ2 : Nat → Nat) (xs2 : Xs) (J10_2 : IM), I.Le J10_2 → Fun Try.prog 77 #[.int .i64 ((j : Nat) : Int)] J10_2 (fun v J' => ∃ x : UX, v = .int .i64 ((7 - j % 8 : Nat) : Int) ∧ (True))) (by kernel_rfl) ?_
    intro φ2 xs2 J10_2 leJ
    exact Fun.mono (shift_c (n := j)) (fun v J' _ h => ⟨UX.d, h, trivial⟩)
  case k2 =>
    rintro φ2 xs2 I2 w2 le2 s _
    replace hl := BSl.mono le2 hl
    refine wp_ret ?_
    refine ret_rule (C := []) [(r, .cells #[.slice a l.length c, .int .i64 ((p : Nat) : Int), .int .i64 ((e : Nat) : Int)] 99)] [] (.int .u64 ((band 64 (((l.getD (j / 8) 0).toNat) / 2 ^ (7 - j % 8)) 1 : Nat) : Int)) [] [] s trivial (by kernel_rfl) ?_
    exact ⟨_, _, _, rfl, s, ⟨_, rfl, rfl, by rw [band64_one (Nat.lt_of_le_of_lt (Nat.div_le_self _ _) (by have := byte_lt (l.getD (j / 8) 0); omega)), bit_read], rfl⟩⟩

theorem rd_63 {l : List UInt8} {a i k : Nat} (h : i < k) (hk : k ≤ 64) : rd l a i < 9223372036854775808 :=
  Nat.lt_of_lt_of_le (rd_lt l a i) (show 2 ^ i ≤ 2 ^ 63 from Nat.pow_le_pow_right (by decide) (by omega))
theorem bit2 (l : List UInt8) (j : Nat) : (bitB l j).toNat < 2 := by have := Bool.toNat_le (bitB l j); omega

set_option maxHeartbeats 2000000 in
theorem get_c {I : IM} {l : List UInt8} {a : Option Addr} {n c : Nat} (hl : BSl I l (.slice a n c)) (hn9 : l.length ≤ 1000000) {r p : Nat} {k : Nat} (hk : k ≤ 64) (hp : p + k ≤ l.length * 8) : FunM Try.prog 26 #[.pointer (some ⟨r, 0, none⟩), .int .i64 ((k : Nat) : Int)] I [(r, .cells #[.slice a n c, .int .i64 ((p : Nat) : Int), .int .i64 0] 99)] (fun v J H' => ∃ b' : OB, H' = [b'] ∧ b'.1 = r ∧ v = .int .u64 ((rd l p k : Nat) : Int) ∧ b' = (r, .cells #[.slice a n c, .int .i64 ((p + k : Nat) : Int), .int .i64 0] 99)) := by
  obtain ⟨rfl, -⟩ := hl.cap
  refine enterM_rule 44 [(0, .pointer (some ⟨r, 0, none⟩)), (1, .int .i64 ((k : Nat) : Int))] Try.func26 rfl (by kernel_rfl) ?_
  intro w s
  refine wp_seq ?_
  refine region_rule ?_
  refine ops_rule (C := []) [(r, .cells #[.slice a l.length c, .int .i64 ((p : Nat) : Int), .int .i64 0] 99)] [] 1 [] 0 (fun φ1 => [(4, .int .u64 0)]) (fun φ1 => [(r, .cells #[.slice a l.length c, .int .i64 ((p : Nat) : Int), .int .i64 0] 99)]) (fun φ1 => []) s trivial (fun φ1 => by kernel_rfl) ?_
  intro φ1 w1 s
  refine ops_done (by kernel_rfl) ?_
  refine wp_seq ?_
  refine region_rule ?_
  refine ops_rule (C := []) [(r, .cells #[.slice a l.length c, .int .i64 ((p : Nat) : Int), .int .i64 0] 99)] [] 1 [] 0 (fun φ2 => [(7, .int .i64 ((k : Nat) : Int))]) (fun φ2 => [(r, .cells #[.slice a l.length c, .int .i64 ((p : Nat) : Int), .int .i64 0] 99)]) (fun φ2 => []) s trivial (fun φ2 => by kernel_rfl) ?_
  intro φ2 w2 s
  refine call_rule (some 8) s (held_c (k := k) (by   omega)) (by kernel_rfl) ?_
  intro v3 I3 w3 le3 h3 s
  replace hl := BSl.mono le3 hl
  obtain rfl := h3
  refine ops_rule (C := []) [(r, .cells #[.slice a l.length c, .int .i64 ((p : Nat) : Int), .int .i64 0] 99)] [] 1 [] 0 (fun φ4 => [(1, .int .i64 ((k : Nat) : Int))]) (fun φ4 => [(r, .cells #[.slice a l.length c, .int .i64 ((p : Nat) : Int), .int .i64 0] 99)]) (fun φ4 => []) s trivial (fun φ4 => by kernel_rfl) ?_
  intro φ4 w4 s
  refine ops_done (by kernel_rfl) ?_
  refine wp_seq ?_
  refine wp_seq ?_
  refine region_rule ?_
  refine ops_rule (C := []) [(r, .cells #[.slice a l.length c, .int .i64 ((p : Nat) : Int), .int .i64 0] 99)] [] 1 [] 0 (fun φ5 => [(9, .pointer (some ⟨r, 0, none⟩))]) (fun φ5 => [(r, .cells #[.slice a l.length c, .int .i64 ((p : Nat) : Int), .int .i64 0] 99)]) (fun φ5 => []) s trivial (fun φ5 => by kernel_rfl) ?_
  intro φ5 w5 s
  refine callB_rule (b := (r, .cells #[.slice a l.length c, .int .i64 ((p : Nat) : Int), .int .i64 0] 99)) (H := [(r, .cells #[.slice a l.length c, .int .i64 ((p : Nat) : Int), .int .i64 0] 99)]) (F := []) (Hr := []) (some 10) 0 s (by kernel_rfl) (by kernel_rfl) (err_c (r := r) (v0 := .slice a l.length c) (v1 := .int .i64 ((p : Nat) : Int)) (e := 0)) (by kernel_rfl) ?_
  rintro v6 I6 w6 b6 le6 - h6 s
  replace hl := BSl.mono le6 hl
  obtain ⟨rfl, rfl⟩ := h6
  refine ops_rule (C := []) [(r, .cells #[.slice a l.length c, .int .i64 ((p : Nat) : Int), .int .i64 0] 99)] [] 1 [] 0 (fun φ7 => [(11, .bool false)]) (fun φ7 => [(r, .cells #[.slice a l.length c, .int .i64 ((p : Nat) : Int), .int .i64 0] 99)]) (fun φ7 => []) s trivial (fun φ7 => by kernel_rfl) ?_
  intro φ7 w7 s
  refine ops_done (by kernel_rfl) ?_
  refine cond_false_rule (b := false) (by kernel_rfl) rfl ?_
  refine wp_skip ?_
  refine wp_seq ?_
  refine wp_seq ?_
  refine region_rule ?_
  refine ops_rule (C := []) [(r, .cells #[.slice a l.length c, .int .i64 ((p : Nat) : Int), .int .i64 0] 99)] [] 2 [] 0 (fun φ8 => [(13, .pointer (some ⟨r, 0, none⟩)), (12, .int .i64 ((k : Nat) : Int))]) (fun φ8 => [(r, .cells #[.slice a l.length c, .int .i64 ((p : Nat) : Int), .int .i64 0] 99)]) (fun φ8 => []) s trivial (fun φ8 => by kernel_rfl) ?_
  intro φ8 w8 s
  refine callB_rule (b := (r, .cells #[.slice a l.length c, .int .i64 ((p : Nat) : Int), .int .i64 0] 99)) (H := [(r, .cells #[.slice a l.length c, .int .i64 ((p : Nat) : Int), .int .i64 0] 99)]) (F := []) (Hr := []) (some 14) 0 s (by kernel_rfl) (by kernel_rfl) (left_c (e := 0) (r := r) (p := p) hl (hn9) (by omega)) (by kernel_rfl) ?_
  rintro v9 I9 w9 b9 le9 - h9 s
  replace hl := BSl.mono le9 hl
  obtain ⟨rfl, rfl⟩ := h9
  refine ops_rule (C := []) [(r, .cells #[.slice a l.length c, .int .i64 ((p : Nat) : Int), .int .i64 0] 99)] [] 1 [] 0 (fun φ10 => [(15, .bool (decide (((k : Nat) : Int) > ((l.length * 8 - p : Nat) : Int))))]) (fun φ10 => [(r, .cells #[.slice a l.length c, .int .i64 ((p : Nat) : Int), .int .i64 0] 99)]) (fun φ10 => []) s trivial (fun φ10 => by kernel_rfl) ?_
  intro φ10 w10 s
  rw [nat_gtr (a := k) (b := (l.length * 8 - p))]
  refine ops_done (by kernel_rfl) ?_
  rcases Bool.eq_false_or_eq_true (decide ((l.length * 8 - p) < k)) with hc11 | hc11
  ·
    exact absurd (of_decide_eq_true hc11) (by omega)
  ·
    rw [hc11]
    refine cond_false_rule (b := false) (by kernel_rfl) rfl ?_
    refine wp_skip ?_
    refine wp_seq ?_
    refine region_rule ?_
    refine ops_rule (C := []) [(r, .cells #[.slice a l.length c, .int .i64 ((p : Nat) : Int), .int .i64 0] 99)] [] 1 [] 0 (fun φ12 => [(5, .int .u64 0)]) (fun φ12 => [(r, .cells #[.slice a l.length c, .int .i64 ((p : Nat) : Int), .int .i64 0] 99)]) (fun φ12 => []) s trivial (fun φ12 => by kernel_rfl) ?_
    intro φ12 w12 s
    refine ops_done (by kernel_rfl) ?_
    refine wp_seq ?_
    refine wp_seq ?_
    refine region_rule ?_
    refine ops_rule (C := []) [(r, .cells #[.slice a l.length c, .int .i64 ((p : Nat) : Int), .int .i64 0] 99)] [] 2 [] 0 (fun φ13 => [(20, .int .i64 0), (19, .int .i64 ((k : Nat) : Int))]) (fun φ13 => [(r, .cells #[.slice a l.length c, .int .i64 ((p : Nat) : Int), .int .i64 0] 99)]) (fun φ13 => []) s trivial (fun φ13 => by kernel_rfl) ?_
    intro φ13 w13 s
    refine ops_done (by kernel_rfl) ?_
    refine wp_block ?_
    have hle14 := IM.Le.refl I9
    refine loop_rule (fun (x : Nat) => [(0, .pointer (some ⟨r, 0, none⟩)), (1, .int .i64 ((k : Nat) : Int)), (19, .int .i64 ((k : Nat) : Int)), (5, .int .u64 ((rd l p x : Nat) : Int)), (20, .int .i64 ((x : Nat) : Int))]) (fun (x : Nat) => [(r, .cells #[.slice a l.length c, .int .i64 ((p : Nat) : Int), .int .i64 0] 99)]) (fun m (x : Nat) J => IM.Le I9 J ∧ x + m = k) (k) 0 s (by kernel_rfl) (List.Sublist.cons₂ _ List.Sublist.slnil) ⟨IM.Le.refl _, Nat.zero_add _⟩ ?_
    rintro m15 i15 I15 w15 ev15 s ⟨le15, hi15_0⟩
    try dsimp only at s hi15_0 ⊢
    replace hl := BSl.mono le15 hl
    replace hle14 := leMono le15 hle14
    refine wp_seq ?_
    refine region_rule ?_
    refine ops_rule (C := []) [(r, .cells #[.slice a l.length c, .int .i64 ((p : Nat) : Int), .int .i64 0] 99)] [] 1 [] 0 (fun φ16 => [(21, .bool (decide (((i15 : Nat) : Int) < ((k : Nat) : Int))))]) (fun φ16 => [(r, .cells #[.slice a l.length c, .int .i64 ((p : Nat) : Int), .int .i64 0] 99)]) (fun φ16 => []) s trivial (fun φ16 => by kernel_rfl) ?_
    intro φ16 w16 s
    rw [nat_lss (a := i15) (b := k)]
    refine ops_done (by kernel_rfl) ?_
    refine wp_seq ?_
    rcases Bool.eq_false_or_eq_true (decide (i15 < k)) with hc17 | hc17
    ·
      rw [hc17]
      refine cond_true_rule (b := true) (by kernel_rfl) rfl ?_
      refine wp_skip ?_
      refine wp_seq ?_
      refine wp_block ?_
      refine wp_seq ?_
      refine region_rule ?_
      refine ops_rule (C := []) [(r, .cells #[.slice a l.length c, .int .i64 ((p : Nat) : Int), .int .i64 0] 99)] [] 2 [] 0 (fun φ18 => [(6, .int .i64 ((i15 : Nat) : Int)), (22, .int .i64 ((i15 : Nat) : Int))]) (fun φ18 => [(r, .cells #[.slice a l.length c, .int .i64 ((p : Nat) : Int), .int .i64 0] 99)]) (fun φ18 => []) s trivial (fun φ18 => by kernel_rfl) ?_
      intro φ18 w18 s
      refine ops_done (by kernel_rfl) ?_
      refine region_rule ?_
      refine ops_rule (C := []) [(r, .cells #[.slice a l.length c, .int .i64 ((p : Nat) : Int), .int .i64 0] 99)] [] 1 [] 0 (fun φ19 => [(23, .int .u64 ((rd l p i15 : Nat) : Int))]) (fun φ19 => [(r, .cells #[.slice a l.length c, .int .i64 ((p : Nat) : Int), .int .i64 0] 99)]) (fun φ19 => []) s trivial (fun φ19 => by kernel_rfl) ?_
      intro φ19 w19 s
      refine sem_rule (binOp .shl 27 (.int .u64 ((rd l p i15 : Nat) : Int)) (.int .u64 ((1 : Nat) : Int))) (some 24) (.int .u64 ((bshl 64 (rd l p i15) 1 : Nat) : Int)) (by kernel_rfl) (run_shlU (.inr (.inr (.inl rfl)))) ?_
      refine ops_rule (C := []) [(r, .cells #[.slice a l.length c, .int .i64 ((p : Nat) : Int), .int .i64 0] 99)] [] 7 [.o 0] 0 (fun φ20 => [(31, .int .i64 (IntKind.wrap .i64 (((p : Nat) : Int) + ((i15 : Nat) : Int)))), (30, .int .i64 ((i15 : Nat) : Int)), (29, .int .i64 ((p : Nat) : Int)), (28, .pointer (some ⟨r, 1, none⟩)), (27, .pointer (some ⟨r, 0, none⟩)), (26, .pointer (some ⟨r, 0, none⟩)), (25, .pointer (some ⟨r, 0, none⟩))]) (fun φ20 => [(r, .cells #[.slice a l.length c, .int .i64 ((p : Nat) : Int), .int .i64 0] 99)]) (fun φ20 => [r]) s trivial (fun φ20 => by kernel_rfl) ?_
      intro φ20 w20 s
      rw [nat_addI (a := p) (b := i15) (by  have hq0 := of_decide_eq_false hc11; have hq1 := of_decide_eq_true hc17; omega)]
      refine callB_rule (b := (r, .cells #[.slice a l.length c, .int .i64 ((p : Nat) : Int), .int .i64 0] 99)) (H := [(r, .cells #[.slice a l.length c, .int .i64 ((p : Nat) : Int), .int .i64 0] 99)]) (F := []) (Hr := []) (some 32) 0 s (by kernel_rfl) (by kernel_rfl) (bit_c (e := 0) (r := r) (p := p) hl (hn9) (j := p + i15) (by have hq0 := of_decide_eq_false hc11; have hq1 := of_decide_eq_true hc17; omega)) (by kernel_rfl) ?_
      rintro v21 I21 w21 b21 le21 - h21 s
      replace hl := BSl.mono le21 hl
      replace hle14 := leMono le21 hle14
      obtain ⟨rfl, rfl⟩ := h21
      refine sem_rule (binOp .or 27 (.int .u64 ((bshl 64 (rd l p i15) 1 : Nat) : Int)) (.int .u64 (((bitB l (p + i15)).toNat : Nat) : Int))) (some 33) (.int .u64 ((bor 64 (bshl 64 (rd l p i15) 1) ((bitB l (p + i15)).toNat) : Nat) : Int)) (by kernel_rfl) (run_bit64.2.2.1) ?_
      refine ops_rule (C := []) [(r, .cells #[.slice a l.length c, .int .i64 ((p : Nat) : Int), .int .i64 0] 99)] [] 1 [] 0 (fun φ22 => [(5, .int .u64 ((bor 64 (bshl 64 (rd l p i15) 1) ((bitB l (p + i15)).toNat) : Nat) : Int))]) (fun φ22 => [(r, .cells #[.slice a l.length c, .int .i64 ((p : Nat) : Int), .int .i64 0] 99)]) (fun φ22 => []) s trivial (fun φ22 => by kernel_rfl) ?_
      intro φ22 w22 s
      refine ops_done (by kernel_rfl) ?_
      refine region_rule ?_
      refine ops_rule (C := []) [(r, .cells #[.slice a l.length c, .int .i64 ((p : Nat) : Int), .int .i64 0] 99)] [] 2 [] 0 (fun φ23 => [(20, .int .i64 (IntKind.wrap .i64 (((i15 : Nat) : Int) + ((1 : Nat) : Int)))), (34, .int .i64 (IntKind.wrap .i64 (((i15 : Nat) : Int) + ((1 : Nat) : Int))))]) (fun φ23 => [(r, .cells #[.slice a l.length c, .int .i64 ((p : Nat) : Int), .int .i64 0] 99)]) (fun φ23 => []) s trivial (fun φ23 => by kernel_rfl) ?_
      intro φ23 w23 s
      rw [nat_addI (a := i15) (b := 1) (by  have hq0 := of_decide_eq_false hc11; have hq1 := of_decide_eq_true hc17; omega)]
      refine ops_done (by kernel_rfl) ?_
      have hq9 := of_decide_eq_true hc17
      rw [bor64_one (rd_63 hq9 hk) (bit2 l (p + i15))]
      exact ⟨⟨m15 - 1, i15 + 1, _, _, _, by omega, rfl, s, (List.Sublist.cons₂ _ List.Sublist.slnil), by kernel_rfl, hle14, by show i15 + 1 + (m15 - 1) = k; omega⟩⟩
    ·
      rw [hc17]
      refine cond_false_rule (b := false) (by kernel_rfl) rfl ?_
      refine wp_exit ?_
      refine wp_seq ?_
      refine region_rule ?_
      refine ops_rule (C := []) [(r, .cells #[.slice a l.length c, .int .i64 ((p : Nat) : Int), .int .i64 0] 99)] [] 9 [.o 0, .o 0] 0 (fun φ24 => [(42, .pointer (some ⟨r, 1, none⟩)), (41, .pointer (some ⟨r, 0, none⟩)), (40, .int .i64 (IntKind.wrap .i64 (((p : Nat) : Int) + ((k : Nat) : Int)))), (39, .int .i64 ((k : Nat) : Int)), (38, .int .i64 ((p : Nat) : Int)), (37, .pointer (some ⟨r, 1, none⟩)), (36, .pointer (some ⟨r, 0, none⟩)), (35, .pointer (some ⟨r, 0, none⟩))]) (fun φ24 => [(r, .cells #[.slice a l.length c, .int .i64 (IntKind.wrap .i64 (((p : Nat) : Int) + ((k : Nat) : Int))), .int .i64 0] 99)]) (fun φ24 => [r, r]) s trivial (fun φ24 => by kernel_rfl) ?_
      intro φ24 w24 s
      rw [nat_addI (a := p) (b := k) (by  have hq0 := of_decide_eq_false hc11; have hq1 := of_decide_eq_false hc17; omega)] at s ⊢
      refine ops_done (by kernel_rfl) ?_
      refine wp_seq ?_
      refine region_rule ?_
      refine ops_rule (C := []) [(r, .cells #[.slice a l.length c, .int .i64 ((p + k : Nat) : Int), .int .i64 0] 99)] [] 2 [] 0 (fun φ25 => [(4, .int .u64 ((rd l p i15 : Nat) : Int)), (43, .int .u64 ((rd l p i15 : Nat) : Int))]) (fun φ25 => [(r, .cells #[.slice a l.length c, .int .i64 ((p + k : Nat) : Int), .int .i64 0] 99)]) (fun φ25 => []) s trivial (fun φ25 => by kernel_rfl) ?_
      intro φ25 w25 s
      refine ops_done (by kernel_rfl) ?_
      refine wp_ret ?_
      refine ret_rule (C := []) [(r, .cells #[.slice a l.length c, .int .i64 ((p + k : Nat) : Int), .int .i64 0] 99)] [] (.int .u64 ((rd l p i15 : Nat) : Int)) [] [] s trivial (by kernel_rfl) ?_
      have hq9 := of_decide_eq_false hc17
      have hi9 := hi15_0
      obtain rfl : k = i15 := (by omega)
      exact ⟨_, _, _, rfl, s, ⟨_, rfl, rfl, rfl, rfl⟩⟩

set_option maxHeartbeats 2000000 in
theorem get_bad {I : IM} {l : List UInt8} {a : Option Addr} {n c : Nat} (hl : BSl I l (.slice a n c)) (hn9 : l.length ≤ 1000000) {r p : Nat} {k : Nat} (hk : k ≤ 64) (hp : p ≤ l.length * 8) (hb : l.length * 8 - p < k) : FunM Try.prog 26 #[.pointer (some ⟨r, 0, none⟩), .int .i64 ((k : Nat) : Int)] I [(r, .cells #[.slice a n c, .int .i64 ((p : Nat) : Int), .int .i64 0] 99)] (fun v J H' => ∃ b' : OB, H' = [b'] ∧ b'.1 = r ∧ v = .int .u64 0 ∧ b' = (r, .cells #[.slice a n c, .int .i64 ((p : Nat) : Int), .int .i64 6] 99)) := by
  obtain ⟨rfl, -⟩ := hl.cap
  refine enterM_rule 44 [(0, .pointer (some ⟨r, 0, none⟩)), (1, .int .i64 ((k : Nat) : Int))] Try.func26 rfl (by kernel_rfl) ?_
  intro w s
  refine wp_seq ?_
  refine region_rule ?_
  refine ops_rule (C := []) [(r, .cells #[.slice a l.length c, .int .i64 ((p : Nat) : Int), .int .i64 0] 99)] [] 1 [] 0 (fun φ1 => [(4, .int .u64 0)]) (fun φ1 => [(r, .cells #[.slice a l.length c, .int .i64 ((p : Nat) : Int), .int .i64 0] 99)]) (fun φ1 => []) s trivial (fun φ1 => by kernel_rfl) ?_
  intro φ1 w1 s
  refine ops_done (by kernel_rfl) ?_
  refine wp_seq ?_
  refine region_rule ?_
  refine ops_rule (C := []) [(r, .cells #[.slice a l.length c, .int .i64 ((p : Nat) : Int), .int .i64 0] 99)] [] 1 [] 0 (fun φ2 => [(7, .int .i64 ((k : Nat) : Int))]) (fun φ2 => [(r, .cells #[.slice a l.length c, .int .i64 ((p : Nat) : Int), .int .i64 0] 99)]) (fun φ2 => []) s trivial (fun φ2 => by kernel_rfl) ?_
  intro φ2 w2 s
  refine call_rule (some 8) s (held_c (k := k) (by   omega)) (by kernel_rfl) ?_
  intro v3 I3 w3 le3 h3 s
  replace hl := BSl.mono le3 hl
  obtain rfl := h3
  refine ops_rule (C := []) [(r, .cells #[.slice a l.length c, .int .i64 ((p : Nat) : Int), .int .i64 0] 99)] [] 1 [] 0 (fun φ4 => [(1, .int .i64 ((k : Nat) : Int))]) (fun φ4 => [(r, .cells #[.slice a l.length c, .int .i64 ((p : Nat) : Int), .int .i64 0] 99)]) (fun φ4 => []) s trivial (fun φ4 => by kernel_rfl) ?_
  intro φ4 w4 s
  refine ops_done (by kernel_rfl) ?_
  refine wp_seq ?_
  refine wp_seq ?_
  refine region_rule ?_
  refine ops_rule (C := []) [(r, .cells #[.slice a l.length c, .int .i64 ((p : Nat) : Int), .int .i64 0] 99)] [] 1 [] 0 (fun φ5 => [(9, .pointer (some ⟨r, 0, none⟩))]) (fun φ5 => [(r, .cells #[.slice a l.length c, .int .i64 ((p : Nat) : Int), .int .i64 0] 99)]) (fun φ5 => []) s trivial (fun φ5 => by kernel_rfl) ?_
  intro φ5 w5 s
  refine callB_rule (b := (r, .cells #[.slice a l.length c, .int .i64 ((p : Nat) : Int), .int .i64 0] 99)) (H := [(r, .cells #[.slice a l.length c, .int .i64 ((p : Nat) : Int), .int .i64 0] 99)]) (F := []) (Hr := []) (some 10) 0 s (by kernel_rfl) (by kernel_rfl) (err_c (r := r) (v0 := .slice a l.length c) (v1 := .int .i64 ((p : Nat) : Int)) (e := 0)) (by kernel_rfl) ?_
  rintro v6 I6 w6 b6 le6 - h6 s
  replace hl := BSl.mono le6 hl
  obtain ⟨rfl, rfl⟩ := h6
  refine ops_rule (C := []) [(r, .cells #[.slice a l.length c, .int .i64 ((p : Nat) : Int), .int .i64 0] 99)] [] 1 [] 0 (fun φ7 => [(11, .bool false)]) (fun φ7 => [(r, .cells #[.slice a l.length c, .int .i64 ((p : Nat) : Int), .int .i64 0] 99)]) (fun φ7 => []) s trivial (fun φ7 => by kernel_rfl) ?_
  intro φ7 w7 s
  refine ops_done (by kernel_rfl) ?_
  refine cond_false_rule (b := false) (by kernel_rfl) rfl ?_
  refine wp_skip ?_
  refine wp_seq ?_
  refine wp_seq ?_
  refine region_rule ?_
  refine ops_rule (C := []) [(r, .cells #[.slice a l.length c, .int .i64 ((p : Nat) : Int), .int .i64 0] 99)] [] 2 [] 0 (fun φ8 => [(13, .pointer (some ⟨r, 0, none⟩)), (12, .int .i64 ((k : Nat) : Int))]) (fun φ8 => [(r, .cells #[.slice a l.length c, .int .i64 ((p : Nat) : Int), .int .i64 0] 99)]) (fun φ8 => []) s trivial (fun φ8 => by kernel_rfl) ?_
  intro φ8 w8 s
  refine callB_rule (b := (r, .cells #[.slice a l.length c, .int .i64 ((p : Nat) : Int), .int .i64 0] 99)) (H := [(r, .cells #[.slice a l.length c, .int .i64 ((p : Nat) : Int), .int .i64 0] 99)]) (F := []) (Hr := []) (some 14) 0 s (by kernel_rfl) (by kernel_rfl) (left_c (e := 0) (r := r) (p := p) hl (hn9) (by omega)) (by kernel_rfl) ?_
  rintro v9 I9 w9 b9 le9 - h9 s
  replace hl := BSl.mono le9 hl
  obtain ⟨rfl, rfl⟩ := h9
  refine ops_rule (C := []) [(r, .cells #[.slice a l.length c, .int .i64 ((p : Nat) : Int), .int .i64 0] 99)] [] 1 [] 0 (fun φ10 => [(15, .bool (decide (((k : Nat) : Int) > ((l.length * 8 - p : Nat) : Int))))]) (fun φ10 => [(r, .cells #[.slice a l.length c, .int .i64 ((p : Nat) : Int), .int .i64 0] 99)]) (fun φ10 => []) s trivial (fun φ10 => by kernel_rfl) ?_
  intro φ10 w10 s
  rw [nat_gtr (a := k) (b := (l.length * 8 - p))]
  refine ops_done (by kernel_rfl) ?_
  rcases Bool.eq_false_or_eq_true (decide ((l.length * 8 - p) < k)) with hc11 | hc11
  ·
    rw [hc11]
    refine cond_true_rule (b := true) (by kernel_rfl) rfl ?_
    refine wp_seq ?_
    refine region_rule ?_
    refine ops_rule (C := []) [(r, .cells #[.slice a l.length c, .int .i64 ((p : Nat) : Int), .int .i64 0] 99)] [] 4 [.o 0] 0 (fun φ12 => [(18, .pointer (some ⟨r, 2, none⟩)), (17, .pointer (some ⟨r, 0, none⟩)), (16, .pointer (some ⟨r, 0, none⟩))]) (fun φ12 => [(r, .cells #[.slice a l.length c, .int .i64 ((p : Nat) : Int), .int .i64 6] 99)]) (fun φ12 => [r]) s trivial (fun φ12 => by kernel_rfl) ?_
    intro φ12 w12 s
    refine ops_done (by kernel_rfl) ?_
    refine wp_seq ?_
    refine region_rule ?_
    refine ops_rule (C := []) [(r, .cells #[.slice a l.length c, .int .i64 ((p : Nat) : Int), .int .i64 6] 99)] [] 1 [] 0 (fun φ13 => [(4, .int .u64 0)]) (fun φ13 => [(r, .cells #[.slice a l.length c, .int .i64 ((p : Nat) : Int), .int .i64 6] 99)]) (fun φ13 => []) s trivial (fun φ13 => by kernel_rfl) ?_
    intro φ13 w13 s
    refine ops_done (by kernel_rfl) ?_
    refine wp_ret ?_
    refine ret_rule (C := []) [(r, .cells #[.slice a l.length c, .int .i64 ((p : Nat) : Int), .int .i64 6] 99)] [] (.int .u64 0) [] [] s trivial (by kernel_rfl) ?_
    exact ⟨_, _, _, rfl, s, ⟨_, rfl, rfl, rfl, rfl⟩⟩
  ·
    exact absurd (of_decide_eq_false hc11) (fun q => q (by omega))

theorem newReader_c {I : IM} {l : List UInt8} {a : Option Addr} {n c : Nat} (hl : BSl I l (.slice a n c)) (hn : l.length ≤ 1000000) : FunM Try.prog 24 #[.slice a n c] I [] (fun v J F' => ∃ b a c, v = .pointer (some ⟨b, 0, none⟩) ∧ F' = [(b, .cells #[.slice a (List.length l) c, .int .i64 0, .int .i64 0] 99)] ∧ BSl J l (.slice a (List.length l) c)) := by
  obtain ⟨rfl, -⟩ := hl.cap
  refine enterM_rule 7 [(0, .slice a l.length c)] Try.func24 rfl (by kernel_rfl) ?_
  intro w s
  refine wp_seq ?_
  refine region_rule ?_
  refine ops_rule (C := []) [] [] 1 [] 0 (fun φ1 => [(2, .pointer none)]) (fun φ1 => []) (fun φ1 => []) s trivial (fun φ1 => by kernel_rfl) ?_
  intro φ1 w1 s
  refine ops_done (by kernel_rfl) ?_
  refine wp_seq ?_
  refine region_rule ?_
  refine ops_rule (C := []) [] [] 1 [] 0 (fun φ2 => [(3, .slice a l.length c)]) (fun φ2 => []) (fun φ2 => []) s trivial (fun φ2 => by kernel_rfl) ?_
  intro φ2 w2 s
  refine call_rule (some 4) s (clone_c hl (by omega)) (by kernel_rfl) ?_
  intro v3 I3 w3 le3 h3 s
  replace hl := BSl.mono le3 hl
  obtain ⟨a3, c3, rfl, h3_0⟩ := h3
  refine ops_rule (C := []) [] [] 3 [] 1 (fun φ4 => [(2, .pointer (some ⟨(φ4 0), 0, none⟩)), (6, .pointer (some ⟨(φ4 0), 0, none⟩)), (5, .agg #[.slice a3 (List.length l) c3, .int .i64 0, .int .i64 0])]) (fun φ4 => [((φ4 0), .cells #[.slice a3 (List.length l) c3, .int .i64 0, .int .i64 0] 99)]) (fun φ4 => []) s trivial (fun φ4 => by kernel_rfl) ?_
  intro φ4 w4 s
  refine ops_done (by kernel_rfl) ?_
  refine wp_ret ?_
  refine ret_rule (C := []) [((φ4 0), .cells #[.slice a3 (List.length l) c3, .int .i64 0, .int .i64 0] 99)] [] (.pointer (some ⟨(φ4 0), 0, none⟩)) [] [] s trivial (by kernel_rfl) ?_
  exact ⟨_, _, _, rfl, s, ⟨_, _, _, rfl, rfl, h3_0⟩⟩

end Go.Proofs.Ytpnlaeapnokipaa
