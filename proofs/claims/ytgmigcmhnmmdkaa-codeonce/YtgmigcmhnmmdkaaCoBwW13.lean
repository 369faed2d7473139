/- Bits are read. -/
import Derived.Test.YtgmigcmhnmmdkaaCoBwW11
import Derived.Test.YtgmigcmhnmmdkaaCoBwB6
import Derived.Test.YtgmigcmhnmmdkaaCoBwC5
set_option linter.all false
set_option maxRecDepth 100000
namespace Go.Proofs.Ytgmigcmhnmmdkaa
open Go.RowKit Go.Sep
attribute [local irreducible] Go.wpList Go.Code.wp

set_option maxHeartbeats 1000000 in
theorem left_c {I : IM} {l : List UInt8} {a : Option Addr} {n c : Nat} (hl : BSl I l (.slice a n c)) (hn9 : l.length ≤ 1000000) {r p : Nat} {e : Nat} (hp : p ≤ l.length * 8) : FunM Try.prog 63 #[.pointer (some ⟨r, 0, none⟩)] I [(r, .cells #[.slice a n c, .int .i64 ((p : Nat) : Int), .int .i64 ((e : Nat) : Int)] 102)] (fun v J H' => ∃ b' : OB, H' = [b'] ∧ b'.1 = r ∧ v = .int .i64 ((l.length * 8 - p : Nat) : Int) ∧ b' = (r, .cells #[.slice a n c, .int .i64 ((p : Nat) : Int), .int .i64 ((e : Nat) : Int)] 102)) := by
  obtain ⟨rfl, -⟩ := hl.cap
  refine enterM_rule 16 [(0, .pointer (some ⟨r, 0, none⟩))] Try.func63 rfl (by kernel_rfl) ?_
  intro w s
  refine wp_seq ?_
  refine region_rule ?_
  refine ops_rule (C := []) [(r, .cells #[.slice a l.length c, .int .i64 ((p : Nat) : Int), .int .i64 ((e : Nat) : Int)] 102)] [] 1 [] 0 (fun φ1 => [(2, .int .i64 0)]) (fun φ1 => [(r, .cells #[.slice a l.length c, .int .i64 ((p : Nat) : Int), .int .i64 ((e : Nat) : Int)] 102)]) (fun φ1 => []) s trivial (fun φ1 => by kernel_rfl) ?_
  intro φ1 w1 s
  refine ops_done (by kernel_rfl) ?_
  refine wp_seq ?_
  refine wp_seq ?_
  refine region_rule ?_
  refine ops_rule (C := []) [(r, .cells #[.slice a l.length c, .int .i64 ((p : Nat) : Int), .int .i64 ((e : Nat) : Int)] 102)] [] 2 [] 0 (fun φ2 => [(4, .bool false), (3, .pointer (some ⟨r, 0, none⟩))]) (fun φ2 => [(r, .cells #[.slice a l.length c, .int .i64 ((p : Nat) : Int), .int .i64 ((e : Nat) : Int)] 102)]) (fun φ2 => []) s trivial (fun φ2 => by kernel_rfl) ?_
  intro φ2 w2 s
  refine ops_done (by kernel_rfl) ?_
  refine cond_false_rule (b := false) (by kernel_rfl) rfl ?_
  refine wp_skip ?_
  refine wp_seq ?_
  refine draw_rule (C := []) ⟨(fun φ3 xs3 => [.look 0 [] [], .look 0 [] [], .look 0 [] [], .look 0 [.o 0] [r], .look 0 [] [], .sub 0 [] [] (.int .i64 (IntKind.wrap .i64 (((l.length : Nat) : Int) * ((8 : Nat) : Int)))), .look 0 [] [], .look 0 [] [], .look 0 [] [], .look 0 [.o 0] [r], .sub 0 [] [] (.int .i64 (IntKind.wrap .i64 (((l.length * 8 : Nat) : Int) - ((p : Nat) : Int)))), .look 0 [] []]), (fun φ3 xs3 => [.pointer (some ⟨r, 0, none⟩), .pointer (some ⟨r, 0, none⟩), .pointer (some ⟨r, 0, none⟩), .slice a l.length c, .int .i64 ((l.length : Nat) : Int), .int .i64 ((l.length * 8 : Nat) : Int), .pointer (some ⟨r, 0, none⟩), .pointer (some ⟨r, 0, none⟩), .pointer (some ⟨r, 1, none⟩), .int .i64 ((p : Nat) : Int), .int .i64 (((l.length * 8) - p : Nat) : Int), .int .i64 (((l.length * 8) - p : Nat) : Int)]), (fun φ3 xs3 => [[(r, .cells #[.slice a l.length c, .int .i64 ((p : Nat) : Int), .int .i64 ((e : Nat) : Int)] 102)]]), (fun φ3 xs3 => [[default, default, default, default, default, default, default, default, default, default, default, default]]), [], [1, 1, 1, 1, 1, 5, 1, 1, 1, 1, 5, 1]⟩ (fun j => ([MP.any, MP.any, MP.any, MP.any, MP.any, MP.any, MP.any, MP.any, MP.any, MP.any, MP.any, MP.any] : List MP).getD j MP.any) [] [5, 10] [] (fun φ3 xs3 => []) (fun φ3 xs3 => [(5, .pointer (some ⟨r, 0, none⟩)), (6, .pointer (some ⟨r, 0, none⟩)), (7, .pointer (some ⟨r, 0, none⟩)), (8, .slice a l.length c), (9, .int .i64 ((l.length : Nat) : Int)), (10, .int .i64 ((l.length * 8 : Nat) : Int)), (11, .pointer (some ⟨r, 0, none⟩)), (12, .pointer (some ⟨r, 0, none⟩)), (13, .pointer (some ⟨r, 1, none⟩)), (14, .int .i64 ((p : Nat) : Int)), (15, .int .i64 (((l.length * 8) - p : Nat) : Int)), (2, .int .i64 (((l.length * 8) - p : Nat) : Int))]) (fun φ3 xs3 => [(r, .cells #[.slice a l.length c, .int .i64 ((p : Nat) : Int), .int .i64 ((e : Nat) : Int)] 102)]) s trivial (by kernel_rfl) (by kernel_rfl) (fun _ _ => by kernel_rfl) (fun _ _ => by kernel_rfl) ⟨fun _ _ => by kernel_rfl, fun _ _ => by kernel_rfl, fun _ _ => by kernel_rfl, fun _ _ => by kernel_rfl⟩ (fun _ _ _ => by kernel_rfl) (fun _ _ => by kernel_rfl) (fun _ _ => by kernel_rfl) (fun _ _ => by kernel_rfl) (fun _ _ => by kernel_rfl) (fun _ _ => by kernel_rfl) ⟨kcast (A := ∀ (φ3 : Nat → Nat) (xs3 : Xs), (.int .i64 (IntKind.wrap .i64 (((l.length : Nat) : Int) * ((8 : Nat) : Int))) : Value) = .int .i64 ((l.length * 8 : Nat) : Int)) (by kernel_rfl) (fun φ3 xs3 => congrArg (Value.int .i64) ((nat_mulI (a := l.length) (b := 8) (by   (try simp only [List.length_drop, List.length_take, List.length_append, List.length_cons, List.length_nil]); omega)))), ⟨kcast (A := ∀ (φ3 : Nat → Nat) (xs3 : Xs), (.int .i64 (IntKind.wrap .i64 (((l.length * 8 : Nat) : Int) - ((p : Nat) : Int))) : Value) = .int .i64 (((l.length * 8) - p : Nat) : Int)) (by kernel_rfl) (fun φ3 xs3 => congrArg (Value.int .i64) ((nat_subI (a := (l.length * 8)) (b := p) (by   (try simp only [List.length_drop, List.length_take, List.length_append, List.length_cons, List.length_nil]); omega) (by   (try simp only [List.length_drop, List.length_take, List.length_append, List.length_cons, List.length_nil]); omega)))), trivial⟩⟩ trivial (by kernel_rfl) trivial ?k3
  case k3 =>
    rintro φ3 xs3 I3 w3 le3 s 
    replace hl := BSl.mono le3 hl
    refine wp_ret ?_
    refine ret_rule (C := []) [(r, .cells #[.slice a l.length c, .int .i64 ((p : Nat) : Int), .int .i64 ((e : Nat) : Int)] 102)] [] (.int .i64 (((l.length * 8) - p : Nat) : Int)) [] [] s trivial (by kernel_rfl) ?_
    exact ⟨_, _, _, rfl, s, ⟨_, rfl, rfl, rfl, rfl⟩⟩

end Go.Proofs.Ytgmigcmhnmmdkaa

