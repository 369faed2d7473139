/- The program's bytes, of nothing too. -/
import Derived.Test.YtgmigcmhnmmdkaaCoBwW13
import Derived.Test.YtgmigcmhnmmdkaaCoBwC5
import Derived.Test.YtgmigcmhnmmdkaaCoBwB1
import Derived.Test.YtgmigcmhnmmdkaaCoBwC13
import Derived.Test.YtgmigcmhnmmdkaaCoS13
import Derived.Test.YtgmigcmhnmmdkaaCoBwB5
import Derived.Test.YtgmigcmhnmmdkaaCoBwC11
import Derived.Test.YtgmigcmhnmmdkaaCoBwC4
import Derived.Test.YtgmigcmhnmmdkaaCoBwC12
import Derived.Test.YtgmigcmhnmmdkaaCoBwB10
import Derived.Test.YtgmigcmhnmmdkaaCoS11
import Derived.OrdersHeld
import Derived.Scope
set_option linter.all false
set_option maxRecDepth 100000
namespace Go.Proofs.Ytgmigcmhnmmdkaa
open Go.RowKit Go.Sep
attribute [local irreducible] Go.wpList Go.Code.wp

theorem bytes0_c {I : IM} {b cnt : Nat} : FunM Try.prog 27 #[.pointer (some ⟨b, 0, none⟩)] I [(b, .cells #[.slice none 0 0, .int .i64 ((cnt : Nat) : Int)] 91)] (fun v J H' => ∃ (b' : OB) (F' : List OB), H' = b' :: F' ∧ b'.1 = b ∧ ∃ (a : Option Addr) (c : Nat), v = .slice a 0 c ∧ b' = (b, .cells #[.slice none 0 0, .int .i64 ((cnt : Nat) : Int)] 91) ∧ RowH 5 1 (.slice none 0 0) 0 (([] : List UInt8).map bV) F' ∧ BSl J [] (.slice a 0 c)) := by
  refine enterM_rule 10 [(0, .pointer (some ⟨b, 0, none⟩))] Try.func27 rfl (by kernel_rfl) ?_
  intro w s
  refine wp_seq ?_
  refine region_rule ?_
  refine ops_rule (C := []) [(b, .cells #[.slice none 0 0, .int .i64 ((cnt : Nat) : Int)] 91)] [] 1 [] 0 (fun φ1 => [(2, .slice none 0 0)]) (fun φ1 => [(b, .cells #[.slice none 0 0, .int .i64 ((cnt : Nat) : Int)] 91)]) (fun φ1 => []) s trivial (fun φ1 => by kernel_rfl) ?_
  intro φ1 w1 s
  refine ops_done (by kernel_rfl) ?_
  refine wp_seq ?_
  refine wp_seq ?_
  refine region_rule ?_
  refine ops_rule (C := []) [(b, .cells #[.slice none 0 0, .int .i64 ((cnt : Nat) : Int)] 91)] [] 2 [] 0 (fun φ2 => [(4, .bool false), (3, .pointer (some ⟨b, 0, none⟩))]) (fun φ2 => [(b, .cells #[.slice none 0 0, .int .i64 ((cnt : Nat) : Int)] 91)]) (fun φ2 => []) s trivial (fun φ2 => by kernel_rfl) ?_
  intro φ2 w2 s
  refine ops_done (by kernel_rfl) ?_
  refine cond_false_rule (b := false) (by kernel_rfl) rfl ?_
  refine wp_skip ?_
  refine wp_seq ?_
  refine region_rule ?_
  refine ops_rule (C := []) [(b, .cells #[.slice none 0 0, .int .i64 ((cnt : Nat) : Int)] 91)] [] 4 [.o 0] 0 (fun φ3 => [(8, .slice none 0 0), (7, .pointer (some ⟨b, 0, none⟩)), (6, .pointer (some ⟨b, 0, none⟩)), (5, .pointer (some ⟨b, 0, none⟩))]) (fun φ3 => [(b, .cells #[.slice none 0 0, .int .i64 ((cnt : Nat) : Int)] 91)]) (fun φ3 => [b]) s trivial (fun φ3 => by kernel_rfl) ?_
  intro φ3 w3 s
  refine call_rule (some 9) s (clone_none (n := 0) (c := 0)) (by kernel_rfl) ?_
  intro v4 I4 w4 le4 h4 s
  obtain rfl := h4
  refine ops_rule (C := []) [(b, .cells #[.slice none 0 0, .int .i64 ((cnt : Nat) : Int)] 91)] [] 1 [] 0 (fun φ5 => [(2, .slice none 0 0)]) (fun φ5 => [(b, .cells #[.slice none 0 0, .int .i64 ((cnt : Nat) : Int)] 91)]) (fun φ5 => []) s trivial (fun φ5 => by kernel_rfl) ?_
  intro φ5 w5 s
  refine ops_done (by kernel_rfl) ?_
  refine wp_ret ?_
  refine ret_rule (C := []) [(b, .cells #[.slice none 0 0, .int .i64 ((cnt : Nat) : Int)] 91)] [] (.slice none 0 0) [] [] s trivial (by kernel_rfl) ?_
  replace s := s.drop (List.Sublist.append (List.Sublist.cons₂ _ List.Sublist.slnil) (List.Sublist.refl []))
  exact ⟨_, _, _, rfl, s, ⟨_, _, rfl, rfl, _, _, rfl, rfl, row_nilB, bsl_nil _⟩⟩

theorem bytes1_c {I : IM} {b cnt g cap : Nat} {cur : Array Value} (hr : RowH 5 1 (.slice (some ⟨g, 0, none⟩) 0 cap) 0 (([] : List UInt8).map bV) [(g, .cells cur 5)]) : FunM Try.prog 27 #[.pointer (some ⟨b, 0, none⟩)] I [(b, .cells #[.slice (some ⟨g, 0, none⟩) 0 cap, .int .i64 ((cnt : Nat) : Int)] 91), (g, .cells cur 5)] (fun v J H' => ∃ (b' : OB) (F' : List OB), H' = b' :: F' ∧ b'.1 = b ∧ ∃ (a : Option Addr) (c : Nat), v = .slice a 0 c ∧ b' = (b, .cells #[.slice (some ⟨g, 0, none⟩) 0 cap, .int .i64 ((cnt : Nat) : Int)] 91) ∧ RowH 5 1 (.slice (some ⟨g, 0, none⟩) 0 cap) 0 (([] : List UInt8).map bV) F' ∧ BSl J [] (.slice a 0 c)) := by
  refine enterM_rule 10 [(0, .pointer (some ⟨b, 0, none⟩))] Try.func27 rfl (by kernel_rfl) ?_
  intro w s
  refine wp_seq ?_
  refine region_rule ?_
  refine ops_rule (C := []) [(b, .cells #[.slice (some ⟨g, 0, none⟩) 0 cap, .int .i64 ((cnt : Nat) : Int)] 91), (g, .cells cur 5)] [] 1 [] 0 (fun φ1 => [(2, .slice none 0 0)]) (fun φ1 => [(b, .cells #[.slice (some ⟨g, 0, none⟩) 0 cap, .int .i64 ((cnt : Nat) : Int)] 91), (g, .cells cur 5)]) (fun φ1 => []) s trivial (fun φ1 => by kernel_rfl) ?_
  intro φ1 w1 s
  refine ops_done (by kernel_rfl) ?_
  refine wp_seq ?_
  refine wp_seq ?_
  refine region_rule ?_
  refine ops_rule (C := []) [(b, .cells #[.slice (some ⟨g, 0, none⟩) 0 cap, .int .i64 ((cnt : Nat) : Int)] 91), (g, .cells cur 5)] [] 2 [] 0 (fun φ2 => [(4, .bool false), (3, .pointer (some ⟨b, 0, none⟩))]) (fun φ2 => [(b, .cells #[.slice (some ⟨g, 0, none⟩) 0 cap, .int .i64 ((cnt : Nat) : Int)] 91), (g, .cells cur 5)]) (fun φ2 => []) s trivial (fun φ2 => by kernel_rfl) ?_
  intro φ2 w2 s
  refine ops_done (by kernel_rfl) ?_
  refine cond_false_rule (b := false) (by kernel_rfl) rfl ?_
  refine wp_skip ?_
  refine wp_seq ?_
  refine region_rule ?_
  refine ops_rule (C := []) [(b, .cells #[.slice (some ⟨g, 0, none⟩) 0 cap, .int .i64 ((cnt : Nat) : Int)] 91), (g, .cells cur 5)] [] 4 [.o 0] 0 (fun φ3 => [(8, .slice (some ⟨g, 0, none⟩) 0 cap), (7, .pointer (some ⟨b, 0, none⟩)), (6, .pointer (some ⟨b, 0, none⟩)), (5, .pointer (some ⟨b, 0, none⟩))]) (fun φ3 => [(b, .cells #[.slice (some ⟨g, 0, none⟩) 0 cap, .int .i64 ((cnt : Nat) : Int)] 91), (g, .cells cur 5)]) (fun φ3 => [b]) s trivial (fun φ3 => by kernel_rfl) ?_
  intro φ3 w3 s
  have hle4 : IM.Le I (IM.add I g (.cells cur 5)) := IM.le_add (s.free (g, .cells cur 5) (by simp)) _
  refine callLF_rule (H := ([(b, .cells #[.slice (some ⟨g, 0, none⟩) 0 cap, .int .i64 ((cnt : Nat) : Int)] 91), (g, .cells cur 5)] ++ [])) (R := fun v F' => RowH 5 1 v (([] : List UInt8)).length ((([] : List UInt8)).map bV) F') (some 9) s (IM.add I g (.cells cur 5)) hle4 (add_sub (by simp)) (clone_row (row_lend (I := I) hr) (by decide)) (by kernel_rfl) ?_
  intro v5 w5 F5 h5 s
  obtain ⟨I6, le6, hb6, s⟩ := freeze_row (H := [(b, .cells #[.slice (some ⟨g, 0, none⟩) 0 cap, .int .i64 ((cnt : Nat) : Int)] 91), (g, .cells cur 5)]) (F := F5) s h5
  obtain ⟨a6, c6, hv6, hc6, hb6⟩ := hb6.open
  subst hv6
  refine ops_rule (C := []) [(b, .cells #[.slice (some ⟨g, 0, none⟩) 0 cap, .int .i64 ((cnt : Nat) : Int)] 91), (g, .cells cur 5)] [] 1 [] 0 (fun φ7 => [(2, .slice a6 ((([] : List UInt8)).length) c6)]) (fun φ7 => [(b, .cells #[.slice (some ⟨g, 0, none⟩) 0 cap, .int .i64 ((cnt : Nat) : Int)] 91), (g, .cells cur 5)]) (fun φ7 => []) s trivial (fun φ7 => by kernel_rfl) ?_
  intro φ7 w7 s
  refine ops_done (by kernel_rfl) ?_
  refine wp_ret ?_
  refine ret_rule (C := []) [(b, .cells #[.slice (some ⟨g, 0, none⟩) 0 cap, .int .i64 ((cnt : Nat) : Int)] 91), (g, .cells cur 5)] [] (.slice a6 ((([] : List UInt8)).length) c6) [] [] s trivial (by kernel_rfl) ?_
  replace s := s.drop (List.Sublist.append (List.Sublist.cons₂ _ (List.Sublist.cons₂ _ List.Sublist.slnil)) (List.Sublist.refl []))
  exact ⟨_, _, _, rfl, s, ⟨_, _, rfl, rfl, _, _, rfl, rfl, hr, hb6⟩⟩

theorem bytesA_c {I : IM} {b cnt : Nat} {bs : List Bool} {v0 : Value} {F : List OB} (hl9 : bs.length ≤ 1000000) (h : RowH 5 1 v0 (pk bs).length ((pk bs).map bV) F) : FunM Try.prog 27 #[.pointer (some ⟨b, 0, none⟩)] I ((b, .cells #[v0, .int .i64 ((cnt : Nat) : Int)] 91) :: F) (fun v J H' => ∃ (b' : OB) (F' : List OB), H' = b' :: F' ∧ b'.1 = b ∧ ∃ (a : Option Addr) (c : Nat), v = .slice a (List.length (pk bs)) c ∧ b' = (b, .cells #[v0, .int .i64 ((cnt : Nat) : Int)] 91) ∧ RowH 5 1 v0 (pk bs).length ((pk bs).map bV) F' ∧ BSl J (pk bs) (.slice a (List.length (pk bs)) c)) := by
  by_cases hp : 0 < bs.length
  · exact bytes_c hp hl9 h
  · have : bs = [] := List.length_eq_zero_iff.1 (by omega)
    subst this
    have h' : RowH 5 1 v0 0 (([] : List UInt8).map bV) F := h
    rcases h'.2 with ⟨rfl, _, rfl⟩ | ⟨g, cap, cur, rfl, rfl, _⟩
    · exact bytes0_c
    · exact bytes1_c h'

end Go.Proofs.Ytgmigcmhnmmdkaa

