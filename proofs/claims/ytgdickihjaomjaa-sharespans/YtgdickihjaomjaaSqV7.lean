/- ids: Parse of the example -/
import Derived.Test.YtgdickihjaomjaaSqM15
set_option linter.all false
set_option maxRecDepth 100000
namespace Go.Proofs.Ytgdickihjaomjaa
open Go.RowKit Go.Sep
attribute [local irreducible] Go.wpList Go.Code.wp
theorem run_idxK {P : Program} {w : World} {t : TypeId} {s : List UInt8} {i : Nat} {c : Int} (ht : P.underlying t = some .string) (h : i < s.length) (hc : (((s.getD i 0).toNat : Nat) : Int) = c) :
    (Instr.index t (.string ⟨s.toArray⟩) (.int .i64 ((i : Nat) : Int))).run P w = .ok (.int .u8 c) w := by subst hc; exact run_idxStr ht h
theorem run_dropK {P : Program} {w : World} {t : TypeId} {s s' : List UInt8} {lo : Nat} (ht : P.underlying t = some .string) (h1 : lo ≤ s.length) (hd : s.drop lo = s') :
    (Instr.sliceAt t (.string ⟨s.toArray⟩) (some (.int .i64 ((lo : Nat) : Int))) none none).run P w = .ok (.string ⟨s'.toArray⟩) w := by subst hd; exact run_dropStr ht h1
/-- the pair (0,1), and the pair of 1 and that -/
def D2 (I : IM) (k : Nat) : Prop := I k = some (.cells #[.bool false, .pointer none, .bool true, .pointer none, .int .i64 1] 98)
def D1 (I : IM) (k k2 : Nat) : Prop := I k = some (.cells #[.bool true, .pointer none, .bool false, .pointer (some ⟨k2, 0, none⟩), .int .i64 2] 98)
theorem D2.mono {I J : IM} (le : I.Le J) {k : Nat} (h : D2 I k) : D2 J k := le _ _ h
theorem D1.mono {I J : IM} (le : I.Le J) {k k2 : Nat} (h : D1 I k k2) : D1 J k k2 := le _ _ h

set_option maxHeartbeats 1000000 in
theorem one_c {I : IM} : Fun Try.prog 27 #[] I (fun v J => v = .agg #[.bool true, .pointer none]) := by
  refine enter_rule 2 [] Try.func27 rfl (by kernel_rfl) ?_
  intro w s
  refine wp_seq ?_
  refine region_rule ?_
  refine ops_rule (C := []) [] [] 1 [] 1 (fun φ1 => [(0, .pointer (some ⟨(φ1 0), 0, none⟩))]) (fun φ1 => [((φ1 0), .cells #[.bool false, .pointer none] 26)]) (fun φ1 => []) s trivial (fun φ1 => by kernel_rfl) ?_
  intro φ1 w1 s
  refine ops_done (by kernel_rfl) ?_
  refine wp_seq ?_
  refine region_rule ?_
  refine ops_rule (C := []) [((φ1 0), .cells #[.bool false, .pointer none] 26)] [] 2 [.o 0, .o 0] 0 (fun φ2 => [(1, .agg #[.bool true, .pointer none])]) (fun φ2 => [((φ1 0), .cells #[.bool true, .pointer none] 26)]) (fun φ2 => [(φ1 0), (φ1 0)]) s trivial (fun φ2 => by kernel_rfl) ?_
  intro φ2 w2 s
  refine ops_done (by kernel_rfl) ?_
  refine wp_ret ?_
  refine ret_rule (C := []) [((φ1 0), .cells #[.bool true, .pointer none] 26)] [] (.agg #[.bool true, .pointer none]) [.o 0, .o 0] [(φ1 0), (φ1 0)] s trivial (by kernel_rfl) ?_
  exact ⟨_, _, _, rfl, s, rfl⟩

set_option maxHeartbeats 1000000 in
theorem zero_c {I : IM} : Fun Try.prog 28 #[] I (fun v J => v = .agg #[.bool false, .pointer none]) := by
  refine enter_rule 2 [] Try.func28 rfl (by kernel_rfl) ?_
  intro w s
  refine wp_seq ?_
  refine region_rule ?_
  refine ops_rule (C := []) [] [] 1 [] 1 (fun φ1 => [(0, .pointer (some ⟨(φ1 0), 0, none⟩))]) (fun φ1 => [((φ1 0), .cells #[.bool false, .pointer none] 26)]) (fun φ1 => []) s trivial (fun φ1 => by kernel_rfl) ?_
  intro φ1 w1 s
  refine ops_done (by kernel_rfl) ?_
  refine wp_seq ?_
  refine region_rule ?_
  refine ops_rule (C := []) [((φ1 0), .cells #[.bool false, .pointer none] 26)] [] 2 [.o 0, .o 0] 0 (fun φ2 => [(1, .agg #[.bool false, .pointer none])]) (fun φ2 => [((φ1 0), .cells #[.bool false, .pointer none] 26)]) (fun φ2 => [(φ1 0), (φ1 0)]) s trivial (fun φ2 => by kernel_rfl) ?_
  intro φ2 w2 s
  refine ops_done (by kernel_rfl) ?_
  refine wp_ret ?_
  refine ret_rule (C := []) [((φ1 0), .cells #[.bool false, .pointer none] 26)] [] (.agg #[.bool false, .pointer none]) [.o 0, .o 0] [(φ1 0), (φ1 0)] s trivial (by kernel_rfl) ?_
  exact ⟨_, _, _, rfl, s, rfl⟩

set_option maxHeartbeats 1000000 in
theorem isZeroZ_c {I : IM} : Fun Try.prog 40 #[.agg #[.bool false, .pointer none]] I (fun v J => v = .bool true) := by
  refine enter_rule 11 [(0, .agg #[.bool false, .pointer none])] Try.func40 rfl (by kernel_rfl) ?_
  intro w s
  refine wp_seq ?_
  refine region_rule ?_
  refine ops_rule (C := []) [] [] 2 [] 1 (fun φ1 => [(2, .bool false), (1, .pointer (some ⟨(φ1 0), 0, none⟩))]) (fun φ1 => [((φ1 0), .cells #[.bool false, .pointer none] 26)]) (fun φ1 => []) s trivial (fun φ1 => by kernel_rfl) ?_
  intro φ1 w1 s
  refine ops_done (by kernel_rfl) ?_
  refine wp_seq ?_
  refine region_rule ?_
  refine ops_rule (C := []) [((φ1 0), .cells #[.bool false, .pointer none] 26)] [] 9 [.o 0, .o 0] 0 (fun φ2 => [(2, .bool true), (10, .bool true), (9, .bool true), (8, .pointer none), (7, .pointer (some ⟨(φ1 0), 1, none⟩)), (6, .bool true), (5, .bool true), (4, .bool false), (3, .pointer (some ⟨(φ1 0), 0, none⟩))]) (fun φ2 => [((φ1 0), .cells #[.bool false, .pointer none] 26)]) (fun φ2 => [(φ1 0), (φ1 0)]) s trivial (fun φ2 => by kernel_rfl) ?_
  intro φ2 w2 s
  refine ops_done (by kernel_rfl) ?_
  refine wp_ret ?_
  refine ret_rule (C := []) [((φ1 0), .cells #[.bool false, .pointer none] 26)] [] (.bool true) [] [] s trivial (by kernel_rfl) ?_
  exact ⟨_, _, _, rfl, s, rfl⟩

set_option maxHeartbeats 1000000 in
theorem isZeroO_c {I : IM} : Fun Try.prog 40 #[.agg #[.bool true, .pointer none]] I (fun v J => v = .bool false) := by
  refine enter_rule 11 [(0, .agg #[.bool true, .pointer none])] Try.func40 rfl (by kernel_rfl) ?_
  intro w s
  refine wp_seq ?_
  refine region_rule ?_
  refine ops_rule (C := []) [] [] 2 [] 1 (fun φ1 => [(2, .bool false), (1, .pointer (some ⟨(φ1 0), 0, none⟩))]) (fun φ1 => [((φ1 0), .cells #[.bool true, .pointer none] 26)]) (fun φ1 => []) s trivial (fun φ1 => by kernel_rfl) ?_
  intro φ1 w1 s
  refine ops_done (by kernel_rfl) ?_
  refine wp_seq ?_
  refine region_rule ?_
  refine ops_rule (C := []) [((φ1 0), .cells #[.bool true, .pointer none] 26)] [] 9 [.o 0] 0 (fun φ2 => [(2, .bool false), (10, .bool false), (9, undef), (8, undef), (7, undef), (6, .bool false), (5, .bool false), (4, .bool true), (3, .pointer (some ⟨(φ1 0), 0, none⟩))]) (fun φ2 => [((φ1 0), .cells #[.bool true, .pointer none] 26)]) (fun φ2 => [(φ1 0)]) s trivial (fun φ2 => by kernel_rfl) ?_
  intro φ2 w2 s
  refine ops_done (by kernel_rfl) ?_
  refine wp_ret ?_
  refine ret_rule (C := []) [((φ1 0), .cells #[.bool true, .pointer none] 26)] [] (.bool false) [] [] s trivial (by kernel_rfl) ?_
  exact ⟨_, _, _, rfl, s, rfl⟩

set_option maxHeartbeats 1000000 in
theorem isZero2_c {I : IM} {k : Nat} (hk : D2 I k) : Fun Try.prog 40 #[.agg #[.bool false, .pointer (some ⟨k, 0, none⟩)]] I (fun v J => v = .bool false) := by
  refine enter_rule 11 [(0, .agg #[.bool false, .pointer (some ⟨k, 0, none⟩)])] Try.func40 rfl (by kernel_rfl) ?_
  intro w s
  refine wp_seq ?_
  refine region_rule ?_
  refine ops_rule (C := []) [] [] 2 [] 1 (fun φ1 => [(2, .bool false), (1, .pointer (some ⟨(φ1 0), 0, none⟩))]) (fun φ1 => [((φ1 0), .cells #[.bool false, .pointer (some ⟨k, 0, none⟩)] 26)]) (fun φ1 => []) s trivial (fun φ1 => by kernel_rfl) ?_
  intro φ1 w1 s
  refine ops_done (by kernel_rfl) ?_
  refine wp_seq ?_
  refine region_rule ?_
  refine ops_rule (C := []) [((φ1 0), .cells #[.bool false, .pointer (some ⟨k, 0, none⟩)] 26)] [] 9 [.o 0, .o 0] 0 (fun φ2 => [(2, .bool false), (10, .bool false), (9, .bool false), (8, .pointer (some ⟨k, 0, none⟩)), (7, .pointer (some ⟨(φ1 0), 1, none⟩)), (6, .bool true), (5, .bool true), (4, .bool false), (3, .pointer (some ⟨(φ1 0), 0, none⟩))]) (fun φ2 => [((φ1 0), .cells #[.bool false, .pointer (some ⟨k, 0, none⟩)] 26)]) (fun φ2 => [(φ1 0), (φ1 0)]) s trivial (fun φ2 => by kernel_rfl) ?_
  intro φ2 w2 s
  refine ops_done (by kernel_rfl) ?_
  refine wp_ret ?_
  refine ret_rule (C := []) [((φ1 0), .cells #[.bool false, .pointer (some ⟨k, 0, none⟩)] 26)] [] (.bool false) [] [] s trivial (by kernel_rfl) ?_
  exact ⟨_, _, _, rfl, s, rfl⟩

set_option maxHeartbeats 1000000 in
theorem isZero1_c {I : IM} {k k2 : Nat} (hk : D1 I k k2) (hk2 : D2 I k2) : Fun Try.prog 40 #[.agg #[.bool false, .pointer (some ⟨k, 0, none⟩)]] I (fun v J => v = .bool false) := by
  refine enter_rule 11 [(0, .agg #[.bool false, .pointer (some ⟨k, 0, none⟩)])] Try.func40 rfl (by kernel_rfl) ?_
  intro w s
  refine wp_seq ?_
  refine region_rule ?_
  refine ops_rule (C := []) [] [] 2 [] 1 (fun φ1 => [(2, .bool false), (1, .pointer (some ⟨(φ1 0), 0, none⟩))]) (fun φ1 => [((φ1 0), .cells #[.bool false, .pointer (some ⟨k, 0, none⟩)] 26)]) (fun φ1 => []) s trivial (fun φ1 => by kernel_rfl) ?_
  intro φ1 w1 s
  refine ops_done (by kernel_rfl) ?_
  refine wp_seq ?_
  refine region_rule ?_
  refine ops_rule (C := []) [((φ1 0), .cells #[.bool false, .pointer (some ⟨k, 0, none⟩)] 26)] [] 9 [.o 0, .o 0] 0 (fun φ2 => [(2, .bool false), (10, .bool false), (9, .bool false), (8, .pointer (some ⟨k, 0, none⟩)), (7, .pointer (some ⟨(φ1 0), 1, none⟩)), (6, .bool true), (5, .bool true), (4, .bool false), (3, .pointer (some ⟨(φ1 0), 0, none⟩))]) (fun φ2 => [((φ1 0), .cells #[.bool false, .pointer (some ⟨k, 0, none⟩)] 26)]) (fun φ2 => [(φ1 0), (φ1 0)]) s trivial (fun φ2 => by kernel_rfl) ?_
  intro φ2 w2 s
  refine ops_done (by kernel_rfl) ?_
  refine wp_ret ?_
  refine ret_rule (C := []) [((φ1 0), .cells #[.bool false, .pointer (some ⟨k, 0, none⟩)] 26)] [] (.bool false) [] [] s trivial (by kernel_rfl) ?_
  exact ⟨_, _, _, rfl, s, rfl⟩

set_option maxHeartbeats 1000000 in
theorem isOneZ_c {I : IM} : Fun Try.prog 41 #[.agg #[.bool false, .pointer none]] I (fun v J => v = .bool false) := by
  refine enter_rule 5 [(0, .agg #[.bool false, .pointer none])] Try.func41 rfl (by kernel_rfl) ?_
  intro w s
  refine wp_seq ?_
  refine region_rule ?_
  refine ops_rule (C := []) [] [] 2 [] 1 (fun φ1 => [(2, .bool false), (1, .pointer (some ⟨(φ1 0), 0, none⟩))]) (fun φ1 => [((φ1 0), .cells #[.bool false, .pointer none] 26)]) (fun φ1 => []) s trivial (fun φ1 => by kernel_rfl) ?_
  intro φ1 w1 s
  refine ops_done (by kernel_rfl) ?_
  refine wp_seq ?_
  refine region_rule ?_
  refine ops_rule (C := []) [((φ1 0), .cells #[.bool false, .pointer none] 26)] [] 3 [.o 0] 0 (fun φ2 => [(2, .bool false), (4, .bool false), (3, .pointer (some ⟨(φ1 0), 0, none⟩))]) (fun φ2 => [((φ1 0), .cells #[.bool false, .pointer none] 26)]) (fun φ2 => [(φ1 0)]) s trivial (fun φ2 => by kernel_rfl) ?_
  intro φ2 w2 s
  refine ops_done (by kernel_rfl) ?_
  refine wp_ret ?_
  refine ret_rule (C := []) [((φ1 0), .cells #[.bool false, .pointer none] 26)] [] (.bool false) [] [] s trivial (by kernel_rfl) ?_
  exact ⟨_, _, _, rfl, s, rfl⟩

set_option maxHeartbeats 1000000 in
theorem isOneO_c {I : IM} : Fun Try.prog 41 #[.agg #[.bool true, .pointer none]] I (fun v J => v = .bool true) := by
  refine enter_rule 5 [(0, .agg #[.bool true, .pointer none])] Try.func41 rfl (by kernel_rfl) ?_
  intro w s
  refine wp_seq ?_
  refine region_rule ?_
  refine ops_rule (C := []) [] [] 2 [] 1 (fun φ1 => [(2, .bool false), (1, .pointer (some ⟨(φ1 0), 0, none⟩))]) (fun φ1 => [((φ1 0), .cells #[.bool true, .pointer none] 26)]) (fun φ1 => []) s trivial (fun φ1 => by kernel_rfl) ?_
  intro φ1 w1 s
  refine ops_done (by kernel_rfl) ?_
  refine wp_seq ?_
  refine region_rule ?_
  refine ops_rule (C := []) [((φ1 0), .cells #[.bool true, .pointer none] 26)] [] 3 [.o 0] 0 (fun φ2 => [(2, .bool true), (4, .bool true), (3, .pointer (some ⟨(φ1 0), 0, none⟩))]) (fun φ2 => [((φ1 0), .cells #[.bool true, .pointer none] 26)]) (fun φ2 => [(φ1 0)]) s trivial (fun φ2 => by kernel_rfl) ?_
  intro φ2 w2 s
  refine ops_done (by kernel_rfl) ?_
  refine wp_ret ?_
  refine ret_rule (C := []) [((φ1 0), .cells #[.bool true, .pointer none] 26)] [] (.bool true) [] [] s trivial (by kernel_rfl) ?_
  exact ⟨_, _, _, rfl, s, rfl⟩

set_option maxHeartbeats 1000000 in
theorem isOne2_c {I : IM} {k : Nat} (hk : D2 I k) : Fun Try.prog 41 #[.agg #[.bool false, .pointer (some ⟨k, 0, none⟩)]] I (fun v J => v = .bool false) := by
  refine enter_rule 5 [(0, .agg #[.bool false, .pointer (some ⟨k, 0, none⟩)])] Try.func41 rfl (by kernel_rfl) ?_
  intro w s
  refine wp_seq ?_
  refine region_rule ?_
  refine ops_rule (C := []) [] [] 2 [] 1 (fun φ1 => [(2, .bool false), (1, .pointer (some ⟨(φ1 0), 0, none⟩))]) (fun φ1 => [((φ1 0), .cells #[.bool false, .pointer (some ⟨k, 0, none⟩)] 26)]) (fun φ1 => []) s trivial (fun φ1 => by kernel_rfl) ?_
  intro φ1 w1 s
  refine ops_done (by kernel_rfl) ?_
  refine wp_seq ?_
  refine region_rule ?_
  refine ops_rule (C := []) [((φ1 0), .cells #[.bool false, .pointer (some ⟨k, 0, none⟩)] 26)] [] 3 [.o 0] 0 (fun φ2 => [(2, .bool false), (4, .bool false), (3, .pointer (some ⟨(φ1 0), 0, none⟩))]) (fun φ2 => [((φ1 0), .cells #[.bool false, .pointer (some ⟨k, 0, none⟩)] 26)]) (fun φ2 => [(φ1 0)]) s trivial (fun φ2 => by kernel_rfl) ?_
  intro φ2 w2 s
  refine ops_done (by kernel_rfl) ?_
  refine wp_ret ?_
  refine ret_rule (C := []) [((φ1 0), .cells #[.bool false, .pointer (some ⟨k, 0, none⟩)] 26)] [] (.bool false) [] [] s trivial (by kernel_rfl) ?_
  exact ⟨_, _, _, rfl, s, rfl⟩

set_option maxHeartbeats 1000000 in
theorem isOne1_c {I : IM} {k k2 : Nat} (hk : D1 I k k2) (hk2 : D2 I k2) : Fun Try.prog 41 #[.agg #[.bool false, .pointer (some ⟨k, 0, none⟩)]] I (fun v J => v = .bool false) := by
  refine enter_rule 5 [(0, .agg #[.bool false, .pointer (some ⟨k, 0, none⟩)])] Try.func41 rfl (by kernel_rfl) ?_
  intro w s
  refine wp_seq ?_
  refine region_rule ?_
  refine ops_rule (C := []) [] [] 2 [] 1 (fun φ1 => [(2, .bool false), (1, .pointer (some ⟨(φ1 0), 0, none⟩))]) (fun φ1 => [((φ1 0), .cells #[.bool false, .pointer (some ⟨k, 0, none⟩)] 26)]) (fun φ1 => []) s trivial (fun φ1 => by kernel_rfl) ?_
  intro φ1 w1 s
  refine ops_done (by kernel_rfl) ?_
  refine wp_seq ?_
  refine region_rule ?_
  refine ops_rule (C := []) [((φ1 0), .cells #[.bool false, .pointer (some ⟨k, 0, none⟩)] 26)] [] 3 [.o 0] 0 (fun φ2 => [(2, .bool false), (4, .bool false), (3, .pointer (some ⟨(φ1 0), 0, none⟩))]) (fun φ2 => [((φ1 0), .cells #[.bool false, .pointer (some ⟨k, 0, none⟩)] 26)]) (fun φ2 => [(φ1 0)]) s trivial (fun φ2 => by kernel_rfl) ?_
  intro φ2 w2 s
  refine ops_done (by kernel_rfl) ?_
  refine wp_ret ?_
  refine ret_rule (C := []) [((φ1 0), .cells #[.bool false, .pointer (some ⟨k, 0, none⟩)] 26)] [] (.bool false) [] [] s trivial (by kernel_rfl) ?_
  exact ⟨_, _, _, rfl, s, rfl⟩

set_option maxHeartbeats 1000000 in
theorem depthZ_c {I : IM} : Fun Try.prog 45 #[.agg #[.bool false, .pointer none]] I (fun v J => v = .int .i64 0) := by
  refine enter_rule 11 [(0, .agg #[.bool false, .pointer none])] Try.func45 rfl (by kernel_rfl) ?_
  intro w s
  refine wp_seq ?_
  refine region_rule ?_
  refine ops_rule (C := []) [] [] 2 [] 1 (fun φ1 => [(2, .int .i64 0), (1, .pointer (some ⟨(φ1 0), 0, none⟩))]) (fun φ1 => [((φ1 0), .cells #[.bool false, .pointer none] 26)]) (fun φ1 => []) s trivial (fun φ1 => by kernel_rfl) ?_
  intro φ1 w1 s
  refine ops_done (by kernel_rfl) ?_
  refine wp_seq ?_
  refine wp_seq ?_
  refine region_rule ?_
  refine ops_rule (C := []) [((φ1 0), .cells #[.bool false, .pointer none] 26)] [] 3 [.o 0] 0 (fun φ2 => [(5, .bool true), (4, .pointer none), (3, .pointer (some ⟨(φ1 0), 1, none⟩))]) (fun φ2 => [((φ1 0), .cells #[.bool false, .pointer none] 26)]) (fun φ2 => [(φ1 0)]) s trivial (fun φ2 => by kernel_rfl) ?_
  intro φ2 w2 s
  refine ops_done (by kernel_rfl) ?_
  refine cond_true_rule (b := true) (by kernel_rfl) rfl ?_
  refine wp_seq ?_
  refine region_rule ?_
  refine ops_rule (C := []) [((φ1 0), .cells #[.bool false, .pointer none] 26)] [] 1 [] 0 (fun φ3 => [(2, .int .i64 0)]) (fun φ3 => [((φ1 0), .cells #[.bool false, .pointer none] 26)]) (fun φ3 => []) s trivial (fun φ3 => by kernel_rfl) ?_
  intro φ3 w3 s
  refine ops_done (by kernel_rfl) ?_
  refine wp_ret ?_
  refine ret_rule (C := []) [((φ1 0), .cells #[.bool false, .pointer none] 26)] [] (.int .i64 0) [] [] s trivial (by kernel_rfl) ?_
  exact ⟨_, _, _, rfl, s, rfl⟩

set_option maxHeartbeats 1000000 in
theorem depthO_c {I : IM} : Fun Try.prog 45 #[.agg #[.bool true, .pointer none]] I (fun v J => v = .int .i64 0) := by
  refine enter_rule 11 [(0, .agg #[.bool true, .pointer none])] Try.func45 rfl (by kernel_rfl) ?_
  intro w s
  refine wp_seq ?_
  refine region_rule ?_
  refine ops_rule (C := []) [] [] 2 [] 1 (fun φ1 => [(2, .int .i64 0), (1, .pointer (some ⟨(φ1 0), 0, none⟩))]) (fun φ1 => [((φ1 0), .cells #[.bool true, .pointer none] 26)]) (fun φ1 => []) s trivial (fun φ1 => by kernel_rfl) ?_
  intro φ1 w1 s
  refine ops_done (by kernel_rfl) ?_
  refine wp_seq ?_
  refine wp_seq ?_
  refine region_rule ?_
  refine ops_rule (C := []) [((φ1 0), .cells #[.bool true, .pointer none] 26)] [] 3 [.o 0] 0 (fun φ2 => [(5, .bool true), (4, .pointer none), (3, .pointer (some ⟨(φ1 0), 1, none⟩))]) (fun φ2 => [((φ1 0), .cells #[.bool true, .pointer none] 26)]) (fun φ2 => [(φ1 0)]) s trivial (fun φ2 => by kernel_rfl) ?_
  intro φ2 w2 s
  refine ops_done (by kernel_rfl) ?_
  refine cond_true_rule (b := true) (by kernel_rfl) rfl ?_
  refine wp_seq ?_
  refine region_rule ?_
  refine ops_rule (C := []) [((φ1 0), .cells #[.bool true, .pointer none] 26)] [] 1 [] 0 (fun φ3 => [(2, .int .i64 0)]) (fun φ3 => [((φ1 0), .cells #[.bool true, .pointer none] 26)]) (fun φ3 => []) s trivial (fun φ3 => by kernel_rfl) ?_
  intro φ3 w3 s
  refine ops_done (by kernel_rfl) ?_
  refine wp_ret ?_
  refine ret_rule (C := []) [((φ1 0), .cells #[.bool true, .pointer none] 26)] [] (.int .i64 0) [] [] s trivial (by kernel_rfl) ?_
  exact ⟨_, _, _, rfl, s, rfl⟩

set_option maxHeartbeats 1000000 in
theorem depth2_c {I : IM} {k : Nat} (hk : D2 I k) : Fun Try.prog 45 #[.agg #[.bool false, .pointer (some ⟨k, 0, none⟩)]] I (fun v J => v = .int .i64 1) := by
  refine enter_rule 11 [(0, .agg #[.bool false, .pointer (some ⟨k, 0, none⟩)])] Try.func45 rfl (by kernel_rfl) ?_
  intro w s
  refine wp_seq ?_
  refine region_rule ?_
  refine ops_rule (C := []) [] [] 2 [] 1 (fun φ1 => [(2, .int .i64 0), (1, .pointer (some ⟨(φ1 0), 0, none⟩))]) (fun φ1 => [((φ1 0), .cells #[.bool false, .pointer (some ⟨k, 0, none⟩)] 26)]) (fun φ1 => []) s trivial (fun φ1 => by kernel_rfl) ?_
  intro φ1 w1 s
  refine ops_done (by kernel_rfl) ?_
  refine wp_seq ?_
  refine wp_seq ?_
  refine region_rule ?_
  refine ops_rule (C := []) [((φ1 0), .cells #[.bool false, .pointer (some ⟨k, 0, none⟩)] 26)] [] 3 [.o 0] 0 (fun φ2 => [(5, .bool false), (4, .pointer (some ⟨k, 0, none⟩)), (3, .pointer (some ⟨(φ1 0), 1, none⟩))]) (fun φ2 => [((φ1 0), .cells #[.bool false, .pointer (some ⟨k, 0, none⟩)] 26)]) (fun φ2 => [(φ1 0)]) s trivial (fun φ2 => by kernel_rfl) ?_
  intro φ2 w2 s
  refine ops_done (by kernel_rfl) ?_
  refine cond_false_rule (b := false) (by kernel_rfl) rfl ?_
  refine wp_skip ?_
  refine wp_seq ?_
  refine region_rule ?_
  refine ops_rule (C := [(k, .cells #[.bool false, .pointer none, .bool true, .pointer none, .int .i64 1] 98)]) [((φ1 0), .cells #[.bool false, .pointer (some ⟨k, 0, none⟩)] 26)] [] 6 [.o 0, .c 0] 0 (fun φ3 => [(2, .int .i64 1), (10, .int .i64 1), (9, .pointer (some ⟨k, 4, none⟩)), (8, .pointer (some ⟨k, 0, none⟩)), (7, .pointer (some ⟨k, 0, none⟩)), (6, .pointer (some ⟨(φ1 0), 1, none⟩))]) (fun φ3 => [((φ1 0), .cells #[.bool false, .pointer (some ⟨k, 0, none⟩)] 26)]) (fun φ3 => [(φ1 0), k]) s ⟨hk, trivial⟩ (fun φ3 => by kernel_rfl) ?_
  intro φ3 w3 s
  refine ops_done (by kernel_rfl) ?_
  refine wp_ret ?_
  refine ret_rule (C := []) [((φ1 0), .cells #[.bool false, .pointer (some ⟨k, 0, none⟩)] 26)] [] (.int .i64 1) [] [] s trivial (by kernel_rfl) ?_
  exact ⟨_, _, _, rfl, s, rfl⟩

set_option maxHeartbeats 1000000 in
theorem left2_c {I : IM} {k : Nat} (hk : D2 I k) : Fun Try.prog 42 #[.agg #[.bool false, .pointer (some ⟨k, 0, none⟩)]] I (fun v J => v = .agg #[.bool false, .pointer none]) := by
  refine enter_rule 12 [(0, .agg #[.bool false, .pointer (some ⟨k, 0, none⟩)])] Try.func42 rfl (by kernel_rfl) ?_
  intro w s
  refine wp_seq ?_
  refine region_rule ?_
  refine ops_rule (C := []) [] [] 2 [] 2 (fun φ1 => [(2, .pointer (some ⟨(φ1 1), 0, none⟩)), (1, .pointer (some ⟨(φ1 0), 0, none⟩))]) (fun φ1 => [((φ1 0), .cells #[.bool false, .pointer (some ⟨k, 0, none⟩)] 26), ((φ1 1), .cells #[.bool false, .pointer none] 26)]) (fun φ1 => []) s trivial (fun φ1 => by kernel_rfl) ?_
  intro φ1 w1 s
  refine ops_done (by kernel_rfl) ?_
  refine wp_seq ?_
  refine wp_seq ?_
  refine region_rule ?_
  refine ops_rule (C := []) [((φ1 0), .cells #[.bool false, .pointer (some ⟨k, 0, none⟩)] 26), ((φ1 1), .cells #[.bool false, .pointer none] 26)] [] 3 [.o 0] 0 (fun φ2 => [(5, .bool false), (4, .pointer (some ⟨k, 0, none⟩)), (3, .pointer (some ⟨(φ1 0), 1, none⟩))]) (fun φ2 => [((φ1 0), .cells #[.bool false, .pointer (some ⟨k, 0, none⟩)] 26), ((φ1 1), .cells #[.bool false, .pointer none] 26)]) (fun φ2 => [(φ1 0)]) s trivial (fun φ2 => by kernel_rfl) ?_
  intro φ2 w2 s
  refine ops_done (by kernel_rfl) ?_
  refine cond_false_rule (b := false) (by kernel_rfl) rfl ?_
  refine wp_skip ?_
  refine wp_seq ?_
  refine region_rule ?_
  refine ops_rule (C := [(k, .cells #[.bool false, .pointer none, .bool true, .pointer none, .int .i64 1] 98)]) [((φ1 0), .cells #[.bool false, .pointer (some ⟨k, 0, none⟩)] 26), ((φ1 1), .cells #[.bool false, .pointer none] 26)] [] 6 [.o 0, .c 0, .c 0, .o 1, .o 1] 0 (fun φ3 => [(11, .agg #[.bool false, .pointer none]), (10, .pointer (some ⟨k, 0, none⟩)), (9, .pointer (some ⟨k, 0, none⟩)), (8, .pointer (some ⟨k, 0, none⟩)), (7, .pointer (some ⟨(φ1 0), 1, none⟩))]) (fun φ3 => [((φ1 0), .cells #[.bool false, .pointer (some ⟨k, 0, none⟩)] 26), ((φ1 1), .cells #[.bool false, .pointer none] 26)]) (fun φ3 => [(φ1 0), k, k, (φ1 1), (φ1 1)]) s ⟨hk, trivial⟩ (fun φ3 => by kernel_rfl) ?_
  intro φ3 w3 s
  refine ops_done (by kernel_rfl) ?_
  refine wp_ret ?_
  refine ret_rule (C := []) [((φ1 0), .cells #[.bool false, .pointer (some ⟨k, 0, none⟩)] 26), ((φ1 1), .cells #[.bool false, .pointer none] 26)] [] (.agg #[.bool false, .pointer none]) [.o 1, .o 1] [(φ1 1), (φ1 1)] s trivial (by kernel_rfl) ?_
  exact ⟨_, _, _, rfl, s, rfl⟩

set_option maxHeartbeats 1000000 in
theorem left1_c {I : IM} {k k2 : Nat} (hk : D1 I k k2) (hk2 : D2 I k2) : Fun Try.prog 42 #[.agg #[.bool false, .pointer (some ⟨k, 0, none⟩)]] I (fun v J => v = .agg #[.bool true, .pointer none]) := by
  refine enter_rule 12 [(0, .agg #[.bool false, .pointer (some ⟨k, 0, none⟩)])] Try.func42 rfl (by kernel_rfl) ?_
  intro w s
  refine wp_seq ?_
  refine region_rule ?_
  refine ops_rule (C := []) [] [] 2 [] 2 (fun φ1 => [(2, .pointer (some ⟨(φ1 1), 0, none⟩)), (1, .pointer (some ⟨(φ1 0), 0, none⟩))]) (fun φ1 => [((φ1 0), .cells #[.bool false, .pointer (some ⟨k, 0, none⟩)] 26), ((φ1 1), .cells #[.bool false, .pointer none] 26)]) (fun φ1 => []) s trivial (fun φ1 => by kernel_rfl) ?_
  intro φ1 w1 s
  refine ops_done (by kernel_rfl) ?_
  refine wp_seq ?_
  refine wp_seq ?_
  refine region_rule ?_
  refine ops_rule (C := []) [((φ1 0), .cells #[.bool false, .pointer (some ⟨k, 0, none⟩)] 26), ((φ1 1), .cells #[.bool false, .pointer none] 26)] [] 3 [.o 0] 0 (fun φ2 => [(5, .bool false), (4, .pointer (some ⟨k, 0, none⟩)), (3, .pointer (some ⟨(φ1 0), 1, none⟩))]) (fun φ2 => [((φ1 0), .cells #[.bool false, .pointer (some ⟨k, 0, none⟩)] 26), ((φ1 1), .cells #[.bool false, .pointer none] 26)]) (fun φ2 => [(φ1 0)]) s trivial (fun φ2 => by kernel_rfl) ?_
  intro φ2 w2 s
  refine ops_done (by kernel_rfl) ?_
  refine cond_false_rule (b := false) (by kernel_rfl) rfl ?_
  refine wp_skip ?_
  refine wp_seq ?_
  refine region_rule ?_
  refine ops_rule (C := [(k, .cells #[.bool true, .pointer none, .bool false, .pointer (some ⟨k2, 0, none⟩), .int .i64 2] 98)]) [((φ1 0), .cells #[.bool false, .pointer (some ⟨k, 0, none⟩)] 26), ((φ1 1), .cells #[.bool false, .pointer none] 26)] [] 6 [.o 0, .c 0, .c 0, .o 1, .o 1] 0 (fun φ3 => [(11, .agg #[.bool true, .pointer none]), (10, .pointer (some ⟨k, 0, none⟩)), (9, .pointer (some ⟨k, 0, none⟩)), (8, .pointer (some ⟨k, 0, none⟩)), (7, .pointer (some ⟨(φ1 0), 1, none⟩))]) (fun φ3 => [((φ1 0), .cells #[.bool false, .pointer (some ⟨k, 0, none⟩)] 26), ((φ1 1), .cells #[.bool true, .pointer none] 26)]) (fun φ3 => [(φ1 0), k, k, (φ1 1), (φ1 1)]) s ⟨hk, trivial⟩ (fun φ3 => by kernel_rfl) ?_
  intro φ3 w3 s
  refine ops_done (by kernel_rfl) ?_
  refine wp_ret ?_
  refine ret_rule (C := []) [((φ1 0), .cells #[.bool false, .pointer (some ⟨k, 0, none⟩)] 26), ((φ1 1), .cells #[.bool true, .pointer none] 26)] [] (.agg #[.bool true, .pointer none]) [.o 1, .o 1] [(φ1 1), (φ1 1)] s trivial (by kernel_rfl) ?_
  exact ⟨_, _, _, rfl, s, rfl⟩

set_option maxHeartbeats 1000000 in
theorem right2_c {I : IM} {k : Nat} (hk : D2 I k) : Fun Try.prog 43 #[.agg #[.bool false, .pointer (some ⟨k, 0, none⟩)]] I (fun v J => v = .agg #[.bool true, .pointer none]) := by
  refine enter_rule 12 [(0, .agg #[.bool false, .pointer (some ⟨k, 0, none⟩)])] Try.func43 rfl (by kernel_rfl) ?_
  intro w s
  refine wp_seq ?_
  refine region_rule ?_
  refine ops_rule (C := []) [] [] 2 [] 2 (fun φ1 => [(2, .pointer (some ⟨(φ1 1), 0, none⟩)), (1, .pointer (some ⟨(φ1 0), 0, none⟩))]) (fun φ1 => [((φ1 0), .cells #[.bool false, .pointer (some ⟨k, 0, none⟩)] 26), ((φ1 1), .cells #[.bool false, .pointer none] 26)]) (fun φ1 => []) s trivial (fun φ1 => by kernel_rfl) ?_
  intro φ1 w1 s
  refine ops_done (by kernel_rfl) ?_
  refine wp_seq ?_
  refine wp_seq ?_
  refine region_rule ?_
  refine ops_rule (C := []) [((φ1 0), .cells #[.bool false, .pointer (some ⟨k, 0, none⟩)] 26), ((φ1 1), .cells #[.bool false, .pointer none] 26)] [] 3 [.o 0] 0 (fun φ2 => [(5, .bool false), (4, .pointer (some ⟨k, 0, none⟩)), (3, .pointer (some ⟨(φ1 0), 1, none⟩))]) (fun φ2 => [((φ1 0), .cells #[.bool false, .pointer (some ⟨k, 0, none⟩)] 26), ((φ1 1), .cells #[.bool false, .pointer none] 26)]) (fun φ2 => [(φ1 0)]) s trivial (fun φ2 => by kernel_rfl) ?_
  intro φ2 w2 s
  refine ops_done (by kernel_rfl) ?_
  refine cond_false_rule (b := false) (by kernel_rfl) rfl ?_
  refine wp_skip ?_
  refine wp_seq ?_
  refine region_rule ?_
  refine ops_rule (C := [(k, .cells #[.bool false, .pointer none, .bool true, .pointer none, .int .i64 1] 98)]) [((φ1 0), .cells #[.bool false, .pointer (some ⟨k, 0, none⟩)] 26), ((φ1 1), .cells #[.bool false, .pointer none] 26)] [] 6 [.o 0, .c 0, .c 0, .o 1, .o 1] 0 (fun φ3 => [(11, .agg #[.bool true, .pointer none]), (10, .pointer (some ⟨k, 2, none⟩)), (9, .pointer (some ⟨k, 0, none⟩)), (8, .pointer (some ⟨k, 0, none⟩)), (7, .pointer (some ⟨(φ1 0), 1, none⟩))]) (fun φ3 => [((φ1 0), .cells #[.bool false, .pointer (some ⟨k, 0, none⟩)] 26), ((φ1 1), .cells #[.bool true, .pointer none] 26)]) (fun φ3 => [(φ1 0), k, k, (φ1 1), (φ1 1)]) s ⟨hk, trivial⟩ (fun φ3 => by kernel_rfl) ?_
  intro φ3 w3 s
  refine ops_done (by kernel_rfl) ?_
  refine wp_ret ?_
  refine ret_rule (C := []) [((φ1 0), .cells #[.bool false, .pointer (some ⟨k, 0, none⟩)] 26), ((φ1 1), .cells #[.bool true, .pointer none] 26)] [] (.agg #[.bool true, .pointer none]) [.o 1, .o 1] [(φ1 1), (φ1 1)] s trivial (by kernel_rfl) ?_
  exact ⟨_, _, _, rfl, s, rfl⟩

set_option maxHeartbeats 1000000 in
theorem right1_c {I : IM} {k k2 : Nat} (hk : D1 I k k2) (hk2 : D2 I k2) : Fun Try.prog 43 #[.agg #[.bool false, .pointer (some ⟨k, 0, none⟩)]] I (fun v J => v = .agg #[.bool false, .pointer (some ⟨k2, 0, none⟩)]) := by
  refine enter_rule 12 [(0, .agg #[.bool false, .pointer (some ⟨k, 0, none⟩)])] Try.func43 rfl (by kernel_rfl) ?_
  intro w s
  refine wp_seq ?_
  refine region_rule ?_
  refine ops_rule (C := []) [] [] 2 [] 2 (fun φ1 => [(2, .pointer (some ⟨(φ1 1), 0, none⟩)), (1, .pointer (some ⟨(φ1 0), 0, none⟩))]) (fun φ1 => [((φ1 0), .cells #[.bool false, .pointer (some ⟨k, 0, none⟩)] 26), ((φ1 1), .cells #[.bool false, .pointer none] 26)]) (fun φ1 => []) s trivial (fun φ1 => by kernel_rfl) ?_
  intro φ1 w1 s
  refine ops_done (by kernel_rfl) ?_
  refine wp_seq ?_
  refine wp_seq ?_
  refine region_rule ?_
  refine ops_rule (C := []) [((φ1 0), .cells #[.bool false, .pointer (some ⟨k, 0, none⟩)] 26), ((φ1 1), .cells #[.bool false, .pointer none] 26)] [] 3 [.o 0] 0 (fun φ2 => [(5, .bool false), (4, .pointer (some ⟨k, 0, none⟩)), (3, .pointer (some ⟨(φ1 0), 1, none⟩))]) (fun φ2 => [((φ1 0), .cells #[.bool false, .pointer (some ⟨k, 0, none⟩)] 26), ((φ1 1), .cells #[.bool false, .pointer none] 26)]) (fun φ2 => [(φ1 0)]) s trivial (fun φ2 => by kernel_rfl) ?_
  intro φ2 w2 s
  refine ops_done (by kernel_rfl) ?_
  refine cond_false_rule (b := false) (by kernel_rfl) rfl ?_
  refine wp_skip ?_
  refine wp_seq ?_
  refine region_rule ?_
  refine ops_rule (C := [(k, .cells #[.bool true, .pointer none, .bool false, .pointer (some ⟨k2, 0, none⟩), .int .i64 2] 98)]) [((φ1 0), .cells #[.bool false, .pointer (some ⟨k, 0, none⟩)] 26), ((φ1 1), .cells #[.bool false, .pointer none] 26)] [] 6 [.o 0, .c 0, .c 0, .o 1, .o 1] 0 (fun φ3 => [(11, .agg #[.bool false, .pointer (some ⟨k2, 0, none⟩)]), (10, .pointer (some ⟨k, 2, none⟩)), (9, .pointer (some ⟨k, 0, none⟩)), (8, .pointer (some ⟨k, 0, none⟩)), (7, .pointer (some ⟨(φ1 0), 1, none⟩))]) (fun φ3 => [((φ1 0), .cells #[.bool false, .pointer (some ⟨k, 0, none⟩)] 26), ((φ1 1), .cells #[.bool false, .pointer (some ⟨k2, 0, none⟩)] 26)]) (fun φ3 => [(φ1 0), k, k, (φ1 1), (φ1 1)]) s ⟨hk, trivial⟩ (fun φ3 => by kernel_rfl) ?_
  intro φ3 w3 s
  refine ops_done (by kernel_rfl) ?_
  refine wp_ret ?_
  refine ret_rule (C := []) [((φ1 0), .cells #[.bool false, .pointer (some ⟨k, 0, none⟩)] 26), ((φ1 1), .cells #[.bool false, .pointer (some ⟨k2, 0, none⟩)] 26)] [] (.agg #[.bool false, .pointer (some ⟨k2, 0, none⟩)]) [.o 1, .o 1] [(φ1 1), (φ1 1)] s trivial (by kernel_rfl) ?_
  exact ⟨_, _, _, rfl, s, rfl⟩

set_option maxHeartbeats 1000000 in
theorem merge2_c {I : IM} : Fun Try.prog 59 #[.agg #[.bool false, .pointer none], .agg #[.bool true, .pointer none]] I (fun v J => ∃ k, v = .agg #[.bool false, .pointer (some ⟨k, 0, none⟩)] ∧ D2 J k) := by
  refine enter_rule 30 [(0, .agg #[.bool false, .pointer none]), (1, .agg #[.bool true, .pointer none])] Try.func59 rfl (by kernel_rfl) ?_
  intro w s
  refine wp_seq ?_
  refine region_rule ?_
  refine ops_rule (C := []) [] [] 3 [] 3 (fun φ1 => [(4, .pointer (some ⟨(φ1 2), 0, none⟩)), (3, .pointer (some ⟨(φ1 1), 0, none⟩)), (2, .pointer (some ⟨(φ1 0), 0, none⟩))]) (fun φ1 => [((φ1 0), .cells #[.bool false, .pointer none] 26), ((φ1 1), .cells #[.bool true, .pointer none] 26), ((φ1 2), .cells #[.bool false, .pointer none] 26)]) (fun φ1 => []) s trivial (fun φ1 => by kernel_rfl) ?_
  intro φ1 w1 s
  refine ops_done (by kernel_rfl) ?_
  refine wp_seq ?_
  refine wp_seq ?_
  refine region_rule ?_
  refine ops_rule (C := []) [((φ1 0), .cells #[.bool false, .pointer none] 26), ((φ1 1), .cells #[.bool true, .pointer none] 26), ((φ1 2), .cells #[.bool false, .pointer none] 26)] [] 1 [.o 0, .o 0] 0 (fun φ2 => [(5, .agg #[.bool false, .pointer none])]) (fun φ2 => [((φ1 0), .cells #[.bool false, .pointer none] 26), ((φ1 1), .cells #[.bool true, .pointer none] 26), ((φ1 2), .cells #[.bool false, .pointer none] 26)]) (fun φ2 => [(φ1 0), (φ1 0)]) s trivial (fun φ2 => by kernel_rfl) ?_
  intro φ2 w2 s
  refine call_rule (some 6) s (isZeroZ_c) (by kernel_rfl) ?_
  intro v3 I3 w3 le3 h3 s
  obtain rfl := h3
  refine ops_rule (C := []) [((φ1 0), .cells #[.bool false, .pointer none] 26), ((φ1 1), .cells #[.bool true, .pointer none] 26), ((φ1 2), .cells #[.bool false, .pointer none] 26)] [] 2 [.o 1, .o 1] 0 (fun φ4 => [(8, .agg #[.bool true, .pointer none]), (7, .bool true)]) (fun φ4 => [((φ1 0), .cells #[.bool false, .pointer none] 26), ((φ1 1), .cells #[.bool true, .pointer none] 26), ((φ1 2), .cells #[.bool false, .pointer none] 26)]) (fun φ4 => [(φ1 1), (φ1 1)]) s trivial (fun φ4 => by kernel_rfl) ?_
  intro φ4 w4 s
  refine call_rule (some 9) s (isZeroO_c) (by kernel_rfl) ?_
  intro v5 I5 w5 le5 h5 s
  obtain rfl := h5
  refine ops_rule (C := []) [((φ1 0), .cells #[.bool false, .pointer none] 26), ((φ1 1), .cells #[.bool true, .pointer none] 26), ((φ1 2), .cells #[.bool false, .pointer none] 26)] [] 1 [] 0 (fun φ6 => [(10, .bool false)]) (fun φ6 => [((φ1 0), .cells #[.bool false, .pointer none] 26), ((φ1 1), .cells #[.bool true, .pointer none] 26), ((φ1 2), .cells #[.bool false, .pointer none] 26)]) (fun φ6 => []) s trivial (fun φ6 => by kernel_rfl) ?_
  intro φ6 w6 s
  refine ops_done (by kernel_rfl) ?_
  refine cond_false_rule (b := false) (by kernel_rfl) rfl ?_
  refine wp_skip ?_
  refine wp_seq ?_
  refine wp_seq ?_
  refine region_rule ?_
  refine ops_rule (C := []) [((φ1 0), .cells #[.bool false, .pointer none] 26), ((φ1 1), .cells #[.bool true, .pointer none] 26), ((φ1 2), .cells #[.bool false, .pointer none] 26)] [] 1 [.o 0, .o 0] 0 (fun φ7 => [(12, .agg #[.bool false, .pointer none])]) (fun φ7 => [((φ1 0), .cells #[.bool false, .pointer none] 26), ((φ1 1), .cells #[.bool true, .pointer none] 26), ((φ1 2), .cells #[.bool false, .pointer none] 26)]) (fun φ7 => [(φ1 0), (φ1 0)]) s trivial (fun φ7 => by kernel_rfl) ?_
  intro φ7 w7 s
  refine call_rule (some 13) s (isOneZ_c) (by kernel_rfl) ?_
  intro v8 I8 w8 le8 h8 s
  obtain rfl := h8
  refine ops_rule (C := []) [((φ1 0), .cells #[.bool false, .pointer none] 26), ((φ1 1), .cells #[.bool true, .pointer none] 26), ((φ1 2), .cells #[.bool false, .pointer none] 26)] [] 4 [] 0 (fun φ9 => [(17, .bool false), (16, undef), (15, undef), (14, .bool false)]) (fun φ9 => [((φ1 0), .cells #[.bool false, .pointer none] 26), ((φ1 1), .cells #[.bool true, .pointer none] 26), ((φ1 2), .cells #[.bool false, .pointer none] 26)]) (fun φ9 => []) s trivial (fun φ9 => by kernel_rfl) ?_
  intro φ9 w9 s
  refine ops_done (by kernel_rfl) ?_
  refine cond_false_rule (b := false) (by kernel_rfl) rfl ?_
  refine wp_skip ?_
  refine wp_seq ?_
  refine draw_rule (C := []) ⟨(fun φ10 xs10 => [.look 0 [.o 0, .o 0] [(φ1 0), (φ1 0)], .look 0 [.o 1, .o 1] [(φ1 1), (φ1 1)], .look 0 [.o 0, .o 0] [(φ1 0), (φ1 0)], .call 45 #[.agg #[.bool false, .pointer none]], .look 0 [.o 1, .o 1] [(φ1 1), (φ1 1)], .call 45 #[.agg #[.bool true, .pointer none]], .look 0 [] [], .look 0 [] [], .look 0 [] [], .new, .look 0 [] [], .store 0 [.o 2, .o 2] [(φ1 2), (φ1 2)]]), (fun φ10 xs10 => [.agg #[.bool false, .pointer none], .agg #[.bool true, .pointer none], .agg #[.bool false, .pointer none], .int .i64 0, .agg #[.bool true, .pointer none], .int .i64 0, .int .i64 0, .int .i64 1, .agg #[.bool false, .pointer none, .bool true, .pointer none, .int .i64 1], .pointer (some ⟨(φ10 9), 0, none⟩), .agg #[.bool false, .pointer (some ⟨(φ10 9), 0, none⟩)], undef]), (fun φ10 xs10 => [[((φ1 0), .cells #[.bool false, .pointer none] 26), ((φ1 1), .cells #[.bool true, .pointer none] 26), ((φ1 2), .cells #[.bool false, .pointer none] 26)], [((φ1 0), .cells #[.bool false, .pointer none] 26), ((φ1 1), .cells #[.bool true, .pointer none] 26), ((φ1 2), .cells #[.bool false, .pointer (some ⟨(φ10 9), 0, none⟩)] 26)]]), (fun φ10 xs10 => [[default, default, default, default, default, default, default, default, default, .cells #[.bool false, .pointer none, .bool true, .pointer none, .int .i64 1] 98, default, default], [default, default, default, default, default, default, default, default, default, .cells #[.bool false, .pointer none, .bool true, .pointer none, .int .i64 1] 98, default, default]]), [11], [1, 1, 1, 3, 1, 3, 1, 1, 1, 2, 1, 4]⟩ (fun j => ([MP.any, MP.any, MP.any, MP.any, MP.any, MP.any, MP.any, MP.any, MP.any, MP.any, MP.any, MP.any] : List MP).getD j MP.any) [3, 5] [] [] (fun φ10 xs10 => [[none, none, none, none, none, none, none, none, none, none, none, none]]) (fun φ10 xs10 => [(19, .agg #[.bool false, .pointer none]), (20, .agg #[.bool true, .pointer none]), (21, .agg #[.bool false, .pointer none]), (22, .int .i64 0), (23, .agg #[.bool true, .pointer none]), (24, .int .i64 0), (25, .int .i64 0), (26, .int .i64 1), (27, .agg #[.bool false, .pointer none, .bool true, .pointer none, .int .i64 1]), (28, .pointer (some ⟨(φ10 9), 0, none⟩)), (29, .agg #[.bool false, .pointer (some ⟨(φ10 9), 0, none⟩)])]) (fun φ10 xs10 => [((φ1 0), .cells #[.bool false, .pointer none] 26), ((φ1 1), .cells #[.bool true, .pointer none] 26), ((φ1 2), .cells #[.bool false, .pointer (some ⟨(φ10 9), 0, none⟩)] 26), ((φ10 9), .cells #[.bool false, .pointer none, .bool true, .pointer none, .int .i64 1] 98)]) s trivial (by kernel_rfl) (by kernel_rfl) (fun _ _ => by kernel_rfl) (fun _ _ => by kernel_rfl) ⟨fun _ _ => by kernel_rfl, fun _ _ => by kernel_rfl, fun _ _ => by kernel_rfl, fun _ _ => by kernel_rfl⟩ (fun _ _ _ => by kernel_rfl) (fun _ _ => by kernel_rfl) (fun _ _ => by kernel_rfl) (fun _ _ => by kernel_rfl) (fun _ _ => by kernel_rfl) (fun _ _ => by kernel_rfl) trivial trivial (by kernel_rfl) ⟨?c10_3, ?c10_5, trivial⟩ ?k10
  case c10_3 =>
    refine kcast (A := ∀ (φ10 : Nat → Nat) (xs10 : Xs) (J3_10 : IM), I8.Le J3_10 → Fun Try.prog 45 #[.agg #[.bool false, .pointer none]] J3_10 (fun v J' => ∃ x : UX, v = .int .i64 0 ∧ (True))) (by kernel_rfl) ?_
    intro φ10 xs10 J3_10 leJ
    exact Fun.mono (depthZ_c) (fun v J' _ h => ⟨UX.d, h, trivial⟩)
  case c10_5 =>
    refine kcast (A := ∀ (φ10 : Nat → Nat) (xs10 : Xs) (J5_10 : IM), I8.Le J5_10 → (True) → Fun Try.prog 45 #[.agg #[.bool true, .pointer none]] J5_10 (fun v J' => ∃ x : UX, v = .int .i64 0 ∧ (True))) (by kernel_rfl) ?_
    intro φ10 xs10 J5_10 leJ
    rintro _
    exact Fun.mono (depthO_c) (fun v J' _ h => ⟨UX.d, h, trivial⟩)
  case k10 =>
    rintro φ10 xs10 I10 w10 le10 s _ _
    refine wp_ret ?_
    refine ret_rule (C := []) [((φ1 0), .cells #[.bool false, .pointer none] 26), ((φ1 1), .cells #[.bool true, .pointer none] 26), ((φ1 2), .cells #[.bool false, .pointer (some ⟨(φ10 9), 0, none⟩)] 26), ((φ10 9), .cells #[.bool false, .pointer none, .bool true, .pointer none, .int .i64 1] 98)] [] (.agg #[.bool false, .pointer (some ⟨(φ10 9), 0, none⟩)]) [.o 2, .o 2] [(φ1 2), (φ1 2)] s trivial (by kernel_rfl) ?_
    obtain ⟨I11, le11, hk11, s⟩ := s.freezeAt 3 (φ10 9) (.cells #[.bool false, .pointer none, .bool true, .pointer none, .int .i64 1] 98) [((φ1 0), .cells #[.bool false, .pointer none] 26), ((φ1 1), .cells #[.bool true, .pointer none] 26), ((φ1 2), .cells #[.bool false, .pointer (some ⟨(φ10 9), 0, none⟩)] 26)] (by kernel_rfl) (by kernel_rfl)
    exact ⟨_, _, _, rfl, s, ⟨_, rfl, hk11⟩⟩

set_option maxHeartbeats 1000000 in
theorem merge1_c {I : IM} {k : Nat} (hk : D2 I k) : Fun Try.prog 59 #[.agg #[.bool true, .pointer none], .agg #[.bool false, .pointer (some ⟨k, 0, none⟩)]] I (fun v J => ∃ k1, v = .agg #[.bool false, .pointer (some ⟨k1, 0, none⟩)] ∧ D1 J k1 k) := by
  refine enter_rule 30 [(0, .agg #[.bool true, .pointer none]), (1, .agg #[.bool false, .pointer (some ⟨k, 0, none⟩)])] Try.func59 rfl (by kernel_rfl) ?_
  intro w s
  refine wp_seq ?_
  refine region_rule ?_
  refine ops_rule (C := []) [] [] 3 [] 3 (fun φ1 => [(4, .pointer (some ⟨(φ1 2), 0, none⟩)), (3, .pointer (some ⟨(φ1 1), 0, none⟩)), (2, .pointer (some ⟨(φ1 0), 0, none⟩))]) (fun φ1 => [((φ1 0), .cells #[.bool true, .pointer none] 26), ((φ1 1), .cells #[.bool false, .pointer (some ⟨k, 0, none⟩)] 26), ((φ1 2), .cells #[.bool false, .pointer none] 26)]) (fun φ1 => []) s trivial (fun φ1 => by kernel_rfl) ?_
  intro φ1 w1 s
  refine ops_done (by kernel_rfl) ?_
  refine wp_seq ?_
  refine wp_seq ?_
  refine region_rule ?_
  refine ops_rule (C := []) [((φ1 0), .cells #[.bool true, .pointer none] 26), ((φ1 1), .cells #[.bool false, .pointer (some ⟨k, 0, none⟩)] 26), ((φ1 2), .cells #[.bool false, .pointer none] 26)] [] 1 [.o 0, .o 0] 0 (fun φ2 => [(5, .agg #[.bool true, .pointer none])]) (fun φ2 => [((φ1 0), .cells #[.bool true, .pointer none] 26), ((φ1 1), .cells #[.bool false, .pointer (some ⟨k, 0, none⟩)] 26), ((φ1 2), .cells #[.bool false, .pointer none] 26)]) (fun φ2 => [(φ1 0), (φ1 0)]) s trivial (fun φ2 => by kernel_rfl) ?_
  intro φ2 w2 s
  refine call_rule (some 6) s (isZeroO_c) (by kernel_rfl) ?_
  intro v3 I3 w3 le3 h3 s
  replace hk := D2.mono le3 hk
  obtain rfl := h3
  refine ops_rule (C := []) [((φ1 0), .cells #[.bool true, .pointer none] 26), ((φ1 1), .cells #[.bool false, .pointer (some ⟨k, 0, none⟩)] 26), ((φ1 2), .cells #[.bool false, .pointer none] 26)] [] 4 [] 0 (fun φ4 => [(10, .bool false), (9, undef), (8, undef), (7, .bool false)]) (fun φ4 => [((φ1 0), .cells #[.bool true, .pointer none] 26), ((φ1 1), .cells #[.bool false, .pointer (some ⟨k, 0, none⟩)] 26), ((φ1 2), .cells #[.bool false, .pointer none] 26)]) (fun φ4 => []) s trivial (fun φ4 => by kernel_rfl) ?_
  intro φ4 w4 s
  refine ops_done (by kernel_rfl) ?_
  refine cond_false_rule (b := false) (by kernel_rfl) rfl ?_
  refine wp_skip ?_
  refine wp_seq ?_
  refine wp_seq ?_
  refine region_rule ?_
  refine ops_rule (C := []) [((φ1 0), .cells #[.bool true, .pointer none] 26), ((φ1 1), .cells #[.bool false, .pointer (some ⟨k, 0, none⟩)] 26), ((φ1 2), .cells #[.bool false, .pointer none] 26)] [] 1 [.o 0, .o 0] 0 (fun φ5 => [(12, .agg #[.bool true, .pointer none])]) (fun φ5 => [((φ1 0), .cells #[.bool true, .pointer none] 26), ((φ1 1), .cells #[.bool false, .pointer (some ⟨k, 0, none⟩)] 26), ((φ1 2), .cells #[.bool false, .pointer none] 26)]) (fun φ5 => [(φ1 0), (φ1 0)]) s trivial (fun φ5 => by kernel_rfl) ?_
  intro φ5 w5 s
  refine call_rule (some 13) s (isOneO_c) (by kernel_rfl) ?_
  intro v6 I6 w6 le6 h6 s
  replace hk := D2.mono le6 hk
  obtain rfl := h6
  refine ops_rule (C := []) [((φ1 0), .cells #[.bool true, .pointer none] 26), ((φ1 1), .cells #[.bool false, .pointer (some ⟨k, 0, none⟩)] 26), ((φ1 2), .cells #[.bool false, .pointer none] 26)] [] 2 [.o 1, .o 1] 0 (fun φ7 => [(15, .agg #[.bool false, .pointer (some ⟨k, 0, none⟩)]), (14, .bool true)]) (fun φ7 => [((φ1 0), .cells #[.bool true, .pointer none] 26), ((φ1 1), .cells #[.bool false, .pointer (some ⟨k, 0, none⟩)] 26), ((φ1 2), .cells #[.bool false, .pointer none] 26)]) (fun φ7 => [(φ1 1), (φ1 1)]) s trivial (fun φ7 => by kernel_rfl) ?_
  intro φ7 w7 s
  refine call_rule (some 16) s (isOne2_c (k := k) hk) (by kernel_rfl) ?_
  intro v8 I8 w8 le8 h8 s
  replace hk := D2.mono le8 hk
  obtain rfl := h8
  refine ops_rule (C := []) [((φ1 0), .cells #[.bool true, .pointer none] 26), ((φ1 1), .cells #[.bool false, .pointer (some ⟨k, 0, none⟩)] 26), ((φ1 2), .cells #[.bool false, .pointer none] 26)] [] 1 [] 0 (fun φ9 => [(17, .bool false)]) (fun φ9 => [((φ1 0), .cells #[.bool true, .pointer none] 26), ((φ1 1), .cells #[.bool false, .pointer (some ⟨k, 0, none⟩)] 26), ((φ1 2), .cells #[.bool false, .pointer none] 26)]) (fun φ9 => []) s trivial (fun φ9 => by kernel_rfl) ?_
  intro φ9 w9 s
  refine ops_done (by kernel_rfl) ?_
  refine cond_false_rule (b := false) (by kernel_rfl) rfl ?_
  refine wp_skip ?_
  refine wp_seq ?_
  refine draw_rule (C := []) ⟨(fun φ10 xs10 => [.look 0 [.o 0, .o 0] [(φ1 0), (φ1 0)], .look 0 [.o 1, .o 1] [(φ1 1), (φ1 1)], .look 0 [.o 0, .o 0] [(φ1 0), (φ1 0)], .call 45 #[.agg #[.bool true, .pointer none]], .look 0 [.o 1, .o 1] [(φ1 1), (φ1 1)], .call 45 #[.agg #[.bool false, .pointer (some ⟨k, 0, none⟩)]], .look 0 [] [], .look 0 [] [], .look 0 [] [], .new, .look 0 [] [], .store 0 [.o 2, .o 2] [(φ1 2), (φ1 2)]]), (fun φ10 xs10 => [.agg #[.bool true, .pointer none], .agg #[.bool false, .pointer (some ⟨k, 0, none⟩)], .agg #[.bool true, .pointer none], .int .i64 0, .agg #[.bool false, .pointer (some ⟨k, 0, none⟩)], .int .i64 1, .int .i64 1, .int .i64 2, .agg #[.bool true, .pointer none, .bool false, .pointer (some ⟨k, 0, none⟩), .int .i64 2], .pointer (some ⟨(φ10 9), 0, none⟩), .agg #[.bool false, .pointer (some ⟨(φ10 9), 0, none⟩)], undef]), (fun φ10 xs10 => [[((φ1 0), .cells #[.bool true, .pointer none] 26), ((φ1 1), .cells #[.bool false, .pointer (some ⟨k, 0, none⟩)] 26), ((φ1 2), .cells #[.bool false, .pointer none] 26)], [((φ1 0), .cells #[.bool true, .pointer none] 26), ((φ1 1), .cells #[.bool false, .pointer (some ⟨k, 0, none⟩)] 26), ((φ1 2), .cells #[.bool false, .pointer (some ⟨(φ10 9), 0, none⟩)] 26)]]), (fun φ10 xs10 => [[default, default, default, default, default, default, default, default, default, .cells #[.bool true, .pointer none, .bool false, .pointer (some ⟨k, 0, none⟩), .int .i64 2] 98, default, default], [default, default, default, default, default, default, default, default, default, .cells #[.bool true, .pointer none, .bool false, .pointer (some ⟨k, 0, none⟩), .int .i64 2] 98, default, default]]), [11], [1, 1, 1, 3, 1, 3, 1, 1, 1, 2, 1, 4]⟩ (fun j => ([MP.any, MP.any, MP.any, MP.any, MP.any, MP.any, MP.any, MP.any, MP.any, MP.any, MP.any, MP.any] : List MP).getD j MP.any) [3, 5] [] [] (fun φ10 xs10 => [[none, none, none, none, none, none, none, none, none, none, none, none]]) (fun φ10 xs10 => [(19, .agg #[.bool true, .pointer none]), (20, .agg #[.bool false, .pointer (some ⟨k, 0, none⟩)]), (21, .agg #[.bool true, .pointer none]), (22, .int .i64 0), (23, .agg #[.bool false, .pointer (some ⟨k, 0, none⟩)]), (24, .int .i64 1), (25, .int .i64 1), (26, .int .i64 2), (27, .agg #[.bool true, .pointer none, .bool false, .pointer (some ⟨k, 0, none⟩), .int .i64 2]), (28, .pointer (some ⟨(φ10 9), 0, none⟩)), (29, .agg #[.bool false, .pointer (some ⟨(φ10 9), 0, none⟩)])]) (fun φ10 xs10 => [((φ1 0), .cells #[.bool true, .pointer none] 26), ((φ1 1), .cells #[.bool false, .pointer (some ⟨k, 0, none⟩)] 26), ((φ1 2), .cells #[.bool false, .pointer (some ⟨(φ10 9), 0, none⟩)] 26), ((φ10 9), .cells #[.bool true, .pointer none, .bool false, .pointer (some ⟨k, 0, none⟩), .int .i64 2] 98)]) s trivial (by kernel_rfl) (by kernel_rfl) (fun _ _ => by kernel_rfl) (fun _ _ => by kernel_rfl) ⟨fun _ _ => by kernel_rfl, fun _ _ => by kernel_rfl, fun _ _ => by kernel_rfl, fun _ _ => by kernel_rfl⟩ (fun _ _ _ => by kernel_rfl) (fun _ _ => by kernel_rfl) (fun _ _ => by kernel_rfl) (fun _ _ => by kernel_rfl) (fun _ _ => by kernel_rfl) (fun _ _ => by kernel_rfl) trivial trivial (by kernel_rfl) ⟨?c10_3, ?c10_5, trivial⟩ ?k10
  case c10_3 =>
    refine kcast (A := ∀ (φ10 : Nat → Nat) (xs10 : Xs) (J3_10 : IM), I8.Le J3_10 → Fun Try.prog 45 #[.agg #[.bool true, .pointer none]] J3_10 (fun v J' => ∃ x : UX, v = .int .i64 0 ∧ (True))) (by kernel_rfl) ?_
    intro φ10 xs10 J3_10 leJ
    exact Fun.mono (depthO_c) (fun v J' _ h => ⟨UX.d, h, trivial⟩)
  case c10_5 =>
    refine kcast (A := ∀ (φ10 : Nat → Nat) (xs10 : Xs) (J5_10 : IM), I8.Le J5_10 → (True) → Fun Try.prog 45 #[.agg #[.bool false, .pointer (some ⟨k, 0, none⟩)]] J5_10 (fun v J' => ∃ x : UX, v = .int .i64 1 ∧ (True))) (by kernel_rfl) ?_
    intro φ10 xs10 J5_10 leJ
    rintro _
    have hk := D2.mono leJ hk
    exact Fun.mono (depth2_c (k := k) hk) (fun v J' _ h => ⟨UX.d, h, trivial⟩)
  case k10 =>
    rintro φ10 xs10 I10 w10 le10 s _ _
    replace hk := D2.mono le10 hk
    refine wp_ret ?_
    refine ret_rule (C := []) [((φ1 0), .cells #[.bool true, .pointer none] 26), ((φ1 1), .cells #[.bool false, .pointer (some ⟨k, 0, none⟩)] 26), ((φ1 2), .cells #[.bool false, .pointer (some ⟨(φ10 9), 0, none⟩)] 26), ((φ10 9), .cells #[.bool true, .pointer none, .bool false, .pointer (some ⟨k, 0, none⟩), .int .i64 2] 98)] [] (.agg #[.bool false, .pointer (some ⟨(φ10 9), 0, none⟩)]) [.o 2, .o 2] [(φ1 2), (φ1 2)] s trivial (by kernel_rfl) ?_
    obtain ⟨I11, le11, hk11, s⟩ := s.freezeAt 3 (φ10 9) (.cells #[.bool true, .pointer none, .bool false, .pointer (some ⟨k, 0, none⟩), .int .i64 2] 98) [((φ1 0), .cells #[.bool true, .pointer none] 26), ((φ1 1), .cells #[.bool false, .pointer (some ⟨k, 0, none⟩)] 26), ((φ1 2), .cells #[.bool false, .pointer (some ⟨(φ10 9), 0, none⟩)] 26)] (by kernel_rfl) (by kernel_rfl)
    replace hk := D2.mono le11 hk
    exact ⟨_, _, _, rfl, s, ⟨_, rfl, hk11⟩⟩

set_option maxHeartbeats 1000000 in
theorem build0_c {I : IM} : Fun Try.prog 57 #[.string ⟨#[49, 44, 40, 48, 44, 49, 41, 41]⟩] I (fun v J => v = .tuple #[.agg #[.bool true, .pointer none], .string ⟨#[44, 40, 48, 44, 49, 41, 41]⟩]) := by
  refine enter_rule 36 [(0, .string ⟨#[49, 44, 40, 48, 44, 49, 41, 41]⟩)] Try.func57 rfl (by kernel_rfl) ?_
  intro w s
  refine wp_seq ?_
  refine region_rule ?_
  refine ops_rule (C := []) [] [] 2 [] 1 (fun φ1 => [(3, .string ⟨#[]⟩), (2, .pointer (some ⟨(φ1 0), 0, none⟩))]) (fun φ1 => [((φ1 0), .cells #[.bool false, .pointer none] 26)]) (fun φ1 => []) s trivial (fun φ1 => by kernel_rfl) ?_
  intro φ1 w1 s
  refine ops_done (by kernel_rfl) ?_
  refine wp_seq ?_
  refine wp_seq ?_
  refine region_rule ?_
  refine ops_rule (C := []) [((φ1 0), .cells #[.bool false, .pointer none] 26)] [] 1 [] 0 (fun φ2 => [(7, .string ⟨#[49, 44, 40, 48, 44, 49, 41, 41]⟩)]) (fun φ2 => [((φ1 0), .cells #[.bool false, .pointer none] 26)]) (fun φ2 => []) s trivial (fun φ2 => by kernel_rfl) ?_
  intro φ2 w2 s
  refine sem_rule (Instr.index 9 (.string ⟨#[49, 44, 40, 48, 44, 49, 41, 41]⟩) (.int .i64 ((0 : Nat) : Int))) (some 8) (.int .u8 49) (by kernel_rfl) (run_idxK (s := [49, 44, 40, 48, 44, 49, 41, 41]) (i := 0) (c := 49) under9 (by decide) (by kernel_rfl)) ?_
  refine ops_done (by kernel_rfl) ?_
  refine wp_block ?_
  refine wp_seq ?_
  refine region_rule ?_
  refine ops_rule (C := []) [((φ1 0), .cells #[.bool false, .pointer none] 26)] [] 2 [] 0 (fun φ3 => [(9, .bool false), (10, .bool false)]) (fun φ3 => [((φ1 0), .cells #[.bool false, .pointer none] 26)]) (fun φ3 => []) s trivial (fun φ3 => by kernel_rfl) ?_
  intro φ3 w3 s
  refine ops_done (by kernel_rfl) ?_
  refine cond_false_rule (b := false) (by kernel_rfl) rfl ?_
  refine wp_seq ?_
  refine region_rule ?_
  refine ops_rule (C := []) [((φ1 0), .cells #[.bool false, .pointer none] 26)] [] 2 [] 0 (fun φ4 => [(14, .bool true), (15, .bool true)]) (fun φ4 => [((φ1 0), .cells #[.bool false, .pointer none] 26)]) (fun φ4 => []) s trivial (fun φ4 => by kernel_rfl) ?_
  intro φ4 w4 s
  refine ops_done (by kernel_rfl) ?_
  refine cond_true_rule (b := true) (by kernel_rfl) rfl ?_
  refine wp_seq ?_
  refine draw_rule (C := []) ⟨(fun φ5 xs5 => [.call 27 #[], .look 0 [] [], .ran (Instr.sliceAt 9 (.string ⟨#[49, 44, 40, 48, 44, 49, 41, 41]⟩) (some (.int .i64 ((1 : Nat) : Int))) none none), .store 0 [.o 0, .o 0] [(φ1 0), (φ1 0)], .look 1 [] []]), (fun φ5 xs5 => [.agg #[.bool true, .pointer none], .string ⟨#[49, 44, 40, 48, 44, 49, 41, 41]⟩, .string ⟨#[44, 40, 48, 44, 49, 41, 41]⟩, undef, .string ⟨#[44, 40, 48, 44, 49, 41, 41]⟩]), (fun φ5 xs5 => [[((φ1 0), .cells #[.bool false, .pointer none] 26)], [((φ1 0), .cells #[.bool true, .pointer none] 26)]]), (fun φ5 xs5 => [[default, default, default, default, default], [default, default, default, default, default]]), [3], [3, 1, 6, 4, 1]⟩ (fun j => ([MP.any, MP.any, MP.any, MP.any, MP.any] : List MP).getD j MP.any) [0] [] [2] (fun φ5 xs5 => [[none, none, none, none, none]]) (fun φ5 xs5 => [(16, .agg #[.bool true, .pointer none]), (17, .string ⟨#[49, 44, 40, 48, 44, 49, 41, 41]⟩), (18, .string ⟨#[44, 40, 48, 44, 49, 41, 41]⟩), (3, .string ⟨#[44, 40, 48, 44, 49, 41, 41]⟩)]) (fun φ5 xs5 => [((φ1 0), .cells #[.bool true, .pointer none] 26)]) s trivial (by kernel_rfl) (by kernel_rfl) (fun _ _ => by kernel_rfl) (fun _ _ => by kernel_rfl) ⟨fun _ _ => by kernel_rfl, fun _ _ => by kernel_rfl, fun _ _ => by kernel_rfl, fun _ _ => by kernel_rfl⟩ (fun _ _ _ => by kernel_rfl) (fun _ _ => by kernel_rfl) (fun _ _ => by kernel_rfl) (fun _ _ => by kernel_rfl) (fun _ _ => by kernel_rfl) (fun _ _ => by kernel_rfl) trivial ⟨kcast (A := ∀ (φ5 : Nat → Nat) (xs5 : Xs) (J : IM) (w : World), I.Le J → J.Sub w → ((Instr.sliceAt 9 (.string ⟨#[49, 44, 40, 48, 44, 49, 41, 41]⟩) (some (.int .i64 ((1 : Nat) : Int))) none none) : Sem Value).run Try.prog w = .ok (.string ⟨#[44, 40, 48, 44, 49, 41, 41]⟩) w) (by kernel_rfl) (fun φ5 xs5 J w hJ hS => run_dropK (s := [49, 44, 40, 48, 44, 49, 41, 41]) (s' := [44, 40, 48, 44, 49, 41, 41]) (lo := 1) under9 (by decide) (by kernel_rfl)), trivial⟩ (by kernel_rfl) ⟨?c5_0, trivial⟩ ?k5
  case c5_0 =>
    refine kcast (A := ∀ (φ5 : Nat → Nat) (xs5 : Xs) (J0_5 : IM), I.Le J0_5 → Fun Try.prog 27 #[] J0_5 (fun v J' => ∃ x : UX, v = .agg #[.bool true, .pointer none] ∧ (True))) (by kernel_rfl) ?_
    intro φ5 xs5 J0_5 leJ
    exact Fun.mono (one_c) (fun v J' _ h => ⟨UX.d, h, trivial⟩)
  case k5 =>
    rintro φ5 xs5 I5 w5 le5 s _
    refine wp_ret ?_
    refine ret_rule (C := []) [((φ1 0), .cells #[.bool true, .pointer none] 26)] [] (.tuple #[.agg #[.bool true, .pointer none], .string ⟨#[44, 40, 48, 44, 49, 41, 41]⟩]) [.o 0, .o 0] [(φ1 0), (φ1 0)] s trivial (by kernel_rfl) ?_
    exact ⟨_, _, _, rfl, s, rfl⟩

set_option maxHeartbeats 1000000 in
theorem build1_c {I : IM} : Fun Try.prog 57 #[.string ⟨#[48, 44, 49, 41, 41]⟩] I (fun v J => v = .tuple #[.agg #[.bool false, .pointer none], .string ⟨#[44, 49, 41, 41]⟩]) := by
  refine enter_rule 36 [(0, .string ⟨#[48, 44, 49, 41, 41]⟩)] Try.func57 rfl (by kernel_rfl) ?_
  intro w s
  refine wp_seq ?_
  refine region_rule ?_
  refine ops_rule (C := []) [] [] 2 [] 1 (fun φ1 => [(3, .string ⟨#[]⟩), (2, .pointer (some ⟨(φ1 0), 0, none⟩))]) (fun φ1 => [((φ1 0), .cells #[.bool false, .pointer none] 26)]) (fun φ1 => []) s trivial (fun φ1 => by kernel_rfl) ?_
  intro φ1 w1 s
  refine ops_done (by kernel_rfl) ?_
  refine wp_seq ?_
  refine wp_seq ?_
  refine region_rule ?_
  refine ops_rule (C := []) [((φ1 0), .cells #[.bool false, .pointer none] 26)] [] 1 [] 0 (fun φ2 => [(7, .string ⟨#[48, 44, 49, 41, 41]⟩)]) (fun φ2 => [((φ1 0), .cells #[.bool false, .pointer none] 26)]) (fun φ2 => []) s trivial (fun φ2 => by kernel_rfl) ?_
  intro φ2 w2 s
  refine sem_rule (Instr.index 9 (.string ⟨#[48, 44, 49, 41, 41]⟩) (.int .i64 ((0 : Nat) : Int))) (some 8) (.int .u8 48) (by kernel_rfl) (run_idxK (s := [48, 44, 49, 41, 41]) (i := 0) (c := 48) under9 (by decide) (by kernel_rfl)) ?_
  refine ops_done (by kernel_rfl) ?_
  refine wp_block ?_
  refine wp_seq ?_
  refine region_rule ?_
  refine ops_rule (C := []) [((φ1 0), .cells #[.bool false, .pointer none] 26)] [] 2 [] 0 (fun φ3 => [(9, .bool true), (10, .bool true)]) (fun φ3 => [((φ1 0), .cells #[.bool false, .pointer none] 26)]) (fun φ3 => []) s trivial (fun φ3 => by kernel_rfl) ?_
  intro φ3 w3 s
  refine ops_done (by kernel_rfl) ?_
  refine cond_true_rule (b := true) (by kernel_rfl) rfl ?_
  refine wp_seq ?_
  refine draw_rule (C := []) ⟨(fun φ4 xs4 => [.call 28 #[], .look 0 [] [], .ran (Instr.sliceAt 9 (.string ⟨#[48, 44, 49, 41, 41]⟩) (some (.int .i64 ((1 : Nat) : Int))) none none), .store 0 [.o 0, .o 0] [(φ1 0), (φ1 0)], .look 1 [] []]), (fun φ4 xs4 => [.agg #[.bool false, .pointer none], .string ⟨#[48, 44, 49, 41, 41]⟩, .string ⟨#[44, 49, 41, 41]⟩, undef, .string ⟨#[44, 49, 41, 41]⟩]), (fun φ4 xs4 => [[((φ1 0), .cells #[.bool false, .pointer none] 26)], [((φ1 0), .cells #[.bool false, .pointer none] 26)]]), (fun φ4 xs4 => [[default, default, default, default, default], [default, default, default, default, default]]), [3], [3, 1, 6, 4, 1]⟩ (fun j => ([MP.any, MP.any, MP.any, MP.any, MP.any] : List MP).getD j MP.any) [0] [] [2] (fun φ4 xs4 => [[none, none, none, none, none]]) (fun φ4 xs4 => [(11, .agg #[.bool false, .pointer none]), (12, .string ⟨#[48, 44, 49, 41, 41]⟩), (13, .string ⟨#[44, 49, 41, 41]⟩), (3, .string ⟨#[44, 49, 41, 41]⟩)]) (fun φ4 xs4 => [((φ1 0), .cells #[.bool false, .pointer none] 26)]) s trivial (by kernel_rfl) (by kernel_rfl) (fun _ _ => by kernel_rfl) (fun _ _ => by kernel_rfl) ⟨fun _ _ => by kernel_rfl, fun _ _ => by kernel_rfl, fun _ _ => by kernel_rfl, fun _ _ => by kernel_rfl⟩ (fun _ _ _ => by kernel_rfl) (fun _ _ => by kernel_rfl) (fun _ _ => by kernel_rfl) (fun _ _ => by kernel_rfl) (fun _ _ => by kernel_rfl) (fun _ _ => by kernel_rfl) trivial ⟨kcast (A := ∀ (φ4 : Nat → Nat) (xs4 : Xs) (J : IM) (w : World), I.Le J → J.Sub w → ((Instr.sliceAt 9 (.string ⟨#[48, 44, 49, 41, 41]⟩) (some (.int .i64 ((1 : Nat) : Int))) none none) : Sem Value).run Try.prog w = .ok (.string ⟨#[44, 49, 41, 41]⟩) w) (by kernel_rfl) (fun φ4 xs4 J w hJ hS => run_dropK (s := [48, 44, 49, 41, 41]) (s' := [44, 49, 41, 41]) (lo := 1) under9 (by decide) (by kernel_rfl)), trivial⟩ (by kernel_rfl) ⟨?c4_0, trivial⟩ ?k4
  case c4_0 =>
    refine kcast (A := ∀ (φ4 : Nat → Nat) (xs4 : Xs) (J0_4 : IM), I.Le J0_4 → Fun Try.prog 28 #[] J0_4 (fun v J' => ∃ x : UX, v = .agg #[.bool false, .pointer none] ∧ (True))) (by kernel_rfl) ?_
    intro φ4 xs4 J0_4 leJ
    exact Fun.mono (zero_c) (fun v J' _ h => ⟨UX.d, h, trivial⟩)
  case k4 =>
    rintro φ4 xs4 I4 w4 le4 s _
    refine wp_ret ?_
    refine ret_rule (C := []) [((φ1 0), .cells #[.bool false, .pointer none] 26)] [] (.tuple #[.agg #[.bool false, .pointer none], .string ⟨#[44, 49, 41, 41]⟩]) [.o 0, .o 0] [(φ1 0), (φ1 0)] s trivial (by kernel_rfl) ?_
    exact ⟨_, _, _, rfl, s, rfl⟩

set_option maxHeartbeats 1000000 in
theorem build2_c {I : IM} : Fun Try.prog 57 #[.string ⟨#[49, 41, 41]⟩] I (fun v J => v = .tuple #[.agg #[.bool true, .pointer none], .string ⟨#[41, 41]⟩]) := by
  refine enter_rule 36 [(0, .string ⟨#[49, 41, 41]⟩)] Try.func57 rfl (by kernel_rfl) ?_
  intro w s
  refine wp_seq ?_
  refine region_rule ?_
  refine ops_rule (C := []) [] [] 2 [] 1 (fun φ1 => [(3, .string ⟨#[]⟩), (2, .pointer (some ⟨(φ1 0), 0, none⟩))]) (fun φ1 => [((φ1 0), .cells #[.bool false, .pointer none] 26)]) (fun φ1 => []) s trivial (fun φ1 => by kernel_rfl) ?_
  intro φ1 w1 s
  refine ops_done (by kernel_rfl) ?_
  refine wp_seq ?_
  refine wp_seq ?_
  refine region_rule ?_
  refine ops_rule (C := []) [((φ1 0), .cells #[.bool false, .pointer none] 26)] [] 1 [] 0 (fun φ2 => [(7, .string ⟨#[49, 41, 41]⟩)]) (fun φ2 => [((φ1 0), .cells #[.bool false, .pointer none] 26)]) (fun φ2 => []) s trivial (fun φ2 => by kernel_rfl) ?_
  intro φ2 w2 s
  refine sem_rule (Instr.index 9 (.string ⟨#[49, 41, 41]⟩) (.int .i64 ((0 : Nat) : Int))) (some 8) (.int .u8 49) (by kernel_rfl) (run_idxK (s := [49, 41, 41]) (i := 0) (c := 49) under9 (by decide) (by kernel_rfl)) ?_
  refine ops_done (by kernel_rfl) ?_
  refine wp_block ?_
  refine wp_seq ?_
  refine region_rule ?_
  refine ops_rule (C := []) [((φ1 0), .cells #[.bool false, .pointer none] 26)] [] 2 [] 0 (fun φ3 => [(9, .bool false), (10, .bool false)]) (fun φ3 => [((φ1 0), .cells #[.bool false, .pointer none] 26)]) (fun φ3 => []) s trivial (fun φ3 => by kernel_rfl) ?_
  intro φ3 w3 s
  refine ops_done (by kernel_rfl) ?_
  refine cond_false_rule (b := false) (by kernel_rfl) rfl ?_
  refine wp_seq ?_
  refine region_rule ?_
  refine ops_rule (C := []) [((φ1 0), .cells #[.bool false, .pointer none] 26)] [] 2 [] 0 (fun φ4 => [(14, .bool true), (15, .bool true)]) (fun φ4 => [((φ1 0), .cells #[.bool false, .pointer none] 26)]) (fun φ4 => []) s trivial (fun φ4 => by kernel_rfl) ?_
  intro φ4 w4 s
  refine ops_done (by kernel_rfl) ?_
  refine cond_true_rule (b := true) (by kernel_rfl) rfl ?_
  refine wp_seq ?_
  refine draw_rule (C := []) ⟨(fun φ5 xs5 => [.call 27 #[], .look 0 [] [], .ran (Instr.sliceAt 9 (.string ⟨#[49, 41, 41]⟩) (some (.int .i64 ((1 : Nat) : Int))) none none), .store 0 [.o 0, .o 0] [(φ1 0), (φ1 0)], .look 1 [] []]), (fun φ5 xs5 => [.agg #[.bool true, .pointer none], .string ⟨#[49, 41, 41]⟩, .string ⟨#[41, 41]⟩, undef, .string ⟨#[41, 41]⟩]), (fun φ5 xs5 => [[((φ1 0), .cells #[.bool false, .pointer none] 26)], [((φ1 0), .cells #[.bool true, .pointer none] 26)]]), (fun φ5 xs5 => [[default, default, default, default, default], [default, default, default, default, default]]), [3], [3, 1, 6, 4, 1]⟩ (fun j => ([MP.any, MP.any, MP.any, MP.any, MP.any] : List MP).getD j MP.any) [0] [] [2] (fun φ5 xs5 => [[none, none, none, none, none]]) (fun φ5 xs5 => [(16, .agg #[.bool true, .pointer none]), (17, .string ⟨#[49, 41, 41]⟩), (18, .string ⟨#[41, 41]⟩), (3, .string ⟨#[41, 41]⟩)]) (fun φ5 xs5 => [((φ1 0), .cells #[.bool true, .pointer none] 26)]) s trivial (by kernel_rfl) (by kernel_rfl) (fun _ _ => by kernel_rfl) (fun _ _ => by kernel_rfl) ⟨fun _ _ => by kernel_rfl, fun _ _ => by kernel_rfl, fun _ _ => by kernel_rfl, fun _ _ => by kernel_rfl⟩ (fun _ _ _ => by kernel_rfl) (fun _ _ => by kernel_rfl) (fun _ _ => by kernel_rfl) (fun _ _ => by kernel_rfl) (fun _ _ => by kernel_rfl) (fun _ _ => by kernel_rfl) trivial ⟨kcast (A := ∀ (φ5 : Nat → Nat) (xs5 : Xs) (J : IM) (w : World), I.Le J → J.Sub w → ((Instr.sliceAt 9 (.string ⟨#[49, 41, 41]⟩) (some (.int .i64 ((1 : Nat) : Int))) none none) : Sem Value).run Try.prog w = .ok (.string ⟨#[41, 41]⟩) w) (by kernel_rfl) (fun φ5 xs5 J w hJ hS => run_dropK (s := [49, 41, 41]) (s' := [41, 41]) (lo := 1) under9 (by decide) (by kernel_rfl)), trivial⟩ (by kernel_rfl) ⟨?c5_0, trivial⟩ ?k5
  case c5_0 =>
    refine kcast (A := ∀ (φ5 : Nat → Nat) (xs5 : Xs) (J0_5 : IM), I.Le J0_5 → Fun Try.prog 27 #[] J0_5 (fun v J' => ∃ x : UX, v = .agg #[.bool true, .pointer none] ∧ (True))) (by kernel_rfl) ?_
    intro φ5 xs5 J0_5 leJ
    exact Fun.mono (one_c) (fun v J' _ h => ⟨UX.d, h, trivial⟩)
  case k5 =>
    rintro φ5 xs5 I5 w5 le5 s _
    refine wp_ret ?_
    refine ret_rule (C := []) [((φ1 0), .cells #[.bool true, .pointer none] 26)] [] (.tuple #[.agg #[.bool true, .pointer none], .string ⟨#[41, 41]⟩]) [.o 0, .o 0] [(φ1 0), (φ1 0)] s trivial (by kernel_rfl) ?_
    exact ⟨_, _, _, rfl, s, rfl⟩

set_option maxHeartbeats 1000000 in
theorem buildD_c {I : IM} : Fun Try.prog 57 #[.string ⟨#[40, 48, 44, 49, 41, 41]⟩] I (fun v J => ∃ k, v = .tuple #[.agg #[.bool false, .pointer (some ⟨k, 0, none⟩)], .string ⟨#[41]⟩] ∧ D2 J k) := by
  refine enter_rule 36 [(0, .string ⟨#[40, 48, 44, 49, 41, 41]⟩)] Try.func57 rfl (by kernel_rfl) ?_
  intro w s
  refine wp_seq ?_
  refine region_rule ?_
  refine ops_rule (C := []) [] [] 2 [] 1 (fun φ1 => [(3, .string ⟨#[]⟩), (2, .pointer (some ⟨(φ1 0), 0, none⟩))]) (fun φ1 => [((φ1 0), .cells #[.bool false, .pointer none] 26)]) (fun φ1 => []) s trivial (fun φ1 => by kernel_rfl) ?_
  intro φ1 w1 s
  refine ops_done (by kernel_rfl) ?_
  refine wp_seq ?_
  refine wp_seq ?_
  refine region_rule ?_
  refine ops_rule (C := []) [((φ1 0), .cells #[.bool false, .pointer none] 26)] [] 1 [] 0 (fun φ2 => [(7, .string ⟨#[40, 48, 44, 49, 41, 41]⟩)]) (fun φ2 => [((φ1 0), .cells #[.bool false, .pointer none] 26)]) (fun φ2 => []) s trivial (fun φ2 => by kernel_rfl) ?_
  intro φ2 w2 s
  refine sem_rule (Instr.index 9 (.string ⟨#[40, 48, 44, 49, 41, 41]⟩) (.int .i64 ((0 : Nat) : Int))) (some 8) (.int .u8 40) (by kernel_rfl) (run_idxK (s := [40, 48, 44, 49, 41, 41]) (i := 0) (c := 40) under9 (by decide) (by kernel_rfl)) ?_
  refine ops_done (by kernel_rfl) ?_
  refine wp_block ?_
  refine wp_seq ?_
  refine region_rule ?_
  refine ops_rule (C := []) [((φ1 0), .cells #[.bool false, .pointer none] 26)] [] 2 [] 0 (fun φ3 => [(9, .bool false), (10, .bool false)]) (fun φ3 => [((φ1 0), .cells #[.bool false, .pointer none] 26)]) (fun φ3 => []) s trivial (fun φ3 => by kernel_rfl) ?_
  intro φ3 w3 s
  refine ops_done (by kernel_rfl) ?_
  refine cond_false_rule (b := false) (by kernel_rfl) rfl ?_
  refine wp_seq ?_
  refine region_rule ?_
  refine ops_rule (C := []) [((φ1 0), .cells #[.bool false, .pointer none] 26)] [] 2 [] 0 (fun φ4 => [(14, .bool false), (15, .bool false)]) (fun φ4 => [((φ1 0), .cells #[.bool false, .pointer none] 26)]) (fun φ4 => []) s trivial (fun φ4 => by kernel_rfl) ?_
  intro φ4 w4 s
  refine ops_done (by kernel_rfl) ?_
  refine cond_false_rule (b := false) (by kernel_rfl) rfl ?_
  refine wp_skip ?_
  refine wp_seq ?_
  refine region_rule ?_
  refine ops_rule (C := []) [((φ1 0), .cells #[.bool false, .pointer none] 26)] [] 1 [] 0 (fun φ5 => [(20, .string ⟨#[40, 48, 44, 49, 41, 41]⟩)]) (fun φ5 => [((φ1 0), .cells #[.bool false, .pointer none] 26)]) (fun φ5 => []) s trivial (fun φ5 => by kernel_rfl) ?_
  intro φ5 w5 s
  refine sem_rule (Instr.sliceAt 9 (.string ⟨#[40, 48, 44, 49, 41, 41]⟩) (some (.int .i64 ((1 : Nat) : Int))) none none) (some 21) (.string ⟨#[48, 44, 49, 41, 41]⟩) (by kernel_rfl) (run_dropK (s := [40, 48, 44, 49, 41, 41]) (s' := [48, 44, 49, 41, 41]) (lo := 1) under9 (by decide) (by kernel_rfl)) ?_
  refine call_rule (some 22) s (build1_c) (by kernel_rfl) ?_
  intro v6 I6 w6 le6 h6 s
  obtain rfl := h6
  refine ops_rule (C := []) [((φ1 0), .cells #[.bool false, .pointer none] 26)] [] 6 [.o 1, .o 1] 1 (fun φ7 => [(5, .string ⟨#[44, 49, 41, 41]⟩), (4, .pointer (some ⟨(φ7 0), 0, none⟩)), (24, .string ⟨#[44, 49, 41, 41]⟩), (23, .agg #[.bool false, .pointer none]), (19, .tuple #[.agg #[.bool false, .pointer none], .string ⟨#[44, 49, 41, 41]⟩])]) (fun φ7 => [((φ1 0), .cells #[.bool false, .pointer none] 26), ((φ7 0), .cells #[.bool false, .pointer none] 26)]) (fun φ7 => [(φ7 0), (φ7 0)]) s trivial (fun φ7 => by kernel_rfl) ?_
  intro φ7 w7 s
  refine ops_done (by kernel_rfl) ?_
  refine wp_seq ?_
  refine region_rule ?_
  refine ops_rule (C := []) [((φ1 0), .cells #[.bool false, .pointer none] 26), ((φ7 0), .cells #[.bool false, .pointer none] 26)] [] 1 [] 0 (fun φ8 => [(26, .string ⟨#[44, 49, 41, 41]⟩)]) (fun φ8 => [((φ1 0), .cells #[.bool false, .pointer none] 26), ((φ7 0), .cells #[.bool false, .pointer none] 26)]) (fun φ8 => []) s trivial (fun φ8 => by kernel_rfl) ?_
  intro φ8 w8 s
  refine sem_rule (Instr.sliceAt 9 (.string ⟨#[44, 49, 41, 41]⟩) (some (.int .i64 ((1 : Nat) : Int))) none none) (some 27) (.string ⟨#[49, 41, 41]⟩) (by kernel_rfl) (run_dropK (s := [44, 49, 41, 41]) (s' := [49, 41, 41]) (lo := 1) under9 (by decide) (by kernel_rfl)) ?_
  refine call_rule (some 28) s (build2_c) (by kernel_rfl) ?_
  intro v9 I9 w9 le9 h9 s
  obtain rfl := h9
  refine ops_rule (C := []) [((φ1 0), .cells #[.bool false, .pointer none] 26), ((φ7 0), .cells #[.bool false, .pointer none] 26)] [] 6 [.o 2, .o 2] 1 (fun φ10 => [(5, .string ⟨#[41, 41]⟩), (6, .pointer (some ⟨(φ10 0), 0, none⟩)), (30, .string ⟨#[41, 41]⟩), (29, .agg #[.bool true, .pointer none]), (25, .tuple #[.agg #[.bool true, .pointer none], .string ⟨#[41, 41]⟩])]) (fun φ10 => [((φ1 0), .cells #[.bool false, .pointer none] 26), ((φ7 0), .cells #[.bool false, .pointer none] 26), ((φ10 0), .cells #[.bool true, .pointer none] 26)]) (fun φ10 => [(φ10 0), (φ10 0)]) s trivial (fun φ10 => by kernel_rfl) ?_
  intro φ10 w10 s
  refine ops_done (by kernel_rfl) ?_
  refine wp_seq ?_
  refine draw_rule (C := []) ⟨(fun φ11 xs11 => [.look 0 [.o 1, .o 1] [(φ7 0), (φ7 0)], .look 0 [.o 2, .o 2] [(φ10 0), (φ10 0)], .call 59 #[.agg #[.bool false, .pointer none], .agg #[.bool true, .pointer none]], .look 0 [] [], .ran (Instr.sliceAt 9 (.string ⟨#[41, 41]⟩) (some (.int .i64 ((1 : Nat) : Int))) none none), .store 0 [.o 0, .o 0] [(φ1 0), (φ1 0)], .look 1 [] []]), (fun φ11 xs11 => [.agg #[.bool false, .pointer none], .agg #[.bool true, .pointer none], .agg #[.bool false, .pointer (some ⟨(xs11 2).n 0, 0, none⟩)], .string ⟨#[41, 41]⟩, .string ⟨#[41]⟩, undef, .string ⟨#[41]⟩]), (fun φ11 xs11 => [[((φ1 0), .cells #[.bool false, .pointer none] 26), ((φ7 0), .cells #[.bool false, .pointer none] 26), ((φ10 0), .cells #[.bool true, .pointer none] 26)], [((φ1 0), .cells #[.bool false, .pointer (some ⟨(xs11 2).n 0, 0, none⟩)] 26), ((φ7 0), .cells #[.bool false, .pointer none] 26), ((φ10 0), .cells #[.bool true, .pointer none] 26)]]), (fun φ11 xs11 => [[default, default, default, default, default, default, default], [default, default, default, default, default, default, default]]), [5], [1, 1, 3, 1, 6, 4, 1]⟩ (fun j => ([MP.any, MP.any, ⟨fun x J => D2 J (x.n 0), fun le h => D2.mono le h⟩, MP.any, MP.any, MP.any, MP.any] : List MP).getD j MP.any) [2] [] [4] (fun φ11 xs11 => [[none, none, none, none, none, none, none]]) (fun φ11 xs11 => [(31, .agg #[.bool false, .pointer none]), (32, .agg #[.bool true, .pointer none]), (33, .agg #[.bool false, .pointer (some ⟨(xs11 2).n 0, 0, none⟩)]), (34, .string ⟨#[41, 41]⟩), (35, .string ⟨#[41]⟩), (3, .string ⟨#[41]⟩)]) (fun φ11 xs11 => [((φ1 0), .cells #[.bool false, .pointer (some ⟨(xs11 2).n 0, 0, none⟩)] 26), ((φ7 0), .cells #[.bool false, .pointer none] 26), ((φ10 0), .cells #[.bool true, .pointer none] 26)]) s trivial (by kernel_rfl) (by kernel_rfl) (fun _ _ => by kernel_rfl) (fun _ _ => by kernel_rfl) ⟨fun _ _ => by kernel_rfl, fun _ _ => by kernel_rfl, fun _ _ => by kernel_rfl, fun _ _ => by kernel_rfl⟩ (fun _ _ _ => by kernel_rfl) (fun _ _ => by kernel_rfl) (fun _ _ => by kernel_rfl) (fun _ _ => by kernel_rfl) (fun _ _ => by kernel_rfl) (fun _ _ => by kernel_rfl) trivial ⟨kcast (A := ∀ (φ11 : Nat → Nat) (xs11 : Xs) (J : IM) (w : World), I9.Le J → J.Sub w → ((Instr.sliceAt 9 (.string ⟨#[41, 41]⟩) (some (.int .i64 ((1 : Nat) : Int))) none none) : Sem Value).run Try.prog w = .ok (.string ⟨#[41]⟩) w) (by kernel_rfl) (fun φ11 xs11 J w hJ hS => run_dropK (s := [41, 41]) (s' := [41]) (lo := 1) under9 (by decide) (by kernel_rfl)), trivial⟩ (by kernel_rfl) ⟨?c11_2, trivial⟩ ?k11
  case c11_2 =>
    refine kcast (A := ∀ (φ11 : Nat → Nat) (xs11 : Xs) (J2_11 : IM), I9.Le J2_11 → Fun Try.prog 59 #[.agg #[.bool false, .pointer none], .agg #[.bool true, .pointer none]] J2_11 (fun v J' => ∃ x : UX, v = .agg #[.bool false, .pointer (some ⟨x.n 0, 0, none⟩)] ∧ (D2 J' (x.n 0)))) (by kernel_rfl) ?_
    intro φ11 xs11 J2_11 leJ
    exact Fun.mono (merge2_c) (fun v J' _ ⟨y0, hv, g0⟩ => ⟨{ UX.d with n := fun j => y0 }, hv, g0⟩)
  case k11 =>
    rintro φ11 xs11 I11 w11 le11 s h11_2_0
    refine wp_ret ?_
    refine ret_rule (C := []) [((φ1 0), .cells #[.bool false, .pointer (some ⟨(xs11 2).n 0, 0, none⟩)] 26), ((φ7 0), .cells #[.bool false, .pointer none] 26), ((φ10 0), .cells #[.bool true, .pointer none] 26)] [] (.tuple #[.agg #[.bool false, .pointer (some ⟨(xs11 2).n 0, 0, none⟩)], .string ⟨#[41]⟩]) [.o 0, .o 0] [(φ1 0), (φ1 0)] s trivial (by kernel_rfl) ?_
    exact ⟨_, _, _, rfl, s, ⟨_, rfl, h11_2_0⟩⟩

set_option maxHeartbeats 1000000 in
theorem buildE_c {I : IM} : Fun Try.prog 57 #[.string ⟨#[40, 49, 44, 40, 48, 44, 49, 41, 41]⟩] I (fun v J => ∃ k k2, v = .tuple #[.agg #[.bool false, .pointer (some ⟨k, 0, none⟩)], .string ⟨#[]⟩] ∧ D1 J k k2 ∧ D2 J k2) := by
  refine enter_rule 36 [(0, .string ⟨#[40, 49, 44, 40, 48, 44, 49, 41, 41]⟩)] Try.func57 rfl (by kernel_rfl) ?_
  intro w s
  refine wp_seq ?_
  refine region_rule ?_
  refine ops_rule (C := []) [] [] 2 [] 1 (fun φ1 => [(3, .string ⟨#[]⟩), (2, .pointer (some ⟨(φ1 0), 0, none⟩))]) (fun φ1 => [((φ1 0), .cells #[.bool false, .pointer none] 26)]) (fun φ1 => []) s trivial (fun φ1 => by kernel_rfl) ?_
  intro φ1 w1 s
  refine ops_done (by kernel_rfl) ?_
  refine wp_seq ?_
  refine wp_seq ?_
  refine region_rule ?_
  refine ops_rule (C := []) [((φ1 0), .cells #[.bool false, .pointer none] 26)] [] 1 [] 0 (fun φ2 => [(7, .string ⟨#[40, 49, 44, 40, 48, 44, 49, 41, 41]⟩)]) (fun φ2 => [((φ1 0), .cells #[.bool false, .pointer none] 26)]) (fun φ2 => []) s trivial (fun φ2 => by kernel_rfl) ?_
  intro φ2 w2 s
  refine sem_rule (Instr.index 9 (.string ⟨#[40, 49, 44, 40, 48, 44, 49, 41, 41]⟩) (.int .i64 ((0 : Nat) : Int))) (some 8) (.int .u8 40) (by kernel_rfl) (run_idxK (s := [40, 49, 44, 40, 48, 44, 49, 41, 41]) (i := 0) (c := 40) under9 (by decide) (by kernel_rfl)) ?_
  refine ops_done (by kernel_rfl) ?_
  refine wp_block ?_
  refine wp_seq ?_
  refine region_rule ?_
  refine ops_rule (C := []) [((φ1 0), .cells #[.bool false, .pointer none] 26)] [] 2 [] 0 (fun φ3 => [(9, .bool false), (10, .bool false)]) (fun φ3 => [((φ1 0), .cells #[.bool false, .pointer none] 26)]) (fun φ3 => []) s trivial (fun φ3 => by kernel_rfl) ?_
  intro φ3 w3 s
  refine ops_done (by kernel_rfl) ?_
  refine cond_false_rule (b := false) (by kernel_rfl) rfl ?_
  refine wp_seq ?_
  refine region_rule ?_
  refine ops_rule (C := []) [((φ1 0), .cells #[.bool false, .pointer none] 26)] [] 2 [] 0 (fun φ4 => [(14, .bool false), (15, .bool false)]) (fun φ4 => [((φ1 0), .cells #[.bool false, .pointer none] 26)]) (fun φ4 => []) s trivial (fun φ4 => by kernel_rfl) ?_
  intro φ4 w4 s
  refine ops_done (by kernel_rfl) ?_
  refine cond_false_rule (b := false) (by kernel_rfl) rfl ?_
  refine wp_skip ?_
  refine wp_seq ?_
  refine region_rule ?_
  refine ops_rule (C := []) [((φ1 0), .cells #[.bool false, .pointer none] 26)] [] 1 [] 0 (fun φ5 => [(20, .string ⟨#[40, 49, 44, 40, 48, 44, 49, 41, 41]⟩)]) (fun φ5 => [((φ1 0), .cells #[.bool false, .pointer none] 26)]) (fun φ5 => []) s trivial (fun φ5 => by kernel_rfl) ?_
  intro φ5 w5 s
  refine sem_rule (Instr.sliceAt 9 (.string ⟨#[40, 49, 44, 40, 48, 44, 49, 41, 41]⟩) (some (.int .i64 ((1 : Nat) : Int))) none none) (some 21) (.string ⟨#[49, 44, 40, 48, 44, 49, 41, 41]⟩) (by kernel_rfl) (run_dropK (s := [40, 49, 44, 40, 48, 44, 49, 41, 41]) (s' := [49, 44, 40, 48, 44, 49, 41, 41]) (lo := 1) under9 (by decide) (by kernel_rfl)) ?_
  refine call_rule (some 22) s (build0_c) (by kernel_rfl) ?_
  intro v6 I6 w6 le6 h6 s
  obtain rfl := h6
  refine ops_rule (C := []) [((φ1 0), .cells #[.bool false, .pointer none] 26)] [] 6 [.o 1, .o 1] 1 (fun φ7 => [(5, .string ⟨#[44, 40, 48, 44, 49, 41, 41]⟩), (4, .pointer (some ⟨(φ7 0), 0, none⟩)), (24, .string ⟨#[44, 40, 48, 44, 49, 41, 41]⟩), (23, .agg #[.bool true, .pointer none]), (19, .tuple #[.agg #[.bool true, .pointer none], .string ⟨#[44, 40, 48, 44, 49, 41, 41]⟩])]) (fun φ7 => [((φ1 0), .cells #[.bool false, .pointer none] 26), ((φ7 0), .cells #[.bool true, .pointer none] 26)]) (fun φ7 => [(φ7 0), (φ7 0)]) s trivial (fun φ7 => by kernel_rfl) ?_
  intro φ7 w7 s
  refine ops_done (by kernel_rfl) ?_
  refine wp_seq ?_
  refine region_rule ?_
  refine ops_rule (C := []) [((φ1 0), .cells #[.bool false, .pointer none] 26), ((φ7 0), .cells #[.bool true, .pointer none] 26)] [] 1 [] 0 (fun φ8 => [(26, .string ⟨#[44, 40, 48, 44, 49, 41, 41]⟩)]) (fun φ8 => [((φ1 0), .cells #[.bool false, .pointer none] 26), ((φ7 0), .cells #[.bool true, .pointer none] 26)]) (fun φ8 => []) s trivial (fun φ8 => by kernel_rfl) ?_
  intro φ8 w8 s
  refine sem_rule (Instr.sliceAt 9 (.string ⟨#[44, 40, 48, 44, 49, 41, 41]⟩) (some (.int .i64 ((1 : Nat) : Int))) none none) (some 27) (.string ⟨#[40, 48, 44, 49, 41, 41]⟩) (by kernel_rfl) (run_dropK (s := [44, 40, 48, 44, 49, 41, 41]) (s' := [40, 48, 44, 49, 41, 41]) (lo := 1) under9 (by decide) (by kernel_rfl)) ?_
  refine call_rule (some 28) s (buildD_c) (by kernel_rfl) ?_
  intro v9 I9 w9 le9 h9 s
  obtain ⟨k9, rfl, h9_0⟩ := h9
  refine ops_rule (C := []) [((φ1 0), .cells #[.bool false, .pointer none] 26), ((φ7 0), .cells #[.bool true, .pointer none] 26)] [] 6 [.o 2, .o 2] 1 (fun φ10 => [(5, .string ⟨#[41]⟩), (6, .pointer (some ⟨(φ10 0), 0, none⟩)), (30, .string ⟨#[41]⟩), (29, .agg #[.bool false, .pointer (some ⟨k9, 0, none⟩)]), (25, .tuple #[.agg #[.bool false, .pointer (some ⟨k9, 0, none⟩)], .string ⟨#[41]⟩])]) (fun φ10 => [((φ1 0), .cells #[.bool false, .pointer none] 26), ((φ7 0), .cells #[.bool true, .pointer none] 26), ((φ10 0), .cells #[.bool false, .pointer (some ⟨k9, 0, none⟩)] 26)]) (fun φ10 => [(φ10 0), (φ10 0)]) s trivial (fun φ10 => by kernel_rfl) ?_
  intro φ10 w10 s
  refine ops_done (by kernel_rfl) ?_
  refine wp_seq ?_
  refine draw_rule (C := []) ⟨(fun φ11 xs11 => [.look 0 [.o 1, .o 1] [(φ7 0), (φ7 0)], .look 0 [.o 2, .o 2] [(φ10 0), (φ10 0)], .call 59 #[.agg #[.bool true, .pointer none], .agg #[.bool false, .pointer (some ⟨k9, 0, none⟩)]], .look 0 [] [], .ran (Instr.sliceAt 9 (.string ⟨#[41]⟩) (some (.int .i64 ((1 : Nat) : Int))) none none), .store 0 [.o 0, .o 0] [(φ1 0), (φ1 0)], .look 1 [] []]), (fun φ11 xs11 => [.agg #[.bool true, .pointer none], .agg #[.bool false, .pointer (some ⟨k9, 0, none⟩)], .agg #[.bool false, .pointer (some ⟨(xs11 2).n 0, 0, none⟩)], .string ⟨#[41]⟩, .string ⟨#[]⟩, undef, .string ⟨#[]⟩]), (fun φ11 xs11 => [[((φ1 0), .cells #[.bool false, .pointer none] 26), ((φ7 0), .cells #[.bool true, .pointer none] 26), ((φ10 0), .cells #[.bool false, .pointer (some ⟨k9, 0, none⟩)] 26)], [((φ1 0), .cells #[.bool false, .pointer (some ⟨(xs11 2).n 0, 0, none⟩)] 26), ((φ7 0), .cells #[.bool true, .pointer none] 26), ((φ10 0), .cells #[.bool false, .pointer (some ⟨k9, 0, none⟩)] 26)]]), (fun φ11 xs11 => [[default, default, default, default, default, default, default], [default, default, default, default, default, default, default]]), [5], [1, 1, 3, 1, 6, 4, 1]⟩ (fun j => ([MP.any, MP.any, ⟨fun x J => D1 J (x.n 0) k9, fun le h => D1.mono le h⟩, MP.any, MP.any, MP.any, MP.any] : List MP).getD j MP.any) [2] [] [4] (fun φ11 xs11 => [[none, none, none, none, none, none, none]]) (fun φ11 xs11 => [(31, .agg #[.bool true, .pointer none]), (32, .agg #[.bool false, .pointer (some ⟨k9, 0, none⟩)]), (33, .agg #[.bool false, .pointer (some ⟨(xs11 2).n 0, 0, none⟩)]), (34, .string ⟨#[41]⟩), (35, .string ⟨#[]⟩), (3, .string ⟨#[]⟩)]) (fun φ11 xs11 => [((φ1 0), .cells #[.bool false, .pointer (some ⟨(xs11 2).n 0, 0, none⟩)] 26), ((φ7 0), .cells #[.bool true, .pointer none] 26), ((φ10 0), .cells #[.bool false, .pointer (some ⟨k9, 0, none⟩)] 26)]) s trivial (by kernel_rfl) (by kernel_rfl) (fun _ _ => by kernel_rfl) (fun _ _ => by kernel_rfl) ⟨fun _ _ => by kernel_rfl, fun _ _ => by kernel_rfl, fun _ _ => by kernel_rfl, fun _ _ => by kernel_rfl⟩ (fun _ _ _ => by kernel_rfl) (fun _ _ => by kernel_rfl) (fun _ _ => by kernel_rfl) (fun _ _ => by kernel_rfl) (fun _ _ => by kernel_rfl) (fun _ _ => by kernel_rfl) trivial ⟨kcast (A := ∀ (φ11 : Nat → Nat) (xs11 : Xs) (J : IM) (w : World), I9.Le J → J.Sub w → ((Instr.sliceAt 9 (.string ⟨#[41]⟩) (some (.int .i64 ((1 : Nat) : Int))) none none) : Sem Value).run Try.prog w = .ok (.string ⟨#[]⟩) w) (by kernel_rfl) (fun φ11 xs11 J w hJ hS => run_dropK (s := [41]) (s' := []) (lo := 1) under9 (by decide) (by kernel_rfl)), trivial⟩ (by kernel_rfl) ⟨?c11_2, trivial⟩ ?k11
  case c11_2 =>
    refine kcast (A := ∀ (φ11 : Nat → Nat) (xs11 : Xs) (J2_11 : IM), I9.Le J2_11 → Fun Try.prog 59 #[.agg #[.bool true, .pointer none], .agg #[.bool false, .pointer (some ⟨k9, 0, none⟩)]] J2_11 (fun v J' => ∃ x : UX, v = .agg #[.bool false, .pointer (some ⟨x.n 0, 0, none⟩)] ∧ (D1 J' (x.n 0) k9))) (by kernel_rfl) ?_
    intro φ11 xs11 J2_11 leJ
    have h9_0 := D2.mono leJ h9_0
    exact Fun.mono (merge1_c (k := k9) h9_0) (fun v J' _ ⟨y0, hv, g0⟩ => ⟨{ UX.d with n := fun j => y0 }, hv, g0⟩)
  case k11 =>
    rintro φ11 xs11 I11 w11 le11 s h11_2_0
    replace h9_0 := D2.mono le11 h9_0
    refine wp_ret ?_
    refine ret_rule (C := []) [((φ1 0), .cells #[.bool false, .pointer (some ⟨(xs11 2).n 0, 0, none⟩)] 26), ((φ7 0), .cells #[.bool true, .pointer none] 26), ((φ10 0), .cells #[.bool false, .pointer (some ⟨k9, 0, none⟩)] 26)] [] (.tuple #[.agg #[.bool false, .pointer (some ⟨(xs11 2).n 0, 0, none⟩)], .string ⟨#[]⟩]) [.o 0, .o 0] [(φ1 0), (φ1 0)] s trivial (by kernel_rfl) ?_
    exact ⟨_, _, _, rfl, s, ⟨_, _, rfl, h11_2_0, h9_0⟩⟩

set_option maxHeartbeats 1000000 in
theorem parseK_c {I : IM} : Fun Try.prog 29 #[.string ⟨#[40, 49, 44, 40, 48, 44, 49, 41, 41]⟩] I (fun v J => ∃ k k2, v = .tuple #[.agg #[.bool false, .pointer (some ⟨k, 0, none⟩)], .int .i64 0] ∧ D1 J k k2 ∧ D2 J k2) := by
  refine enter_rule 25 [(0, .string ⟨#[40, 49, 44, 40, 48, 44, 49, 41, 41]⟩)] Try.func29 rfl (by kernel_rfl) ?_
  intro w s
  refine wp_seq ?_
  refine region_rule ?_
  refine ops_rule (C := []) [] [] 2 [] 1 (fun φ1 => [(3, .int .i64 0), (2, .pointer (some ⟨(φ1 0), 0, none⟩))]) (fun φ1 => [((φ1 0), .cells #[.bool false, .pointer none] 26)]) (fun φ1 => []) s trivial (fun φ1 => by kernel_rfl) ?_
  intro φ1 w1 s
  refine ops_done (by kernel_rfl) ?_
  refine wp_seq ?_
  refine region_rule ?_
  refine ops_rule (C := []) [((φ1 0), .cells #[.bool false, .pointer none] 26)] [] 1 [] 0 (fun φ2 => [(9, .string ⟨#[40, 49, 44, 40, 48, 44, 49, 41, 41]⟩)]) (fun φ2 => [((φ1 0), .cells #[.bool false, .pointer none] 26)]) (fun φ2 => []) s trivial (fun φ2 => by kernel_rfl) ?_
  intro φ2 w2 s
  refine call_rule (some 10) s (scanK_c) (by kernel_rfl) ?_
  intro v3 I3 w3 le3 h3 s
  obtain rfl := h3
  refine ops_rule (C := []) [((φ1 0), .cells #[.bool false, .pointer none] 26)] [] 5 [] 0 (fun φ4 => [(5, .bool true), (4, .int .i64 2), (12, .bool true), (11, .int .i64 2), (8, .tuple #[.int .i64 2, .bool true])]) (fun φ4 => [((φ1 0), .cells #[.bool false, .pointer none] 26)]) (fun φ4 => []) s trivial (fun φ4 => by kernel_rfl) ?_
  intro φ4 w4 s
  refine ops_done (by kernel_rfl) ?_
  refine wp_seq ?_
  refine wp_seq ?_
  refine region_rule ?_
  refine ops_rule (C := []) [((φ1 0), .cells #[.bool false, .pointer none] 26)] [] 2 [] 0 (fun φ5 => [(14, .bool false), (13, .bool true)]) (fun φ5 => [((φ1 0), .cells #[.bool false, .pointer none] 26)]) (fun φ5 => []) s trivial (fun φ5 => by kernel_rfl) ?_
  intro φ5 w5 s
  refine ops_done (by kernel_rfl) ?_
  refine cond_false_rule (b := false) (by kernel_rfl) rfl ?_
  refine wp_skip ?_
  refine wp_seq ?_
  refine wp_seq ?_
  refine region_rule ?_
  refine ops_rule (C := []) [((φ1 0), .cells #[.bool false, .pointer none] 26)] [] 2 [] 0 (fun φ6 => [(17, .bool false), (16, .int .i64 2)]) (fun φ6 => [((φ1 0), .cells #[.bool false, .pointer none] 26)]) (fun φ6 => []) s trivial (fun φ6 => by kernel_rfl) ?_
  intro φ6 w6 s
  refine ops_done (by kernel_rfl) ?_
  refine cond_false_rule (b := false) (by kernel_rfl) rfl ?_
  refine wp_skip ?_
  refine wp_seq ?_
  refine region_rule ?_
  refine ops_rule (C := []) [((φ1 0), .cells #[.bool false, .pointer none] 26)] [] 1 [] 0 (fun φ7 => [(20, .string ⟨#[40, 49, 44, 40, 48, 44, 49, 41, 41]⟩)]) (fun φ7 => [((φ1 0), .cells #[.bool false, .pointer none] 26)]) (fun φ7 => []) s trivial (fun φ7 => by kernel_rfl) ?_
  intro φ7 w7 s
  refine call_rule (some 21) s (buildE_c) (by kernel_rfl) ?_
  intro v8 I8 w8 le8 h8 s
  obtain ⟨k8, k28, rfl, h8_0, h8_1⟩ := h8
  refine ops_rule (C := []) [((φ1 0), .cells #[.bool false, .pointer none] 26)] [] 6 [.o 1, .o 1] 1 (fun φ9 => [(7, .string ⟨#[]⟩), (6, .pointer (some ⟨(φ9 0), 0, none⟩)), (23, .string ⟨#[]⟩), (22, .agg #[.bool false, .pointer (some ⟨k8, 0, none⟩)]), (19, .tuple #[.agg #[.bool false, .pointer (some ⟨k8, 0, none⟩)], .string ⟨#[]⟩])]) (fun φ9 => [((φ1 0), .cells #[.bool false, .pointer none] 26), ((φ9 0), .cells #[.bool false, .pointer (some ⟨k8, 0, none⟩)] 26)]) (fun φ9 => [(φ9 0), (φ9 0)]) s trivial (fun φ9 => by kernel_rfl) ?_
  intro φ9 w9 s
  refine ops_done (by kernel_rfl) ?_
  refine wp_seq ?_
  refine region_rule ?_
  refine ops_rule (C := []) [((φ1 0), .cells #[.bool false, .pointer none] 26), ((φ9 0), .cells #[.bool false, .pointer (some ⟨k8, 0, none⟩)] 26)] [] 3 [.o 1, .o 1, .o 0, .o 0] 0 (fun φ10 => [(3, .int .i64 0), (24, .agg #[.bool false, .pointer (some ⟨k8, 0, none⟩)])]) (fun φ10 => [((φ1 0), .cells #[.bool false, .pointer (some ⟨k8, 0, none⟩)] 26), ((φ9 0), .cells #[.bool false, .pointer (some ⟨k8, 0, none⟩)] 26)]) (fun φ10 => [(φ9 0), (φ9 0), (φ1 0), (φ1 0)]) s trivial (fun φ10 => by kernel_rfl) ?_
  intro φ10 w10 s
  refine ops_done (by kernel_rfl) ?_
  refine wp_ret ?_
  refine ret_rule (C := []) [((φ1 0), .cells #[.bool false, .pointer (some ⟨k8, 0, none⟩)] 26), ((φ9 0), .cells #[.bool false, .pointer (some ⟨k8, 0, none⟩)] 26)] [] (.tuple #[.agg #[.bool false, .pointer (some ⟨k8, 0, none⟩)], .int .i64 0]) [.o 0, .o 0] [(φ1 0), (φ1 0)] s trivial (by kernel_rfl) ?_
  exact ⟨_, _, _, rfl, s, ⟨_, _, rfl, h8_0, h8_1⟩⟩

end Go.Proofs.Ytgdickihjaomjaa
