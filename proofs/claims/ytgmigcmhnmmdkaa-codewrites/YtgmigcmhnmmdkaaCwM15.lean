/- The program's event trees. -/
import Derived.Test.YtgmigcmhnmmdkaaProg
import Derived.Test.YtgmigcmhnmmdkaaCwS6
set_option linter.all false
set_option maxRecDepth 100000
namespace Go.Proofs.Ytgmigcmhnmmdkaa.Ev
open Go.RowKit Go.Sep

inductive E where
  | leaf (n : Nat)
  | node (n : Nat) (l r : E)
  deriving DecidableEq
def E.base : E → Nat
  | .leaf n => n
  | .node n _ _ => n
def E.top : E → Nat
  | .leaf n => n
  | .node n l r => n + max l.top r.top
def E.depth : E → Nat
  | .leaf _ => 0
  | .node _ l r => 1 + max l.depth r.depth
def E.isLeaf : E → Bool
  | .leaf _ => true
  | .node _ _ _ => false
def E.left : E → E
  | .leaf _ => .leaf 0
  | .node _ l _ => l
def E.right : E → E
  | .leaf _ => .leaf 0
  | .node _ _ r => r

def ERep (I : IM) : E → Nat → Option Addr → Prop
  | .leaf n, b, p => b = n ∧ p = none
  | .node n l r, b, p => b = n ∧ ∃ k bl pl br pr, p = some ⟨k, 0, none⟩ ∧
      I k = some (.cells #[.int .u64 ((bl : Nat) : Int), .pointer pl, .int .u64 ((br : Nat) : Int), .pointer pr, .int .u64 ((max l.top r.top : Nat) : Int), .int .i64 (((E.node n l r).depth : Nat) : Int)] 119) ∧ ERep I l bl pl ∧ ERep I r br pr
theorem ERep.mono {I J : IM} (le : I.Le J) : ∀ {t : E} {b : Nat} {p : Option Addr}, ERep I t b p → ERep J t b p
  | .leaf _, _, _, h => h
  | .node _ _ _, _, _, ⟨hb, k, bl, pl, br, pr, hp, hk, hl, hr⟩ => ⟨hb, k, bl, pl, br, pr, hp, le _ _ hk, hl.mono le, hr.mono le⟩
theorem ERep.base {I : IM} : ∀ {t : E} {b : Nat} {p : Option Addr}, ERep I t b p → b = t.base
  | .leaf _, _, _, h => h.1
  | .node _ _ _, _, _, h => h.1
theorem ERep.lf (I : IM) (b : Nat) : ERep I (.leaf b) b none := ⟨rfl, rfl⟩
abbrev evv (b : Nat) (p : Option Addr) : Value := .agg #[.int .u64 ((b : Nat) : Int), .pointer p]

set_option maxHeartbeats 400000 in
theorem isLeaf_c {I : IM} {t : E} {b : Nat} {p : Option Addr} (h : ERep I t b p) : Fun Try.prog 46 #[evv b p] I (fun v J => v = .bool t.isLeaf) := by
 cases t with
 | leaf n =>
  obtain ⟨rfl, rfl⟩ := h
  refine enter_rule 6 [(0, .agg #[.int .u64 b, .pointer none])] Try.func46 rfl (by kernel_rfl) ?_
  intro w s
  refine seqR ?_
  refine ops_rule (C := []) [] [] 2 [] 1 (fun φ1 => [(2, .bool false), (1, pB (φ1 0))]) (fun φ1 => [(φ1 0, .cells #[.int .u64 b, .pointer none] 30)]) (fun φ1 => []) s trivial (fun φ1 => by kernel_rfl) ?_
  intro φ1 w1 s
  refine ops_done (by kernel_rfl) ?_
  refine seqR ?_
  refine ops_rule (C := []) _ [] 4 [.o 0] 0 (fun φ2 => [(2, .bool true), (5, .bool true), (4, .pointer none), (3, .pointer (some ⟨(φ1 0), 1, none⟩))]) (fun φ2 => [(φ1 0, .cells #[.int .u64 b, .pointer none] 30)]) (fun φ2 => [(φ1 0)]) s trivial (fun φ2 => by kernel_rfl) ?_
  intro φ2 w2 s
  refine ops_done (by kernel_rfl) ?_
  refine wp_ret ?_
  refine ret_rule (C := []) _ [] (.bool true) [] [] s trivial (by kernel_rfl) ?_
  exact ⟨_, _, _, rfl, s, rfl⟩
 | node n l r =>
  have hn := h
  obtain ⟨rfl, k, bl, pl, br, pr, rfl, hk, hl, hr⟩ := h
  refine enter_rule 6 [(0, .agg #[.int .u64 b, pB k])] Try.func46 rfl (by kernel_rfl) ?_
  intro w s
  refine seqR ?_
  refine ops_rule (C := []) [] [] 2 [] 1 (fun φ1 => [(2, .bool false), (1, pB (φ1 0))]) (fun φ1 => [(φ1 0, .cells #[.int .u64 b, pB k] 30)]) (fun φ1 => []) s trivial (fun φ1 => by kernel_rfl) ?_
  intro φ1 w1 s
  refine ops_done (by kernel_rfl) ?_
  refine seqR ?_
  refine ops_rule (C := []) _ [] 4 [.o 0] 0 (fun φ2 => [(2, .bool false), (5, .bool false), (4, pB k), (3, .pointer (some ⟨(φ1 0), 1, none⟩))]) (fun φ2 => [(φ1 0, .cells #[.int .u64 b, pB k] 30)]) (fun φ2 => [(φ1 0)]) s trivial (fun φ2 => by kernel_rfl) ?_
  intro φ2 w2 s
  refine ops_done (by kernel_rfl) ?_
  refine wp_ret ?_
  refine ret_rule (C := []) _ [] (.bool false) [] [] s trivial (by kernel_rfl) ?_
  exact ⟨_, _, _, rfl, s, rfl⟩

set_option maxHeartbeats 400000 in
theorem base_c {I : IM} {t : E} {b : Nat} {p : Option Addr} (h : ERep I t b p) : Fun Try.prog 48 #[evv b p] I (fun v J => v = .int .u64 ((b : Nat) : Int)) := by
 cases t with
 | leaf n =>
  obtain ⟨rfl, rfl⟩ := h
  refine enter_rule 5 [(0, .agg #[.int .u64 b, .pointer none])] Try.func48 rfl (by kernel_rfl) ?_
  intro w s
  refine seqR ?_
  refine ops_rule (C := []) [] [] 2 [] 1 (fun φ1 => [(2, .int .u64 0), (1, pB (φ1 0))]) (fun φ1 => [(φ1 0, .cells #[.int .u64 b, .pointer none] 30)]) (fun φ1 => []) s trivial (fun φ1 => by kernel_rfl) ?_
  intro φ1 w1 s
  refine ops_done (by kernel_rfl) ?_
  refine seqR ?_
  refine ops_rule (C := []) _ [] 3 [.o 0] 0 (fun φ2 => [(2, .int .u64 b), (4, .int .u64 b), (3, pB (φ1 0))]) (fun φ2 => [(φ1 0, .cells #[.int .u64 b, .pointer none] 30)]) (fun φ2 => [(φ1 0)]) s trivial (fun φ2 => by kernel_rfl) ?_
  intro φ2 w2 s
  refine ops_done (by kernel_rfl) ?_
  refine wp_ret ?_
  refine ret_rule (C := []) _ [] (.int .u64 b) [] [] s trivial (by kernel_rfl) ?_
  exact ⟨_, _, _, rfl, s, rfl⟩
 | node n l r =>
  have hn := h
  obtain ⟨rfl, k, bl, pl, br, pr, rfl, hk, hl, hr⟩ := h
  refine enter_rule 5 [(0, .agg #[.int .u64 b, pB k])] Try.func48 rfl (by kernel_rfl) ?_
  intro w s
  refine seqR ?_
  refine ops_rule (C := []) [] [] 2 [] 1 (fun φ1 => [(2, .int .u64 0), (1, pB (φ1 0))]) (fun φ1 => [(φ1 0, .cells #[.int .u64 b, pB k] 30)]) (fun φ1 => []) s trivial (fun φ1 => by kernel_rfl) ?_
  intro φ1 w1 s
  refine ops_done (by kernel_rfl) ?_
  refine seqR ?_
  refine ops_rule (C := []) _ [] 3 [.o 0] 0 (fun φ2 => [(2, .int .u64 b), (4, .int .u64 b), (3, pB (φ1 0))]) (fun φ2 => [(φ1 0, .cells #[.int .u64 b, pB k] 30)]) (fun φ2 => [(φ1 0)]) s trivial (fun φ2 => by kernel_rfl) ?_
  intro φ2 w2 s
  refine ops_done (by kernel_rfl) ?_
  refine wp_ret ?_
  refine ret_rule (C := []) _ [] (.int .u64 b) [] [] s trivial (by kernel_rfl) ?_
  exact ⟨_, _, _, rfl, s, rfl⟩

set_option maxHeartbeats 400000 in
theorem left_c {I : IM} {t : E} {b : Nat} {p : Option Addr} (h : ERep I t b p) : Fun Try.prog 49 #[evv b p] I (fun v J => ∃ b' p', v = evv b' p' ∧ ERep J t.left b' p') := by
 cases t with
 | leaf n =>
  obtain ⟨rfl, rfl⟩ := h
  refine enter_rule 11 [(0, .agg #[.int .u64 b, .pointer none])] Try.func49 rfl (by kernel_rfl) ?_
  intro w s
  refine seqR ?_
  refine ops_rule (C := []) [] [] 2 [] 2 (fun φ1 => [(2, pB (φ1 1)), (1, pB (φ1 0))]) (fun φ1 => [(φ1 0, .cells #[.int .u64 b, .pointer none] 30), (φ1 1, .cells #[.int .u64 0, .pointer none] 30)]) (fun φ1 => []) s trivial (fun φ1 => by kernel_rfl) ?_
  intro φ1 w1 s
  refine ops_done (by kernel_rfl) ?_
  refine wp_seq ?_
  refine seqR ?_
  refine ops_rule (C := []) _ [] 1 [.o 0, .o 0] 0 (fun φ2 => [(3, .agg #[.int .u64 b, .pointer none])]) (fun φ2 => [(φ1 0, .cells #[.int .u64 b, .pointer none] 30), (φ1 1, .cells #[.int .u64 0, .pointer none] 30)]) (fun φ2 => [φ1 0, φ1 0]) s trivial (fun φ2 => by kernel_rfl) ?_
  intro φ2 w2 s
  refine call_rule (some 4) s (isLeaf_c (ERep.lf _ b)) (by kernel_rfl) ?_
  intro v3 I3 w3 le3 h3 s
  obtain rfl := h3
  refine ops_done (by kernel_rfl) ?_
  refine cond_true_rule (b := true) (by kernel_rfl) rfl ?_
  refine seqR ?_
  refine ops_rule (C := []) _ [] 2 [.o 1, .o 1] 0 (fun φ4 => [(5, .agg #[.int .u64 0, .pointer none])]) (fun φ4 => [(φ1 0, .cells #[.int .u64 b, .pointer none] 30), (φ1 1, .cells #[.int .u64 0, .pointer none] 30)]) (fun φ4 => [φ1 1, φ1 1]) s trivial (fun φ4 => by kernel_rfl) ?_
  intro φ4 w4 s
  refine ops_done (by kernel_rfl) ?_
  refine wp_ret ?_
  refine ret_rule (C := []) _ [] (.agg #[.int .u64 0, .pointer none]) [.o 1, .o 1] [φ1 1, φ1 1] s trivial (by kernel_rfl) ?_
  exact ⟨_, _, _, rfl, s, ⟨0, none, rfl, rfl, rfl⟩⟩
 | node n l r =>
  have hn := h
  obtain ⟨rfl, k, bl, pl, br, pr, rfl, hk, hl, hr⟩ := h
  refine enter_rule 11 [(0, .agg #[.int .u64 b, pB k])] Try.func49 rfl (by kernel_rfl) ?_
  intro w s
  refine seqR ?_
  refine ops_rule (C := []) [] [] 2 [] 2 (fun φ1 => [(2, pB (φ1 1)), (1, pB (φ1 0))]) (fun φ1 => [(φ1 0, .cells #[.int .u64 b, pB k] 30), (φ1 1, .cells #[.int .u64 0, .pointer none] 30)]) (fun φ1 => []) s trivial (fun φ1 => by kernel_rfl) ?_
  intro φ1 w1 s
  refine ops_done (by kernel_rfl) ?_
  refine wp_seq ?_
  refine seqR ?_
  refine ops_rule (C := []) _ [] 1 [.o 0, .o 0] 0 (fun φ2 => [(3, .agg #[.int .u64 b, pB k])]) (fun φ2 => [(φ1 0, .cells #[.int .u64 b, pB k] 30), (φ1 1, .cells #[.int .u64 0, .pointer none] 30)]) (fun φ2 => [φ1 0, φ1 0]) s trivial (fun φ2 => by kernel_rfl) ?_
  intro φ2 w2 s
  refine call_rule (some 4) s (isLeaf_c hn) (by kernel_rfl) ?_
  intro v3 I3 w3 le3 h3 s
  replace hl := ERep.mono le3 hl
  replace hk := le3 _ _ hk
  obtain rfl := h3
  refine ops_done (by kernel_rfl) ?_
  refine cond_false_rule (b := false) (by kernel_rfl) rfl ?_
  refine wp_skip ?_
  refine seqR ?_
  refine ops_rule (C := [(k, .cells #[.int .u64 bl, .pointer pl, .int .u64 br, .pointer pr, .int .u64 ((max (E.top l) (E.top r) : Nat) : Int), .int .i64 (E.depth (E.node b l r))] 119)]) _ [] 6 [.o 0, .c 0, .c 0, .o 1, .o 1] 0 (fun φ4 => [(10, .agg #[.int .u64 bl, .pointer pl]), (9, pB k), (8, pB k), (7, pB k), (6, .pointer (some ⟨(φ1 0), 1, none⟩))]) (fun φ4 => [(φ1 0, .cells #[.int .u64 b, pB k] 30), (φ1 1, .cells #[.int .u64 bl, .pointer pl] 30)]) (fun φ4 => [φ1 0, k, k, φ1 1, φ1 1]) s ⟨hk, trivial⟩ (fun φ4 => by kernel_rfl) ?_
  intro φ4 w4 s
  refine ops_done (by kernel_rfl) ?_
  refine wp_ret ?_
  refine ret_rule (C := []) _ [] (.agg #[.int .u64 bl, .pointer pl]) [.o 1, .o 1] [φ1 1, φ1 1] s trivial (by kernel_rfl) ?_
  exact ⟨_, _, _, rfl, s, ⟨_, _, rfl, hl⟩⟩

set_option maxHeartbeats 400000 in
theorem right_c {I : IM} {t : E} {b : Nat} {p : Option Addr} (h : ERep I t b p) : Fun Try.prog 50 #[evv b p] I (fun v J => ∃ b' p', v = evv b' p' ∧ ERep J t.right b' p') := by
 cases t with
 | leaf n =>
  obtain ⟨rfl, rfl⟩ := h
  refine enter_rule 11 [(0, .agg #[.int .u64 b, .pointer none])] Try.func50 rfl (by kernel_rfl) ?_
  intro w s
  refine seqR ?_
  refine ops_rule (C := []) [] [] 2 [] 2 (fun φ1 => [(2, pB (φ1 1)), (1, pB (φ1 0))]) (fun φ1 => [(φ1 0, .cells #[.int .u64 b, .pointer none] 30), (φ1 1, .cells #[.int .u64 0, .pointer none] 30)]) (fun φ1 => []) s trivial (fun φ1 => by kernel_rfl) ?_
  intro φ1 w1 s
  refine ops_done (by kernel_rfl) ?_
  refine wp_seq ?_
  refine seqR ?_
  refine ops_rule (C := []) _ [] 1 [.o 0, .o 0] 0 (fun φ2 => [(3, .agg #[.int .u64 b, .pointer none])]) (fun φ2 => [(φ1 0, .cells #[.int .u64 b, .pointer none] 30), (φ1 1, .cells #[.int .u64 0, .pointer none] 30)]) (fun φ2 => [φ1 0, φ1 0]) s trivial (fun φ2 => by kernel_rfl) ?_
  intro φ2 w2 s
  refine call_rule (some 4) s (isLeaf_c (ERep.lf _ b)) (by kernel_rfl) ?_
  intro v3 I3 w3 le3 h3 s
  obtain rfl := h3
  refine ops_done (by kernel_rfl) ?_
  refine cond_true_rule (b := true) (by kernel_rfl) rfl ?_
  refine seqR ?_
  refine ops_rule (C := []) _ [] 2 [.o 1, .o 1] 0 (fun φ4 => [(5, .agg #[.int .u64 0, .pointer none])]) (fun φ4 => [(φ1 0, .cells #[.int .u64 b, .pointer none] 30), (φ1 1, .cells #[.int .u64 0, .pointer none] 30)]) (fun φ4 => [φ1 1, φ1 1]) s trivial (fun φ4 => by kernel_rfl) ?_
  intro φ4 w4 s
  refine ops_done (by kernel_rfl) ?_
  refine wp_ret ?_
  refine ret_rule (C := []) _ [] (.agg #[.int .u64 0, .pointer none]) [.o 1, .o 1] [φ1 1, φ1 1] s trivial (by kernel_rfl) ?_
  exact ⟨_, _, _, rfl, s, ⟨0, none, rfl, rfl, rfl⟩⟩
 | node n l r =>
  have hn := h
  obtain ⟨rfl, k, bl, pl, br, pr, rfl, hk, hl, hr⟩ := h
  refine enter_rule 11 [(0, .agg #[.int .u64 b, pB k])] Try.func50 rfl (by kernel_rfl) ?_
  intro w s
  refine seqR ?_
  refine ops_rule (C := []) [] [] 2 [] 2 (fun φ1 => [(2, pB (φ1 1)), (1, pB (φ1 0))]) (fun φ1 => [(φ1 0, .cells #[.int .u64 b, pB k] 30), (φ1 1, .cells #[.int .u64 0, .pointer none] 30)]) (fun φ1 => []) s trivial (fun φ1 => by kernel_rfl) ?_
  intro φ1 w1 s
  refine ops_done (by kernel_rfl) ?_
  refine wp_seq ?_
  refine seqR ?_
  refine ops_rule (C := []) _ [] 1 [.o 0, .o 0] 0 (fun φ2 => [(3, .agg #[.int .u64 b, pB k])]) (fun φ2 => [(φ1 0, .cells #[.int .u64 b, pB k] 30), (φ1 1, .cells #[.int .u64 0, .pointer none] 30)]) (fun φ2 => [φ1 0, φ1 0]) s trivial (fun φ2 => by kernel_rfl) ?_
  intro φ2 w2 s
  refine call_rule (some 4) s (isLeaf_c hn) (by kernel_rfl) ?_
  intro v3 I3 w3 le3 h3 s
  replace hr := ERep.mono le3 hr
  replace hk := le3 _ _ hk
  obtain rfl := h3
  refine ops_done (by kernel_rfl) ?_
  refine cond_false_rule (b := false) (by kernel_rfl) rfl ?_
  refine wp_skip ?_
  refine seqR ?_
  refine ops_rule (C := [(k, .cells #[.int .u64 bl, .pointer pl, .int .u64 br, .pointer pr, .int .u64 ((max (E.top l) (E.top r) : Nat) : Int), .int .i64 (E.depth (E.node b l r))] 119)]) _ [] 6 [.o 0, .c 0, .c 0, .o 1, .o 1] 0 (fun φ4 => [(10, .agg #[.int .u64 br, .pointer pr]), (9, .pointer (some ⟨k, 2, none⟩)), (8, pB k), (7, pB k), (6, .pointer (some ⟨(φ1 0), 1, none⟩))]) (fun φ4 => [(φ1 0, .cells #[.int .u64 b, pB k] 30), (φ1 1, .cells #[.int .u64 br, .pointer pr] 30)]) (fun φ4 => [φ1 0, k, k, φ1 1, φ1 1]) s ⟨hk, trivial⟩ (fun φ4 => by kernel_rfl) ?_
  intro φ4 w4 s
  refine ops_done (by kernel_rfl) ?_
  refine wp_ret ?_
  refine ret_rule (C := []) _ [] (.agg #[.int .u64 br, .pointer pr]) [.o 1, .o 1] [φ1 1, φ1 1] s trivial (by kernel_rfl) ?_
  exact ⟨_, _, _, rfl, s, ⟨_, _, rfl, hr⟩⟩

set_option maxHeartbeats 400000 in
theorem depth_c {I : IM} {t : E} {b : Nat} {p : Option Addr} (h : ERep I t b p) : Fun Try.prog 92 #[evv b p] I (fun v J => v = .int .i64 ((t.depth : Nat) : Int)) := by
 cases t with
 | leaf n =>
  obtain ⟨rfl, rfl⟩ := h
  refine enter_rule 10 [(0, .agg #[.int .u64 b, .pointer none])] Try.func92 rfl (by kernel_rfl) ?_
  intro w s
  refine seqR ?_
  refine ops_rule (C := []) [] [] 2 [] 1 (fun φ1 => [(2, .int .i64 0), (1, pB (φ1 0))]) (fun φ1 => [(φ1 0, .cells #[.int .u64 b, .pointer none] 30)]) (fun φ1 => []) s trivial (fun φ1 => by kernel_rfl) ?_
  intro φ1 w1 s
  refine ops_done (by kernel_rfl) ?_
  refine wp_seq ?_
  refine seqR ?_
  refine ops_rule (C := []) _ [] 1 [.o 0, .o 0] 0 (fun φ2 => [(3, .agg #[.int .u64 b, .pointer none])]) (fun φ2 => [(φ1 0, .cells #[.int .u64 b, .pointer none] 30)]) (fun φ2 => [φ1 0, φ1 0]) s trivial (fun φ2 => by kernel_rfl) ?_
  intro φ2 w2 s
  refine call_rule (some 4) s (isLeaf_c (ERep.lf _ b)) (by kernel_rfl) ?_
  intro v3 I3 w3 le3 h3 s
  obtain rfl := h3
  refine ops_done (by kernel_rfl) ?_
  refine cond_true_rule (b := true) (by kernel_rfl) rfl ?_
  refine seqR ?_
  refine ops_rule (C := []) _ [] 1 [] 0 (fun φ4 => [(2, .int .i64 0)]) (fun φ4 => [(φ1 0, .cells #[.int .u64 b, .pointer none] 30)]) (fun φ4 => []) s trivial (fun φ4 => by kernel_rfl) ?_
  intro φ4 w4 s
  refine ops_done (by kernel_rfl) ?_
  refine wp_ret ?_
  refine ret_rule (C := []) _ [] (.int .i64 0) [] [] s trivial (by kernel_rfl) ?_
  exact ⟨_, _, _, rfl, s, rfl⟩
 | node n l r =>
  have hn := h
  obtain ⟨rfl, k, bl, pl, br, pr, rfl, hk, hl, hr⟩ := h
  refine enter_rule 10 [(0, .agg #[.int .u64 b, pB k])] Try.func92 rfl (by kernel_rfl) ?_
  intro w s
  refine seqR ?_
  refine ops_rule (C := []) [] [] 2 [] 1 (fun φ1 => [(2, .int .i64 0), (1, pB (φ1 0))]) (fun φ1 => [(φ1 0, .cells #[.int .u64 b, pB k] 30)]) (fun φ1 => []) s trivial (fun φ1 => by kernel_rfl) ?_
  intro φ1 w1 s
  refine ops_done (by kernel_rfl) ?_
  refine wp_seq ?_
  refine seqR ?_
  refine ops_rule (C := []) _ [] 1 [.o 0, .o 0] 0 (fun φ2 => [(3, .agg #[.int .u64 b, pB k])]) (fun φ2 => [(φ1 0, .cells #[.int .u64 b, pB k] 30)]) (fun φ2 => [φ1 0, φ1 0]) s trivial (fun φ2 => by kernel_rfl) ?_
  intro φ2 w2 s
  refine call_rule (some 4) s (isLeaf_c hn) (by kernel_rfl) ?_
  intro v3 I3 w3 le3 h3 s
  replace hk := le3 _ _ hk
  obtain rfl := h3
  refine ops_done (by kernel_rfl) ?_
  refine cond_false_rule (b := false) (by kernel_rfl) rfl ?_
  refine wp_skip ?_
  refine seqR ?_
  refine ops_rule (C := [(k, .cells #[.int .u64 bl, .pointer pl, .int .u64 br, .pointer pr, .int .u64 ((max (E.top l) (E.top r) : Nat) : Int), .int .i64 (E.depth (E.node b l r))] 119)]) _ [] 6 [.o 0, .c 0] 0 (fun φ4 => [(2, .int .i64 (E.depth (E.node b l r))), (9, .int .i64 (E.depth (E.node b l r))), (8, .pointer (some ⟨k, 5, none⟩)), (7, pB k), (6, pB k), (5, .pointer (some ⟨(φ1 0), 1, none⟩))]) (fun φ4 => [(φ1 0, .cells #[.int .u64 b, pB k] 30)]) (fun φ4 => [φ1 0, k]) s ⟨hk, trivial⟩ (fun φ4 => by kernel_rfl) ?_
  intro φ4 w4 s
  refine ops_done (by kernel_rfl) ?_
  refine wp_ret ?_
  refine ret_rule (C := []) _ [] (.int .i64 (E.depth (E.node b l r))) [] [] s trivial (by kernel_rfl) ?_
  exact ⟨_, _, _, rfl, s, rfl⟩

set_option maxHeartbeats 400000 in
theorem min_c {I : IM} {t : E} {b : Nat} {p : Option Addr} (h : ERep I t b p) : Fun Try.prog 78 #[evv b p] I (fun v J => v = .int .u64 ((b : Nat) : Int)) := by
 cases t with
 | leaf n =>
  obtain ⟨rfl, rfl⟩ := h
  refine enter_rule 5 [(0, .agg #[.int .u64 b, .pointer none])] Try.func78 rfl (by kernel_rfl) ?_
  intro w s
  refine seqR ?_
  refine ops_rule (C := []) [] [] 2 [] 1 (fun φ1 => [(2, .int .u64 0), (1, pB (φ1 0))]) (fun φ1 => [(φ1 0, .cells #[.int .u64 b, .pointer none] 30)]) (fun φ1 => []) s trivial (fun φ1 => by kernel_rfl) ?_
  intro φ1 w1 s
  refine ops_done (by kernel_rfl) ?_
  refine seqR ?_
  refine ops_rule (C := []) _ [] 3 [.o 0] 0 (fun φ2 => [(2, .int .u64 b), (4, .int .u64 b), (3, pB (φ1 0))]) (fun φ2 => [(φ1 0, .cells #[.int .u64 b, .pointer none] 30)]) (fun φ2 => [(φ1 0)]) s trivial (fun φ2 => by kernel_rfl) ?_
  intro φ2 w2 s
  refine ops_done (by kernel_rfl) ?_
  refine wp_ret ?_
  refine ret_rule (C := []) _ [] (.int .u64 b) [] [] s trivial (by kernel_rfl) ?_
  exact ⟨_, _, _, rfl, s, rfl⟩
 | node n l r =>
  have hn := h
  obtain ⟨rfl, k, bl, pl, br, pr, rfl, hk, hl, hr⟩ := h
  refine enter_rule 5 [(0, .agg #[.int .u64 b, pB k])] Try.func78 rfl (by kernel_rfl) ?_
  intro w s
  refine seqR ?_
  refine ops_rule (C := []) [] [] 2 [] 1 (fun φ1 => [(2, .int .u64 0), (1, pB (φ1 0))]) (fun φ1 => [(φ1 0, .cells #[.int .u64 b, pB k] 30)]) (fun φ1 => []) s trivial (fun φ1 => by kernel_rfl) ?_
  intro φ1 w1 s
  refine ops_done (by kernel_rfl) ?_
  refine seqR ?_
  refine ops_rule (C := []) _ [] 3 [.o 0] 0 (fun φ2 => [(2, .int .u64 b), (4, .int .u64 b), (3, pB (φ1 0))]) (fun φ2 => [(φ1 0, .cells #[.int .u64 b, pB k] 30)]) (fun φ2 => [(φ1 0)]) s trivial (fun φ2 => by kernel_rfl) ?_
  intro φ2 w2 s
  refine ops_done (by kernel_rfl) ?_
  refine wp_ret ?_
  refine ret_rule (C := []) _ [] (.int .u64 b) [] [] s trivial (by kernel_rfl) ?_
  exact ⟨_, _, _, rfl, s, rfl⟩

set_option maxHeartbeats 400000 in
theorem max_c {I : IM} {t : E} {b : Nat} {p : Option Addr} (h : ERep I t b p) (ht : t.top < 18446744073709551616) : Fun Try.prog 77 #[evv b p] I (fun v J => v = .int .u64 ((t.top : Nat) : Int)) := by
 cases t with
 | leaf n =>
  obtain ⟨rfl, rfl⟩ := h
  refine enter_rule 15 [(0, .agg #[.int .u64 b, .pointer none])] Try.func77 rfl (by kernel_rfl) ?_
  intro w s
  refine seqR ?_
  refine ops_rule (C := []) [] [] 2 [] 1 (fun φ1 => [(2, .int .u64 0), (1, pB (φ1 0))]) (fun φ1 => [(φ1 0, .cells #[.int .u64 b, .pointer none] 30)]) (fun φ1 => []) s trivial (fun φ1 => by kernel_rfl) ?_
  intro φ1 w1 s
  refine ops_done (by kernel_rfl) ?_
  refine wp_seq ?_
  refine seqR ?_
  refine ops_rule (C := []) _ [] 1 [.o 0, .o 0] 0 (fun φ2 => [(3, .agg #[.int .u64 b, .pointer none])]) (fun φ2 => [(φ1 0, .cells #[.int .u64 b, .pointer none] 30)]) (fun φ2 => [φ1 0, φ1 0]) s trivial (fun φ2 => by kernel_rfl) ?_
  intro φ2 w2 s
  refine call_rule (some 4) s (isLeaf_c (ERep.lf _ b)) (by kernel_rfl) ?_
  intro v3 I3 w3 le3 h3 s
  obtain rfl := h3
  refine ops_done (by kernel_rfl) ?_
  refine cond_true_rule (b := true) (by kernel_rfl) rfl ?_
  refine seqR ?_
  refine ops_rule (C := []) _ [] 3 [.o 0] 0 (fun φ4 => [(2, .int .u64 b), (6, .int .u64 b), (5, pB (φ1 0))]) (fun φ4 => [(φ1 0, .cells #[.int .u64 b, .pointer none] 30)]) (fun φ4 => [(φ1 0)]) s trivial (fun φ4 => by kernel_rfl) ?_
  intro φ4 w4 s
  refine ops_done (by kernel_rfl) ?_
  refine wp_ret ?_
  refine ret_rule (C := []) _ [] (.int .u64 b) [] [] s trivial (by kernel_rfl) ?_
  exact ⟨_, _, _, rfl, s, rfl⟩
 | node n l r =>
  have hn := h
  obtain ⟨rfl, k, bl, pl, br, pr, rfl, hk, hl, hr⟩ := h
  refine enter_rule 15 [(0, .agg #[.int .u64 b, pB k])] Try.func77 rfl (by kernel_rfl) ?_
  intro w s
  refine seqR ?_
  refine ops_rule (C := []) [] [] 2 [] 1 (fun φ1 => [(2, .int .u64 0), (1, pB (φ1 0))]) (fun φ1 => [(φ1 0, .cells #[.int .u64 b, pB k] 30)]) (fun φ1 => []) s trivial (fun φ1 => by kernel_rfl) ?_
  intro φ1 w1 s
  refine ops_done (by kernel_rfl) ?_
  refine wp_seq ?_
  refine seqR ?_
  refine ops_rule (C := []) _ [] 1 [.o 0, .o 0] 0 (fun φ2 => [(3, .agg #[.int .u64 b, pB k])]) (fun φ2 => [(φ1 0, .cells #[.int .u64 b, pB k] 30)]) (fun φ2 => [φ1 0, φ1 0]) s trivial (fun φ2 => by kernel_rfl) ?_
  intro φ2 w2 s
  refine call_rule (some 4) s (isLeaf_c hn) (by kernel_rfl) ?_
  intro v3 I3 w3 le3 h3 s
  replace hk := le3 _ _ hk
  obtain rfl := h3
  refine ops_done (by kernel_rfl) ?_
  refine cond_false_rule (b := false) (by kernel_rfl) rfl ?_
  refine wp_skip ?_
  refine wp_seq ?_
  refine draw_rule (C := [(k, .cells #[.int .u64 bl, .pointer pl, .int .u64 br, .pointer pr, .int .u64 ((max (E.top l) (E.top r) : Nat) : Int), .int .i64 (E.depth (E.node b l r))] 119)]) ⟨(fun φ4 xs4 => [.look 0 [] [], .look 0 [.o 0] [(φ1 0)], .look 0 [] [], .look 0 [.o 0] [(φ1 0)], .look 0 [] [], .look 0 [] [], .look 0 [.c 0] [k], .sub 0 [] [] (.int .u64 (IntKind.wrap .u64 (((b : Nat) : Int) + ((max (E.top l) (E.top r) : Nat) : Int)))), .look 0 [] []]), (fun φ4 xs4 => [pB (φ1 0), .int .u64 b, .pointer (some ⟨(φ1 0), 1, none⟩), pB k, pB k, .pointer (some ⟨k, 4, none⟩), .int .u64 ((max (E.top l) (E.top r) : Nat) : Int), .int .u64 ((b + (max (E.top l) (E.top r)) : Nat) : Int), .int .u64 ((b + (max (E.top l) (E.top r)) : Nat) : Int)]), (fun φ4 xs4 => [[(φ1 0, .cells #[.int .u64 b, pB k] 30)]]), (fun φ4 xs4 => [[default, default, default, default, default, default, default, default, default]]), [], [1, 1, 1, 1, 1, 1, 1, 5, 1]⟩ (fun j => ([MP.any] : List MP).getD j MP.any) [] [7] [] (fun φ4 xs4 => []) (fun φ4 xs4 => [(7, pB (φ1 0)), (8, .int .u64 b), (9, .pointer (some ⟨(φ1 0), 1, none⟩)), (10, pB k), (11, pB k), (12, .pointer (some ⟨k, 4, none⟩)), (13, .int .u64 ((max (E.top l) (E.top r) : Nat) : Int)), (14, .int .u64 ((b + (max (E.top l) (E.top r)) : Nat) : Int)), (2, .int .u64 ((b + (max (E.top l) (E.top r)) : Nat) : Int))]) (fun φ4 xs4 => [(φ1 0, .cells #[.int .u64 b, pB k] 30)]) s ⟨hk, trivial⟩ (by kernel_rfl) (by kernel_rfl) (fun _ _ => by kernel_rfl) (fun _ _ => by kernel_rfl) ⟨fun _ _ => by kernel_rfl, fun _ _ => by kernel_rfl, fun _ _ => by kernel_rfl, fun _ _ => by kernel_rfl⟩ (fun _ _ _ => by kernel_rfl) (fun _ _ => by kernel_rfl) (fun _ _ => by kernel_rfl) (fun _ _ => by kernel_rfl) (fun _ _ => by kernel_rfl) (fun _ _ => by kernel_rfl) ⟨kcast (A := ∀ (φ4 : Nat → Nat) (xs4 : Xs), (.int .u64 (IntKind.wrap .u64 (((b : Nat) : Int) + ((max (E.top l) (E.top r) : Nat) : Int))) : Value) = .int .u64 ((b + (max (E.top l) (E.top r)) : Nat) : Int)) (by kernel_rfl) (fun φ4 xs4 => congrArg (Value.int .u64) ((nat_addU (a := b) (b := (max (E.top l) (E.top r))) (by simpa [E.top] using ht)))), trivial⟩ trivial (by kernel_rfl) trivial ?k4
  case k4 =>
   rintro φ4 xs4 I4 w4 le4 s 
   refine wp_ret ?_
   refine ret_rule (C := []) [(φ1 0, .cells #[.int .u64 b, pB k] 30)] [] (.int .u64 ((b + (max (E.top l) (E.top r)) : Nat) : Int)) [] [] s trivial (by kernel_rfl) ?_
   exact ⟨_, _, _, rfl, s, rfl⟩

end Go.Proofs.Ytgmigcmhnmmdkaa.Ev

/- The program's event trees: lift, whole, Leaf, node, Node, Leq, Join, Same. -/
set_option linter.all false
set_option maxRecDepth 100000
namespace Go.Proofs.Ytgmigcmhnmmdkaa.Ev
open Go.RowKit Go.Sep

def E.up (n : Nat) : E → E
  | .leaf m => .leaf (m + n)
  | .node m l r => .node (m + n) l r
def E.dn (n : Nat) : E → E
  | .leaf m => .leaf (m - n)
  | .node m l r => .node (m - n) l r
theorem ERep.up {I : IM} (n : Nat) : ∀ {t : E} {b : Nat} {p : Option Addr}, ERep I t b p → ERep I (E.up n t) (b + n) p
  | .leaf _, _, _, h => ⟨by rw [h.1], h.2⟩
  | .node _ _ _, _, _, ⟨hb, k, bl, pl, br, pr, hp, hk, hl, hr⟩ => ⟨by rw [hb], k, bl, pl, br, pr, hp, hk, hl, hr⟩
theorem ERep.dn {I : IM} (n : Nat) : ∀ {t : E} {b : Nat} {p : Option Addr}, ERep I t b p → ERep I (E.dn n t) (b - n) p
  | .leaf _, _, _, h => ⟨by rw [h.1], h.2⟩
  | .node _ _ _, _, _, ⟨hb, k, bl, pl, br, pr, hp, hk, hl, hr⟩ => ⟨by rw [hb], k, bl, pl, br, pr, hp, hk, hl, hr⟩
theorem E.base_le : ∀ t : E, t.base ≤ t.top
  | .leaf _ => Nat.le_refl _
  | .node _ _ _ => by simp only [E.base, E.top]; omega
theorem E.dn_top (n : Nat) : ∀ t : E, (E.dn n t).top ≤ t.top
  | .leaf _ => by simp only [E.dn, E.top]; omega
  | .node _ _ _ => by simp only [E.dn, E.top]; omega
theorem E.dn_depth (n : Nat) : ∀ t : E, (E.dn n t).depth = t.depth
  | .leaf _ => rfl
  | .node _ _ _ => rfl
theorem E.up_top (n : Nat) : ∀ t : E, (E.up n t).top = t.top + n
  | .leaf _ => rfl
  | .node _ _ _ => by simp only [E.up, E.top]; omega
theorem E.up_depth (n : Nat) : ∀ t : E, (E.up n t).depth = t.depth
  | .leaf _ => rfl
  | .node _ _ _ => rfl
theorem E.halves_le (t : E) : t.left.base + t.base ≤ t.top ∧ t.right.base + t.base ≤ t.top := by
  cases t with
  | leaf n => simp [E.left, E.right, E.base, E.top]
  | node n l r => have h1 := E.base_le l; have h2 := E.base_le r; exact ⟨show l.base + n ≤ n + max l.top r.top by omega, show r.base + n ≤ n + max l.top r.top by omega⟩
def E.mk (n : Nat) (l r : E) : E := if l.isLeaf = true ∧ r.isLeaf = true ∧ l.base = r.base then .leaf (n + l.base) else
  .node (n + min l.base r.base) (E.dn (min l.base r.base) l) (E.dn (min l.base r.base) r)

set_option maxHeartbeats 400000 in
theorem lift_c {I : IM} {t : E} {b : Nat} {p : Option Addr} (h : ERep I t b p) {n : Nat} (hn : b + n < 18446744073709551616) : Fun Try.prog 94 #[evv b p, .int .u64 ((n : Nat) : Int)] I (fun v J => v = evv (b + n) p) := by
 refine enter_rule 11 [(0, .agg #[.int .u64 b, .pointer p]), (1, .int .u64 n)] Try.func94 rfl (by kernel_rfl) ?_
 intro w s
 refine seqR ?_
 refine ops_rule (C := []) [] [] 2 [] 2 (fun φ1 => [(4, pB (φ1 1)), (2, pB (φ1 0))]) (fun φ1 => [(φ1 0, .cells #[.int .u64 b, .pointer p] 30), (φ1 1, .cells #[.int .u64 0, .pointer none] 30)]) (fun φ1 => []) s trivial (fun φ1 => by kernel_rfl) ?_
 intro φ1 w1 s
 refine ops_done (by kernel_rfl) ?_
 refine seqR ?_
 refine ops_rule (C := []) _ [] 6 [.o 0, .o 0] 0 (fun φ2 => [(9, pB (φ1 0)), (8, .int .u64 (IntKind.wrap .u64 (((b : Nat) : Int) + ((n : Nat) : Int)))), (7, .int .u64 n), (6, .int .u64 b), (5, pB (φ1 0))]) (fun φ2 => [(φ1 0, .cells #[.int .u64 (IntKind.wrap .u64 (((b : Nat) : Int) + ((n : Nat) : Int))), .pointer p] 30), (φ1 1, .cells #[.int .u64 0, .pointer none] 30)]) (fun φ2 => [φ1 0, φ1 0]) s trivial (fun φ2 => by kernel_rfl) ?_
 intro φ2 w2 s
 rw [nat_addU (a := b) (b := n) (by omega)] at s ⊢
 refine ops_done (by kernel_rfl) ?_
 refine seqR ?_
 refine ops_rule (C := []) _ [] 2 [.o 0, .o 0, .o 1, .o 1] 0 (fun φ3 => [(10, .agg #[.int .u64 ((b + n : Nat) : Int), .pointer p])]) (fun φ3 => [(φ1 0, .cells #[.int .u64 ((b + n : Nat) : Int), .pointer p] 30), (φ1 1, .cells #[.int .u64 ((b + n : Nat) : Int), .pointer p] 30)]) (fun φ3 => [φ1 0, φ1 0, φ1 1, φ1 1]) s trivial (fun φ3 => by kernel_rfl) ?_
 intro φ3 w3 s
 refine ops_done (by kernel_rfl) ?_
 refine wp_ret ?_
 refine ret_rule (C := []) _ [] (.agg #[.int .u64 ((b + n : Nat) : Int), .pointer p]) [.o 1, .o 1] [φ1 1, φ1 1] s trivial (by kernel_rfl) ?_
 exact ⟨_, _, _, rfl, s, rfl⟩

set_option maxHeartbeats 400000 in
theorem whole_c {I : IM} {t : E} {b : Nat} {p : Option Addr} (h : ERep I t b p) (ht : t.top < 18446744073709551616) : Fun Try.prog 79 #[evv b p] I (fun v J => ∃ b1 p1 b2 p2, v = .tuple #[evv b1 p1, evv b2 p2] ∧ ERep J (E.up b t.left) b1 p1 ∧ ERep J (E.up b t.right) b2 p2) := by
 have hh := E.halves_le t
 have hb := ERep.base h
 refine enter_rule 14 [(0, .agg #[.int .u64 b, .pointer p])] Try.func79 rfl (by kernel_rfl) ?_
 intro w s
 refine seqR ?_
 refine ops_rule (C := []) [] [] 3 [] 3 (fun φ1 => [(3, pB (φ1 2)), (2, pB (φ1 1)), (1, pB (φ1 0))]) (fun φ1 => [(φ1 0, .cells #[.int .u64 b, .pointer p] 30), (φ1 1, .cells #[.int .u64 0, .pointer none] 30), (φ1 2, .cells #[.int .u64 0, .pointer none] 30)]) (fun φ1 => []) s trivial (fun φ1 => by kernel_rfl) ?_
 intro φ1 w1 s
 refine ops_done (by kernel_rfl) ?_
 refine wp_seq ?_
 refine draw_rule (C := []) ⟨(fun φ2 xs2 => [.look 0 [.o 0, .o 0] [φ1 0, φ1 0], .call 49 #[.agg #[.int .u64 b, .pointer p]], .look 0 [] [], .look 0 [.o 0] [(φ1 0)], .call 94 #[.agg #[.int .u64 (((xs2 1).n 0 : Nat) : Int), .pointer ((xs2 1).p 0)], .int .u64 b], .look 0 [.o 0, .o 0] [φ1 0, φ1 0], .call 50 #[.agg #[.int .u64 b, .pointer p]], .look 0 [] [], .look 0 [.o 0] [(φ1 0)], .call 94 #[.agg #[.int .u64 (((xs2 6).n 0 : Nat) : Int), .pointer ((xs2 6).p 0)], .int .u64 b], .store 0 [.o 1, .o 1] [φ1 1, φ1 1], .store 1 [.o 2, .o 2] [φ1 2, φ1 2]]), (fun φ2 xs2 => [.agg #[.int .u64 b, .pointer p], .agg #[.int .u64 (((xs2 1).n 0 : Nat) : Int), .pointer ((xs2 1).p 0)], pB (φ1 0), .int .u64 b, .agg #[.int .u64 ((((xs2 1).n 0) + b : Nat) : Int), .pointer ((xs2 1).p 0)], .agg #[.int .u64 b, .pointer p], .agg #[.int .u64 (((xs2 6).n 0 : Nat) : Int), .pointer ((xs2 6).p 0)], pB (φ1 0), .int .u64 b, .agg #[.int .u64 ((((xs2 6).n 0) + b : Nat) : Int), .pointer ((xs2 6).p 0)], undef, undef]), (fun φ2 xs2 => [[(φ1 0, .cells #[.int .u64 b, .pointer p] 30), (φ1 1, .cells #[.int .u64 0, .pointer none] 30), (φ1 2, .cells #[.int .u64 0, .pointer none] 30)], [(φ1 0, .cells #[.int .u64 b, .pointer p] 30), (φ1 1, .cells #[.int .u64 ((((xs2 1).n 0) + b : Nat) : Int), .pointer ((xs2 1).p 0)] 30), (φ1 2, .cells #[.int .u64 0, .pointer none] 30)], [(φ1 0, .cells #[.int .u64 b, .pointer p] 30), (φ1 1, .cells #[.int .u64 ((((xs2 1).n 0) + b : Nat) : Int), .pointer ((xs2 1).p 0)] 30), (φ1 2, .cells #[.int .u64 ((((xs2 6).n 0) + b : Nat) : Int), .pointer ((xs2 6).p 0)] 30)]]), (fun φ2 xs2 => [[default, default, default, default, default, default, default, default, default, default, default, default], [default, default, default, default, default, default, default, default, default, default, default, default], [default, default, default, default, default, default, default, default, default, default, default, default]]), [10, 11], [1, 3, 1, 1, 3, 1, 3, 1, 1, 3, 4, 4]⟩ (fun j => ([MP.any, ⟨fun x J => ERep J (E.left t) (x.n 0) (x.p 0), fun le h => ERep.mono le h⟩, MP.any, MP.any, MP.any, MP.any, ⟨fun x J => ERep J (E.right t) (x.n 0) (x.p 0), fun le h => ERep.mono le h⟩] : List MP).getD j MP.any) [1, 4, 6, 9] [] [] (fun φ2 xs2 => [[none, none, none, none, none, none, none, none, none, none, none, none], [none, none, none, none, none, none, none, none, none, none, none, none]]) (fun φ2 xs2 => [(4, .agg #[.int .u64 b, .pointer p]), (5, .agg #[.int .u64 (((xs2 1).n 0 : Nat) : Int), .pointer ((xs2 1).p 0)]), (6, pB (φ1 0)), (7, .int .u64 b), (8, .agg #[.int .u64 ((((xs2 1).n 0) + b : Nat) : Int), .pointer ((xs2 1).p 0)]), (9, .agg #[.int .u64 b, .pointer p]), (10, .agg #[.int .u64 (((xs2 6).n 0 : Nat) : Int), .pointer ((xs2 6).p 0)]), (11, pB (φ1 0)), (12, .int .u64 b), (13, .agg #[.int .u64 ((((xs2 6).n 0) + b : Nat) : Int), .pointer ((xs2 6).p 0)])]) (fun φ2 xs2 => [(φ1 0, .cells #[.int .u64 b, .pointer p] 30), (φ1 1, .cells #[.int .u64 ((((xs2 1).n 0) + b : Nat) : Int), .pointer ((xs2 1).p 0)] 30), (φ1 2, .cells #[.int .u64 ((((xs2 6).n 0) + b : Nat) : Int), .pointer ((xs2 6).p 0)] 30)]) s trivial (by kernel_rfl) (by kernel_rfl) (fun _ _ => by kernel_rfl) (fun _ _ => by kernel_rfl) ⟨fun _ _ => by kernel_rfl, fun _ _ => by kernel_rfl, fun _ _ => by kernel_rfl, fun _ _ => by kernel_rfl⟩ (fun _ _ _ => by kernel_rfl) (fun _ _ => by kernel_rfl) (fun _ _ => by kernel_rfl) (fun _ _ => by kernel_rfl) (fun _ _ => by kernel_rfl) (fun _ _ => by kernel_rfl) trivial trivial (by kernel_rfl) ⟨?c2_1, ?c2_4, ?c2_6, ?c2_9, trivial⟩ ?k2
 case c2_1 =>
  refine kcast (A := ∀ (φ2 : Nat → Nat) (xs2 : Xs) (J1_2 : IM), I.Le J1_2 → Fun Try.prog 49 #[.agg #[.int .u64 b, .pointer p]] J1_2 (fun v J' => ∃ x : UX, v = .agg #[.int .u64 (x.n 0), .pointer (x.p 0)] ∧ (ERep J' (E.left t) (x.n 0) (x.p 0)))) (by kernel_rfl) ?_
  intro φ2 xs2 J1_2 leJ
  have h := ERep.mono leJ h
  exact Fun.mono (left_c h) (fun v J' _ ⟨y0, y1, hv, g0⟩ => ⟨{ UX.d with n := fun j => y0, p := fun j => y1 }, hv, g0⟩)
 case c2_4 =>
  refine kcast (A := ∀ (φ2 : Nat → Nat) (xs2 : Xs) (J4_2 : IM), I.Le J4_2 → (ERep J4_2 (E.left t) ((xs2 1).n 0) ((xs2 1).p 0)) → Fun Try.prog 94 #[.agg #[.int .u64 (((xs2 1).n 0 : Nat) : Int), .pointer ((xs2 1).p 0)], .int .u64 b] J4_2 (fun v J' => ∃ x : UX, v = .agg #[.int .u64 ((((xs2 1).n 0) + b : Nat) : Int), .pointer ((xs2 1).p 0)] ∧ (True))) (by kernel_rfl) ?_
  intro φ2 xs2 J4_2 leJ
  rintro h2_1_0
  exact Fun.mono (lift_c h2_1_0 (by have e1 := ERep.base h2_1_0; omega)) (fun v J' _ h => ⟨UX.d, h, trivial⟩)
 case c2_6 =>
  refine kcast (A := ∀ (φ2 : Nat → Nat) (xs2 : Xs) (J6_2 : IM), I.Le J6_2 → (ERep J6_2 (E.left t) ((xs2 1).n 0) ((xs2 1).p 0)) → (True) → Fun Try.prog 50 #[.agg #[.int .u64 b, .pointer p]] J6_2 (fun v J' => ∃ x : UX, v = .agg #[.int .u64 (x.n 0), .pointer (x.p 0)] ∧ (ERep J' (E.right t) (x.n 0) (x.p 0)))) (by kernel_rfl) ?_
  intro φ2 xs2 J6_2 leJ
  rintro h2_1_0 _
  have h := ERep.mono leJ h
  exact Fun.mono (right_c h) (fun v J' _ ⟨y0, y1, hv, g0⟩ => ⟨{ UX.d with n := fun j => y0, p := fun j => y1 }, hv, g0⟩)
 case c2_9 =>
  refine kcast (A := ∀ (φ2 : Nat → Nat) (xs2 : Xs) (J9_2 : IM), I.Le J9_2 → (ERep J9_2 (E.left t) ((xs2 1).n 0) ((xs2 1).p 0)) → (True) → (ERep J9_2 (E.right t) ((xs2 6).n 0) ((xs2 6).p 0)) → Fun Try.prog 94 #[.agg #[.int .u64 (((xs2 6).n 0 : Nat) : Int), .pointer ((xs2 6).p 0)], .int .u64 b] J9_2 (fun v J' => ∃ x : UX, v = .agg #[.int .u64 ((((xs2 6).n 0) + b : Nat) : Int), .pointer ((xs2 6).p 0)] ∧ (True))) (by kernel_rfl) ?_
  intro φ2 xs2 J9_2 leJ
  rintro h2_1_0 _ h2_6_0
  exact Fun.mono (lift_c h2_6_0 (by have e1 := ERep.base h2_6_0; omega)) (fun v J' _ h => ⟨UX.d, h, trivial⟩)
 case k2 =>
  rintro φ2 xs2 I2 w2 le2 s h2_1_0 _ h2_6_0 _
  refine wp_ret ?_
  refine ret_rule (C := []) [(φ1 0, .cells #[.int .u64 b, .pointer p] 30), (φ1 1, .cells #[.int .u64 ((((xs2 1).n 0) + b : Nat) : Int), .pointer ((xs2 1).p 0)] 30), (φ1 2, .cells #[.int .u64 ((((xs2 6).n 0) + b : Nat) : Int), .pointer ((xs2 6).p 0)] 30)] [] (.tuple #[.agg #[.int .u64 ((((xs2 1).n 0) + b : Nat) : Int), .pointer ((xs2 1).p 0)], .agg #[.int .u64 ((((xs2 6).n 0) + b : Nat) : Int), .pointer ((xs2 6).p 0)]]) [.o 1, .o 1, .o 2, .o 2] [φ1 1, φ1 1, φ1 2, φ1 2] s trivial (by kernel_rfl) ?_
  exact ⟨_, _, _, rfl, s, ⟨_, _, _, _, rfl, (ERep.up b h2_1_0), (ERep.up b h2_6_0)⟩⟩

set_option maxHeartbeats 400000 in
theorem leafOk_c {I : IM} {n : Nat} (hn : n ≤ 1048576) : Fun Try.prog 73 #[.int .u64 ((n : Nat) : Int)] I (fun v J => v = .tuple #[evv n none, .int .i64 0]) := by
 refine enter_rule 9 [(0, .int .u64 n)] Try.func73 rfl (by kernel_rfl) ?_
 intro w s
 refine seqR ?_
 refine ops_rule (C := []) [] [] 2 [] 1 (fun φ1 => [(3, .int .i64 0), (2, pB (φ1 0))]) (fun φ1 => [(φ1 0, .cells #[.int .u64 0, .pointer none] 30)]) (fun φ1 => []) s trivial (fun φ1 => by kernel_rfl) ?_
 intro φ1 w1 s
 refine ops_done (by kernel_rfl) ?_
 refine wp_seq ?_
 refine seqR ?_
 refine ops_rule (C := []) _ [] 2 [] 0 (fun φ2 => [(5, .bool (decide (((n : Nat) : Int) > ((1048576 : Nat) : Int)))), (4, .int .u64 n)]) (fun φ2 => [(φ1 0, .cells #[.int .u64 0, .pointer none] 30)]) (fun φ2 => []) s trivial (fun φ2 => by kernel_rfl) ?_
 intro φ2 w2 s
 rw [nat_gtr (a := n) (b := 1048576)]
 refine ops_done (by kernel_rfl) ?_
 rcases Bool.eq_false_or_eq_true (decide (1048576 < n)) with hc3 | hc3
 ·
  simp at hc3; omega
 ·
  rw [hc3]
  refine cond_false_rule (b := false) (by kernel_rfl) rfl ?_
  refine wp_skip ?_
  refine seqR ?_
  refine ops_rule (C := []) _ [] 4 [.o 0, .o 0] 0 (fun φ4 => [(3, .int .i64 0), (8, .agg #[.int .u64 n, .pointer none]), (7, .int .u64 n)]) (fun φ4 => [(φ1 0, .cells #[.int .u64 n, .pointer none] 30)]) (fun φ4 => [φ1 0, φ1 0]) s trivial (fun φ4 => by kernel_rfl) ?_
  intro φ4 w4 s
  refine ops_done (by kernel_rfl) ?_
  refine wp_ret ?_
  refine ret_rule (C := []) _ [] (.tuple #[.agg #[.int .u64 n, .pointer none], .int .i64 0]) [.o 0, .o 0] [φ1 0, φ1 0] s trivial (by kernel_rfl) ?_
  exact ⟨_, _, _, rfl, s, rfl⟩

set_option maxHeartbeats 1000000 in
theorem node_c {I : IM} {n : Nat} {l r : E} {bl br : Nat} {pl pr : Option Addr} (hl : ERep I l bl pl) (hr : ERep I r br pr) (hn : n + max l.top r.top < 18446744073709551616) (hdl : l.depth ≤ 1000) (hdr : r.depth ≤ 1000) : Fun Try.prog 93 #[.int .u64 ((n : Nat) : Int), evv bl pl, evv br pr] I (fun v J => ∃ b p, v = evv b p ∧ ERep J (E.mk n l r) b p) := by
 have hbl := ERep.base hl
 have hbr := ERep.base hr
 have hb1 := E.base_le l
 have hb2 := E.base_le r
 have hd1 := E.dn_top (min bl br) l
 have hd2 := E.dn_top (min bl br) r
 have he1 := E.dn_depth (min bl br) l
 have he2 := E.dn_depth (min bl br) r
 refine enter_rule 60 [(0, .int .u64 n), (1, .agg #[.int .u64 bl, .pointer pl]), (2, .agg #[.int .u64 br, .pointer pr])] Try.func93 rfl (by kernel_rfl) ?_
 intro w s
 refine seqR ?_
 refine ops_rule (C := []) [] [] 3 [] 3 (fun φ1 => [(6, pB (φ1 2)), (5, pB (φ1 1)), (4, pB (φ1 0))]) (fun φ1 => [(φ1 0, .cells #[.int .u64 bl, .pointer pl] 30), (φ1 1, .cells #[.int .u64 br, .pointer pr] 30), (φ1 2, .cells #[.int .u64 0, .pointer none] 30)]) (fun φ1 => []) s trivial (fun φ1 => by kernel_rfl) ?_
 intro φ1 w1 s
 refine ops_done (by kernel_rfl) ?_
 refine wp_seq ?_
 refine seqR ?_
 refine ops_rule (C := []) _ [] 1 [.o 0, .o 0] 0 (fun φ2 => [(8, .agg #[.int .u64 bl, .pointer pl])]) (fun φ2 => [(φ1 0, .cells #[.int .u64 bl, .pointer pl] 30), (φ1 1, .cells #[.int .u64 br, .pointer pr] 30), (φ1 2, .cells #[.int .u64 0, .pointer none] 30)]) (fun φ2 => [φ1 0, φ1 0]) s trivial (fun φ2 => by kernel_rfl) ?_
 intro φ2 w2 s
 refine call_rule (some 9) s (isLeaf_c hl) (by kernel_rfl) ?_
 intro v3 I3 w3 le3 h3 s
 replace hl := ERep.mono le3 hl
 replace hr := ERep.mono le3 hr
 obtain rfl := h3
 refine ops_rule (C := []) _ [] 1 [] 0 (fun φ4 => [(10, .bool (E.isLeaf l))]) (fun φ4 => [(φ1 0, .cells #[.int .u64 bl, .pointer pl] 30), (φ1 1, .cells #[.int .u64 br, .pointer pr] 30), (φ1 2, .cells #[.int .u64 0, .pointer none] 30)]) (fun φ4 => []) s trivial (fun φ4 => by kernel_rfl) ?_
 intro φ4 w4 s
 rcases Bool.eq_false_or_eq_true (E.isLeaf l) with hc5 | hc5
 ·
  rw [hc5]
  refine ops_rule (C := []) _ [] 1 [.o 1, .o 1] 0 (fun φ6 => [(11, .agg #[.int .u64 br, .pointer pr])]) (fun φ6 => [(φ1 0, .cells #[.int .u64 bl, .pointer pl] 30), (φ1 1, .cells #[.int .u64 br, .pointer pr] 30), (φ1 2, .cells #[.int .u64 0, .pointer none] 30)]) (fun φ6 => [φ1 1, φ1 1]) s trivial (fun φ6 => by kernel_rfl) ?_
  intro φ6 w6 s
  refine call_rule (some 12) s (isLeaf_c hr) (by kernel_rfl) ?_
  intro v7 I7 w7 le7 h7 s
  replace hl := ERep.mono le7 hl
  replace hr := ERep.mono le7 hr
  obtain rfl := h7
  refine ops_rule (C := []) _ [] 2 [] 0 (fun φ8 => [(14, .bool (E.isLeaf r)), (13, .bool (E.isLeaf r))]) (fun φ8 => [(φ1 0, .cells #[.int .u64 bl, .pointer pl] 30), (φ1 1, .cells #[.int .u64 br, .pointer pr] 30), (φ1 2, .cells #[.int .u64 0, .pointer none] 30)]) (fun φ8 => []) s trivial (fun φ8 => by kernel_rfl) ?_
  intro φ8 w8 s
  rcases Bool.eq_false_or_eq_true (E.isLeaf r) with hc9 | hc9
  ·
   rw [hc9]
   refine ops_rule (C := []) _ [] 6 [.o 0, .o 1] 0 (fun φ10 => [(20, .bool (((bl : Nat) : Int) == ((br : Nat) : Int))), (19, .bool (((bl : Nat) : Int) == ((br : Nat) : Int))), (18, .int .u64 br), (17, pB (φ1 1)), (16, .int .u64 bl), (15, pB (φ1 0))]) (fun φ10 => [(φ1 0, .cells #[.int .u64 bl, .pointer pl] 30), (φ1 1, .cells #[.int .u64 br, .pointer pr] 30), (φ1 2, .cells #[.int .u64 0, .pointer none] 30)]) (fun φ10 => [φ1 0, φ1 1]) s trivial (fun φ10 => by kernel_rfl) ?_
   intro φ10 w10 s
   rw [nat_eql (a := bl) (b := br)]
   refine ops_done (by kernel_rfl) ?_
   rcases Bool.eq_false_or_eq_true (decide (bl = br)) with hc11 | hc11
   ·
    rw [hc11]
    refine cond_true_rule (b := true) (by kernel_rfl) rfl ?_
    refine seqR ?_
    refine ops_rule (C := []) _ [] 6 [.o 0, .o 2, .o 2] 0 (fun φ12 => [(25, .agg #[.int .u64 (IntKind.wrap .u64 (((n : Nat) : Int) + ((bl : Nat) : Int))), .pointer none]), (24, .int .u64 (IntKind.wrap .u64 (((n : Nat) : Int) + ((bl : Nat) : Int)))), (23, .int .u64 bl), (22, pB (φ1 0)), (21, .int .u64 n)]) (fun φ12 => [(φ1 0, .cells #[.int .u64 bl, .pointer pl] 30), (φ1 1, .cells #[.int .u64 br, .pointer pr] 30), (φ1 2, .cells #[.int .u64 (IntKind.wrap .u64 (((n : Nat) : Int) + ((bl : Nat) : Int))), .pointer none] 30)]) (fun φ12 => [φ1 0, φ1 2, φ1 2]) s trivial (fun φ12 => by kernel_rfl) ?_
    intro φ12 w12 s
    rw [nat_addU (a := n) (b := bl) (by omega)] at s ⊢
    refine ops_done (by kernel_rfl) ?_
    refine wp_ret ?_
    refine ret_rule (C := []) _ [] (.agg #[.int .u64 ((n + bl : Nat) : Int), .pointer none]) [.o 2, .o 2] [φ1 2, φ1 2] s trivial (by kernel_rfl) ?_
    exact ⟨_, _, _, rfl, s, ⟨_, none, rfl, by rw [E.mk, if_pos ⟨hc5, hc9, by rw [← hbl, ← hbr]; exact of_decide_eq_true hc11⟩, ← hbl]; exact ⟨rfl, rfl⟩⟩⟩
   ·
    rw [hc11]
    refine cond_false_rule (b := false) (by kernel_rfl) rfl ?_
    refine wp_skip ?_
    refine seqR ?_
    refine ops_rule (C := []) _ [] 6 [.o 0, .o 1] 0 (fun φ13 => [(7, .int .u64 (if ((br : Nat) : Int) < ((bl : Nat) : Int) then ((br : Nat) : Int) else ((bl : Nat) : Int))), (30, .int .u64 (if ((br : Nat) : Int) < ((bl : Nat) : Int) then ((br : Nat) : Int) else ((bl : Nat) : Int))), (29, .int .u64 br), (28, pB (φ1 1)), (27, .int .u64 bl), (26, pB (φ1 0))]) (fun φ13 => [(φ1 0, .cells #[.int .u64 bl, .pointer pl] 30), (φ1 1, .cells #[.int .u64 br, .pointer pr] 30), (φ1 2, .cells #[.int .u64 0, .pointer none] 30)]) (fun φ13 => [φ1 0, φ1 1]) s trivial (fun φ13 => by kernel_rfl) ?_
    intro φ13 w13 s
    rw [nat_min (a := bl) (b := br)]
    refine ops_done (by kernel_rfl) ?_
    refine seqR ?_
    refine ops_rule (C := []) _ [] 6 [.o 0, .o 0] 0 (fun φ14 => [(35, pB (φ1 0)), (34, .int .u64 (IntKind.wrap .u64 (((bl : Nat) : Int) - ((min bl br : Nat) : Int)))), (33, .int .u64 ((min bl br : Nat) : Int)), (32, .int .u64 bl), (31, pB (φ1 0))]) (fun φ14 => [(φ1 0, .cells #[.int .u64 (IntKind.wrap .u64 (((bl : Nat) : Int) - ((min bl br : Nat) : Int))), .pointer pl] 30), (φ1 1, .cells #[.int .u64 br, .pointer pr] 30), (φ1 2, .cells #[.int .u64 0, .pointer none] 30)]) (fun φ14 => [φ1 0, φ1 0]) s trivial (fun φ14 => by kernel_rfl) ?_
    intro φ14 w14 s
    rw [nat_subU (a := bl) (b := (min bl br)) (by omega) (by omega)] at s ⊢
    refine ops_done (by kernel_rfl) ?_
    refine seqR ?_
    refine ops_rule (C := []) _ [] 6 [.o 1, .o 1] 0 (fun φ15 => [(40, pB (φ1 1)), (39, .int .u64 (IntKind.wrap .u64 (((br : Nat) : Int) - ((min bl br : Nat) : Int)))), (38, .int .u64 ((min bl br : Nat) : Int)), (37, .int .u64 br), (36, pB (φ1 1))]) (fun φ15 => [(φ1 0, .cells #[.int .u64 ((bl - (min bl br) : Nat) : Int), .pointer pl] 30), (φ1 1, .cells #[.int .u64 (IntKind.wrap .u64 (((br : Nat) : Int) - ((min bl br : Nat) : Int))), .pointer pr] 30), (φ1 2, .cells #[.int .u64 0, .pointer none] 30)]) (fun φ15 => [φ1 1, φ1 1]) s trivial (fun φ15 => by kernel_rfl) ?_
    intro φ15 w15 s
    rw [nat_subU (a := br) (b := (min bl br)) (by omega) (by omega)] at s ⊢
    refine ops_done (by kernel_rfl) ?_
    refine wp_seq ?_
    refine draw_rule (C := []) ⟨(fun φ16 xs16 => [.look 0 [] [], .look 0 [] [], .sub 0 [] [] (.int .u64 (IntKind.wrap .u64 (((n : Nat) : Int) + ((min bl br : Nat) : Int)))), .look 0 [.o 0, .o 0] [φ1 0, φ1 0], .look 0 [.o 1, .o 1] [φ1 1, φ1 1], .look 0 [.o 0, .o 0] [φ1 0, φ1 0], .call 77 #[.agg #[.int .u64 ((bl - (min bl br) : Nat) : Int), .pointer pl]], .look 0 [.o 1, .o 1] [φ1 1, φ1 1], .call 77 #[.agg #[.int .u64 ((br - (min bl br) : Nat) : Int), .pointer pr]], .sub 0 [] [] (.int .u64 (if ((E.top (E.dn (min bl br) r) : Nat) : Int) > ((E.top (E.dn (min bl br) l) : Nat) : Int) then ((E.top (E.dn (min bl br) r) : Nat) : Int) else ((E.top (E.dn (min bl br) l) : Nat) : Int))), .look 0 [.o 0, .o 0] [φ1 0, φ1 0], .call 92 #[.agg #[.int .u64 ((bl - (min bl br) : Nat) : Int), .pointer pl]], .look 0 [.o 1, .o 1] [φ1 1, φ1 1], .call 92 #[.agg #[.int .u64 ((br - (min bl br) : Nat) : Int), .pointer pr]], .sub 0 [] [] (.int .i64 (if ((E.depth (E.dn (min bl br) r) : Nat) : Int) > ((E.depth (E.dn (min bl br) l) : Nat) : Int) then ((E.depth (E.dn (min bl br) r) : Nat) : Int) else ((E.depth (E.dn (min bl br) l) : Nat) : Int))), .sub 0 [] [] (.int .i64 (IntKind.wrap .i64 (((1 : Nat) : Int) + ((max (E.depth (E.dn (min bl br) l)) (E.depth (E.dn (min bl br) r)) : Nat) : Int)))), .look 0 [] [], .new, .look 0 [] [], .store 0 [.o 2, .o 2] [φ1 2, φ1 2]]), (fun φ16 xs16 => [.int .u64 n, .int .u64 ((min bl br : Nat) : Int), .int .u64 ((n + (min bl br) : Nat) : Int), .agg #[.int .u64 ((bl - (min bl br) : Nat) : Int), .pointer pl], .agg #[.int .u64 ((br - (min bl br) : Nat) : Int), .pointer pr], .agg #[.int .u64 ((bl - (min bl br) : Nat) : Int), .pointer pl], .int .u64 (E.top (E.dn (min bl br) l)), .agg #[.int .u64 ((br - (min bl br) : Nat) : Int), .pointer pr], .int .u64 (E.top (E.dn (min bl br) r)), .int .u64 ((max (E.top (E.dn (min bl br) l)) (E.top (E.dn (min bl br) r)) : Nat) : Int), .agg #[.int .u64 ((bl - (min bl br) : Nat) : Int), .pointer pl], .int .i64 (E.depth (E.dn (min bl br) l)), .agg #[.int .u64 ((br - (min bl br) : Nat) : Int), .pointer pr], .int .i64 (E.depth (E.dn (min bl br) r)), .int .i64 ((max (E.depth (E.dn (min bl br) l)) (E.depth (E.dn (min bl br) r)) : Nat) : Int), .int .i64 ((1 + (max (E.depth (E.dn (min bl br) l)) (E.depth (E.dn (min bl br) r))) : Nat) : Int), .agg #[.int .u64 ((bl - (min bl br) : Nat) : Int), .pointer pl, .int .u64 ((br - (min bl br) : Nat) : Int), .pointer pr, .int .u64 ((max (E.top (E.dn (min bl br) l)) (E.top (E.dn (min bl br) r)) : Nat) : Int), .int .i64 ((1 + (max (E.depth (E.dn (min bl br) l)) (E.depth (E.dn (min bl br) r))) : Nat) : Int)], pB (φ16 17), .agg #[.int .u64 ((n + (min bl br) : Nat) : Int), pB (φ16 17)], undef]), (fun φ16 xs16 => [[(φ1 0, .cells #[.int .u64 ((bl - (min bl br) : Nat) : Int), .pointer pl] 30), (φ1 1, .cells #[.int .u64 ((br - (min bl br) : Nat) : Int), .pointer pr] 30), (φ1 2, .cells #[.int .u64 0, .pointer none] 30)], [(φ1 0, .cells #[.int .u64 ((bl - (min bl br) : Nat) : Int), .pointer pl] 30), (φ1 1, .cells #[.int .u64 ((br - (min bl br) : Nat) : Int), .pointer pr] 30), (φ1 2, .cells #[.int .u64 ((n + (min bl br) : Nat) : Int), pB (φ16 17)] 30)]]), (fun φ16 xs16 => [[default, default, default, default, default, default, default, default, default, default, default, default, default, default, default, default, default, .cells #[.int .u64 ((bl - (min bl br) : Nat) : Int), .pointer pl, .int .u64 ((br - (min bl br) : Nat) : Int), .pointer pr, .int .u64 ((max (E.top (E.dn (min bl br) l)) (E.top (E.dn (min bl br) r)) : Nat) : Int), .int .i64 ((1 + (max (E.depth (E.dn (min bl br) l)) (E.depth (E.dn (min bl br) r))) : Nat) : Int)] 119, default, default], [default, default, default, default, default, default, default, default, default, default, default, default, default, default, default, default, default, .cells #[.int .u64 ((bl - (min bl br) : Nat) : Int), .pointer pl, .int .u64 ((br - (min bl br) : Nat) : Int), .pointer pr, .int .u64 ((max (E.top (E.dn (min bl br) l)) (E.top (E.dn (min bl br) r)) : Nat) : Int), .int .i64 ((1 + (max (E.depth (E.dn (min bl br) l)) (E.depth (E.dn (min bl br) r))) : Nat) : Int)] 119, default, default]]), [19], [1, 1, 5, 1, 1, 1, 3, 1, 3, 5, 1, 3, 1, 3, 5, 5, 1, 2, 1, 4]⟩ (fun j => ([MP.any] : List MP).getD j MP.any) [6, 8, 11, 13] [2, 9, 14, 15] [] (fun φ16 xs16 => [[none, none, none, none, none, none, none, none, none, none, none, none, none, none, none, none, none, none, none, none]]) (fun φ16 xs16 => [(41, .int .u64 n), (42, .int .u64 ((min bl br : Nat) : Int)), (43, .int .u64 ((n + (min bl br) : Nat) : Int)), (44, .agg #[.int .u64 ((bl - (min bl br) : Nat) : Int), .pointer pl]), (45, .agg #[.int .u64 ((br - (min bl br) : Nat) : Int), .pointer pr]), (46, .agg #[.int .u64 ((bl - (min bl br) : Nat) : Int), .pointer pl]), (47, .int .u64 (E.top (E.dn (min bl br) l))), (48, .agg #[.int .u64 ((br - (min bl br) : Nat) : Int), .pointer pr]), (49, .int .u64 (E.top (E.dn (min bl br) r))), (50, .int .u64 ((max (E.top (E.dn (min bl br) l)) (E.top (E.dn (min bl br) r)) : Nat) : Int)), (51, .agg #[.int .u64 ((bl - (min bl br) : Nat) : Int), .pointer pl]), (52, .int .i64 (E.depth (E.dn (min bl br) l))), (53, .agg #[.int .u64 ((br - (min bl br) : Nat) : Int), .pointer pr]), (54, .int .i64 (E.depth (E.dn (min bl br) r))), (55, .int .i64 ((max (E.depth (E.dn (min bl br) l)) (E.depth (E.dn (min bl br) r)) : Nat) : Int)), (56, .int .i64 ((1 + (max (E.depth (E.dn (min bl br) l)) (E.depth (E.dn (min bl br) r))) : Nat) : Int)), (57, .agg #[.int .u64 ((bl - (min bl br) : Nat) : Int), .pointer pl, .int .u64 ((br - (min bl br) : Nat) : Int), .pointer pr, .int .u64 ((max (E.top (E.dn (min bl br) l)) (E.top (E.dn (min bl br) r)) : Nat) : Int), .int .i64 ((1 + (max (E.depth (E.dn (min bl br) l)) (E.depth (E.dn (min bl br) r))) : Nat) : Int)]), (58, pB (φ16 17)), (59, .agg #[.int .u64 ((n + (min bl br) : Nat) : Int), pB (φ16 17)])]) (fun φ16 xs16 => [(φ1 0, .cells #[.int .u64 ((bl - (min bl br) : Nat) : Int), .pointer pl] 30), (φ1 1, .cells #[.int .u64 ((br - (min bl br) : Nat) : Int), .pointer pr] 30), (φ1 2, .cells #[.int .u64 ((n + (min bl br) : Nat) : Int), pB (φ16 17)] 30), (φ16 17, .cells #[.int .u64 ((bl - (min bl br) : Nat) : Int), .pointer pl, .int .u64 ((br - (min bl br) : Nat) : Int), .pointer pr, .int .u64 ((max (E.top (E.dn (min bl br) l)) (E.top (E.dn (min bl br) r)) : Nat) : Int), .int .i64 ((1 + (max (E.depth (E.dn (min bl br) l)) (E.depth (E.dn (min bl br) r))) : Nat) : Int)] 119)]) s trivial (by kernel_rfl) (by kernel_rfl) (fun _ _ => by kernel_rfl) (fun _ _ => by kernel_rfl) ⟨fun _ _ => by kernel_rfl, fun _ _ => by kernel_rfl, fun _ _ => by kernel_rfl, fun _ _ => by kernel_rfl⟩ (fun _ _ _ => by kernel_rfl) (fun _ _ => by kernel_rfl) (fun _ _ => by kernel_rfl) (fun _ _ => by kernel_rfl) (fun _ _ => by kernel_rfl) (fun _ _ => by kernel_rfl) ⟨kcast (A := ∀ (φ16 : Nat → Nat) (xs16 : Xs), (.int .u64 (IntKind.wrap .u64 (((n : Nat) : Int) + ((min bl br : Nat) : Int))) : Value) = .int .u64 ((n + (min bl br) : Nat) : Int)) (by kernel_rfl) (fun φ16 xs16 => congrArg (Value.int .u64) ((nat_addU (a := n) (b := (min bl br)) (by omega)))), ⟨kcast (A := ∀ (φ16 : Nat → Nat) (xs16 : Xs), (.int .u64 (if ((E.top (E.dn (min bl br) r) : Nat) : Int) > ((E.top (E.dn (min bl br) l) : Nat) : Int) then ((E.top (E.dn (min bl br) r) : Nat) : Int) else ((E.top (E.dn (min bl br) l) : Nat) : Int)) : Value) = .int .u64 ((max (E.top (E.dn (min bl br) l)) (E.top (E.dn (min bl br) r)) : Nat) : Int)) (by kernel_rfl) (fun φ16 xs16 => congrArg (Value.int .u64) ((nat_max (a := (E.top (E.dn (min bl br) l))) (b := (E.top (E.dn (min bl br) r)))))), ⟨kcast (A := ∀ (φ16 : Nat → Nat) (xs16 : Xs), (.int .i64 (if ((E.depth (E.dn (min bl br) r) : Nat) : Int) > ((E.depth (E.dn (min bl br) l) : Nat) : Int) then ((E.depth (E.dn (min bl br) r) : Nat) : Int) else ((E.depth (E.dn (min bl br) l) : Nat) : Int)) : Value) = .int .i64 ((max (E.depth (E.dn (min bl br) l)) (E.depth (E.dn (min bl br) r)) : Nat) : Int)) (by kernel_rfl) (fun φ16 xs16 => congrArg (Value.int .i64) ((nat_max (a := (E.depth (E.dn (min bl br) l))) (b := (E.depth (E.dn (min bl br) r)))))), ⟨kcast (A := ∀ (φ16 : Nat → Nat) (xs16 : Xs), (.int .i64 (IntKind.wrap .i64 (((1 : Nat) : Int) + ((max (E.depth (E.dn (min bl br) l)) (E.depth (E.dn (min bl br) r)) : Nat) : Int))) : Value) = .int .i64 ((1 + (max (E.depth (E.dn (min bl br) l)) (E.depth (E.dn (min bl br) r))) : Nat) : Int)) (by kernel_rfl) (fun φ16 xs16 => congrArg (Value.int .i64) ((nat_addI (a := 1) (b := (max (E.depth (E.dn (min bl br) l)) (E.depth (E.dn (min bl br) r)))) (by omega)))), trivial⟩⟩⟩⟩ trivial (by kernel_rfl) ⟨?c16_6, ?c16_8, ?c16_11, ?c16_13, trivial⟩ ?k16
    case c16_6 =>
     refine kcast (A := ∀ (φ16 : Nat → Nat) (xs16 : Xs) (J6_16 : IM), I7.Le J6_16 → Fun Try.prog 77 #[.agg #[.int .u64 ((bl - (min bl br) : Nat) : Int), .pointer pl]] J6_16 (fun v J' => ∃ x : UX, v = .int .u64 (E.top (E.dn (min bl br) l)) ∧ (True))) (by kernel_rfl) ?_
     intro φ16 xs16 J6_16 leJ
     have hl := ERep.mono leJ hl
     exact Fun.mono (max_c (ERep.dn (min bl br) hl) (by omega)) (fun v J' _ h => ⟨UX.d, h, trivial⟩)
    case c16_8 =>
     refine kcast (A := ∀ (φ16 : Nat → Nat) (xs16 : Xs) (J8_16 : IM), I7.Le J8_16 → (True) → Fun Try.prog 77 #[.agg #[.int .u64 ((br - (min bl br) : Nat) : Int), .pointer pr]] J8_16 (fun v J' => ∃ x : UX, v = .int .u64 (E.top (E.dn (min bl br) r)) ∧ (True))) (by kernel_rfl) ?_
     intro φ16 xs16 J8_16 leJ
     rintro _
     have hr := ERep.mono leJ hr
     exact Fun.mono (max_c (ERep.dn (min bl br) hr) (by omega)) (fun v J' _ h => ⟨UX.d, h, trivial⟩)
    case c16_11 =>
     refine kcast (A := ∀ (φ16 : Nat → Nat) (xs16 : Xs) (J11_16 : IM), I7.Le J11_16 → (True) → (True) → Fun Try.prog 92 #[.agg #[.int .u64 ((bl - (min bl br) : Nat) : Int), .pointer pl]] J11_16 (fun v J' => ∃ x : UX, v = .int .i64 (E.depth (E.dn (min bl br) l)) ∧ (True))) (by kernel_rfl) ?_
     intro φ16 xs16 J11_16 leJ
     rintro _ _
     have hl := ERep.mono leJ hl
     exact Fun.mono (depth_c (ERep.dn (min bl br) hl)) (fun v J' _ h => ⟨UX.d, h, trivial⟩)
    case c16_13 =>
     refine kcast (A := ∀ (φ16 : Nat → Nat) (xs16 : Xs) (J13_16 : IM), I7.Le J13_16 → (True) → (True) → (True) → Fun Try.prog 92 #[.agg #[.int .u64 ((br - (min bl br) : Nat) : Int), .pointer pr]] J13_16 (fun v J' => ∃ x : UX, v = .int .i64 (E.depth (E.dn (min bl br) r)) ∧ (True))) (by kernel_rfl) ?_
     intro φ16 xs16 J13_16 leJ
     rintro _ _ _
     have hr := ERep.mono leJ hr
     exact Fun.mono (depth_c (ERep.dn (min bl br) hr)) (fun v J' _ h => ⟨UX.d, h, trivial⟩)
    case k16 =>
     rintro φ16 xs16 I16 w16 le16 s _ _ _ _
     replace hl := ERep.mono le16 hl
     replace hr := ERep.mono le16 hr
     refine wp_ret ?_
     refine ret_rule (C := []) [(φ1 0, .cells #[.int .u64 ((bl - (min bl br) : Nat) : Int), .pointer pl] 30), (φ1 1, .cells #[.int .u64 ((br - (min bl br) : Nat) : Int), .pointer pr] 30), (φ1 2, .cells #[.int .u64 ((n + (min bl br) : Nat) : Int), pB (φ16 17)] 30), (φ16 17, .cells #[.int .u64 ((bl - (min bl br) : Nat) : Int), .pointer pl, .int .u64 ((br - (min bl br) : Nat) : Int), .pointer pr, .int .u64 ((max (E.top (E.dn (min bl br) l)) (E.top (E.dn (min bl br) r)) : Nat) : Int), .int .i64 ((1 + (max (E.depth (E.dn (min bl br) l)) (E.depth (E.dn (min bl br) r))) : Nat) : Int)] 119)] [] (.agg #[.int .u64 ((n + (min bl br) : Nat) : Int), pB (φ16 17)]) [.o 2, .o 2] [φ1 2, φ1 2] s trivial (by kernel_rfl) ?_
     obtain ⟨I17, le17, hk17, s⟩ := s.freezeAt 3 (φ16 17) (.cells #[.int .u64 ((bl - (min bl br) : Nat) : Int), .pointer pl, .int .u64 ((br - (min bl br) : Nat) : Int), .pointer pr, .int .u64 ((max (E.top (E.dn (min bl br) l)) (E.top (E.dn (min bl br) r)) : Nat) : Int), .int .i64 ((1 + (max (E.depth (E.dn (min bl br) l)) (E.depth (E.dn (min bl br) r))) : Nat) : Int)] 119) [((φ1 0), .cells #[.int .u64 ((bl - (min bl br) : Nat) : Int), .pointer pl] 30), ((φ1 1), .cells #[.int .u64 ((br - (min bl br) : Nat) : Int), .pointer pr] 30), ((φ1 2), .cells #[.int .u64 ((n + (min bl br) : Nat) : Int), .pointer (some ⟨(φ16 17), 0, none⟩)] 30)] (by kernel_rfl) (by kernel_rfl)
     replace hl := ERep.mono le17 hl
     replace hr := ERep.mono le17 hr
     exact ⟨_, _, _, rfl, s, ⟨_, _, rfl, by rw [E.mk, if_neg (fun h => of_decide_eq_false hc11 (by rw [hbl, hbr]; exact h.2.2)), ← hbl, ← hbr]; exact ⟨rfl, _, _, _, _, _, rfl, hk17, ERep.dn _ hl, ERep.dn _ hr⟩⟩⟩
  ·
   rw [hc9]
   refine ops_rule (C := []) _ [] 6 [] 0 (fun φ18 => [(20, .bool false), (19, undef), (18, undef), (17, undef), (16, undef), (15, undef)]) (fun φ18 => [(φ1 0, .cells #[.int .u64 bl, .pointer pl] 30), (φ1 1, .cells #[.int .u64 br, .pointer pr] 30), (φ1 2, .cells #[.int .u64 0, .pointer none] 30)]) (fun φ18 => []) s trivial (fun φ18 => by kernel_rfl) ?_
   intro φ18 w18 s
   refine ops_done (by kernel_rfl) ?_
   refine cond_false_rule (b := false) (by kernel_rfl) rfl ?_
   refine wp_skip ?_
   refine seqR ?_
   refine ops_rule (C := []) _ [] 6 [.o 0, .o 1] 0 (fun φ19 => [(7, .int .u64 (if ((br : Nat) : Int) < ((bl : Nat) : Int) then ((br : Nat) : Int) else ((bl : Nat) : Int))), (30, .int .u64 (if ((br : Nat) : Int) < ((bl : Nat) : Int) then ((br : Nat) : Int) else ((bl : Nat) : Int))), (29, .int .u64 br), (28, pB (φ1 1)), (27, .int .u64 bl), (26, pB (φ1 0))]) (fun φ19 => [(φ1 0, .cells #[.int .u64 bl, .pointer pl] 30), (φ1 1, .cells #[.int .u64 br, .pointer pr] 30), (φ1 2, .cells #[.int .u64 0, .pointer none] 30)]) (fun φ19 => [φ1 0, φ1 1]) s trivial (fun φ19 => by kernel_rfl) ?_
   intro φ19 w19 s
   rw [nat_min (a := bl) (b := br)]
   refine ops_done (by kernel_rfl) ?_
   refine seqR ?_
   refine ops_rule (C := []) _ [] 6 [.o 0, .o 0] 0 (fun φ20 => [(35, pB (φ1 0)), (34, .int .u64 (IntKind.wrap .u64 (((bl : Nat) : Int) - ((min bl br : Nat) : Int)))), (33, .int .u64 ((min bl br : Nat) : Int)), (32, .int .u64 bl), (31, pB (φ1 0))]) (fun φ20 => [(φ1 0, .cells #[.int .u64 (IntKind.wrap .u64 (((bl : Nat) : Int) - ((min bl br : Nat) : Int))), .pointer pl] 30), (φ1 1, .cells #[.int .u64 br, .pointer pr] 30), (φ1 2, .cells #[.int .u64 0, .pointer none] 30)]) (fun φ20 => [φ1 0, φ1 0]) s trivial (fun φ20 => by kernel_rfl) ?_
   intro φ20 w20 s
   rw [nat_subU (a := bl) (b := (min bl br)) (by omega) (by omega)] at s ⊢
   refine ops_done (by kernel_rfl) ?_
   refine seqR ?_
   refine ops_rule (C := []) _ [] 6 [.o 1, .o 1] 0 (fun φ21 => [(40, pB (φ1 1)), (39, .int .u64 (IntKind.wrap .u64 (((br : Nat) : Int) - ((min bl br : Nat) : Int)))), (38, .int .u64 ((min bl br : Nat) : Int)), (37, .int .u64 br), (36, pB (φ1 1))]) (fun φ21 => [(φ1 0, .cells #[.int .u64 ((bl - (min bl br) : Nat) : Int), .pointer pl] 30), (φ1 1, .cells #[.int .u64 (IntKind.wrap .u64 (((br : Nat) : Int) - ((min bl br : Nat) : Int))), .pointer pr] 30), (φ1 2, .cells #[.int .u64 0, .pointer none] 30)]) (fun φ21 => [φ1 1, φ1 1]) s trivial (fun φ21 => by kernel_rfl) ?_
   intro φ21 w21 s
   rw [nat_subU (a := br) (b := (min bl br)) (by omega) (by omega)] at s ⊢
   refine ops_done (by kernel_rfl) ?_
   refine wp_seq ?_
   refine draw_rule (C := []) ⟨(fun φ22 xs22 => [.look 0 [] [], .look 0 [] [], .sub 0 [] [] (.int .u64 (IntKind.wrap .u64 (((n : Nat) : Int) + ((min bl br : Nat) : Int)))), .look 0 [.o 0, .o 0] [φ1 0, φ1 0], .look 0 [.o 1, .o 1] [φ1 1, φ1 1], .look 0 [.o 0, .o 0] [φ1 0, φ1 0], .call 77 #[.agg #[.int .u64 ((bl - (min bl br) : Nat) : Int), .pointer pl]], .look 0 [.o 1, .o 1] [φ1 1, φ1 1], .call 77 #[.agg #[.int .u64 ((br - (min bl br) : Nat) : Int), .pointer pr]], .sub 0 [] [] (.int .u64 (if ((E.top (E.dn (min bl br) r) : Nat) : Int) > ((E.top (E.dn (min bl br) l) : Nat) : Int) then ((E.top (E.dn (min bl br) r) : Nat) : Int) else ((E.top (E.dn (min bl br) l) : Nat) : Int))), .look 0 [.o 0, .o 0] [φ1 0, φ1 0], .call 92 #[.agg #[.int .u64 ((bl - (min bl br) : Nat) : Int), .pointer pl]], .look 0 [.o 1, .o 1] [φ1 1, φ1 1], .call 92 #[.agg #[.int .u64 ((br - (min bl br) : Nat) : Int), .pointer pr]], .sub 0 [] [] (.int .i64 (if ((E.depth (E.dn (min bl br) r) : Nat) : Int) > ((E.depth (E.dn (min bl br) l) : Nat) : Int) then ((E.depth (E.dn (min bl br) r) : Nat) : Int) else ((E.depth (E.dn (min bl br) l) : Nat) : Int))), .sub 0 [] [] (.int .i64 (IntKind.wrap .i64 (((1 : Nat) : Int) + ((max (E.depth (E.dn (min bl br) l)) (E.depth (E.dn (min bl br) r)) : Nat) : Int)))), .look 0 [] [], .new, .look 0 [] [], .store 0 [.o 2, .o 2] [φ1 2, φ1 2]]), (fun φ22 xs22 => [.int .u64 n, .int .u64 ((min bl br : Nat) : Int), .int .u64 ((n + (min bl br) : Nat) : Int), .agg #[.int .u64 ((bl - (min bl br) : Nat) : Int), .pointer pl], .agg #[.int .u64 ((br - (min bl br) : Nat) : Int), .pointer pr], .agg #[.int .u64 ((bl - (min bl br) : Nat) : Int), .pointer pl], .int .u64 (E.top (E.dn (min bl br) l)), .agg #[.int .u64 ((br - (min bl br) : Nat) : Int), .pointer pr], .int .u64 (E.top (E.dn (min bl br) r)), .int .u64 ((max (E.top (E.dn (min bl br) l)) (E.top (E.dn (min bl br) r)) : Nat) : Int), .agg #[.int .u64 ((bl - (min bl br) : Nat) : Int), .pointer pl], .int .i64 (E.depth (E.dn (min bl br) l)), .agg #[.int .u64 ((br - (min bl br) : Nat) : Int), .pointer pr], .int .i64 (E.depth (E.dn (min bl br) r)), .int .i64 ((max (E.depth (E.dn (min bl br) l)) (E.depth (E.dn (min bl br) r)) : Nat) : Int), .int .i64 ((1 + (max (E.depth (E.dn (min bl br) l)) (E.depth (E.dn (min bl br) r))) : Nat) : Int), .agg #[.int .u64 ((bl - (min bl br) : Nat) : Int), .pointer pl, .int .u64 ((br - (min bl br) : Nat) : Int), .pointer pr, .int .u64 ((max (E.top (E.dn (min bl br) l)) (E.top (E.dn (min bl br) r)) : Nat) : Int), .int .i64 ((1 + (max (E.depth (E.dn (min bl br) l)) (E.depth (E.dn (min bl br) r))) : Nat) : Int)], pB (φ22 17), .agg #[.int .u64 ((n + (min bl br) : Nat) : Int), pB (φ22 17)], undef]), (fun φ22 xs22 => [[(φ1 0, .cells #[.int .u64 ((bl - (min bl br) : Nat) : Int), .pointer pl] 30), (φ1 1, .cells #[.int .u64 ((br - (min bl br) : Nat) : Int), .pointer pr] 30), (φ1 2, .cells #[.int .u64 0, .pointer none] 30)], [(φ1 0, .cells #[.int .u64 ((bl - (min bl br) : Nat) : Int), .pointer pl] 30), (φ1 1, .cells #[.int .u64 ((br - (min bl br) : Nat) : Int), .pointer pr] 30), (φ1 2, .cells #[.int .u64 ((n + (min bl br) : Nat) : Int), pB (φ22 17)] 30)]]), (fun φ22 xs22 => [[default, default, default, default, default, default, default, default, default, default, default, default, default, default, default, default, default, .cells #[.int .u64 ((bl - (min bl br) : Nat) : Int), .pointer pl, .int .u64 ((br - (min bl br) : Nat) : Int), .pointer pr, .int .u64 ((max (E.top (E.dn (min bl br) l)) (E.top (E.dn (min bl br) r)) : Nat) : Int), .int .i64 ((1 + (max (E.depth (E.dn (min bl br) l)) (E.depth (E.dn (min bl br) r))) : Nat) : Int)] 119, default, default], [default, default, default, default, default, default, default, default, default, default, default, default, default, default, default, default, default, .cells #[.int .u64 ((bl - (min bl br) : Nat) : Int), .pointer pl, .int .u64 ((br - (min bl br) : Nat) : Int), .pointer pr, .int .u64 ((max (E.top (E.dn (min bl br) l)) (E.top (E.dn (min bl br) r)) : Nat) : Int), .int .i64 ((1 + (max (E.depth (E.dn (min bl br) l)) (E.depth (E.dn (min bl br) r))) : Nat) : Int)] 119, default, default]]), [19], [1, 1, 5, 1, 1, 1, 3, 1, 3, 5, 1, 3, 1, 3, 5, 5, 1, 2, 1, 4]⟩ (fun j => ([MP.any] : List MP).getD j MP.any) [6, 8, 11, 13] [2, 9, 14, 15] [] (fun φ22 xs22 => [[none, none, none, none, none, none, none, none, none, none, none, none, none, none, none, none, none, none, none, none]]) (fun φ22 xs22 => [(41, .int .u64 n), (42, .int .u64 ((min bl br : Nat) : Int)), (43, .int .u64 ((n + (min bl br) : Nat) : Int)), (44, .agg #[.int .u64 ((bl - (min bl br) : Nat) : Int), .pointer pl]), (45, .agg #[.int .u64 ((br - (min bl br) : Nat) : Int), .pointer pr]), (46, .agg #[.int .u64 ((bl - (min bl br) : Nat) : Int), .pointer pl]), (47, .int .u64 (E.top (E.dn (min bl br) l))), (48, .agg #[.int .u64 ((br - (min bl br) : Nat) : Int), .pointer pr]), (49, .int .u64 (E.top (E.dn (min bl br) r))), (50, .int .u64 ((max (E.top (E.dn (min bl br) l)) (E.top (E.dn (min bl br) r)) : Nat) : Int)), (51, .agg #[.int .u64 ((bl - (min bl br) : Nat) : Int), .pointer pl]), (52, .int .i64 (E.depth (E.dn (min bl br) l))), (53, .agg #[.int .u64 ((br - (min bl br) : Nat) : Int), .pointer pr]), (54, .int .i64 (E.depth (E.dn (min bl br) r))), (55, .int .i64 ((max (E.depth (E.dn (min bl br) l)) (E.depth (E.dn (min bl br) r)) : Nat) : Int)), (56, .int .i64 ((1 + (max (E.depth (E.dn (min bl br) l)) (E.depth (E.dn (min bl br) r))) : Nat) : Int)), (57, .agg #[.int .u64 ((bl - (min bl br) : Nat) : Int), .pointer pl, .int .u64 ((br - (min bl br) : Nat) : Int), .pointer pr, .int .u64 ((max (E.top (E.dn (min bl br) l)) (E.top (E.dn (min bl br) r)) : Nat) : Int), .int .i64 ((1 + (max (E.depth (E.dn (min bl br) l)) (E.depth (E.dn (min bl br) r))) : Nat) : Int)]), (58, pB (φ22 17)), (59, .agg #[.int .u64 ((n + (min bl br) : Nat) : Int), pB (φ22 17)])]) (fun φ22 xs22 => [(φ1 0, .cells #[.int .u64 ((bl - (min bl br) : Nat) : Int), .pointer pl] 30), (φ1 1, .cells #[.int .u64 ((br - (min bl br) : Nat) : Int), .pointer pr] 30), (φ1 2, .cells #[.int .u64 ((n + (min bl br) : Nat) : Int), pB (φ22 17)] 30), (φ22 17, .cells #[.int .u64 ((bl - (min bl br) : Nat) : Int), .pointer pl, .int .u64 ((br - (min bl br) : Nat) : Int), .pointer pr, .int .u64 ((max (E.top (E.dn (min bl br) l)) (E.top (E.dn (min bl br) r)) : Nat) : Int), .int .i64 ((1 + (max (E.depth (E.dn (min bl br) l)) (E.depth (E.dn (min bl br) r))) : Nat) : Int)] 119)]) s trivial (by kernel_rfl) (by kernel_rfl) (fun _ _ => by kernel_rfl) (fun _ _ => by kernel_rfl) ⟨fun _ _ => by kernel_rfl, fun _ _ => by kernel_rfl, fun _ _ => by kernel_rfl, fun _ _ => by kernel_rfl⟩ (fun _ _ _ => by kernel_rfl) (fun _ _ => by kernel_rfl) (fun _ _ => by kernel_rfl) (fun _ _ => by kernel_rfl) (fun _ _ => by kernel_rfl) (fun _ _ => by kernel_rfl) ⟨kcast (A := ∀ (φ22 : Nat → Nat) (xs22 : Xs), (.int .u64 (IntKind.wrap .u64 (((n : Nat) : Int) + ((min bl br : Nat) : Int))) : Value) = .int .u64 ((n + (min bl br) : Nat) : Int)) (by kernel_rfl) (fun φ22 xs22 => congrArg (Value.int .u64) ((nat_addU (a := n) (b := (min bl br)) (by omega)))), ⟨kcast (A := ∀ (φ22 : Nat → Nat) (xs22 : Xs), (.int .u64 (if ((E.top (E.dn (min bl br) r) : Nat) : Int) > ((E.top (E.dn (min bl br) l) : Nat) : Int) then ((E.top (E.dn (min bl br) r) : Nat) : Int) else ((E.top (E.dn (min bl br) l) : Nat) : Int)) : Value) = .int .u64 ((max (E.top (E.dn (min bl br) l)) (E.top (E.dn (min bl br) r)) : Nat) : Int)) (by kernel_rfl) (fun φ22 xs22 => congrArg (Value.int .u64) ((nat_max (a := (E.top (E.dn (min bl br) l))) (b := (E.top (E.dn (min bl br) r)))))), ⟨kcast (A := ∀ (φ22 : Nat → Nat) (xs22 : Xs), (.int .i64 (if ((E.depth (E.dn (min bl br) r) : Nat) : Int) > ((E.depth (E.dn (min bl br) l) : Nat) : Int) then ((E.depth (E.dn (min bl br) r) : Nat) : Int) else ((E.depth (E.dn (min bl br) l) : Nat) : Int)) : Value) = .int .i64 ((max (E.depth (E.dn (min bl br) l)) (E.depth (E.dn (min bl br) r)) : Nat) : Int)) (by kernel_rfl) (fun φ22 xs22 => congrArg (Value.int .i64) ((nat_max (a := (E.depth (E.dn (min bl br) l))) (b := (E.depth (E.dn (min bl br) r)))))), ⟨kcast (A := ∀ (φ22 : Nat → Nat) (xs22 : Xs), (.int .i64 (IntKind.wrap .i64 (((1 : Nat) : Int) + ((max (E.depth (E.dn (min bl br) l)) (E.depth (E.dn (min bl br) r)) : Nat) : Int))) : Value) = .int .i64 ((1 + (max (E.depth (E.dn (min bl br) l)) (E.depth (E.dn (min bl br) r))) : Nat) : Int)) (by kernel_rfl) (fun φ22 xs22 => congrArg (Value.int .i64) ((nat_addI (a := 1) (b := (max (E.depth (E.dn (min bl br) l)) (E.depth (E.dn (min bl br) r)))) (by omega)))), trivial⟩⟩⟩⟩ trivial (by kernel_rfl) ⟨?c22_6, ?c22_8, ?c22_11, ?c22_13, trivial⟩ ?k22
   case c22_6 =>
    refine kcast (A := ∀ (φ22 : Nat → Nat) (xs22 : Xs) (J6_22 : IM), I7.Le J6_22 → Fun Try.prog 77 #[.agg #[.int .u64 ((bl - (min bl br) : Nat) : Int), .pointer pl]] J6_22 (fun v J' => ∃ x : UX, v = .int .u64 (E.top (E.dn (min bl br) l)) ∧ (True))) (by kernel_rfl) ?_
    intro φ22 xs22 J6_22 leJ
    have hl := ERep.mono leJ hl
    exact Fun.mono (max_c (ERep.dn (min bl br) hl) (by omega)) (fun v J' _ h => ⟨UX.d, h, trivial⟩)
   case c22_8 =>
    refine kcast (A := ∀ (φ22 : Nat → Nat) (xs22 : Xs) (J8_22 : IM), I7.Le J8_22 → (True) → Fun Try.prog 77 #[.agg #[.int .u64 ((br - (min bl br) : Nat) : Int), .pointer pr]] J8_22 (fun v J' => ∃ x : UX, v = .int .u64 (E.top (E.dn (min bl br) r)) ∧ (True))) (by kernel_rfl) ?_
    intro φ22 xs22 J8_22 leJ
    rintro _
    have hr := ERep.mono leJ hr
    exact Fun.mono (max_c (ERep.dn (min bl br) hr) (by omega)) (fun v J' _ h => ⟨UX.d, h, trivial⟩)
   case c22_11 =>
    refine kcast (A := ∀ (φ22 : Nat → Nat) (xs22 : Xs) (J11_22 : IM), I7.Le J11_22 → (True) → (True) → Fun Try.prog 92 #[.agg #[.int .u64 ((bl - (min bl br) : Nat) : Int), .pointer pl]] J11_22 (fun v J' => ∃ x : UX, v = .int .i64 (E.depth (E.dn (min bl br) l)) ∧ (True))) (by kernel_rfl) ?_
    intro φ22 xs22 J11_22 leJ
    rintro _ _
    have hl := ERep.mono leJ hl
    exact Fun.mono (depth_c (ERep.dn (min bl br) hl)) (fun v J' _ h => ⟨UX.d, h, trivial⟩)
   case c22_13 =>
    refine kcast (A := ∀ (φ22 : Nat → Nat) (xs22 : Xs) (J13_22 : IM), I7.Le J13_22 → (True) → (True) → (True) → Fun Try.prog 92 #[.agg #[.int .u64 ((br - (min bl br) : Nat) : Int), .pointer pr]] J13_22 (fun v J' => ∃ x : UX, v = .int .i64 (E.depth (E.dn (min bl br) r)) ∧ (True))) (by kernel_rfl) ?_
    intro φ22 xs22 J13_22 leJ
    rintro _ _ _
    have hr := ERep.mono leJ hr
    exact Fun.mono (depth_c (ERep.dn (min bl br) hr)) (fun v J' _ h => ⟨UX.d, h, trivial⟩)
   case k22 =>
    rintro φ22 xs22 I22 w22 le22 s _ _ _ _
    replace hl := ERep.mono le22 hl
    replace hr := ERep.mono le22 hr
    refine wp_ret ?_
    refine ret_rule (C := []) [(φ1 0, .cells #[.int .u64 ((bl - (min bl br) : Nat) : Int), .pointer pl] 30), (φ1 1, .cells #[.int .u64 ((br - (min bl br) : Nat) : Int), .pointer pr] 30), (φ1 2, .cells #[.int .u64 ((n + (min bl br) : Nat) : Int), pB (φ22 17)] 30), (φ22 17, .cells #[.int .u64 ((bl - (min bl br) : Nat) : Int), .pointer pl, .int .u64 ((br - (min bl br) : Nat) : Int), .pointer pr, .int .u64 ((max (E.top (E.dn (min bl br) l)) (E.top (E.dn (min bl br) r)) : Nat) : Int), .int .i64 ((1 + (max (E.depth (E.dn (min bl br) l)) (E.depth (E.dn (min bl br) r))) : Nat) : Int)] 119)] [] (.agg #[.int .u64 ((n + (min bl br) : Nat) : Int), pB (φ22 17)]) [.o 2, .o 2] [φ1 2, φ1 2] s trivial (by kernel_rfl) ?_
    obtain ⟨I23, le23, hk23, s⟩ := s.freezeAt 3 (φ22 17) (.cells #[.int .u64 ((bl - (min bl br) : Nat) : Int), .pointer pl, .int .u64 ((br - (min bl br) : Nat) : Int), .pointer pr, .int .u64 ((max (E.top (E.dn (min bl br) l)) (E.top (E.dn (min bl br) r)) : Nat) : Int), .int .i64 ((1 + (max (E.depth (E.dn (min bl br) l)) (E.depth (E.dn (min bl br) r))) : Nat) : Int)] 119) [((φ1 0), .cells #[.int .u64 ((bl - (min bl br) : Nat) : Int), .pointer pl] 30), ((φ1 1), .cells #[.int .u64 ((br - (min bl br) : Nat) : Int), .pointer pr] 30), ((φ1 2), .cells #[.int .u64 ((n + (min bl br) : Nat) : Int), .pointer (some ⟨(φ22 17), 0, none⟩)] 30)] (by kernel_rfl) (by kernel_rfl)
    replace hl := ERep.mono le23 hl
    replace hr := ERep.mono le23 hr
    exact ⟨_, _, _, rfl, s, ⟨_, _, rfl, by rw [E.mk, if_neg (fun h => by rw [hc9] at h; cases h.2.1), ← hbl, ← hbr]; exact ⟨rfl, _, _, _, _, _, rfl, hk23, ERep.dn _ hl, ERep.dn _ hr⟩⟩⟩
 ·
  rw [hc5]
  refine ops_rule (C := []) _ [] 10 [] 0 (fun φ24 => [(20, .bool false), (19, undef), (18, undef), (17, undef), (16, undef), (15, undef), (14, .bool false), (13, .bool false), (12, undef), (11, undef)]) (fun φ24 => [(φ1 0, .cells #[.int .u64 bl, .pointer pl] 30), (φ1 1, .cells #[.int .u64 br, .pointer pr] 30), (φ1 2, .cells #[.int .u64 0, .pointer none] 30)]) (fun φ24 => []) s trivial (fun φ24 => by kernel_rfl) ?_
  intro φ24 w24 s
  refine ops_done (by kernel_rfl) ?_
  refine cond_false_rule (b := false) (by kernel_rfl) rfl ?_
  refine wp_skip ?_
  refine seqR ?_
  refine ops_rule (C := []) _ [] 6 [.o 0, .o 1] 0 (fun φ25 => [(7, .int .u64 (if ((br : Nat) : Int) < ((bl : Nat) : Int) then ((br : Nat) : Int) else ((bl : Nat) : Int))), (30, .int .u64 (if ((br : Nat) : Int) < ((bl : Nat) : Int) then ((br : Nat) : Int) else ((bl : Nat) : Int))), (29, .int .u64 br), (28, pB (φ1 1)), (27, .int .u64 bl), (26, pB (φ1 0))]) (fun φ25 => [(φ1 0, .cells #[.int .u64 bl, .pointer pl] 30), (φ1 1, .cells #[.int .u64 br, .pointer pr] 30), (φ1 2, .cells #[.int .u64 0, .pointer none] 30)]) (fun φ25 => [φ1 0, φ1 1]) s trivial (fun φ25 => by kernel_rfl) ?_
  intro φ25 w25 s
  rw [nat_min (a := bl) (b := br)]
  refine ops_done (by kernel_rfl) ?_
  refine seqR ?_
  refine ops_rule (C := []) _ [] 6 [.o 0, .o 0] 0 (fun φ26 => [(35, pB (φ1 0)), (34, .int .u64 (IntKind.wrap .u64 (((bl : Nat) : Int) - ((min bl br : Nat) : Int)))), (33, .int .u64 ((min bl br : Nat) : Int)), (32, .int .u64 bl), (31, pB (φ1 0))]) (fun φ26 => [(φ1 0, .cells #[.int .u64 (IntKind.wrap .u64 (((bl : Nat) : Int) - ((min bl br : Nat) : Int))), .pointer pl] 30), (φ1 1, .cells #[.int .u64 br, .pointer pr] 30), (φ1 2, .cells #[.int .u64 0, .pointer none] 30)]) (fun φ26 => [φ1 0, φ1 0]) s trivial (fun φ26 => by kernel_rfl) ?_
  intro φ26 w26 s
  rw [nat_subU (a := bl) (b := (min bl br)) (by omega) (by omega)] at s ⊢
  refine ops_done (by kernel_rfl) ?_
  refine seqR ?_
  refine ops_rule (C := []) _ [] 6 [.o 1, .o 1] 0 (fun φ27 => [(40, pB (φ1 1)), (39, .int .u64 (IntKind.wrap .u64 (((br : Nat) : Int) - ((min bl br : Nat) : Int)))), (38, .int .u64 ((min bl br : Nat) : Int)), (37, .int .u64 br), (36, pB (φ1 1))]) (fun φ27 => [(φ1 0, .cells #[.int .u64 ((bl - (min bl br) : Nat) : Int), .pointer pl] 30), (φ1 1, .cells #[.int .u64 (IntKind.wrap .u64 (((br : Nat) : Int) - ((min bl br : Nat) : Int))), .pointer pr] 30), (φ1 2, .cells #[.int .u64 0, .pointer none] 30)]) (fun φ27 => [φ1 1, φ1 1]) s trivial (fun φ27 => by kernel_rfl) ?_
  intro φ27 w27 s
  rw [nat_subU (a := br) (b := (min bl br)) (by omega) (by omega)] at s ⊢
  refine ops_done (by kernel_rfl) ?_
  refine wp_seq ?_
  refine draw_rule (C := []) ⟨(fun φ28 xs28 => [.look 0 [] [], .look 0 [] [], .sub 0 [] [] (.int .u64 (IntKind.wrap .u64 (((n : Nat) : Int) + ((min bl br : Nat) : Int)))), .look 0 [.o 0, .o 0] [φ1 0, φ1 0], .look 0 [.o 1, .o 1] [φ1 1, φ1 1], .look 0 [.o 0, .o 0] [φ1 0, φ1 0], .call 77 #[.agg #[.int .u64 ((bl - (min bl br) : Nat) : Int), .pointer pl]], .look 0 [.o 1, .o 1] [φ1 1, φ1 1], .call 77 #[.agg #[.int .u64 ((br - (min bl br) : Nat) : Int), .pointer pr]], .sub 0 [] [] (.int .u64 (if ((E.top (E.dn (min bl br) r) : Nat) : Int) > ((E.top (E.dn (min bl br) l) : Nat) : Int) then ((E.top (E.dn (min bl br) r) : Nat) : Int) else ((E.top (E.dn (min bl br) l) : Nat) : Int))), .look 0 [.o 0, .o 0] [φ1 0, φ1 0], .call 92 #[.agg #[.int .u64 ((bl - (min bl br) : Nat) : Int), .pointer pl]], .look 0 [.o 1, .o 1] [φ1 1, φ1 1], .call 92 #[.agg #[.int .u64 ((br - (min bl br) : Nat) : Int), .pointer pr]], .sub 0 [] [] (.int .i64 (if ((E.depth (E.dn (min bl br) r) : Nat) : Int) > ((E.depth (E.dn (min bl br) l) : Nat) : Int) then ((E.depth (E.dn (min bl br) r) : Nat) : Int) else ((E.depth (E.dn (min bl br) l) : Nat) : Int))), .sub 0 [] [] (.int .i64 (IntKind.wrap .i64 (((1 : Nat) : Int) + ((max (E.depth (E.dn (min bl br) l)) (E.depth (E.dn (min bl br) r)) : Nat) : Int)))), .look 0 [] [], .new, .look 0 [] [], .store 0 [.o 2, .o 2] [φ1 2, φ1 2]]), (fun φ28 xs28 => [.int .u64 n, .int .u64 ((min bl br : Nat) : Int), .int .u64 ((n + (min bl br) : Nat) : Int), .agg #[.int .u64 ((bl - (min bl br) : Nat) : Int), .pointer pl], .agg #[.int .u64 ((br - (min bl br) : Nat) : Int), .pointer pr], .agg #[.int .u64 ((bl - (min bl br) : Nat) : Int), .pointer pl], .int .u64 (E.top (E.dn (min bl br) l)), .agg #[.int .u64 ((br - (min bl br) : Nat) : Int), .pointer pr], .int .u64 (E.top (E.dn (min bl br) r)), .int .u64 ((max (E.top (E.dn (min bl br) l)) (E.top (E.dn (min bl br) r)) : Nat) : Int), .agg #[.int .u64 ((bl - (min bl br) : Nat) : Int), .pointer pl], .int .i64 (E.depth (E.dn (min bl br) l)), .agg #[.int .u64 ((br - (min bl br) : Nat) : Int), .pointer pr], .int .i64 (E.depth (E.dn (min bl br) r)), .int .i64 ((max (E.depth (E.dn (min bl br) l)) (E.depth (E.dn (min bl br) r)) : Nat) : Int), .int .i64 ((1 + (max (E.depth (E.dn (min bl br) l)) (E.depth (E.dn (min bl br) r))) : Nat) : Int), .agg #[.int .u64 ((bl - (min bl br) : Nat) : Int), .pointer pl, .int .u64 ((br - (min bl br) : Nat) : Int), .pointer pr, .int .u64 ((max (E.top (E.dn (min bl br) l)) (E.top (E.dn (min bl br) r)) : Nat) : Int), .int .i64 ((1 + (max (E.depth (E.dn (min bl br) l)) (E.depth (E.dn (min bl br) r))) : Nat) : Int)], pB (φ28 17), .agg #[.int .u64 ((n + (min bl br) : Nat) : Int), pB (φ28 17)], undef]), (fun φ28 xs28 => [[(φ1 0, .cells #[.int .u64 ((bl - (min bl br) : Nat) : Int), .pointer pl] 30), (φ1 1, .cells #[.int .u64 ((br - (min bl br) : Nat) : Int), .pointer pr] 30), (φ1 2, .cells #[.int .u64 0, .pointer none] 30)], [(φ1 0, .cells #[.int .u64 ((bl - (min bl br) : Nat) : Int), .pointer pl] 30), (φ1 1, .cells #[.int .u64 ((br - (min bl br) : Nat) : Int), .pointer pr] 30), (φ1 2, .cells #[.int .u64 ((n + (min bl br) : Nat) : Int), pB (φ28 17)] 30)]]), (fun φ28 xs28 => [[default, default, default, default, default, default, default, default, default, default, default, default, default, default, default, default, default, .cells #[.int .u64 ((bl - (min bl br) : Nat) : Int), .pointer pl, .int .u64 ((br - (min bl br) : Nat) : Int), .pointer pr, .int .u64 ((max (E.top (E.dn (min bl br) l)) (E.top (E.dn (min bl br) r)) : Nat) : Int), .int .i64 ((1 + (max (E.depth (E.dn (min bl br) l)) (E.depth (E.dn (min bl br) r))) : Nat) : Int)] 119, default, default], [default, default, default, default, default, default, default, default, default, default, default, default, default, default, default, default, default, .cells #[.int .u64 ((bl - (min bl br) : Nat) : Int), .pointer pl, .int .u64 ((br - (min bl br) : Nat) : Int), .pointer pr, .int .u64 ((max (E.top (E.dn (min bl br) l)) (E.top (E.dn (min bl br) r)) : Nat) : Int), .int .i64 ((1 + (max (E.depth (E.dn (min bl br) l)) (E.depth (E.dn (min bl br) r))) : Nat) : Int)] 119, default, default]]), [19], [1, 1, 5, 1, 1, 1, 3, 1, 3, 5, 1, 3, 1, 3, 5, 5, 1, 2, 1, 4]⟩ (fun j => ([MP.any] : List MP).getD j MP.any) [6, 8, 11, 13] [2, 9, 14, 15] [] (fun φ28 xs28 => [[none, none, none, none, none, none, none, none, none, none, none, none, none, none, none, none, none, none, none, none]]) (fun φ28 xs28 => [(41, .int .u64 n), (42, .int .u64 ((min bl br : Nat) : Int)), (43, .int .u64 ((n + (min bl br) : Nat) : Int)), (44, .agg #[.int .u64 ((bl - (min bl br) : Nat) : Int), .pointer pl]), (45, .agg #[.int .u64 ((br - (min bl br) : Nat) : Int), .pointer pr]), (46, .agg #[.int .u64 ((bl - (min bl br) : Nat) : Int), .pointer pl]), (47, .int .u64 (E.top (E.dn (min bl br) l))), (48, .agg #[.int .u64 ((br - (min bl br) : Nat) : Int), .pointer pr]), (49, .int .u64 (E.top (E.dn (min bl br) r))), (50, .int .u64 ((max (E.top (E.dn (min bl br) l)) (E.top (E.dn (min bl br) r)) : Nat) : Int)), (51, .agg #[.int .u64 ((bl - (min bl br) : Nat) : Int), .pointer pl]), (52, .int .i64 (E.depth (E.dn (min bl br) l))), (53, .agg #[.int .u64 ((br - (min bl br) : Nat) : Int), .pointer pr]), (54, .int .i64 (E.depth (E.dn (min bl br) r))), (55, .int .i64 ((max (E.depth (E.dn (min bl br) l)) (E.depth (E.dn (min bl br) r)) : Nat) : Int)), (56, .int .i64 ((1 + (max (E.depth (E.dn (min bl br) l)) (E.depth (E.dn (min bl br) r))) : Nat) : Int)), (57, .agg #[.int .u64 ((bl - (min bl br) : Nat) : Int), .pointer pl, .int .u64 ((br - (min bl br) : Nat) : Int), .pointer pr, .int .u64 ((max (E.top (E.dn (min bl br) l)) (E.top (E.dn (min bl br) r)) : Nat) : Int), .int .i64 ((1 + (max (E.depth (E.dn (min bl br) l)) (E.depth (E.dn (min bl br) r))) : Nat) : Int)]), (58, pB (φ28 17)), (59, .agg #[.int .u64 ((n + (min bl br) : Nat) : Int), pB (φ28 17)])]) (fun φ28 xs28 => [(φ1 0, .cells #[.int .u64 ((bl - (min bl br) : Nat) : Int), .pointer pl] 30), (φ1 1, .cells #[.int .u64 ((br - (min bl br) : Nat) : Int), .pointer pr] 30), (φ1 2, .cells #[.int .u64 ((n + (min bl br) : Nat) : Int), pB (φ28 17)] 30), (φ28 17, .cells #[.int .u64 ((bl - (min bl br) : Nat) : Int), .pointer pl, .int .u64 ((br - (min bl br) : Nat) : Int), .pointer pr, .int .u64 ((max (E.top (E.dn (min bl br) l)) (E.top (E.dn (min bl br) r)) : Nat) : Int), .int .i64 ((1 + (max (E.depth (E.dn (min bl br) l)) (E.depth (E.dn (min bl br) r))) : Nat) : Int)] 119)]) s trivial (by kernel_rfl) (by kernel_rfl) (fun _ _ => by kernel_rfl) (fun _ _ => by kernel_rfl) ⟨fun _ _ => by kernel_rfl, fun _ _ => by kernel_rfl, fun _ _ => by kernel_rfl, fun _ _ => by kernel_rfl⟩ (fun _ _ _ => by kernel_rfl) (fun _ _ => by kernel_rfl) (fun _ _ => by kernel_rfl) (fun _ _ => by kernel_rfl) (fun _ _ => by kernel_rfl) (fun _ _ => by kernel_rfl) ⟨kcast (A := ∀ (φ28 : Nat → Nat) (xs28 : Xs), (.int .u64 (IntKind.wrap .u64 (((n : Nat) : Int) + ((min bl br : Nat) : Int))) : Value) = .int .u64 ((n + (min bl br) : Nat) : Int)) (by kernel_rfl) (fun φ28 xs28 => congrArg (Value.int .u64) ((nat_addU (a := n) (b := (min bl br)) (by omega)))), ⟨kcast (A := ∀ (φ28 : Nat → Nat) (xs28 : Xs), (.int .u64 (if ((E.top (E.dn (min bl br) r) : Nat) : Int) > ((E.top (E.dn (min bl br) l) : Nat) : Int) then ((E.top (E.dn (min bl br) r) : Nat) : Int) else ((E.top (E.dn (min bl br) l) : Nat) : Int)) : Value) = .int .u64 ((max (E.top (E.dn (min bl br) l)) (E.top (E.dn (min bl br) r)) : Nat) : Int)) (by kernel_rfl) (fun φ28 xs28 => congrArg (Value.int .u64) ((nat_max (a := (E.top (E.dn (min bl br) l))) (b := (E.top (E.dn (min bl br) r)))))), ⟨kcast (A := ∀ (φ28 : Nat → Nat) (xs28 : Xs), (.int .i64 (if ((E.depth (E.dn (min bl br) r) : Nat) : Int) > ((E.depth (E.dn (min bl br) l) : Nat) : Int) then ((E.depth (E.dn (min bl br) r) : Nat) : Int) else ((E.depth (E.dn (min bl br) l) : Nat) : Int)) : Value) = .int .i64 ((max (E.depth (E.dn (min bl br) l)) (E.depth (E.dn (min bl br) r)) : Nat) : Int)) (by kernel_rfl) (fun φ28 xs28 => congrArg (Value.int .i64) ((nat_max (a := (E.depth (E.dn (min bl br) l))) (b := (E.depth (E.dn (min bl br) r)))))), ⟨kcast (A := ∀ (φ28 : Nat → Nat) (xs28 : Xs), (.int .i64 (IntKind.wrap .i64 (((1 : Nat) : Int) + ((max (E.depth (E.dn (min bl br) l)) (E.depth (E.dn (min bl br) r)) : Nat) : Int))) : Value) = .int .i64 ((1 + (max (E.depth (E.dn (min bl br) l)) (E.depth (E.dn (min bl br) r))) : Nat) : Int)) (by kernel_rfl) (fun φ28 xs28 => congrArg (Value.int .i64) ((nat_addI (a := 1) (b := (max (E.depth (E.dn (min bl br) l)) (E.depth (E.dn (min bl br) r)))) (by omega)))), trivial⟩⟩⟩⟩ trivial (by kernel_rfl) ⟨?c28_6, ?c28_8, ?c28_11, ?c28_13, trivial⟩ ?k28
  case c28_6 =>
   refine kcast (A := ∀ (φ28 : Nat → Nat) (xs28 : Xs) (J6_28 : IM), I3.Le J6_28 → Fun Try.prog 77 #[.agg #[.int .u64 ((bl - (min bl br) : Nat) : Int), .pointer pl]] J6_28 (fun v J' => ∃ x : UX, v = .int .u64 (E.top (E.dn (min bl br) l)) ∧ (True))) (by kernel_rfl) ?_
   intro φ28 xs28 J6_28 leJ
   have hl := ERep.mono leJ hl
   exact Fun.mono (max_c (ERep.dn (min bl br) hl) (by omega)) (fun v J' _ h => ⟨UX.d, h, trivial⟩)
  case c28_8 =>
   refine kcast (A := ∀ (φ28 : Nat → Nat) (xs28 : Xs) (J8_28 : IM), I3.Le J8_28 → (True) → Fun Try.prog 77 #[.agg #[.int .u64 ((br - (min bl br) : Nat) : Int), .pointer pr]] J8_28 (fun v J' => ∃ x : UX, v = .int .u64 (E.top (E.dn (min bl br) r)) ∧ (True))) (by kernel_rfl) ?_
   intro φ28 xs28 J8_28 leJ
   rintro _
   have hr := ERep.mono leJ hr
   exact Fun.mono (max_c (ERep.dn (min bl br) hr) (by omega)) (fun v J' _ h => ⟨UX.d, h, trivial⟩)
  case c28_11 =>
   refine kcast (A := ∀ (φ28 : Nat → Nat) (xs28 : Xs) (J11_28 : IM), I3.Le J11_28 → (True) → (True) → Fun Try.prog 92 #[.agg #[.int .u64 ((bl - (min bl br) : Nat) : Int), .pointer pl]] J11_28 (fun v J' => ∃ x : UX, v = .int .i64 (E.depth (E.dn (min bl br) l)) ∧ (True))) (by kernel_rfl) ?_
   intro φ28 xs28 J11_28 leJ
   rintro _ _
   have hl := ERep.mono leJ hl
   exact Fun.mono (depth_c (ERep.dn (min bl br) hl)) (fun v J' _ h => ⟨UX.d, h, trivial⟩)
  case c28_13 =>
   refine kcast (A := ∀ (φ28 : Nat → Nat) (xs28 : Xs) (J13_28 : IM), I3.Le J13_28 → (True) → (True) → (True) → Fun Try.prog 92 #[.agg #[.int .u64 ((br - (min bl br) : Nat) : Int), .pointer pr]] J13_28 (fun v J' => ∃ x : UX, v = .int .i64 (E.depth (E.dn (min bl br) r)) ∧ (True))) (by kernel_rfl) ?_
   intro φ28 xs28 J13_28 leJ
   rintro _ _ _
   have hr := ERep.mono leJ hr
   exact Fun.mono (depth_c (ERep.dn (min bl br) hr)) (fun v J' _ h => ⟨UX.d, h, trivial⟩)
  case k28 =>
   rintro φ28 xs28 I28 w28 le28 s _ _ _ _
   replace hl := ERep.mono le28 hl
   replace hr := ERep.mono le28 hr
   refine wp_ret ?_
   refine ret_rule (C := []) [(φ1 0, .cells #[.int .u64 ((bl - (min bl br) : Nat) : Int), .pointer pl] 30), (φ1 1, .cells #[.int .u64 ((br - (min bl br) : Nat) : Int), .pointer pr] 30), (φ1 2, .cells #[.int .u64 ((n + (min bl br) : Nat) : Int), pB (φ28 17)] 30), (φ28 17, .cells #[.int .u64 ((bl - (min bl br) : Nat) : Int), .pointer pl, .int .u64 ((br - (min bl br) : Nat) : Int), .pointer pr, .int .u64 ((max (E.top (E.dn (min bl br) l)) (E.top (E.dn (min bl br) r)) : Nat) : Int), .int .i64 ((1 + (max (E.depth (E.dn (min bl br) l)) (E.depth (E.dn (min bl br) r))) : Nat) : Int)] 119)] [] (.agg #[.int .u64 ((n + (min bl br) : Nat) : Int), pB (φ28 17)]) [.o 2, .o 2] [φ1 2, φ1 2] s trivial (by kernel_rfl) ?_
   obtain ⟨I29, le29, hk29, s⟩ := s.freezeAt 3 (φ28 17) (.cells #[.int .u64 ((bl - (min bl br) : Nat) : Int), .pointer pl, .int .u64 ((br - (min bl br) : Nat) : Int), .pointer pr, .int .u64 ((max (E.top (E.dn (min bl br) l)) (E.top (E.dn (min bl br) r)) : Nat) : Int), .int .i64 ((1 + (max (E.depth (E.dn (min bl br) l)) (E.depth (E.dn (min bl br) r))) : Nat) : Int)] 119) [((φ1 0), .cells #[.int .u64 ((bl - (min bl br) : Nat) : Int), .pointer pl] 30), ((φ1 1), .cells #[.int .u64 ((br - (min bl br) : Nat) : Int), .pointer pr] 30), ((φ1 2), .cells #[.int .u64 ((n + (min bl br) : Nat) : Int), .pointer (some ⟨(φ28 17), 0, none⟩)] 30)] (by kernel_rfl) (by kernel_rfl)
   replace hl := ERep.mono le29 hl
   replace hr := ERep.mono le29 hr
   exact ⟨_, _, _, rfl, s, ⟨_, _, rfl, by rw [E.mk, if_neg (fun h => by rw [hc5] at h; cases h.1), ← hbl, ← hbr]; exact ⟨rfl, _, _, _, _, _, rfl, hk29, ERep.dn _ hl, ERep.dn _ hr⟩⟩⟩

end Go.Proofs.Ytgmigcmhnmmdkaa.Ev

/- The program's event trees: Node, Leq, Join, Same. -/
set_option linter.all false
set_option maxRecDepth 100000
namespace Go.Proofs.Ytgmigcmhnmmdkaa.Ev
open Go.RowKit Go.Sep

def nodeR (n : Nat) (l r : E) : E × Nat :=
  if 16 ≤ max l.depth r.depth then (.leaf 0, 3) else if 1048576 < n then (.leaf 0, 4) else if 1048576 < n + max l.top r.top then (.leaf 0, 4) else (E.mk n l r, 0)
def leqF : Nat → E → E → Bool
  | 0, A, B => decide (A.top ≤ B.base)
  | n + 1, A, B => decide (A.top ≤ B.base) || (!A.isLeaf && !B.isLeaf && (leqF n (E.up A.base A.left) (E.up B.base B.left) && leqF n (E.up A.base A.right) (E.up B.base B.right)))
theorem E.mk_top (n : Nat) (l r : E) : (E.mk n l r).top ≤ n + max l.top r.top := by
  have h1 := E.base_le l
  have h2 := E.base_le r
  unfold E.mk
  split
  · show n + l.base ≤ _; omega
  · have key : ∀ (m : Nat) (t : E), m ≤ t.base → (E.dn m t).top + m ≤ t.top := fun m t hm => by
      cases t with
      | leaf k => simp only [E.dn, E.top, E.base] at *; omega
      | node k a b => simp only [E.dn, E.top, E.base] at *; omega
    have h3 := key (min l.base r.base) l (by omega)
    have h4 := key (min l.base r.base) r (by omega)
    show n + min l.base r.base + max (E.dn (min l.base r.base) l).top (E.dn (min l.base r.base) r).top ≤ _
    omega
theorem E.mk_depth (n : Nat) (l r : E) : (E.mk n l r).depth ≤ 1 + max l.depth r.depth := by
  unfold E.mk
  split
  · show 0 ≤ _; omega
  · show 1 + max (E.dn _ l).depth (E.dn _ r).depth ≤ _
    rw [E.dn_depth, E.dn_depth]; omega
theorem E.half_top (t : E) : (E.up t.base t.left).top ≤ t.top ∧ (E.up t.base t.right).top ≤ t.top := by
  rw [E.up_top, E.up_top]
  cases t with
  | leaf n => exact ⟨show 0 + n ≤ n by omega, show 0 + n ≤ n by omega⟩
  | node n l r => exact ⟨show l.top + n ≤ n + max l.top r.top by omega, show r.top + n ≤ n + max l.top r.top by omega⟩
theorem E.half_depth (t : E) (n : Nat) (h : t.depth ≤ n + 1) : (E.up t.base t.left).depth ≤ n ∧ (E.up t.base t.right).depth ≤ n := by
  rw [E.up_depth, E.up_depth]
  cases t with
  | leaf _ => exact ⟨Nat.zero_le _, Nat.zero_le _⟩
  | node m l r =>
    have : 1 + max l.depth r.depth ≤ n + 1 := h
    exact ⟨show l.depth ≤ n by omega, show r.depth ≤ n by omega⟩
set_option maxHeartbeats 1000000 in
theorem nodeR_c {I : IM} {n : Nat} {l r : E} {bl br : Nat} {pl pr : Option Addr} (hl : ERep I l bl pl) (hr : ERep I r br pr) (htl : l.top ≤ 1048576) (htr : r.top ≤ 1048576) (hdl : l.depth ≤ 1000) (hdr : r.depth ≤ 1000) : Fun Try.prog 74 #[.int .u64 ((n : Nat) : Int), evv bl pl, evv br pr] I (fun v J => ∃ b p, v = .tuple #[evv b p, .int .i64 (((nodeR n l r).2 : Nat) : Int)] ∧ ERep J (nodeR n l r).1 b p) := by
 refine enter_rule 32 [(0, .int .u64 n), (1, .agg #[.int .u64 bl, .pointer pl]), (2, .agg #[.int .u64 br, .pointer pr])] Try.func74 rfl (by kernel_rfl) ?_
 intro w s
 refine seqR ?_
 refine ops_rule (C := []) [] [] 4 [] 3 (fun φ1 => [(7, .int .i64 0), (6, pB (φ1 2)), (5, pB (φ1 1)), (4, pB (φ1 0))]) (fun φ1 => [(φ1 0, .cells #[.int .u64 bl, .pointer pl] 30), (φ1 1, .cells #[.int .u64 br, .pointer pr] 30), (φ1 2, .cells #[.int .u64 0, .pointer none] 30)]) (fun φ1 => []) s trivial (fun φ1 => by kernel_rfl) ?_
 intro φ1 w1 s
 refine ops_done (by kernel_rfl) ?_
 refine wp_seq ?_
 refine wp_seq ?_
 refine draw_rule (C := []) ⟨(fun φ2 xs2 => [.look 0 [.o 0, .o 0] [φ1 0, φ1 0], .call 92 #[.agg #[.int .u64 bl, .pointer pl]], .look 0 [.o 1, .o 1] [φ1 1, φ1 1], .call 92 #[.agg #[.int .u64 br, .pointer pr]], .sub 0 [] [] (.int .i64 (if ((E.depth r : Nat) : Int) > ((E.depth l : Nat) : Int) then ((E.depth r : Nat) : Int) else ((E.depth l : Nat) : Int))), .sub 0 [] [] (.bool (decide (((max (E.depth l) (E.depth r) : Nat) : Int) ≥ ((16 : Nat) : Int))))]), (fun φ2 xs2 => [.agg #[.int .u64 bl, .pointer pl], .int .i64 (E.depth l), .agg #[.int .u64 br, .pointer pr], .int .i64 (E.depth r), .int .i64 ((max (E.depth l) (E.depth r) : Nat) : Int), .bool (decide (16 ≤ (max (E.depth l) (E.depth r))))]), (fun φ2 xs2 => [[(φ1 0, .cells #[.int .u64 bl, .pointer pl] 30), (φ1 1, .cells #[.int .u64 br, .pointer pr] 30), (φ1 2, .cells #[.int .u64 0, .pointer none] 30)]]), (fun φ2 xs2 => [[default, default, default, default, default, default]]), [], [1, 3, 1, 3, 5, 5]⟩ (fun j => ([MP.any] : List MP).getD j MP.any) [1, 3] [4, 5] [] (fun φ2 xs2 => []) (fun φ2 xs2 => [(8, .agg #[.int .u64 bl, .pointer pl]), (9, .int .i64 (E.depth l)), (10, .agg #[.int .u64 br, .pointer pr]), (11, .int .i64 (E.depth r)), (12, .int .i64 ((max (E.depth l) (E.depth r) : Nat) : Int)), (13, .bool (decide (16 ≤ (max (E.depth l) (E.depth r)))))]) (fun φ2 xs2 => [(φ1 0, .cells #[.int .u64 bl, .pointer pl] 30), (φ1 1, .cells #[.int .u64 br, .pointer pr] 30), (φ1 2, .cells #[.int .u64 0, .pointer none] 30)]) s trivial (by kernel_rfl) (by kernel_rfl) (fun _ _ => by kernel_rfl) (fun _ _ => by kernel_rfl) ⟨fun _ _ => by kernel_rfl, fun _ _ => by kernel_rfl, fun _ _ => by kernel_rfl, fun _ _ => by kernel_rfl⟩ (fun _ _ _ => by kernel_rfl) (fun _ _ => by kernel_rfl) (fun _ _ => by kernel_rfl) (fun _ _ => by kernel_rfl) (fun _ _ => by kernel_rfl) (fun _ _ => by kernel_rfl) ⟨kcast (A := ∀ (φ2 : Nat → Nat) (xs2 : Xs), (.int .i64 (if ((E.depth r : Nat) : Int) > ((E.depth l : Nat) : Int) then ((E.depth r : Nat) : Int) else ((E.depth l : Nat) : Int)) : Value) = .int .i64 ((max (E.depth l) (E.depth r) : Nat) : Int)) (by kernel_rfl) (fun φ2 xs2 => congrArg (Value.int .i64) ((nat_max (a := (E.depth l)) (b := (E.depth r))))), ⟨kcast (A := ∀ (φ2 : Nat → Nat) (xs2 : Xs), (.bool (decide (((max (E.depth l) (E.depth r) : Nat) : Int) ≥ ((16 : Nat) : Int))) : Value) = .bool (decide (16 ≤ (max (E.depth l) (E.depth r))))) (by kernel_rfl) (fun φ2 xs2 => congrArg Value.bool ((nat_geq (a := (max (E.depth l) (E.depth r))) (b := 16)))), trivial⟩⟩ trivial (by kernel_rfl) ⟨?c2_1, ?c2_3, trivial⟩ ?k2
 case c2_1 =>
  refine kcast (A := ∀ (φ2 : Nat → Nat) (xs2 : Xs) (J1_2 : IM), I.Le J1_2 → Fun Try.prog 92 #[.agg #[.int .u64 bl, .pointer pl]] J1_2 (fun v J' => ∃ x : UX, v = .int .i64 (E.depth l) ∧ (True))) (by kernel_rfl) ?_
  intro φ2 xs2 J1_2 leJ
  have hl := ERep.mono leJ hl
  exact Fun.mono (depth_c hl) (fun v J' _ h => ⟨UX.d, h, trivial⟩)
 case c2_3 =>
  refine kcast (A := ∀ (φ2 : Nat → Nat) (xs2 : Xs) (J3_2 : IM), I.Le J3_2 → (True) → Fun Try.prog 92 #[.agg #[.int .u64 br, .pointer pr]] J3_2 (fun v J' => ∃ x : UX, v = .int .i64 (E.depth r) ∧ (True))) (by kernel_rfl) ?_
  intro φ2 xs2 J3_2 leJ
  rintro _
  have hr := ERep.mono leJ hr
  exact Fun.mono (depth_c hr) (fun v J' _ h => ⟨UX.d, h, trivial⟩)
 case k2 =>
  rintro φ2 xs2 I2 w2 le2 s _ _
  replace hl := ERep.mono le2 hl
  replace hr := ERep.mono le2 hr
  rcases Bool.eq_false_or_eq_true (decide (16 ≤ (max (E.depth l) (E.depth r)))) with hc3 | hc3
  ·
   rw [hc3]
   refine cond_true_rule (b := true) (by kernel_rfl) rfl ?_
   refine seqR ?_
   refine ops_rule (C := []) [(φ1 0, .cells #[.int .u64 bl, .pointer pl] 30), (φ1 1, .cells #[.int .u64 br, .pointer pr] 30), (φ1 2, .cells #[.int .u64 0, .pointer none] 30)] [] 3 [.o 2, .o 2] 0 (fun φ4 => [(7, .int .i64 3), (14, .agg #[.int .u64 0, .pointer none])]) (fun φ4 => [(φ1 0, .cells #[.int .u64 bl, .pointer pl] 30), (φ1 1, .cells #[.int .u64 br, .pointer pr] 30), (φ1 2, .cells #[.int .u64 0, .pointer none] 30)]) (fun φ4 => [φ1 2, φ1 2]) s trivial (fun φ4 => by kernel_rfl) ?_
   intro φ4 w4 s
   refine ops_done (by kernel_rfl) ?_
   refine wp_ret ?_
   refine ret_rule (C := []) _ [] (.tuple #[.agg #[.int .u64 0, .pointer none], .int .i64 3]) [.o 2, .o 2] [φ1 2, φ1 2] s trivial (by kernel_rfl) ?_
   have hR : nodeR n l r = (E.leaf 0, 3) := by unfold nodeR; rw [if_pos (of_decide_eq_true hc3)]
   rw [hR]
   exact ⟨_, _, _, rfl, s, ⟨_, _, rfl, rfl, rfl⟩⟩
  ·
   rw [hc3]
   refine cond_false_rule (b := false) (by kernel_rfl) rfl ?_
   refine wp_skip ?_
   refine wp_seq ?_
   refine wp_seq ?_
   rcases Bool.eq_false_or_eq_true (decide (1048576 < n)) with hc5 | hc5
   ·
    refine draw_rule (C := []) ⟨(fun φ6 xs6 => [.look 0 [] [], .sub 0 [] [] (.bool (decide (((n : Nat) : Int) > ((1048576 : Nat) : Int)))), .look 0 [] [], .skip, .skip, .skip, .skip, .skip, .skip, .skip, .skip, .look 0 [] []]), (fun φ6 xs6 => [.int .u64 n, .bool true, .bool true, undef, undef, undef, undef, undef, undef, undef, undef, .bool true]), (fun φ6 xs6 => [[(φ1 0, .cells #[.int .u64 bl, .pointer pl] 30), (φ1 1, .cells #[.int .u64 br, .pointer pr] 30), (φ1 2, .cells #[.int .u64 0, .pointer none] 30)]]), (fun φ6 xs6 => [[default, default, default, default, default, default, default, default, default, default, default, default]]), [], [1, 5, 1, 0, 0, 0, 0, 0, 0, 0, 0, 1]⟩ (fun j => ([MP.any] : List MP).getD j MP.any) [] [1] [] (fun φ6 xs6 => []) (fun φ6 xs6 => [(15, .int .u64 n), (16, .bool true), (17, .bool true), (18, undef), (19, undef), (20, undef), (21, undef), (22, undef), (23, undef), (24, undef), (25, undef), (26, .bool true)]) (fun φ6 xs6 => [(φ1 0, .cells #[.int .u64 bl, .pointer pl] 30), (φ1 1, .cells #[.int .u64 br, .pointer pr] 30), (φ1 2, .cells #[.int .u64 0, .pointer none] 30)]) s trivial (by kernel_rfl) (by kernel_rfl) (fun _ _ => by kernel_rfl) (fun _ _ => by kernel_rfl) ⟨fun _ _ => by kernel_rfl, fun _ _ => by kernel_rfl, fun _ _ => by kernel_rfl, fun _ _ => by kernel_rfl⟩ (fun _ _ _ => by kernel_rfl) (fun _ _ => by kernel_rfl) (fun _ _ => by kernel_rfl) (fun _ _ => by kernel_rfl) (fun _ _ => by kernel_rfl) (fun _ _ => by kernel_rfl) ⟨kcast (A := ∀ (φ6 : Nat → Nat) (xs6 : Xs), (.bool (decide (((n : Nat) : Int) > ((1048576 : Nat) : Int))) : Value) = .bool true) (by kernel_rfl) (fun φ6 xs6 => congrArg Value.bool ((nat_gtr (a := n) (b := 1048576)).trans (hc5))), trivial⟩ trivial (by kernel_rfl) trivial ?k6
    case k6 =>
     rintro φ6 xs6 I6 w6 le6 s 
     replace hl := ERep.mono le6 hl
     replace hr := ERep.mono le6 hr
     refine cond_true_rule (b := true) (by kernel_rfl) rfl ?_
     refine seqR ?_
     refine ops_rule (C := []) [(φ1 0, .cells #[.int .u64 bl, .pointer pl] 30), (φ1 1, .cells #[.int .u64 br, .pointer pr] 30), (φ1 2, .cells #[.int .u64 0, .pointer none] 30)] [] 3 [.o 2, .o 2] 0 (fun φ7 => [(7, .int .i64 4), (27, .agg #[.int .u64 0, .pointer none])]) (fun φ7 => [(φ1 0, .cells #[.int .u64 bl, .pointer pl] 30), (φ1 1, .cells #[.int .u64 br, .pointer pr] 30), (φ1 2, .cells #[.int .u64 0, .pointer none] 30)]) (fun φ7 => [φ1 2, φ1 2]) s trivial (fun φ7 => by kernel_rfl) ?_
     intro φ7 w7 s
     refine ops_done (by kernel_rfl) ?_
     refine wp_ret ?_
     refine ret_rule (C := []) _ [] (.tuple #[.agg #[.int .u64 0, .pointer none], .int .i64 4]) [.o 2, .o 2] [φ1 2, φ1 2] s trivial (by kernel_rfl) ?_
     have hR : nodeR n l r = (E.leaf 0, 4) := by unfold nodeR; rw [if_neg (of_decide_eq_false hc3), if_pos (of_decide_eq_true hc5)]
     rw [hR]
     exact ⟨_, _, _, rfl, s, ⟨_, _, rfl, rfl, rfl⟩⟩
   ·
    refine draw_rule (C := []) ⟨(fun φ8 xs8 => [.look 0 [] [], .sub 0 [] [] (.bool (decide (((n : Nat) : Int) > ((1048576 : Nat) : Int)))), .look 0 [] [], .look 0 [] [], .look 0 [.o 0, .o 0] [φ1 0, φ1 0], .call 77 #[.agg #[.int .u64 bl, .pointer pl]], .look 0 [.o 1, .o 1] [φ1 1, φ1 1], .call 77 #[.agg #[.int .u64 br, .pointer pr]], .sub 0 [] [] (.int .u64 (if ((E.top r : Nat) : Int) > ((E.top l : Nat) : Int) then ((E.top r : Nat) : Int) else ((E.top l : Nat) : Int))), .sub 0 [] [] (.int .u64 (IntKind.wrap .u64 (((n : Nat) : Int) + ((max (E.top l) (E.top r) : Nat) : Int)))), .sub 0 [] [] (.bool (decide (((n + (max (E.top l) (E.top r)) : Nat) : Int) > ((1048576 : Nat) : Int)))), .look 0 [] []]), (fun φ8 xs8 => [.int .u64 n, .bool false, .bool false, .int .u64 n, .agg #[.int .u64 bl, .pointer pl], .int .u64 (E.top l), .agg #[.int .u64 br, .pointer pr], .int .u64 (E.top r), .int .u64 ((max (E.top l) (E.top r) : Nat) : Int), .int .u64 ((n + (max (E.top l) (E.top r)) : Nat) : Int), .bool (decide (1048576 < (n + (max (E.top l) (E.top r))))), .bool (decide (1048576 < (n + (max (E.top l) (E.top r)))))]), (fun φ8 xs8 => [[(φ1 0, .cells #[.int .u64 bl, .pointer pl] 30), (φ1 1, .cells #[.int .u64 br, .pointer pr] 30), (φ1 2, .cells #[.int .u64 0, .pointer none] 30)]]), (fun φ8 xs8 => [[default, default, default, default, default, default, default, default, default, default, default, default]]), [], [1, 5, 1, 1, 1, 3, 1, 3, 5, 5, 5, 1]⟩ (fun j => ([MP.any] : List MP).getD j MP.any) [5, 7] [1, 8, 9, 10] [] (fun φ8 xs8 => []) (fun φ8 xs8 => [(15, .int .u64 n), (16, .bool false), (17, .bool false), (18, .int .u64 n), (19, .agg #[.int .u64 bl, .pointer pl]), (20, .int .u64 (E.top l)), (21, .agg #[.int .u64 br, .pointer pr]), (22, .int .u64 (E.top r)), (23, .int .u64 ((max (E.top l) (E.top r) : Nat) : Int)), (24, .int .u64 ((n + (max (E.top l) (E.top r)) : Nat) : Int)), (25, .bool (decide (1048576 < (n + (max (E.top l) (E.top r)))))), (26, .bool (decide (1048576 < (n + (max (E.top l) (E.top r))))))]) (fun φ8 xs8 => [(φ1 0, .cells #[.int .u64 bl, .pointer pl] 30), (φ1 1, .cells #[.int .u64 br, .pointer pr] 30), (φ1 2, .cells #[.int .u64 0, .pointer none] 30)]) s trivial (by kernel_rfl) (by kernel_rfl) (fun _ _ => by kernel_rfl) (fun _ _ => by kernel_rfl) ⟨fun _ _ => by kernel_rfl, fun _ _ => by kernel_rfl, fun _ _ => by kernel_rfl, fun _ _ => by kernel_rfl⟩ (fun _ _ _ => by kernel_rfl) (fun _ _ => by kernel_rfl) (fun _ _ => by kernel_rfl) (fun _ _ => by kernel_rfl) (fun _ _ => by kernel_rfl) (fun _ _ => by kernel_rfl) ⟨kcast (A := ∀ (φ8 : Nat → Nat) (xs8 : Xs), (.bool (decide (((n : Nat) : Int) > ((1048576 : Nat) : Int))) : Value) = .bool false) (by kernel_rfl) (fun φ8 xs8 => congrArg Value.bool ((nat_gtr (a := n) (b := 1048576)).trans (hc5))), ⟨kcast (A := ∀ (φ8 : Nat → Nat) (xs8 : Xs), (.int .u64 (if ((E.top r : Nat) : Int) > ((E.top l : Nat) : Int) then ((E.top r : Nat) : Int) else ((E.top l : Nat) : Int)) : Value) = .int .u64 ((max (E.top l) (E.top r) : Nat) : Int)) (by kernel_rfl) (fun φ8 xs8 => congrArg (Value.int .u64) ((nat_max (a := (E.top l)) (b := (E.top r))))), ⟨kcast (A := ∀ (φ8 : Nat → Nat) (xs8 : Xs), (.int .u64 (IntKind.wrap .u64 (((n : Nat) : Int) + ((max (E.top l) (E.top r) : Nat) : Int))) : Value) = .int .u64 ((n + (max (E.top l) (E.top r)) : Nat) : Int)) (by kernel_rfl) (fun φ8 xs8 => congrArg (Value.int .u64) ((nat_addU (a := n) (b := (max (E.top l) (E.top r))) (by have := of_decide_eq_false hc5; omega)))), ⟨kcast (A := ∀ (φ8 : Nat → Nat) (xs8 : Xs), (.bool (decide (((n + (max (E.top l) (E.top r)) : Nat) : Int) > ((1048576 : Nat) : Int))) : Value) = .bool (decide (1048576 < (n + (max (E.top l) (E.top r)))))) (by kernel_rfl) (fun φ8 xs8 => congrArg Value.bool ((nat_gtr (a := (n + (max (E.top l) (E.top r)))) (b := 1048576)))), trivial⟩⟩⟩⟩ trivial (by kernel_rfl) ⟨?c8_5, ?c8_7, trivial⟩ ?k8
    case c8_5 =>
     refine kcast (A := ∀ (φ8 : Nat → Nat) (xs8 : Xs) (J5_8 : IM), I2.Le J5_8 → Fun Try.prog 77 #[.agg #[.int .u64 bl, .pointer pl]] J5_8 (fun v J' => ∃ x : UX, v = .int .u64 (E.top l) ∧ (True))) (by kernel_rfl) ?_
     intro φ8 xs8 J5_8 leJ
     have hl := ERep.mono leJ hl
     exact Fun.mono (max_c hl (by omega)) (fun v J' _ h => ⟨UX.d, h, trivial⟩)
    case c8_7 =>
     refine kcast (A := ∀ (φ8 : Nat → Nat) (xs8 : Xs) (J7_8 : IM), I2.Le J7_8 → (True) → Fun Try.prog 77 #[.agg #[.int .u64 br, .pointer pr]] J7_8 (fun v J' => ∃ x : UX, v = .int .u64 (E.top r) ∧ (True))) (by kernel_rfl) ?_
     intro φ8 xs8 J7_8 leJ
     rintro _
     have hr := ERep.mono leJ hr
     exact Fun.mono (max_c hr (by omega)) (fun v J' _ h => ⟨UX.d, h, trivial⟩)
    case k8 =>
     rintro φ8 xs8 I8 w8 le8 s _ _
     replace hl := ERep.mono le8 hl
     replace hr := ERep.mono le8 hr
     rcases Bool.eq_false_or_eq_true (decide (1048576 < (n + (max (E.top l) (E.top r))))) with hc9 | hc9
     ·
      rw [hc9]
      refine cond_true_rule (b := true) (by kernel_rfl) rfl ?_
      refine seqR ?_
      refine ops_rule (C := []) [(φ1 0, .cells #[.int .u64 bl, .pointer pl] 30), (φ1 1, .cells #[.int .u64 br, .pointer pr] 30), (φ1 2, .cells #[.int .u64 0, .pointer none] 30)] [] 3 [.o 2, .o 2] 0 (fun φ10 => [(7, .int .i64 4), (27, .agg #[.int .u64 0, .pointer none])]) (fun φ10 => [(φ1 0, .cells #[.int .u64 bl, .pointer pl] 30), (φ1 1, .cells #[.int .u64 br, .pointer pr] 30), (φ1 2, .cells #[.int .u64 0, .pointer none] 30)]) (fun φ10 => [φ1 2, φ1 2]) s trivial (fun φ10 => by kernel_rfl) ?_
      intro φ10 w10 s
      refine ops_done (by kernel_rfl) ?_
      refine wp_ret ?_
      refine ret_rule (C := []) _ [] (.tuple #[.agg #[.int .u64 0, .pointer none], .int .i64 4]) [.o 2, .o 2] [φ1 2, φ1 2] s trivial (by kernel_rfl) ?_
      have hR : nodeR n l r = (E.leaf 0, 4) := by unfold nodeR; rw [if_neg (of_decide_eq_false hc3), if_neg (of_decide_eq_false hc5), if_pos (of_decide_eq_true hc9)]
      rw [hR]
      exact ⟨_, _, _, rfl, s, ⟨_, _, rfl, rfl, rfl⟩⟩
     ·
      rw [hc9]
      refine cond_false_rule (b := false) (by kernel_rfl) rfl ?_
      refine wp_skip ?_
      refine seqR ?_
      refine ops_rule (C := []) [(φ1 0, .cells #[.int .u64 bl, .pointer pl] 30), (φ1 1, .cells #[.int .u64 br, .pointer pr] 30), (φ1 2, .cells #[.int .u64 0, .pointer none] 30)] [] 3 [.o 0, .o 0, .o 1, .o 1] 0 (fun φ11 => [(30, .agg #[.int .u64 br, .pointer pr]), (29, .agg #[.int .u64 bl, .pointer pl]), (28, .int .u64 n)]) (fun φ11 => [(φ1 0, .cells #[.int .u64 bl, .pointer pl] 30), (φ1 1, .cells #[.int .u64 br, .pointer pr] 30), (φ1 2, .cells #[.int .u64 0, .pointer none] 30)]) (fun φ11 => [φ1 0, φ1 0, φ1 1, φ1 1]) s trivial (fun φ11 => by kernel_rfl) ?_
      intro φ11 w11 s
      refine call_rule (some 31) s (node_c (n := n) hl hr (by simp only [decide_eq_false_iff_not] at *; omega) (by simp only [decide_eq_false_iff_not] at *; omega) (by simp only [decide_eq_false_iff_not] at *; omega)) (by kernel_rfl) ?_
      intro v12 I12 w12 le12 h12 s
      obtain ⟨b12, p12, rfl, h12_0⟩ := h12
      refine ops_rule (C := []) _ [] 2 [.o 2, .o 2] 0 (fun φ13 => [(7, .int .i64 0)]) (fun φ13 => [(φ1 0, .cells #[.int .u64 bl, .pointer pl] 30), (φ1 1, .cells #[.int .u64 br, .pointer pr] 30), (φ1 2, .cells #[.int .u64 b12, .pointer p12] 30)]) (fun φ13 => [φ1 2, φ1 2]) s trivial (fun φ13 => by kernel_rfl) ?_
      intro φ13 w13 s
      refine ops_done (by kernel_rfl) ?_
      refine wp_ret ?_
      refine ret_rule (C := []) _ [] (.tuple #[.agg #[.int .u64 b12, .pointer p12], .int .i64 0]) [.o 2, .o 2] [φ1 2, φ1 2] s trivial (by kernel_rfl) ?_
      have hR : nodeR n l r = (E.mk n l r, 0) := by unfold nodeR; rw [if_neg (of_decide_eq_false hc3), if_neg (of_decide_eq_false hc5), if_neg (of_decide_eq_false hc9)]
      rw [hR]
      exact ⟨_, _, _, rfl, s, ⟨_, _, rfl, h12_0⟩⟩

set_option maxHeartbeats 1000000 in
theorem leq_step {I : IM} {A B : E} {ba bb : Nat} {pa pb : Option Addr} (hA : ERep I A ba pa) (hB : ERep I B bb pb) (htA : A.top < 18446744073709551616) (htB : B.top < 18446744073709551616) (cl cr : Bool) (ihl : A.isLeaf = false → B.isLeaf = false → ∀ {J : IM} {b1 b2 : Nat} {p1 p2 : Option Addr}, ERep J (E.up ba A.left) b1 p1 → ERep J (E.up bb B.left) b2 p2 → Fun Try.prog 42 #[evv b1 p1, evv b2 p2] J (fun v _ => v = .bool cl)) (ihr : A.isLeaf = false → B.isLeaf = false → ∀ {J : IM} {b1 b2 : Nat} {p1 p2 : Option Addr}, ERep J (E.up ba A.right) b1 p1 → ERep J (E.up bb B.right) b2 p2 → Fun Try.prog 42 #[evv b1 p1, evv b2 p2] J (fun v _ => v = .bool cr)) : Fun Try.prog 42 #[evv ba pa, evv bb pb] I (fun v J => v = .bool (decide (A.top ≤ bb) || (!A.isLeaf && !B.isLeaf && (cl && cr)))) := by
 refine enter_rule 38 [(0, .agg #[.int .u64 ba, .pointer pa]), (1, .agg #[.int .u64 bb, .pointer pb])] Try.func42 rfl (by kernel_rfl) ?_
 intro w s
 refine seqR ?_
 refine ops_rule (C := []) [] [] 3 [] 2 (fun φ1 => [(4, .bool false), (3, pB (φ1 1)), (2, pB (φ1 0))]) (fun φ1 => [(φ1 0, .cells #[.int .u64 ba, .pointer pa] 30), (φ1 1, .cells #[.int .u64 bb, .pointer pb] 30)]) (fun φ1 => []) s trivial (fun φ1 => by kernel_rfl) ?_
 intro φ1 w1 s
 refine ops_done (by kernel_rfl) ?_
 refine wp_seq ?_
 refine wp_seq ?_
 refine draw_rule (C := []) ⟨(fun φ2 xs2 => [.look 0 [.o 0, .o 0] [φ1 0, φ1 0], .call 77 #[.agg #[.int .u64 ba, .pointer pa]], .look 0 [.o 1, .o 1] [φ1 1, φ1 1], .call 78 #[.agg #[.int .u64 bb, .pointer pb]], .sub 0 [] [] (.bool (decide (((E.top A : Nat) : Int) ≤ ((bb : Nat) : Int))))]), (fun φ2 xs2 => [.agg #[.int .u64 ba, .pointer pa], .int .u64 (E.top A), .agg #[.int .u64 bb, .pointer pb], .int .u64 bb, .bool (decide ((E.top A) ≤ bb))]), (fun φ2 xs2 => [[(φ1 0, .cells #[.int .u64 ba, .pointer pa] 30), (φ1 1, .cells #[.int .u64 bb, .pointer pb] 30)]]), (fun φ2 xs2 => [[default, default, default, default, default]]), [], [1, 3, 1, 3, 5]⟩ (fun j => ([MP.any] : List MP).getD j MP.any) [1, 3] [4] [] (fun φ2 xs2 => []) (fun φ2 xs2 => [(9, .agg #[.int .u64 ba, .pointer pa]), (10, .int .u64 (E.top A)), (11, .agg #[.int .u64 bb, .pointer pb]), (12, .int .u64 bb), (13, .bool (decide ((E.top A) ≤ bb)))]) (fun φ2 xs2 => [(φ1 0, .cells #[.int .u64 ba, .pointer pa] 30), (φ1 1, .cells #[.int .u64 bb, .pointer pb] 30)]) s trivial (by kernel_rfl) (by kernel_rfl) (fun _ _ => by kernel_rfl) (fun _ _ => by kernel_rfl) ⟨fun _ _ => by kernel_rfl, fun _ _ => by kernel_rfl, fun _ _ => by kernel_rfl, fun _ _ => by kernel_rfl⟩ (fun _ _ _ => by kernel_rfl) (fun _ _ => by kernel_rfl) (fun _ _ => by kernel_rfl) (fun _ _ => by kernel_rfl) (fun _ _ => by kernel_rfl) (fun _ _ => by kernel_rfl) ⟨kcast (A := ∀ (φ2 : Nat → Nat) (xs2 : Xs), (.bool (decide (((E.top A : Nat) : Int) ≤ ((bb : Nat) : Int))) : Value) = .bool (decide ((E.top A) ≤ bb))) (by kernel_rfl) (fun φ2 xs2 => congrArg Value.bool ((nat_leq (a := (E.top A)) (b := bb)))), trivial⟩ trivial (by kernel_rfl) ⟨?c2_1, ?c2_3, trivial⟩ ?k2
 case c2_1 =>
  refine kcast (A := ∀ (φ2 : Nat → Nat) (xs2 : Xs) (J1_2 : IM), I.Le J1_2 → Fun Try.prog 77 #[.agg #[.int .u64 ba, .pointer pa]] J1_2 (fun v J' => ∃ x : UX, v = .int .u64 (E.top A) ∧ (True))) (by kernel_rfl) ?_
  intro φ2 xs2 J1_2 leJ
  have hA := ERep.mono leJ hA
  exact Fun.mono (max_c hA (by omega)) (fun v J' _ h => ⟨UX.d, h, trivial⟩)
 case c2_3 =>
  refine kcast (A := ∀ (φ2 : Nat → Nat) (xs2 : Xs) (J3_2 : IM), I.Le J3_2 → (True) → Fun Try.prog 78 #[.agg #[.int .u64 bb, .pointer pb]] J3_2 (fun v J' => ∃ x : UX, v = .int .u64 bb ∧ (True))) (by kernel_rfl) ?_
  intro φ2 xs2 J3_2 leJ
  rintro _
  have hB := ERep.mono leJ hB
  exact Fun.mono (min_c hB) (fun v J' _ h => ⟨UX.d, h, trivial⟩)
 case k2 =>
  rintro φ2 xs2 I2 w2 le2 s _ _
  replace hA := ERep.mono le2 hA
  replace hB := ERep.mono le2 hB
  rcases Bool.eq_false_or_eq_true (decide ((E.top A) ≤ bb)) with hc3 | hc3
  ·
   rw [hc3]
   refine cond_true_rule (b := true) (by kernel_rfl) rfl ?_
   refine seqR ?_
   refine ops_rule (C := []) [(φ1 0, .cells #[.int .u64 ba, .pointer pa] 30), (φ1 1, .cells #[.int .u64 bb, .pointer pb] 30)] [] 1 [] 0 (fun φ4 => [(4, .bool true)]) (fun φ4 => [(φ1 0, .cells #[.int .u64 ba, .pointer pa] 30), (φ1 1, .cells #[.int .u64 bb, .pointer pb] 30)]) (fun φ4 => []) s trivial (fun φ4 => by kernel_rfl) ?_
   intro φ4 w4 s
   refine ops_done (by kernel_rfl) ?_
   refine wp_ret ?_
   refine ret_rule (C := []) _ [] (.bool true) [] [] s trivial (by kernel_rfl) ?_
   exact ⟨_, _, _, rfl, s, by simp [hc3]⟩
  ·
   rw [hc3]
   refine cond_false_rule (b := false) (by kernel_rfl) rfl ?_
   refine wp_skip ?_
   refine wp_seq ?_
   refine seqR ?_
   refine ops_rule (C := []) [(φ1 0, .cells #[.int .u64 ba, .pointer pa] 30), (φ1 1, .cells #[.int .u64 bb, .pointer pb] 30)] [] 1 [.o 0, .o 0] 0 (fun φ5 => [(14, .agg #[.int .u64 ba, .pointer pa])]) (fun φ5 => [(φ1 0, .cells #[.int .u64 ba, .pointer pa] 30), (φ1 1, .cells #[.int .u64 bb, .pointer pb] 30)]) (fun φ5 => [φ1 0, φ1 0]) s trivial (fun φ5 => by kernel_rfl) ?_
   intro φ5 w5 s
   refine call_rule (some 15) s (isLeaf_c hA) (by kernel_rfl) ?_
   intro v6 I6 w6 le6 h6 s
   replace hA := ERep.mono le6 hA
   replace hB := ERep.mono le6 hB
   obtain rfl := h6
   refine ops_rule (C := []) _ [] 1 [] 0 (fun φ7 => [(16, .bool (E.isLeaf A))]) (fun φ7 => [(φ1 0, .cells #[.int .u64 ba, .pointer pa] 30), (φ1 1, .cells #[.int .u64 bb, .pointer pb] 30)]) (fun φ7 => []) s trivial (fun φ7 => by kernel_rfl) ?_
   intro φ7 w7 s
   rcases Bool.eq_false_or_eq_true (E.isLeaf A) with hc8 | hc8
   ·
    rw [hc8]
    refine ops_rule (C := []) _ [] 3 [] 0 (fun φ9 => [(19, .bool true), (18, undef), (17, undef)]) (fun φ9 => [(φ1 0, .cells #[.int .u64 ba, .pointer pa] 30), (φ1 1, .cells #[.int .u64 bb, .pointer pb] 30)]) (fun φ9 => []) s trivial (fun φ9 => by kernel_rfl) ?_
    intro φ9 w9 s
    refine ops_done (by kernel_rfl) ?_
    refine cond_true_rule (b := true) (by kernel_rfl) rfl ?_
    refine seqR ?_
    refine ops_rule (C := []) _ [] 1 [] 0 (fun φ10 => [(4, .bool false)]) (fun φ10 => [(φ1 0, .cells #[.int .u64 ba, .pointer pa] 30), (φ1 1, .cells #[.int .u64 bb, .pointer pb] 30)]) (fun φ10 => []) s trivial (fun φ10 => by kernel_rfl) ?_
    intro φ10 w10 s
    refine ops_done (by kernel_rfl) ?_
    refine wp_ret ?_
    refine ret_rule (C := []) _ [] (.bool false) [] [] s trivial (by kernel_rfl) ?_
    exact ⟨_, _, _, rfl, s, by simp [hc3, hc8]⟩
   ·
    rw [hc8]
    refine ops_rule (C := []) _ [] 1 [.o 1, .o 1] 0 (fun φ11 => [(17, .agg #[.int .u64 bb, .pointer pb])]) (fun φ11 => [(φ1 0, .cells #[.int .u64 ba, .pointer pa] 30), (φ1 1, .cells #[.int .u64 bb, .pointer pb] 30)]) (fun φ11 => [φ1 1, φ1 1]) s trivial (fun φ11 => by kernel_rfl) ?_
    intro φ11 w11 s
    refine call_rule (some 18) s (isLeaf_c hB) (by kernel_rfl) ?_
    intro v12 I12 w12 le12 h12 s
    replace hA := ERep.mono le12 hA
    replace hB := ERep.mono le12 hB
    obtain rfl := h12
    refine ops_rule (C := []) _ [] 1 [] 0 (fun φ13 => [(19, .bool (E.isLeaf B))]) (fun φ13 => [(φ1 0, .cells #[.int .u64 ba, .pointer pa] 30), (φ1 1, .cells #[.int .u64 bb, .pointer pb] 30)]) (fun φ13 => []) s trivial (fun φ13 => by kernel_rfl) ?_
    intro φ13 w13 s
    refine ops_done (by kernel_rfl) ?_
    rcases Bool.eq_false_or_eq_true (E.isLeaf B) with hc14 | hc14
    ·
     rw [hc14]
     refine cond_true_rule (b := true) (by kernel_rfl) rfl ?_
     refine seqR ?_
     refine ops_rule (C := []) _ [] 1 [] 0 (fun φ15 => [(4, .bool false)]) (fun φ15 => [(φ1 0, .cells #[.int .u64 ba, .pointer pa] 30), (φ1 1, .cells #[.int .u64 bb, .pointer pb] 30)]) (fun φ15 => []) s trivial (fun φ15 => by kernel_rfl) ?_
     intro φ15 w15 s
     refine ops_done (by kernel_rfl) ?_
     refine wp_ret ?_
     refine ret_rule (C := []) _ [] (.bool false) [] [] s trivial (by kernel_rfl) ?_
     exact ⟨_, _, _, rfl, s, by simp [hc3, hc8, hc14]⟩
    ·
     rw [hc14]
     refine cond_false_rule (b := false) (by kernel_rfl) rfl ?_
     refine wp_skip ?_
     refine seqR ?_
     refine ops_rule (C := []) _ [] 1 [.o 0, .o 0] 0 (fun φ16 => [(21, .agg #[.int .u64 ba, .pointer pa])]) (fun φ16 => [(φ1 0, .cells #[.int .u64 ba, .pointer pa] 30), (φ1 1, .cells #[.int .u64 bb, .pointer pb] 30)]) (fun φ16 => [φ1 0, φ1 0]) s trivial (fun φ16 => by kernel_rfl) ?_
     intro φ16 w16 s
     refine call_rule (some 22) s (whole_c hA (by omega)) (by kernel_rfl) ?_
     intro v17 I17 w17 le17 h17 s
     replace hB := ERep.mono le17 hB
     obtain ⟨b17, p17, d17, q17, rfl, h17_0, h17_1⟩ := h17
     refine ops_rule (C := []) _ [] 7 [.o 2, .o 2, .o 3, .o 3] 2 (fun φ18 => [(6, pB (φ18 1)), (5, pB (φ18 0)), (24, .agg #[.int .u64 d17, .pointer q17]), (23, .agg #[.int .u64 b17, .pointer p17]), (20, .tuple #[.agg #[.int .u64 b17, .pointer p17], .agg #[.int .u64 d17, .pointer q17]])]) (fun φ18 => [(φ1 0, .cells #[.int .u64 ba, .pointer pa] 30), (φ1 1, .cells #[.int .u64 bb, .pointer pb] 30), (φ18 0, .cells #[.int .u64 b17, .pointer p17] 30), (φ18 1, .cells #[.int .u64 d17, .pointer q17] 30)]) (fun φ18 => [φ18 0, φ18 0, φ18 1, φ18 1]) s trivial (fun φ18 => by kernel_rfl) ?_
     intro φ18 w18 s
     refine ops_done (by kernel_rfl) ?_
     refine seqR ?_
     refine ops_rule (C := []) _ [] 1 [.o 1, .o 1] 0 (fun φ19 => [(26, .agg #[.int .u64 bb, .pointer pb])]) (fun φ19 => [(φ1 0, .cells #[.int .u64 ba, .pointer pa] 30), (φ1 1, .cells #[.int .u64 bb, .pointer pb] 30), (φ18 0, .cells #[.int .u64 b17, .pointer p17] 30), (φ18 1, .cells #[.int .u64 d17, .pointer q17] 30)]) (fun φ19 => [φ1 1, φ1 1]) s trivial (fun φ19 => by kernel_rfl) ?_
     intro φ19 w19 s
     refine call_rule (some 27) s (whole_c hB (by omega)) (by kernel_rfl) ?_
     intro v20 I20 w20 le20 h20 s
     replace h17_0 := ERep.mono le20 h17_0
     replace h17_1 := ERep.mono le20 h17_1
     obtain ⟨b20, p20, d20, q20, rfl, h20_0, h20_1⟩ := h20
     refine ops_rule (C := []) _ [] 7 [.o 4, .o 4, .o 5, .o 5] 2 (fun φ21 => [(8, pB (φ21 1)), (7, pB (φ21 0)), (29, .agg #[.int .u64 d20, .pointer q20]), (28, .agg #[.int .u64 b20, .pointer p20]), (25, .tuple #[.agg #[.int .u64 b20, .pointer p20], .agg #[.int .u64 d20, .pointer q20]])]) (fun φ21 => [(φ1 0, .cells #[.int .u64 ba, .pointer pa] 30), (φ1 1, .cells #[.int .u64 bb, .pointer pb] 30), (φ18 0, .cells #[.int .u64 b17, .pointer p17] 30), (φ18 1, .cells #[.int .u64 d17, .pointer q17] 30), (φ21 0, .cells #[.int .u64 b20, .pointer p20] 30), (φ21 1, .cells #[.int .u64 d20, .pointer q20] 30)]) (fun φ21 => [φ21 0, φ21 0, φ21 1, φ21 1]) s trivial (fun φ21 => by kernel_rfl) ?_
     intro φ21 w21 s
     refine ops_done (by kernel_rfl) ?_
     refine seqR ?_
     refine ops_rule (C := []) _ [] 2 [.o 2, .o 2, .o 4, .o 4] 0 (fun φ22 => [(31, .agg #[.int .u64 b20, .pointer p20]), (30, .agg #[.int .u64 b17, .pointer p17])]) (fun φ22 => [(φ1 0, .cells #[.int .u64 ba, .pointer pa] 30), (φ1 1, .cells #[.int .u64 bb, .pointer pb] 30), (φ18 0, .cells #[.int .u64 b17, .pointer p17] 30), (φ18 1, .cells #[.int .u64 d17, .pointer q17] 30), (φ21 0, .cells #[.int .u64 b20, .pointer p20] 30), (φ21 1, .cells #[.int .u64 d20, .pointer q20] 30)]) (fun φ22 => [φ18 0, φ18 0, φ21 0, φ21 0]) s trivial (fun φ22 => by kernel_rfl) ?_
     intro φ22 w22 s
     refine call_rule (some 32) s (ihl hc8 hc14 h17_0 h20_0) (by kernel_rfl) ?_
     intro v23 I23 w23 le23 h23 s
     replace h17_1 := ERep.mono le23 h17_1
     replace h20_1 := ERep.mono le23 h20_1
     obtain rfl := h23
     refine ops_rule (C := []) _ [] 1 [] 0 (fun φ24 => [(33, .bool cl)]) (fun φ24 => [(φ1 0, .cells #[.int .u64 ba, .pointer pa] 30), (φ1 1, .cells #[.int .u64 bb, .pointer pb] 30), (φ18 0, .cells #[.int .u64 b17, .pointer p17] 30), (φ18 1, .cells #[.int .u64 d17, .pointer q17] 30), (φ21 0, .cells #[.int .u64 b20, .pointer p20] 30), (φ21 1, .cells #[.int .u64 d20, .pointer q20] 30)]) (fun φ24 => []) s trivial (fun φ24 => by kernel_rfl) ?_
     intro φ24 w24 s
     rcases Bool.eq_false_or_eq_true (cl) with hc25 | hc25
     ·
      rw [hc25]
      refine ops_rule (C := []) _ [] 2 [.o 3, .o 3, .o 5, .o 5] 0 (fun φ26 => [(35, .agg #[.int .u64 d20, .pointer q20]), (34, .agg #[.int .u64 d17, .pointer q17])]) (fun φ26 => [(φ1 0, .cells #[.int .u64 ba, .pointer pa] 30), (φ1 1, .cells #[.int .u64 bb, .pointer pb] 30), (φ18 0, .cells #[.int .u64 b17, .pointer p17] 30), (φ18 1, .cells #[.int .u64 d17, .pointer q17] 30), (φ21 0, .cells #[.int .u64 b20, .pointer p20] 30), (φ21 1, .cells #[.int .u64 d20, .pointer q20] 30)]) (fun φ26 => [φ18 1, φ18 1, φ21 1, φ21 1]) s trivial (fun φ26 => by kernel_rfl) ?_
      intro φ26 w26 s
      refine call_rule (some 36) s (ihr hc8 hc14 h17_1 h20_1) (by kernel_rfl) ?_
      intro v27 I27 w27 le27 h27 s
      obtain rfl := h27
      refine ops_rule (C := []) _ [] 2 [] 0 (fun φ28 => [(4, .bool cr), (37, .bool cr)]) (fun φ28 => [(φ1 0, .cells #[.int .u64 ba, .pointer pa] 30), (φ1 1, .cells #[.int .u64 bb, .pointer pb] 30), (φ18 0, .cells #[.int .u64 b17, .pointer p17] 30), (φ18 1, .cells #[.int .u64 d17, .pointer q17] 30), (φ21 0, .cells #[.int .u64 b20, .pointer p20] 30), (φ21 1, .cells #[.int .u64 d20, .pointer q20] 30)]) (fun φ28 => []) s trivial (fun φ28 => by kernel_rfl) ?_
      intro φ28 w28 s
      refine ops_done (by kernel_rfl) ?_
      refine wp_ret ?_
      refine ret_rule (C := []) _ [] (.bool cr) [] [] s trivial (by kernel_rfl) ?_
      exact ⟨_, _, _, rfl, s, by simp [hc3, hc8, hc14, hc25]⟩
     ·
      rw [hc25]
      refine ops_rule (C := []) _ [] 5 [] 0 (fun φ29 => [(4, .bool false), (37, .bool false), (36, undef), (35, undef), (34, undef)]) (fun φ29 => [(φ1 0, .cells #[.int .u64 ba, .pointer pa] 30), (φ1 1, .cells #[.int .u64 bb, .pointer pb] 30), (φ18 0, .cells #[.int .u64 b17, .pointer p17] 30), (φ18 1, .cells #[.int .u64 d17, .pointer q17] 30), (φ21 0, .cells #[.int .u64 b20, .pointer p20] 30), (φ21 1, .cells #[.int .u64 d20, .pointer q20] 30)]) (fun φ29 => []) s trivial (fun φ29 => by kernel_rfl) ?_
      intro φ29 w29 s
      refine ops_done (by kernel_rfl) ?_
      refine wp_ret ?_
      refine ret_rule (C := []) _ [] (.bool false) [] [] s trivial (by kernel_rfl) ?_
      exact ⟨_, _, _, rfl, s, by simp [hc3, hc8, hc14, hc25]⟩

theorem leqF_c : ∀ (n : Nat) {I : IM} {A B : E} {ba bb : Nat} {pa pb : Option Addr}, A.depth ≤ n → A.top < 18446744073709551616 → B.top < 18446744073709551616 → ERep I A ba pa → ERep I B bb pb →
    Fun Try.prog 42 #[evv ba pa, evv bb pb] I (fun v _ => v = .bool (leqF n A B))
  | 0, I, A, B, ba, bb, pa, pb, hd, htA, htB, hA, hB => by
    have hlf : A.isLeaf = true := by
      cases A with
      | leaf _ => rfl
      | node _ _ _ => have : 1 + max _ _ ≤ 0 := hd; omega
    have := leq_step hA hB htA htB false false (fun h => by rw [hlf] at h; cases h) (fun h => by rw [hlf] at h; cases h)
    refine this.mono fun v J _ h => ?_
    rw [h, hlf, ERep.base hB]; simp [leqF]
  | n + 1, I, A, B, ba, bb, pa, pb, hd, htA, htB, hA, hB => by
    have e1 := ERep.base hA
    have e2 := ERep.base hB
    subst e1 e2
    have ha := E.half_depth A n hd
    have h4 := E.half_top A
    have h5 := E.half_top B
    exact leq_step hA hB htA htB _ _ (fun _ _ {J} {b1} {b2} {p1} {p2} k1 k2 => leqF_c n ha.1 (by omega) (by omega) k1 k2) (fun _ _ {J} {b1} {b2} {p1} {p2} k1 k2 => leqF_c n ha.2 (by omega) (by omega) k1 k2)

set_option maxHeartbeats 1000000 in
theorem same_c {I : IM} {A B : E} {ba bb : Nat} {pa pb : Option Addr} (hA : ERep I A ba pa) (hB : ERep I B bb pb) (htA : A.top < 18446744073709551616) (htB : B.top < 18446744073709551616) (hdA : A.depth ≤ 64) (hdB : B.depth ≤ 64) : Fun Try.prog 19 #[evv ba pa, evv bb pb] I (fun v J => v = .bool (leqF 64 A B && leqF 64 B A)) := by
 refine enter_rule 13 [(0, .agg #[.int .u64 ba, .pointer pa]), (1, .agg #[.int .u64 bb, .pointer pb])] Try.func19 rfl (by kernel_rfl) ?_
 intro w s
 refine seqR ?_
 refine ops_rule (C := []) [] [] 3 [] 2 (fun φ1 => [(4, .bool false), (3, pB (φ1 1)), (2, pB (φ1 0))]) (fun φ1 => [(φ1 0, .cells #[.int .u64 ba, .pointer pa] 30), (φ1 1, .cells #[.int .u64 bb, .pointer pb] 30)]) (fun φ1 => []) s trivial (fun φ1 => by kernel_rfl) ?_
 intro φ1 w1 s
 refine ops_done (by kernel_rfl) ?_
 refine seqR ?_
 refine ops_rule (C := []) _ [] 2 [.o 0, .o 0, .o 1, .o 1] 0 (fun φ2 => [(6, .agg #[.int .u64 bb, .pointer pb]), (5, .agg #[.int .u64 ba, .pointer pa])]) (fun φ2 => [(φ1 0, .cells #[.int .u64 ba, .pointer pa] 30), (φ1 1, .cells #[.int .u64 bb, .pointer pb] 30)]) (fun φ2 => [φ1 0, φ1 0, φ1 1, φ1 1]) s trivial (fun φ2 => by kernel_rfl) ?_
 intro φ2 w2 s
 refine call_rule (some 7) s (leqF_c 64 (by omega) (by omega) (by omega) hA hB) (by kernel_rfl) ?_
 intro v3 I3 w3 le3 h3 s
 replace hA := ERep.mono le3 hA
 replace hB := ERep.mono le3 hB
 obtain rfl := h3
 refine ops_rule (C := []) _ [] 1 [] 0 (fun φ4 => [(8, .bool (leqF 64 A B))]) (fun φ4 => [(φ1 0, .cells #[.int .u64 ba, .pointer pa] 30), (φ1 1, .cells #[.int .u64 bb, .pointer pb] 30)]) (fun φ4 => []) s trivial (fun φ4 => by kernel_rfl) ?_
 intro φ4 w4 s
 rcases Bool.eq_false_or_eq_true (leqF 64 A B) with hc5 | hc5
 ·
  rw [hc5]
  refine ops_rule (C := []) _ [] 2 [.o 1, .o 1, .o 0, .o 0] 0 (fun φ6 => [(10, .agg #[.int .u64 ba, .pointer pa]), (9, .agg #[.int .u64 bb, .pointer pb])]) (fun φ6 => [(φ1 0, .cells #[.int .u64 ba, .pointer pa] 30), (φ1 1, .cells #[.int .u64 bb, .pointer pb] 30)]) (fun φ6 => [φ1 1, φ1 1, φ1 0, φ1 0]) s trivial (fun φ6 => by kernel_rfl) ?_
  intro φ6 w6 s
  refine call_rule (some 11) s (leqF_c 64 (by omega) (by omega) (by omega) hB hA) (by kernel_rfl) ?_
  intro v7 I7 w7 le7 h7 s
  obtain rfl := h7
  refine ops_rule (C := []) _ [] 2 [] 0 (fun φ8 => [(4, .bool (leqF 64 B A)), (12, .bool (leqF 64 B A))]) (fun φ8 => [(φ1 0, .cells #[.int .u64 ba, .pointer pa] 30), (φ1 1, .cells #[.int .u64 bb, .pointer pb] 30)]) (fun φ8 => []) s trivial (fun φ8 => by kernel_rfl) ?_
  intro φ8 w8 s
  refine ops_done (by kernel_rfl) ?_
  refine wp_ret ?_
  refine ret_rule (C := []) _ [] (.bool (leqF 64 B A)) [] [] s trivial (by kernel_rfl) ?_
  exact ⟨_, _, _, rfl, s, by simp [hc5]⟩
 ·
  rw [hc5]
  refine ops_rule (C := []) _ [] 5 [] 0 (fun φ9 => [(4, .bool false), (12, .bool false), (11, undef), (10, undef), (9, undef)]) (fun φ9 => [(φ1 0, .cells #[.int .u64 ba, .pointer pa] 30), (φ1 1, .cells #[.int .u64 bb, .pointer pb] 30)]) (fun φ9 => []) s trivial (fun φ9 => by kernel_rfl) ?_
  intro φ9 w9 s
  refine ops_done (by kernel_rfl) ?_
  refine wp_ret ?_
  refine ret_rule (C := []) _ [] (.bool false) [] [] s trivial (by kernel_rfl) ?_
  exact ⟨_, _, _, rfl, s, by simp [hc5]⟩

end Go.Proofs.Ytgmigcmhnmmdkaa.Ev

