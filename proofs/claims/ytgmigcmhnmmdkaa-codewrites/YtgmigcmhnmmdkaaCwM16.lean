/- The program's ids. -/
import Derived.Test.YtgmigcmhnmmdkaaProg
import Derived.Test.YtgmigcmhnmmdkaaCwM15
import Derived.Test.YtgmigcmhnmmdkaaCwS9
set_option linter.all false
set_option maxRecDepth 100000
namespace Go.Proofs.Ytgmigcmhnmmdkaa.Ev
open Go.RowKit Go.Sep

inductive T where
  | zero | one | node (l r : T)
  deriving DecidableEq
def T.depth : T → Nat
  | .node l r => 1 + max l.depth r.depth
  | _ => 0
def T.isZero : T → Bool
  | .zero => true
  | _ => false
def T.isOne : T → Bool
  | .one => true
  | _ => false
def T.left : T → T
  | .node l _ => l
  | t => t
def T.right : T → T
  | .node _ r => r
  | t => t
def T.mk : T → T → T
  | .zero, .zero => .zero
  | .one, .one => .one
  | l, r => .node l r
def TRep (I : IM) : T → Bool → Option Addr → Prop
  | .zero, b, p => b = false ∧ p = none
  | .one, b, p => b = true ∧ p = none
  | .node l r, b, p => b = false ∧ ∃ k bl pl br pr, p = some ⟨k, 0, none⟩ ∧
      I k = some (.cells #[.bool bl, .pointer pl, .bool br, .pointer pr, .int .i64 (((T.node l r).depth : Nat) : Int)] 122) ∧ TRep I l bl pl ∧ TRep I r br pr
theorem TRep.mono {I J : IM} (le : I.Le J) : ∀ {t : T} {b : Bool} {p : Option Addr}, TRep I t b p → TRep J t b p
  | .zero, _, _, h => h
  | .one, _, _, h => h
  | .node _ _, _, _, ⟨hb, k, bl, pl, br, pr, hp, hk, hl, hr⟩ => ⟨hb, k, bl, pl, br, pr, hp, le _ _ hk, hl.mono le, hr.mono le⟩
abbrev idv (b : Bool) (p : Option Addr) : Value := .agg #[.bool b, .pointer p]
theorem TRep.z (I : IM) : TRep I .zero false none := ⟨rfl, rfl⟩
theorem TRep.o (I : IM) : TRep I .one true none := ⟨rfl, rfl⟩

set_option maxHeartbeats 400000 in
theorem isZero_c {I : IM} {t : T} {b : Bool} {p : Option Addr} (h : TRep I t b p) : Fun Try.prog 76 #[idv b p] I (fun v J => v = .bool t.isZero) := by
 cases t with
 | zero =>
  obtain ⟨rfl, rfl⟩ := h
  refine enter_rule 11 [(0, .agg #[.bool false, .pointer none])] Try.func76 rfl (by kernel_rfl) ?_
  intro w s
  refine seqR ?_
  refine ops_rule (C := []) [] [] 2 [] 1 (fun φ1 => [(2, .bool false), (1, pB (φ1 0))]) (fun φ1 => [(φ1 0, .cells #[.bool false, .pointer none] 26)]) (fun φ1 => []) s trivial (fun φ1 => by kernel_rfl) ?_
  intro φ1 w1 s
  refine ops_done (by kernel_rfl) ?_
  refine seqR ?_
  refine ops_rule (C := []) _ [] 9 [.o 0, .o 0] 0 (fun φ2 => [(2, .bool true), (10, .bool true), (9, .bool true), (8, .pointer none), (7, .pointer (some ⟨(φ1 0), 1, none⟩)), (6, .bool true), (5, .bool true), (4, .bool false), (3, pB (φ1 0))]) (fun φ2 => [(φ1 0, .cells #[.bool false, .pointer none] 26)]) (fun φ2 => [φ1 0, φ1 0]) s trivial (fun φ2 => by kernel_rfl) ?_
  intro φ2 w2 s
  refine ops_done (by kernel_rfl) ?_
  refine wp_ret ?_
  refine ret_rule (C := []) _ [] (.bool true) [] [] s trivial (by kernel_rfl) ?_
  exact ⟨_, _, _, rfl, s, rfl⟩
 | one =>
  obtain ⟨rfl, rfl⟩ := h
  refine enter_rule 11 [(0, .agg #[.bool true, .pointer none])] Try.func76 rfl (by kernel_rfl) ?_
  intro w s
  refine seqR ?_
  refine ops_rule (C := []) [] [] 2 [] 1 (fun φ1 => [(2, .bool false), (1, pB (φ1 0))]) (fun φ1 => [(φ1 0, .cells #[.bool true, .pointer none] 26)]) (fun φ1 => []) s trivial (fun φ1 => by kernel_rfl) ?_
  intro φ1 w1 s
  refine ops_done (by kernel_rfl) ?_
  refine seqR ?_
  refine ops_rule (C := []) _ [] 9 [.o 0] 0 (fun φ2 => [(2, .bool false), (10, .bool false), (9, undef), (8, undef), (7, undef), (6, .bool false), (5, .bool false), (4, .bool true), (3, pB (φ1 0))]) (fun φ2 => [(φ1 0, .cells #[.bool true, .pointer none] 26)]) (fun φ2 => [(φ1 0)]) s trivial (fun φ2 => by kernel_rfl) ?_
  intro φ2 w2 s
  refine ops_done (by kernel_rfl) ?_
  refine wp_ret ?_
  refine ret_rule (C := []) _ [] (.bool false) [] [] s trivial (by kernel_rfl) ?_
  exact ⟨_, _, _, rfl, s, rfl⟩
 | node l r =>
  have hn := h
  obtain ⟨rfl, k, bl, pl, br, pr, rfl, hk, hl, hr⟩ := h
  refine enter_rule 11 [(0, .agg #[.bool false, pB k])] Try.func76 rfl (by kernel_rfl) ?_
  intro w s
  refine seqR ?_
  refine ops_rule (C := []) [] [] 2 [] 1 (fun φ1 => [(2, .bool false), (1, pB (φ1 0))]) (fun φ1 => [(φ1 0, .cells #[.bool false, pB k] 26)]) (fun φ1 => []) s trivial (fun φ1 => by kernel_rfl) ?_
  intro φ1 w1 s
  refine ops_done (by kernel_rfl) ?_
  refine seqR ?_
  refine ops_rule (C := []) _ [] 9 [.o 0, .o 0] 0 (fun φ2 => [(2, .bool false), (10, .bool false), (9, .bool false), (8, pB k), (7, .pointer (some ⟨(φ1 0), 1, none⟩)), (6, .bool true), (5, .bool true), (4, .bool false), (3, pB (φ1 0))]) (fun φ2 => [(φ1 0, .cells #[.bool false, pB k] 26)]) (fun φ2 => [φ1 0, φ1 0]) s trivial (fun φ2 => by kernel_rfl) ?_
  intro φ2 w2 s
  refine ops_done (by kernel_rfl) ?_
  refine wp_ret ?_
  refine ret_rule (C := []) _ [] (.bool false) [] [] s trivial (by kernel_rfl) ?_
  exact ⟨_, _, _, rfl, s, rfl⟩

set_option maxHeartbeats 400000 in
theorem isOne_c {I : IM} {t : T} {b : Bool} {p : Option Addr} (h : TRep I t b p) : Fun Try.prog 75 #[idv b p] I (fun v J => v = .bool t.isOne) := by
 cases t with
 | zero =>
  obtain ⟨rfl, rfl⟩ := h
  refine enter_rule 5 [(0, .agg #[.bool false, .pointer none])] Try.func75 rfl (by kernel_rfl) ?_
  intro w s
  refine seqR ?_
  refine ops_rule (C := []) [] [] 2 [] 1 (fun φ1 => [(2, .bool false), (1, pB (φ1 0))]) (fun φ1 => [(φ1 0, .cells #[.bool false, .pointer none] 26)]) (fun φ1 => []) s trivial (fun φ1 => by kernel_rfl) ?_
  intro φ1 w1 s
  refine ops_done (by kernel_rfl) ?_
  refine seqR ?_
  refine ops_rule (C := []) _ [] 3 [.o 0] 0 (fun φ2 => [(2, .bool false), (4, .bool false), (3, pB (φ1 0))]) (fun φ2 => [(φ1 0, .cells #[.bool false, .pointer none] 26)]) (fun φ2 => [(φ1 0)]) s trivial (fun φ2 => by kernel_rfl) ?_
  intro φ2 w2 s
  refine ops_done (by kernel_rfl) ?_
  refine wp_ret ?_
  refine ret_rule (C := []) _ [] (.bool false) [] [] s trivial (by kernel_rfl) ?_
  exact ⟨_, _, _, rfl, s, rfl⟩
 | one =>
  obtain ⟨rfl, rfl⟩ := h
  refine enter_rule 5 [(0, .agg #[.bool true, .pointer none])] Try.func75 rfl (by kernel_rfl) ?_
  intro w s
  refine seqR ?_
  refine ops_rule (C := []) [] [] 2 [] 1 (fun φ1 => [(2, .bool false), (1, pB (φ1 0))]) (fun φ1 => [(φ1 0, .cells #[.bool true, .pointer none] 26)]) (fun φ1 => []) s trivial (fun φ1 => by kernel_rfl) ?_
  intro φ1 w1 s
  refine ops_done (by kernel_rfl) ?_
  refine seqR ?_
  refine ops_rule (C := []) _ [] 3 [.o 0] 0 (fun φ2 => [(2, .bool true), (4, .bool true), (3, pB (φ1 0))]) (fun φ2 => [(φ1 0, .cells #[.bool true, .pointer none] 26)]) (fun φ2 => [(φ1 0)]) s trivial (fun φ2 => by kernel_rfl) ?_
  intro φ2 w2 s
  refine ops_done (by kernel_rfl) ?_
  refine wp_ret ?_
  refine ret_rule (C := []) _ [] (.bool true) [] [] s trivial (by kernel_rfl) ?_
  exact ⟨_, _, _, rfl, s, rfl⟩
 | node l r =>
  have hn := h
  obtain ⟨rfl, k, bl, pl, br, pr, rfl, hk, hl, hr⟩ := h
  refine enter_rule 5 [(0, .agg #[.bool false, pB k])] Try.func75 rfl (by kernel_rfl) ?_
  intro w s
  refine seqR ?_
  refine ops_rule (C := []) [] [] 2 [] 1 (fun φ1 => [(2, .bool false), (1, pB (φ1 0))]) (fun φ1 => [(φ1 0, .cells #[.bool false, pB k] 26)]) (fun φ1 => []) s trivial (fun φ1 => by kernel_rfl) ?_
  intro φ1 w1 s
  refine ops_done (by kernel_rfl) ?_
  refine seqR ?_
  refine ops_rule (C := []) _ [] 3 [.o 0] 0 (fun φ2 => [(2, .bool false), (4, .bool false), (3, pB (φ1 0))]) (fun φ2 => [(φ1 0, .cells #[.bool false, pB k] 26)]) (fun φ2 => [(φ1 0)]) s trivial (fun φ2 => by kernel_rfl) ?_
  intro φ2 w2 s
  refine ops_done (by kernel_rfl) ?_
  refine wp_ret ?_
  refine ret_rule (C := []) _ [] (.bool false) [] [] s trivial (by kernel_rfl) ?_
  exact ⟨_, _, _, rfl, s, rfl⟩

set_option maxHeartbeats 400000 in
theorem tleft_c {I : IM} {t : T} {b : Bool} {p : Option Addr} (h : TRep I t b p) : Fun Try.prog 55 #[idv b p] I (fun v J => ∃ b' p', v = idv b' p' ∧ TRep J t.left b' p') := by
 cases t with
 | zero =>
  obtain ⟨rfl, rfl⟩ := h
  refine enter_rule 12 [(0, .agg #[.bool false, .pointer none])] Try.func55 rfl (by kernel_rfl) ?_
  intro w s
  refine seqR ?_
  refine ops_rule (C := []) [] [] 2 [] 2 (fun φ1 => [(2, pB (φ1 1)), (1, pB (φ1 0))]) (fun φ1 => [(φ1 0, .cells #[.bool false, .pointer none] 26), (φ1 1, .cells #[.bool false, .pointer none] 26)]) (fun φ1 => []) s trivial (fun φ1 => by kernel_rfl) ?_
  intro φ1 w1 s
  refine ops_done (by kernel_rfl) ?_
  refine wp_seq ?_
  refine seqR ?_
  refine ops_rule (C := []) _ [] 3 [.o 0] 0 (fun φ2 => [(5, .bool true), (4, .pointer none), (3, .pointer (some ⟨(φ1 0), 1, none⟩))]) (fun φ2 => [(φ1 0, .cells #[.bool false, .pointer none] 26), (φ1 1, .cells #[.bool false, .pointer none] 26)]) (fun φ2 => [(φ1 0)]) s trivial (fun φ2 => by kernel_rfl) ?_
  intro φ2 w2 s
  refine ops_done (by kernel_rfl) ?_
  refine cond_true_rule (b := true) (by kernel_rfl) rfl ?_
  refine seqR ?_
  refine ops_rule (C := []) _ [] 2 [.o 0, .o 0, .o 1, .o 1] 0 (fun φ3 => [(6, .agg #[.bool false, .pointer none])]) (fun φ3 => [(φ1 0, .cells #[.bool false, .pointer none] 26), (φ1 1, .cells #[.bool false, .pointer none] 26)]) (fun φ3 => [φ1 0, φ1 0, φ1 1, φ1 1]) s trivial (fun φ3 => by kernel_rfl) ?_
  intro φ3 w3 s
  refine ops_done (by kernel_rfl) ?_
  refine wp_ret ?_
  refine ret_rule (C := []) _ [] (.agg #[.bool false, .pointer none]) [.o 1, .o 1] [φ1 1, φ1 1] s trivial (by kernel_rfl) ?_
  exact ⟨_, _, _, rfl, s, ⟨_, _, rfl, rfl, rfl⟩⟩
 | one =>
  obtain ⟨rfl, rfl⟩ := h
  refine enter_rule 12 [(0, .agg #[.bool true, .pointer none])] Try.func55 rfl (by kernel_rfl) ?_
  intro w s
  refine seqR ?_
  refine ops_rule (C := []) [] [] 2 [] 2 (fun φ1 => [(2, pB (φ1 1)), (1, pB (φ1 0))]) (fun φ1 => [(φ1 0, .cells #[.bool true, .pointer none] 26), (φ1 1, .cells #[.bool false, .pointer none] 26)]) (fun φ1 => []) s trivial (fun φ1 => by kernel_rfl) ?_
  intro φ1 w1 s
  refine ops_done (by kernel_rfl) ?_
  refine wp_seq ?_
  refine seqR ?_
  refine ops_rule (C := []) _ [] 3 [.o 0] 0 (fun φ2 => [(5, .bool true), (4, .pointer none), (3, .pointer (some ⟨(φ1 0), 1, none⟩))]) (fun φ2 => [(φ1 0, .cells #[.bool true, .pointer none] 26), (φ1 1, .cells #[.bool false, .pointer none] 26)]) (fun φ2 => [(φ1 0)]) s trivial (fun φ2 => by kernel_rfl) ?_
  intro φ2 w2 s
  refine ops_done (by kernel_rfl) ?_
  refine cond_true_rule (b := true) (by kernel_rfl) rfl ?_
  refine seqR ?_
  refine ops_rule (C := []) _ [] 2 [.o 0, .o 0, .o 1, .o 1] 0 (fun φ3 => [(6, .agg #[.bool true, .pointer none])]) (fun φ3 => [(φ1 0, .cells #[.bool true, .pointer none] 26), (φ1 1, .cells #[.bool true, .pointer none] 26)]) (fun φ3 => [φ1 0, φ1 0, φ1 1, φ1 1]) s trivial (fun φ3 => by kernel_rfl) ?_
  intro φ3 w3 s
  refine ops_done (by kernel_rfl) ?_
  refine wp_ret ?_
  refine ret_rule (C := []) _ [] (.agg #[.bool true, .pointer none]) [.o 1, .o 1] [φ1 1, φ1 1] s trivial (by kernel_rfl) ?_
  exact ⟨_, _, _, rfl, s, ⟨_, _, rfl, rfl, rfl⟩⟩
 | node l r =>
  have hn := h
  obtain ⟨rfl, k, bl, pl, br, pr, rfl, hk, hl, hr⟩ := h
  refine enter_rule 12 [(0, .agg #[.bool false, pB k])] Try.func55 rfl (by kernel_rfl) ?_
  intro w s
  refine seqR ?_
  refine ops_rule (C := []) [] [] 2 [] 2 (fun φ1 => [(2, pB (φ1 1)), (1, pB (φ1 0))]) (fun φ1 => [(φ1 0, .cells #[.bool false, pB k] 26), (φ1 1, .cells #[.bool false, .pointer none] 26)]) (fun φ1 => []) s trivial (fun φ1 => by kernel_rfl) ?_
  intro φ1 w1 s
  refine ops_done (by kernel_rfl) ?_
  refine wp_seq ?_
  refine seqR ?_
  refine ops_rule (C := []) _ [] 3 [.o 0] 0 (fun φ2 => [(5, .bool false), (4, pB k), (3, .pointer (some ⟨(φ1 0), 1, none⟩))]) (fun φ2 => [(φ1 0, .cells #[.bool false, pB k] 26), (φ1 1, .cells #[.bool false, .pointer none] 26)]) (fun φ2 => [(φ1 0)]) s trivial (fun φ2 => by kernel_rfl) ?_
  intro φ2 w2 s
  refine ops_done (by kernel_rfl) ?_
  refine cond_false_rule (b := false) (by kernel_rfl) rfl ?_
  refine wp_skip ?_
  refine seqR ?_
  refine ops_rule (C := [(k, .cells #[.bool bl, .pointer pl, .bool br, .pointer pr, .int .i64 (T.depth (T.node l r))] 122)]) _ [] 6 [.o 0, .c 0, .c 0, .o 1, .o 1] 0 (fun φ3 => [(11, .agg #[.bool bl, .pointer pl]), (10, pB k), (9, pB k), (8, pB k), (7, .pointer (some ⟨(φ1 0), 1, none⟩))]) (fun φ3 => [(φ1 0, .cells #[.bool false, pB k] 26), (φ1 1, .cells #[.bool bl, .pointer pl] 26)]) (fun φ3 => [φ1 0, k, k, φ1 1, φ1 1]) s ⟨hk, trivial⟩ (fun φ3 => by kernel_rfl) ?_
  intro φ3 w3 s
  refine ops_done (by kernel_rfl) ?_
  refine wp_ret ?_
  refine ret_rule (C := []) _ [] (.agg #[.bool bl, .pointer pl]) [.o 1, .o 1] [φ1 1, φ1 1] s trivial (by kernel_rfl) ?_
  exact ⟨_, _, _, rfl, s, ⟨_, _, rfl, hl⟩⟩

set_option maxHeartbeats 400000 in
theorem tright_c {I : IM} {t : T} {b : Bool} {p : Option Addr} (h : TRep I t b p) : Fun Try.prog 56 #[idv b p] I (fun v J => ∃ b' p', v = idv b' p' ∧ TRep J t.right b' p') := by
 cases t with
 | zero =>
  obtain ⟨rfl, rfl⟩ := h
  refine enter_rule 12 [(0, .agg #[.bool false, .pointer none])] Try.func56 rfl (by kernel_rfl) ?_
  intro w s
  refine seqR ?_
  refine ops_rule (C := []) [] [] 2 [] 2 (fun φ1 => [(2, pB (φ1 1)), (1, pB (φ1 0))]) (fun φ1 => [(φ1 0, .cells #[.bool false, .pointer none] 26), (φ1 1, .cells #[.bool false, .pointer none] 26)]) (fun φ1 => []) s trivial (fun φ1 => by kernel_rfl) ?_
  intro φ1 w1 s
  refine ops_done (by kernel_rfl) ?_
  refine wp_seq ?_
  refine seqR ?_
  refine ops_rule (C := []) _ [] 3 [.o 0] 0 (fun φ2 => [(5, .bool true), (4, .pointer none), (3, .pointer (some ⟨(φ1 0), 1, none⟩))]) (fun φ2 => [(φ1 0, .cells #[.bool false, .pointer none] 26), (φ1 1, .cells #[.bool false, .pointer none] 26)]) (fun φ2 => [(φ1 0)]) s trivial (fun φ2 => by kernel_rfl) ?_
  intro φ2 w2 s
  refine ops_done (by kernel_rfl) ?_
  refine cond_true_rule (b := true) (by kernel_rfl) rfl ?_
  refine seqR ?_
  refine ops_rule (C := []) _ [] 2 [.o 0, .o 0, .o 1, .o 1] 0 (fun φ3 => [(6, .agg #[.bool false, .pointer none])]) (fun φ3 => [(φ1 0, .cells #[.bool false, .pointer none] 26), (φ1 1, .cells #[.bool false, .pointer none] 26)]) (fun φ3 => [φ1 0, φ1 0, φ1 1, φ1 1]) s trivial (fun φ3 => by kernel_rfl) ?_
  intro φ3 w3 s
  refine ops_done (by kernel_rfl) ?_
  refine wp_ret ?_
  refine ret_rule (C := []) _ [] (.agg #[.bool false, .pointer none]) [.o 1, .o 1] [φ1 1, φ1 1] s trivial (by kernel_rfl) ?_
  exact ⟨_, _, _, rfl, s, ⟨_, _, rfl, rfl, rfl⟩⟩
 | one =>
  obtain ⟨rfl, rfl⟩ := h
  refine enter_rule 12 [(0, .agg #[.bool true, .pointer none])] Try.func56 rfl (by kernel_rfl) ?_
  intro w s
  refine seqR ?_
  refine ops_rule (C := []) [] [] 2 [] 2 (fun φ1 => [(2, pB (φ1 1)), (1, pB (φ1 0))]) (fun φ1 => [(φ1 0, .cells #[.bool true, .pointer none] 26), (φ1 1, .cells #[.bool false, .pointer none] 26)]) (fun φ1 => []) s trivial (fun φ1 => by kernel_rfl) ?_
  intro φ1 w1 s
  refine ops_done (by kernel_rfl) ?_
  refine wp_seq ?_
  refine seqR ?_
  refine ops_rule (C := []) _ [] 3 [.o 0] 0 (fun φ2 => [(5, .bool true), (4, .pointer none), (3, .pointer (some ⟨(φ1 0), 1, none⟩))]) (fun φ2 => [(φ1 0, .cells #[.bool true, .pointer none] 26), (φ1 1, .cells #[.bool false, .pointer none] 26)]) (fun φ2 => [(φ1 0)]) s trivial (fun φ2 => by kernel_rfl) ?_
  intro φ2 w2 s
  refine ops_done (by kernel_rfl) ?_
  refine cond_true_rule (b := true) (by kernel_rfl) rfl ?_
  refine seqR ?_
  refine ops_rule (C := []) _ [] 2 [.o 0, .o 0, .o 1, .o 1] 0 (fun φ3 => [(6, .agg #[.bool true, .pointer none])]) (fun φ3 => [(φ1 0, .cells #[.bool true, .pointer none] 26), (φ1 1, .cells #[.bool true, .pointer none] 26)]) (fun φ3 => [φ1 0, φ1 0, φ1 1, φ1 1]) s trivial (fun φ3 => by kernel_rfl) ?_
  intro φ3 w3 s
  refine ops_done (by kernel_rfl) ?_
  refine wp_ret ?_
  refine ret_rule (C := []) _ [] (.agg #[.bool true, .pointer none]) [.o 1, .o 1] [φ1 1, φ1 1] s trivial (by kernel_rfl) ?_
  exact ⟨_, _, _, rfl, s, ⟨_, _, rfl, rfl, rfl⟩⟩
 | node l r =>
  have hn := h
  obtain ⟨rfl, k, bl, pl, br, pr, rfl, hk, hl, hr⟩ := h
  refine enter_rule 12 [(0, .agg #[.bool false, pB k])] Try.func56 rfl (by kernel_rfl) ?_
  intro w s
  refine seqR ?_
  refine ops_rule (C := []) [] [] 2 [] 2 (fun φ1 => [(2, pB (φ1 1)), (1, pB (φ1 0))]) (fun φ1 => [(φ1 0, .cells #[.bool false, pB k] 26), (φ1 1, .cells #[.bool false, .pointer none] 26)]) (fun φ1 => []) s trivial (fun φ1 => by kernel_rfl) ?_
  intro φ1 w1 s
  refine ops_done (by kernel_rfl) ?_
  refine wp_seq ?_
  refine seqR ?_
  refine ops_rule (C := []) _ [] 3 [.o 0] 0 (fun φ2 => [(5, .bool false), (4, pB k), (3, .pointer (some ⟨(φ1 0), 1, none⟩))]) (fun φ2 => [(φ1 0, .cells #[.bool false, pB k] 26), (φ1 1, .cells #[.bool false, .pointer none] 26)]) (fun φ2 => [(φ1 0)]) s trivial (fun φ2 => by kernel_rfl) ?_
  intro φ2 w2 s
  refine ops_done (by kernel_rfl) ?_
  refine cond_false_rule (b := false) (by kernel_rfl) rfl ?_
  refine wp_skip ?_
  refine seqR ?_
  refine ops_rule (C := [(k, .cells #[.bool bl, .pointer pl, .bool br, .pointer pr, .int .i64 (T.depth (T.node l r))] 122)]) _ [] 6 [.o 0, .c 0, .c 0, .o 1, .o 1] 0 (fun φ3 => [(11, .agg #[.bool br, .pointer pr]), (10, .pointer (some ⟨k, 2, none⟩)), (9, pB k), (8, pB k), (7, .pointer (some ⟨(φ1 0), 1, none⟩))]) (fun φ3 => [(φ1 0, .cells #[.bool false, pB k] 26), (φ1 1, .cells #[.bool br, .pointer pr] 26)]) (fun φ3 => [φ1 0, k, k, φ1 1, φ1 1]) s ⟨hk, trivial⟩ (fun φ3 => by kernel_rfl) ?_
  intro φ3 w3 s
  refine ops_done (by kernel_rfl) ?_
  refine wp_ret ?_
  refine ret_rule (C := []) _ [] (.agg #[.bool br, .pointer pr]) [.o 1, .o 1] [φ1 1, φ1 1] s trivial (by kernel_rfl) ?_
  exact ⟨_, _, _, rfl, s, ⟨_, _, rfl, hr⟩⟩

set_option maxHeartbeats 400000 in
theorem tdepth_c {I : IM} {t : T} {b : Bool} {p : Option Addr} (h : TRep I t b p) : Fun Try.prog 91 #[idv b p] I (fun v J => v = .int .i64 ((t.depth : Nat) : Int)) := by
 cases t with
 | zero =>
  obtain ⟨rfl, rfl⟩ := h
  refine enter_rule 11 [(0, .agg #[.bool false, .pointer none])] Try.func91 rfl (by kernel_rfl) ?_
  intro w s
  refine seqR ?_
  refine ops_rule (C := []) [] [] 2 [] 1 (fun φ1 => [(2, .int .i64 0), (1, pB (φ1 0))]) (fun φ1 => [(φ1 0, .cells #[.bool false, .pointer none] 26)]) (fun φ1 => []) s trivial (fun φ1 => by kernel_rfl) ?_
  intro φ1 w1 s
  refine ops_done (by kernel_rfl) ?_
  refine wp_seq ?_
  refine seqR ?_
  refine ops_rule (C := []) _ [] 3 [.o 0] 0 (fun φ2 => [(5, .bool true), (4, .pointer none), (3, .pointer (some ⟨(φ1 0), 1, none⟩))]) (fun φ2 => [(φ1 0, .cells #[.bool false, .pointer none] 26)]) (fun φ2 => [(φ1 0)]) s trivial (fun φ2 => by kernel_rfl) ?_
  intro φ2 w2 s
  refine ops_done (by kernel_rfl) ?_
  refine cond_true_rule (b := true) (by kernel_rfl) rfl ?_
  refine seqR ?_
  refine ops_rule (C := []) _ [] 1 [] 0 (fun φ3 => [(2, .int .i64 0)]) (fun φ3 => [(φ1 0, .cells #[.bool false, .pointer none] 26)]) (fun φ3 => []) s trivial (fun φ3 => by kernel_rfl) ?_
  intro φ3 w3 s
  refine ops_done (by kernel_rfl) ?_
  refine wp_ret ?_
  refine ret_rule (C := []) _ [] (.int .i64 0) [] [] s trivial (by kernel_rfl) ?_
  exact ⟨_, _, _, rfl, s, rfl⟩
 | one =>
  obtain ⟨rfl, rfl⟩ := h
  refine enter_rule 11 [(0, .agg #[.bool true, .pointer none])] Try.func91 rfl (by kernel_rfl) ?_
  intro w s
  refine seqR ?_
  refine ops_rule (C := []) [] [] 2 [] 1 (fun φ1 => [(2, .int .i64 0), (1, pB (φ1 0))]) (fun φ1 => [(φ1 0, .cells #[.bool true, .pointer none] 26)]) (fun φ1 => []) s trivial (fun φ1 => by kernel_rfl) ?_
  intro φ1 w1 s
  refine ops_done (by kernel_rfl) ?_
  refine wp_seq ?_
  refine seqR ?_
  refine ops_rule (C := []) _ [] 3 [.o 0] 0 (fun φ2 => [(5, .bool true), (4, .pointer none), (3, .pointer (some ⟨(φ1 0), 1, none⟩))]) (fun φ2 => [(φ1 0, .cells #[.bool true, .pointer none] 26)]) (fun φ2 => [(φ1 0)]) s trivial (fun φ2 => by kernel_rfl) ?_
  intro φ2 w2 s
  refine ops_done (by kernel_rfl) ?_
  refine cond_true_rule (b := true) (by kernel_rfl) rfl ?_
  refine seqR ?_
  refine ops_rule (C := []) _ [] 1 [] 0 (fun φ3 => [(2, .int .i64 0)]) (fun φ3 => [(φ1 0, .cells #[.bool true, .pointer none] 26)]) (fun φ3 => []) s trivial (fun φ3 => by kernel_rfl) ?_
  intro φ3 w3 s
  refine ops_done (by kernel_rfl) ?_
  refine wp_ret ?_
  refine ret_rule (C := []) _ [] (.int .i64 0) [] [] s trivial (by kernel_rfl) ?_
  exact ⟨_, _, _, rfl, s, rfl⟩
 | node l r =>
  have hn := h
  obtain ⟨rfl, k, bl, pl, br, pr, rfl, hk, hl, hr⟩ := h
  refine enter_rule 11 [(0, .agg #[.bool false, pB k])] Try.func91 rfl (by kernel_rfl) ?_
  intro w s
  refine seqR ?_
  refine ops_rule (C := []) [] [] 2 [] 1 (fun φ1 => [(2, .int .i64 0), (1, pB (φ1 0))]) (fun φ1 => [(φ1 0, .cells #[.bool false, pB k] 26)]) (fun φ1 => []) s trivial (fun φ1 => by kernel_rfl) ?_
  intro φ1 w1 s
  refine ops_done (by kernel_rfl) ?_
  refine wp_seq ?_
  refine seqR ?_
  refine ops_rule (C := []) _ [] 3 [.o 0] 0 (fun φ2 => [(5, .bool false), (4, pB k), (3, .pointer (some ⟨(φ1 0), 1, none⟩))]) (fun φ2 => [(φ1 0, .cells #[.bool false, pB k] 26)]) (fun φ2 => [(φ1 0)]) s trivial (fun φ2 => by kernel_rfl) ?_
  intro φ2 w2 s
  refine ops_done (by kernel_rfl) ?_
  refine cond_false_rule (b := false) (by kernel_rfl) rfl ?_
  refine wp_skip ?_
  refine seqR ?_
  refine ops_rule (C := [(k, .cells #[.bool bl, .pointer pl, .bool br, .pointer pr, .int .i64 (T.depth (T.node l r))] 122)]) _ [] 6 [.o 0, .c 0] 0 (fun φ3 => [(2, .int .i64 (T.depth (T.node l r))), (10, .int .i64 (T.depth (T.node l r))), (9, .pointer (some ⟨k, 4, none⟩)), (8, pB k), (7, pB k), (6, .pointer (some ⟨(φ1 0), 1, none⟩))]) (fun φ3 => [(φ1 0, .cells #[.bool false, pB k] 26)]) (fun φ3 => [φ1 0, k]) s ⟨hk, trivial⟩ (fun φ3 => by kernel_rfl) ?_
  intro φ3 w3 s
  refine ops_done (by kernel_rfl) ?_
  refine wp_ret ?_
  refine ret_rule (C := []) _ [] (.int .i64 (T.depth (T.node l r))) [] [] s trivial (by kernel_rfl) ?_
  exact ⟨_, _, _, rfl, s, rfl⟩

set_option maxHeartbeats 400000 in
theorem tzero_c {I : IM} : Fun Try.prog 71 #[] I (fun v J => v = idv false none) := by
 refine enter_rule 2 [] Try.func71 rfl (by kernel_rfl) ?_
 intro w s
 refine seqR ?_
 refine ops_rule (C := []) [] [] 1 [] 1 (fun φ1 => [(0, pB (φ1 0))]) (fun φ1 => [(φ1 0, .cells #[.bool false, .pointer none] 26)]) (fun φ1 => []) s trivial (fun φ1 => by kernel_rfl) ?_
 intro φ1 w1 s
 refine ops_done (by kernel_rfl) ?_
 refine seqR ?_
 refine ops_rule (C := []) _ [] 2 [.o 0, .o 0] 0 (fun φ2 => [(1, .agg #[.bool false, .pointer none])]) (fun φ2 => [(φ1 0, .cells #[.bool false, .pointer none] 26)]) (fun φ2 => [φ1 0, φ1 0]) s trivial (fun φ2 => by kernel_rfl) ?_
 intro φ2 w2 s
 refine ops_done (by kernel_rfl) ?_
 refine wp_ret ?_
 refine ret_rule (C := []) _ [] (.agg #[.bool false, .pointer none]) [.o 0, .o 0] [φ1 0, φ1 0] s trivial (by kernel_rfl) ?_
 exact ⟨_, _, _, rfl, s, rfl⟩

set_option maxHeartbeats 400000 in
theorem tone_c {I : IM} : Fun Try.prog 66 #[] I (fun v J => v = idv true none) := by
 refine enter_rule 2 [] Try.func66 rfl (by kernel_rfl) ?_
 intro w s
 refine seqR ?_
 refine ops_rule (C := []) [] [] 1 [] 1 (fun φ1 => [(0, pB (φ1 0))]) (fun φ1 => [(φ1 0, .cells #[.bool false, .pointer none] 26)]) (fun φ1 => []) s trivial (fun φ1 => by kernel_rfl) ?_
 intro φ1 w1 s
 refine ops_done (by kernel_rfl) ?_
 refine seqR ?_
 refine ops_rule (C := []) _ [] 2 [.o 0, .o 0] 0 (fun φ2 => [(1, .agg #[.bool true, .pointer none])]) (fun φ2 => [(φ1 0, .cells #[.bool true, .pointer none] 26)]) (fun φ2 => [φ1 0, φ1 0]) s trivial (fun φ2 => by kernel_rfl) ?_
 intro φ2 w2 s
 refine ops_done (by kernel_rfl) ?_
 refine wp_ret ?_
 refine ret_rule (C := []) _ [] (.agg #[.bool true, .pointer none]) [.o 0, .o 0] [φ1 0, φ1 0] s trivial (by kernel_rfl) ?_
 exact ⟨_, _, _, rfl, s, rfl⟩

theorem mk_zero {l r : T} (h1 : l.isZero = true) (h2 : r.isZero = true) : T.mk l r = .zero := by cases l <;> cases r <;> simp_all [T.isZero, T.mk]
theorem mk_one {l r : T} (h1 : l.isOne = true) (h2 : r.isOne = true) : T.mk l r = .one := by cases l <;> cases r <;> simp_all [T.isOne, T.mk]
theorem mk_node {l r : T} (h1 : l.isZero = false ∨ r.isZero = false) (h2 : l.isOne = false ∨ r.isOne = false) : T.mk l r = .node l r := by cases l <;> cases r <;> simp_all [T.isOne, T.isZero, T.mk]

set_option maxHeartbeats 1000000 in
theorem merge_c {I : IM} {l r : T} {bl br : Bool} {pl pr : Option Addr} (hl : TRep I l bl pl) (hr : TRep I r br pr) (hdl : l.depth ≤ 1000) (hdr : r.depth ≤ 1000) : Fun Try.prog 90 #[idv bl pl, idv br pr] I (fun v J => ∃ b p, v = idv b p ∧ TRep J (T.mk l r) b p) := by
 refine enter_rule 30 [(0, .agg #[.bool bl, .pointer pl]), (1, .agg #[.bool br, .pointer pr])] Try.func90 rfl (by kernel_rfl) ?_
 intro w s
 refine seqR ?_
 refine ops_rule (C := []) [] [] 3 [] 3 (fun φ1 => [(4, pB (φ1 2)), (3, pB (φ1 1)), (2, pB (φ1 0))]) (fun φ1 => [(φ1 0, .cells #[.bool bl, .pointer pl] 26), (φ1 1, .cells #[.bool br, .pointer pr] 26), (φ1 2, .cells #[.bool false, .pointer none] 26)]) (fun φ1 => []) s trivial (fun φ1 => by kernel_rfl) ?_
 intro φ1 w1 s
 refine ops_done (by kernel_rfl) ?_
 refine wp_seq ?_
 refine seqR ?_
 refine ops_rule (C := []) _ [] 1 [.o 0, .o 0] 0 (fun φ2 => [(5, .agg #[.bool bl, .pointer pl])]) (fun φ2 => [(φ1 0, .cells #[.bool bl, .pointer pl] 26), (φ1 1, .cells #[.bool br, .pointer pr] 26), (φ1 2, .cells #[.bool false, .pointer none] 26)]) (fun φ2 => [φ1 0, φ1 0]) s trivial (fun φ2 => by kernel_rfl) ?_
 intro φ2 w2 s
 refine call_rule (some 6) s (isZero_c hl) (by kernel_rfl) ?_
 intro v3 I3 w3 le3 h3 s
 replace hl := TRep.mono le3 hl
 replace hr := TRep.mono le3 hr
 obtain rfl := h3
 refine ops_rule (C := []) _ [] 1 [] 0 (fun φ4 => [(7, .bool (T.isZero l))]) (fun φ4 => [(φ1 0, .cells #[.bool bl, .pointer pl] 26), (φ1 1, .cells #[.bool br, .pointer pr] 26), (φ1 2, .cells #[.bool false, .pointer none] 26)]) (fun φ4 => []) s trivial (fun φ4 => by kernel_rfl) ?_
 intro φ4 w4 s
 rcases Bool.eq_false_or_eq_true (T.isZero l) with hc5 | hc5
 ·
  rw [hc5]
  refine ops_rule (C := []) _ [] 1 [.o 1, .o 1] 0 (fun φ6 => [(8, .agg #[.bool br, .pointer pr])]) (fun φ6 => [(φ1 0, .cells #[.bool bl, .pointer pl] 26), (φ1 1, .cells #[.bool br, .pointer pr] 26), (φ1 2, .cells #[.bool false, .pointer none] 26)]) (fun φ6 => [φ1 1, φ1 1]) s trivial (fun φ6 => by kernel_rfl) ?_
  intro φ6 w6 s
  refine call_rule (some 9) s (isZero_c hr) (by kernel_rfl) ?_
  intro v7 I7 w7 le7 h7 s
  replace hl := TRep.mono le7 hl
  replace hr := TRep.mono le7 hr
  obtain rfl := h7
  refine ops_rule (C := []) _ [] 1 [] 0 (fun φ8 => [(10, .bool (T.isZero r))]) (fun φ8 => [(φ1 0, .cells #[.bool bl, .pointer pl] 26), (φ1 1, .cells #[.bool br, .pointer pr] 26), (φ1 2, .cells #[.bool false, .pointer none] 26)]) (fun φ8 => []) s trivial (fun φ8 => by kernel_rfl) ?_
  intro φ8 w8 s
  refine ops_done (by kernel_rfl) ?_
  rcases Bool.eq_false_or_eq_true (T.isZero r) with hc9 | hc9
  ·
   rw [hc9]
   refine cond_true_rule (b := true) (by kernel_rfl) rfl ?_
   refine seqR ?_
   refine call_rule (some 11) s (tzero_c) (by kernel_rfl) ?_
   intro v10 I10 w10 le10 h10 s
   replace hl := TRep.mono le10 hl
   replace hr := TRep.mono le10 hr
   obtain rfl := h10
   refine ops_rule (C := []) _ [] 1 [.o 2, .o 2] 0 (fun φ11 => []) (fun φ11 => [(φ1 0, .cells #[.bool bl, .pointer pl] 26), (φ1 1, .cells #[.bool br, .pointer pr] 26), (φ1 2, .cells #[.bool false, .pointer none] 26)]) (fun φ11 => [φ1 2, φ1 2]) s trivial (fun φ11 => by kernel_rfl) ?_
   intro φ11 w11 s
   refine ops_done (by kernel_rfl) ?_
   refine wp_ret ?_
   refine ret_rule (C := []) _ [] (.agg #[.bool false, .pointer none]) [.o 2, .o 2] [φ1 2, φ1 2] s trivial (by kernel_rfl) ?_
   exact ⟨_, _, _, rfl, s, ⟨_, _, rfl, by rw [mk_zero hc5 hc9]; exact ⟨rfl, rfl⟩⟩⟩
  ·
   rw [hc9]
   refine cond_false_rule (b := false) (by kernel_rfl) rfl ?_
   refine wp_skip ?_
   refine wp_seq ?_
   refine seqR ?_
   refine ops_rule (C := []) _ [] 1 [.o 0, .o 0] 0 (fun φ12 => [(12, .agg #[.bool bl, .pointer pl])]) (fun φ12 => [(φ1 0, .cells #[.bool bl, .pointer pl] 26), (φ1 1, .cells #[.bool br, .pointer pr] 26), (φ1 2, .cells #[.bool false, .pointer none] 26)]) (fun φ12 => [φ1 0, φ1 0]) s trivial (fun φ12 => by kernel_rfl) ?_
   intro φ12 w12 s
   refine call_rule (some 13) s (isOne_c hl) (by kernel_rfl) ?_
   intro v13 I13 w13 le13 h13 s
   replace hl := TRep.mono le13 hl
   replace hr := TRep.mono le13 hr
   obtain rfl := h13
   refine ops_rule (C := []) _ [] 1 [] 0 (fun φ14 => [(14, .bool (T.isOne l))]) (fun φ14 => [(φ1 0, .cells #[.bool bl, .pointer pl] 26), (φ1 1, .cells #[.bool br, .pointer pr] 26), (φ1 2, .cells #[.bool false, .pointer none] 26)]) (fun φ14 => []) s trivial (fun φ14 => by kernel_rfl) ?_
   intro φ14 w14 s
   rcases Bool.eq_false_or_eq_true (T.isOne l) with hc15 | hc15
   ·
    rw [hc15]
    refine ops_rule (C := []) _ [] 1 [.o 1, .o 1] 0 (fun φ16 => [(15, .agg #[.bool br, .pointer pr])]) (fun φ16 => [(φ1 0, .cells #[.bool bl, .pointer pl] 26), (φ1 1, .cells #[.bool br, .pointer pr] 26), (φ1 2, .cells #[.bool false, .pointer none] 26)]) (fun φ16 => [φ1 1, φ1 1]) s trivial (fun φ16 => by kernel_rfl) ?_
    intro φ16 w16 s
    refine call_rule (some 16) s (isOne_c hr) (by kernel_rfl) ?_
    intro v17 I17 w17 le17 h17 s
    replace hl := TRep.mono le17 hl
    replace hr := TRep.mono le17 hr
    obtain rfl := h17
    refine ops_rule (C := []) _ [] 1 [] 0 (fun φ18 => [(17, .bool (T.isOne r))]) (fun φ18 => [(φ1 0, .cells #[.bool bl, .pointer pl] 26), (φ1 1, .cells #[.bool br, .pointer pr] 26), (φ1 2, .cells #[.bool false, .pointer none] 26)]) (fun φ18 => []) s trivial (fun φ18 => by kernel_rfl) ?_
    intro φ18 w18 s
    refine ops_done (by kernel_rfl) ?_
    rcases Bool.eq_false_or_eq_true (T.isOne r) with hc19 | hc19
    ·
     rw [hc19]
     refine cond_true_rule (b := true) (by kernel_rfl) rfl ?_
     refine seqR ?_
     refine call_rule (some 18) s (tone_c) (by kernel_rfl) ?_
     intro v20 I20 w20 le20 h20 s
     replace hl := TRep.mono le20 hl
     replace hr := TRep.mono le20 hr
     obtain rfl := h20
     refine ops_rule (C := []) _ [] 1 [.o 2, .o 2] 0 (fun φ21 => []) (fun φ21 => [(φ1 0, .cells #[.bool bl, .pointer pl] 26), (φ1 1, .cells #[.bool br, .pointer pr] 26), (φ1 2, .cells #[.bool true, .pointer none] 26)]) (fun φ21 => [φ1 2, φ1 2]) s trivial (fun φ21 => by kernel_rfl) ?_
     intro φ21 w21 s
     refine ops_done (by kernel_rfl) ?_
     refine wp_ret ?_
     refine ret_rule (C := []) _ [] (.agg #[.bool true, .pointer none]) [.o 2, .o 2] [φ1 2, φ1 2] s trivial (by kernel_rfl) ?_
     exact ⟨_, _, _, rfl, s, ⟨_, _, rfl, by rw [mk_one hc15 hc19]; exact ⟨rfl, rfl⟩⟩⟩
    ·
     rw [hc19]
     refine cond_false_rule (b := false) (by kernel_rfl) rfl ?_
     refine wp_skip ?_
     refine wp_seq ?_
     refine draw_rule (C := []) ⟨(fun φ22 xs22 => [.look 0 [.o 0, .o 0] [φ1 0, φ1 0], .look 0 [.o 1, .o 1] [φ1 1, φ1 1], .look 0 [.o 0, .o 0] [φ1 0, φ1 0], .call 91 #[.agg #[.bool bl, .pointer pl]], .look 0 [.o 1, .o 1] [φ1 1, φ1 1], .call 91 #[.agg #[.bool br, .pointer pr]], .sub 0 [] [] (.int .i64 (if ((T.depth r : Nat) : Int) > ((T.depth l : Nat) : Int) then ((T.depth r : Nat) : Int) else ((T.depth l : Nat) : Int))), .sub 0 [] [] (.int .i64 (IntKind.wrap .i64 (((1 : Nat) : Int) + ((max (T.depth l) (T.depth r) : Nat) : Int)))), .look 0 [] [], .new, .look 0 [] [], .store 0 [.o 2, .o 2] [φ1 2, φ1 2]]), (fun φ22 xs22 => [.agg #[.bool bl, .pointer pl], .agg #[.bool br, .pointer pr], .agg #[.bool bl, .pointer pl], .int .i64 (T.depth l), .agg #[.bool br, .pointer pr], .int .i64 (T.depth r), .int .i64 ((max (T.depth l) (T.depth r) : Nat) : Int), .int .i64 ((1 + (max (T.depth l) (T.depth r)) : Nat) : Int), .agg #[.bool bl, .pointer pl, .bool br, .pointer pr, .int .i64 ((1 + (max (T.depth l) (T.depth r)) : Nat) : Int)], pB (φ22 9), .agg #[.bool false, pB (φ22 9)], undef]), (fun φ22 xs22 => [[(φ1 0, .cells #[.bool bl, .pointer pl] 26), (φ1 1, .cells #[.bool br, .pointer pr] 26), (φ1 2, .cells #[.bool false, .pointer none] 26)], [(φ1 0, .cells #[.bool bl, .pointer pl] 26), (φ1 1, .cells #[.bool br, .pointer pr] 26), (φ1 2, .cells #[.bool false, pB (φ22 9)] 26)]]), (fun φ22 xs22 => [[default, default, default, default, default, default, default, default, default, .cells #[.bool bl, .pointer pl, .bool br, .pointer pr, .int .i64 ((1 + (max (T.depth l) (T.depth r)) : Nat) : Int)] 122, default, default], [default, default, default, default, default, default, default, default, default, .cells #[.bool bl, .pointer pl, .bool br, .pointer pr, .int .i64 ((1 + (max (T.depth l) (T.depth r)) : Nat) : Int)] 122, default, default]]), [11], [1, 1, 1, 3, 1, 3, 5, 5, 1, 2, 1, 4]⟩ (fun j => ([MP.any] : List MP).getD j MP.any) [3, 5] [6, 7] [] (fun φ22 xs22 => [[none, none, none, none, none, none, none, none, none, none, none, none]]) (fun φ22 xs22 => [(19, .agg #[.bool bl, .pointer pl]), (20, .agg #[.bool br, .pointer pr]), (21, .agg #[.bool bl, .pointer pl]), (22, .int .i64 (T.depth l)), (23, .agg #[.bool br, .pointer pr]), (24, .int .i64 (T.depth r)), (25, .int .i64 ((max (T.depth l) (T.depth r) : Nat) : Int)), (26, .int .i64 ((1 + (max (T.depth l) (T.depth r)) : Nat) : Int)), (27, .agg #[.bool bl, .pointer pl, .bool br, .pointer pr, .int .i64 ((1 + (max (T.depth l) (T.depth r)) : Nat) : Int)]), (28, pB (φ22 9)), (29, .agg #[.bool false, pB (φ22 9)])]) (fun φ22 xs22 => [(φ1 0, .cells #[.bool bl, .pointer pl] 26), (φ1 1, .cells #[.bool br, .pointer pr] 26), (φ1 2, .cells #[.bool false, pB (φ22 9)] 26), (φ22 9, .cells #[.bool bl, .pointer pl, .bool br, .pointer pr, .int .i64 ((1 + (max (T.depth l) (T.depth r)) : Nat) : Int)] 122)]) s trivial (by kernel_rfl) (by kernel_rfl) (fun _ _ => by kernel_rfl) (fun _ _ => by kernel_rfl) ⟨fun _ _ => by kernel_rfl, fun _ _ => by kernel_rfl, fun _ _ => by kernel_rfl, fun _ _ => by kernel_rfl⟩ (fun _ _ _ => by kernel_rfl) (fun _ _ => by kernel_rfl) (fun _ _ => by kernel_rfl) (fun _ _ => by kernel_rfl) (fun _ _ => by kernel_rfl) (fun _ _ => by kernel_rfl) ⟨kcast (A := ∀ (φ22 : Nat → Nat) (xs22 : Xs), (.int .i64 (if ((T.depth r : Nat) : Int) > ((T.depth l : Nat) : Int) then ((T.depth r : Nat) : Int) else ((T.depth l : Nat) : Int)) : Value) = .int .i64 ((max (T.depth l) (T.depth r) : Nat) : Int)) (by kernel_rfl) (fun φ22 xs22 => congrArg (Value.int .i64) ((nat_max (a := (T.depth l)) (b := (T.depth r))))), ⟨kcast (A := ∀ (φ22 : Nat → Nat) (xs22 : Xs), (.int .i64 (IntKind.wrap .i64 (((1 : Nat) : Int) + ((max (T.depth l) (T.depth r) : Nat) : Int))) : Value) = .int .i64 ((1 + (max (T.depth l) (T.depth r)) : Nat) : Int)) (by kernel_rfl) (fun φ22 xs22 => congrArg (Value.int .i64) ((nat_addI (a := 1) (b := (max (T.depth l) (T.depth r))) (by omega)))), trivial⟩⟩ trivial (by kernel_rfl) ⟨?c22_3, ?c22_5, trivial⟩ ?k22
     case c22_3 =>
      refine kcast (A := ∀ (φ22 : Nat → Nat) (xs22 : Xs) (J3_22 : IM), I17.Le J3_22 → Fun Try.prog 91 #[.agg #[.bool bl, .pointer pl]] J3_22 (fun v J' => ∃ x : UX, v = .int .i64 (T.depth l) ∧ (True))) (by kernel_rfl) ?_
      intro φ22 xs22 J3_22 leJ
      have hl := TRep.mono leJ hl
      exact Fun.mono (tdepth_c hl) (fun v J' _ h => ⟨UX.d, h, trivial⟩)
     case c22_5 =>
      refine kcast (A := ∀ (φ22 : Nat → Nat) (xs22 : Xs) (J5_22 : IM), I17.Le J5_22 → (True) → Fun Try.prog 91 #[.agg #[.bool br, .pointer pr]] J5_22 (fun v J' => ∃ x : UX, v = .int .i64 (T.depth r) ∧ (True))) (by kernel_rfl) ?_
      intro φ22 xs22 J5_22 leJ
      rintro _
      have hr := TRep.mono leJ hr
      exact Fun.mono (tdepth_c hr) (fun v J' _ h => ⟨UX.d, h, trivial⟩)
     case k22 =>
      rintro φ22 xs22 I22 w22 le22 s _ _
      replace hl := TRep.mono le22 hl
      replace hr := TRep.mono le22 hr
      refine wp_ret ?_
      refine ret_rule (C := []) [(φ1 0, .cells #[.bool bl, .pointer pl] 26), (φ1 1, .cells #[.bool br, .pointer pr] 26), (φ1 2, .cells #[.bool false, pB (φ22 9)] 26), (φ22 9, .cells #[.bool bl, .pointer pl, .bool br, .pointer pr, .int .i64 ((1 + (max (T.depth l) (T.depth r)) : Nat) : Int)] 122)] [] (.agg #[.bool false, pB (φ22 9)]) [.o 2, .o 2] [φ1 2, φ1 2] s trivial (by kernel_rfl) ?_
      obtain ⟨I23, le23, hk23, s⟩ := s.freezeAt 3 (φ22 9) (.cells #[.bool bl, .pointer pl, .bool br, .pointer pr, .int .i64 ((1 + (max (T.depth l) (T.depth r)) : Nat) : Int)] 122) [((φ1 0), .cells #[.bool bl, .pointer pl] 26), ((φ1 1), .cells #[.bool br, .pointer pr] 26), ((φ1 2), .cells #[.bool false, .pointer (some ⟨(φ22 9), 0, none⟩)] 26)] (by kernel_rfl) (by kernel_rfl)
      replace hl := TRep.mono le23 hl
      replace hr := TRep.mono le23 hr
      exact ⟨_, _, _, rfl, s, ⟨_, _, rfl, by rw [mk_node (.inr hc9) (.inr hc19)]; exact ⟨rfl, _, _, _, _, _, rfl, hk23, hl, hr⟩⟩⟩
   ·
    rw [hc15]
    refine ops_rule (C := []) _ [] 3 [] 0 (fun φ24 => [(17, .bool false), (16, undef), (15, undef)]) (fun φ24 => [(φ1 0, .cells #[.bool bl, .pointer pl] 26), (φ1 1, .cells #[.bool br, .pointer pr] 26), (φ1 2, .cells #[.bool false, .pointer none] 26)]) (fun φ24 => []) s trivial (fun φ24 => by kernel_rfl) ?_
    intro φ24 w24 s
    refine ops_done (by kernel_rfl) ?_
    refine cond_false_rule (b := false) (by kernel_rfl) rfl ?_
    refine wp_skip ?_
    refine wp_seq ?_
    refine draw_rule (C := []) ⟨(fun φ25 xs25 => [.look 0 [.o 0, .o 0] [φ1 0, φ1 0], .look 0 [.o 1, .o 1] [φ1 1, φ1 1], .look 0 [.o 0, .o 0] [φ1 0, φ1 0], .call 91 #[.agg #[.bool bl, .pointer pl]], .look 0 [.o 1, .o 1] [φ1 1, φ1 1], .call 91 #[.agg #[.bool br, .pointer pr]], .sub 0 [] [] (.int .i64 (if ((T.depth r : Nat) : Int) > ((T.depth l : Nat) : Int) then ((T.depth r : Nat) : Int) else ((T.depth l : Nat) : Int))), .sub 0 [] [] (.int .i64 (IntKind.wrap .i64 (((1 : Nat) : Int) + ((max (T.depth l) (T.depth r) : Nat) : Int)))), .look 0 [] [], .new, .look 0 [] [], .store 0 [.o 2, .o 2] [φ1 2, φ1 2]]), (fun φ25 xs25 => [.agg #[.bool bl, .pointer pl], .agg #[.bool br, .pointer pr], .agg #[.bool bl, .pointer pl], .int .i64 (T.depth l), .agg #[.bool br, .pointer pr], .int .i64 (T.depth r), .int .i64 ((max (T.depth l) (T.depth r) : Nat) : Int), .int .i64 ((1 + (max (T.depth l) (T.depth r)) : Nat) : Int), .agg #[.bool bl, .pointer pl, .bool br, .pointer pr, .int .i64 ((1 + (max (T.depth l) (T.depth r)) : Nat) : Int)], pB (φ25 9), .agg #[.bool false, pB (φ25 9)], undef]), (fun φ25 xs25 => [[(φ1 0, .cells #[.bool bl, .pointer pl] 26), (φ1 1, .cells #[.bool br, .pointer pr] 26), (φ1 2, .cells #[.bool false, .pointer none] 26)], [(φ1 0, .cells #[.bool bl, .pointer pl] 26), (φ1 1, .cells #[.bool br, .pointer pr] 26), (φ1 2, .cells #[.bool false, pB (φ25 9)] 26)]]), (fun φ25 xs25 => [[default, default, default, default, default, default, default, default, default, .cells #[.bool bl, .pointer pl, .bool br, .pointer pr, .int .i64 ((1 + (max (T.depth l) (T.depth r)) : Nat) : Int)] 122, default, default], [default, default, default, default, default, default, default, default, default, .cells #[.bool bl, .pointer pl, .bool br, .pointer pr, .int .i64 ((1 + (max (T.depth l) (T.depth r)) : Nat) : Int)] 122, default, default]]), [11], [1, 1, 1, 3, 1, 3, 5, 5, 1, 2, 1, 4]⟩ (fun j => ([MP.any] : List MP).getD j MP.any) [3, 5] [6, 7] [] (fun φ25 xs25 => [[none, none, none, none, none, none, none, none, none, none, none, none]]) (fun φ25 xs25 => [(19, .agg #[.bool bl, .pointer pl]), (20, .agg #[.bool br, .pointer pr]), (21, .agg #[.bool bl, .pointer pl]), (22, .int .i64 (T.depth l)), (23, .agg #[.bool br, .pointer pr]), (24, .int .i64 (T.depth r)), (25, .int .i64 ((max (T.depth l) (T.depth r) : Nat) : Int)), (26, .int .i64 ((1 + (max (T.depth l) (T.depth r)) : Nat) : Int)), (27, .agg #[.bool bl, .pointer pl, .bool br, .pointer pr, .int .i64 ((1 + (max (T.depth l) (T.depth r)) : Nat) : Int)]), (28, pB (φ25 9)), (29, .agg #[.bool false, pB (φ25 9)])]) (fun φ25 xs25 => [(φ1 0, .cells #[.bool bl, .pointer pl] 26), (φ1 1, .cells #[.bool br, .pointer pr] 26), (φ1 2, .cells #[.bool false, pB (φ25 9)] 26), (φ25 9, .cells #[.bool bl, .pointer pl, .bool br, .pointer pr, .int .i64 ((1 + (max (T.depth l) (T.depth r)) : Nat) : Int)] 122)]) s trivial (by kernel_rfl) (by kernel_rfl) (fun _ _ => by kernel_rfl) (fun _ _ => by kernel_rfl) ⟨fun _ _ => by kernel_rfl, fun _ _ => by kernel_rfl, fun _ _ => by kernel_rfl, fun _ _ => by kernel_rfl⟩ (fun _ _ _ => by kernel_rfl) (fun _ _ => by kernel_rfl) (fun _ _ => by kernel_rfl) (fun _ _ => by kernel_rfl) (fun _ _ => by kernel_rfl) (fun _ _ => by kernel_rfl) ⟨kcast (A := ∀ (φ25 : Nat → Nat) (xs25 : Xs), (.int .i64 (if ((T.depth r : Nat) : Int) > ((T.depth l : Nat) : Int) then ((T.depth r : Nat) : Int) else ((T.depth l : Nat) : Int)) : Value) = .int .i64 ((max (T.depth l) (T.depth r) : Nat) : Int)) (by kernel_rfl) (fun φ25 xs25 => congrArg (Value.int .i64) ((nat_max (a := (T.depth l)) (b := (T.depth r))))), ⟨kcast (A := ∀ (φ25 : Nat → Nat) (xs25 : Xs), (.int .i64 (IntKind.wrap .i64 (((1 : Nat) : Int) + ((max (T.depth l) (T.depth r) : Nat) : Int))) : Value) = .int .i64 ((1 + (max (T.depth l) (T.depth r)) : Nat) : Int)) (by kernel_rfl) (fun φ25 xs25 => congrArg (Value.int .i64) ((nat_addI (a := 1) (b := (max (T.depth l) (T.depth r))) (by omega)))), trivial⟩⟩ trivial (by kernel_rfl) ⟨?c25_3, ?c25_5, trivial⟩ ?k25
    case c25_3 =>
     refine kcast (A := ∀ (φ25 : Nat → Nat) (xs25 : Xs) (J3_25 : IM), I13.Le J3_25 → Fun Try.prog 91 #[.agg #[.bool bl, .pointer pl]] J3_25 (fun v J' => ∃ x : UX, v = .int .i64 (T.depth l) ∧ (True))) (by kernel_rfl) ?_
     intro φ25 xs25 J3_25 leJ
     have hl := TRep.mono leJ hl
     exact Fun.mono (tdepth_c hl) (fun v J' _ h => ⟨UX.d, h, trivial⟩)
    case c25_5 =>
     refine kcast (A := ∀ (φ25 : Nat → Nat) (xs25 : Xs) (J5_25 : IM), I13.Le J5_25 → (True) → Fun Try.prog 91 #[.agg #[.bool br, .pointer pr]] J5_25 (fun v J' => ∃ x : UX, v = .int .i64 (T.depth r) ∧ (True))) (by kernel_rfl) ?_
     intro φ25 xs25 J5_25 leJ
     rintro _
     have hr := TRep.mono leJ hr
     exact Fun.mono (tdepth_c hr) (fun v J' _ h => ⟨UX.d, h, trivial⟩)
    case k25 =>
     rintro φ25 xs25 I25 w25 le25 s _ _
     replace hl := TRep.mono le25 hl
     replace hr := TRep.mono le25 hr
     refine wp_ret ?_
     refine ret_rule (C := []) [(φ1 0, .cells #[.bool bl, .pointer pl] 26), (φ1 1, .cells #[.bool br, .pointer pr] 26), (φ1 2, .cells #[.bool false, pB (φ25 9)] 26), (φ25 9, .cells #[.bool bl, .pointer pl, .bool br, .pointer pr, .int .i64 ((1 + (max (T.depth l) (T.depth r)) : Nat) : Int)] 122)] [] (.agg #[.bool false, pB (φ25 9)]) [.o 2, .o 2] [φ1 2, φ1 2] s trivial (by kernel_rfl) ?_
     obtain ⟨I26, le26, hk26, s⟩ := s.freezeAt 3 (φ25 9) (.cells #[.bool bl, .pointer pl, .bool br, .pointer pr, .int .i64 ((1 + (max (T.depth l) (T.depth r)) : Nat) : Int)] 122) [((φ1 0), .cells #[.bool bl, .pointer pl] 26), ((φ1 1), .cells #[.bool br, .pointer pr] 26), ((φ1 2), .cells #[.bool false, .pointer (some ⟨(φ25 9), 0, none⟩)] 26)] (by kernel_rfl) (by kernel_rfl)
     replace hl := TRep.mono le26 hl
     replace hr := TRep.mono le26 hr
     exact ⟨_, _, _, rfl, s, ⟨_, _, rfl, by rw [mk_node (.inr hc9) (.inl hc15)]; exact ⟨rfl, _, _, _, _, _, rfl, hk26, hl, hr⟩⟩⟩
 ·
  rw [hc5]
  refine ops_rule (C := []) _ [] 3 [] 0 (fun φ27 => [(10, .bool false), (9, undef), (8, undef)]) (fun φ27 => [(φ1 0, .cells #[.bool bl, .pointer pl] 26), (φ1 1, .cells #[.bool br, .pointer pr] 26), (φ1 2, .cells #[.bool false, .pointer none] 26)]) (fun φ27 => []) s trivial (fun φ27 => by kernel_rfl) ?_
  intro φ27 w27 s
  refine ops_done (by kernel_rfl) ?_
  refine cond_false_rule (b := false) (by kernel_rfl) rfl ?_
  refine wp_skip ?_
  refine wp_seq ?_
  refine seqR ?_
  refine ops_rule (C := []) _ [] 1 [.o 0, .o 0] 0 (fun φ28 => [(12, .agg #[.bool bl, .pointer pl])]) (fun φ28 => [(φ1 0, .cells #[.bool bl, .pointer pl] 26), (φ1 1, .cells #[.bool br, .pointer pr] 26), (φ1 2, .cells #[.bool false, .pointer none] 26)]) (fun φ28 => [φ1 0, φ1 0]) s trivial (fun φ28 => by kernel_rfl) ?_
  intro φ28 w28 s
  refine call_rule (some 13) s (isOne_c hl) (by kernel_rfl) ?_
  intro v29 I29 w29 le29 h29 s
  replace hl := TRep.mono le29 hl
  replace hr := TRep.mono le29 hr
  obtain rfl := h29
  refine ops_rule (C := []) _ [] 1 [] 0 (fun φ30 => [(14, .bool (T.isOne l))]) (fun φ30 => [(φ1 0, .cells #[.bool bl, .pointer pl] 26), (φ1 1, .cells #[.bool br, .pointer pr] 26), (φ1 2, .cells #[.bool false, .pointer none] 26)]) (fun φ30 => []) s trivial (fun φ30 => by kernel_rfl) ?_
  intro φ30 w30 s
  rcases Bool.eq_false_or_eq_true (T.isOne l) with hc31 | hc31
  ·
   rw [hc31]
   refine ops_rule (C := []) _ [] 1 [.o 1, .o 1] 0 (fun φ32 => [(15, .agg #[.bool br, .pointer pr])]) (fun φ32 => [(φ1 0, .cells #[.bool bl, .pointer pl] 26), (φ1 1, .cells #[.bool br, .pointer pr] 26), (φ1 2, .cells #[.bool false, .pointer none] 26)]) (fun φ32 => [φ1 1, φ1 1]) s trivial (fun φ32 => by kernel_rfl) ?_
   intro φ32 w32 s
   refine call_rule (some 16) s (isOne_c hr) (by kernel_rfl) ?_
   intro v33 I33 w33 le33 h33 s
   replace hl := TRep.mono le33 hl
   replace hr := TRep.mono le33 hr
   obtain rfl := h33
   refine ops_rule (C := []) _ [] 1 [] 0 (fun φ34 => [(17, .bool (T.isOne r))]) (fun φ34 => [(φ1 0, .cells #[.bool bl, .pointer pl] 26), (φ1 1, .cells #[.bool br, .pointer pr] 26), (φ1 2, .cells #[.bool false, .pointer none] 26)]) (fun φ34 => []) s trivial (fun φ34 => by kernel_rfl) ?_
   intro φ34 w34 s
   refine ops_done (by kernel_rfl) ?_
   rcases Bool.eq_false_or_eq_true (T.isOne r) with hc35 | hc35
   ·
    rw [hc35]
    refine cond_true_rule (b := true) (by kernel_rfl) rfl ?_
    refine seqR ?_
    refine call_rule (some 18) s (tone_c) (by kernel_rfl) ?_
    intro v36 I36 w36 le36 h36 s
    replace hl := TRep.mono le36 hl
    replace hr := TRep.mono le36 hr
    obtain rfl := h36
    refine ops_rule (C := []) _ [] 1 [.o 2, .o 2] 0 (fun φ37 => []) (fun φ37 => [(φ1 0, .cells #[.bool bl, .pointer pl] 26), (φ1 1, .cells #[.bool br, .pointer pr] 26), (φ1 2, .cells #[.bool true, .pointer none] 26)]) (fun φ37 => [φ1 2, φ1 2]) s trivial (fun φ37 => by kernel_rfl) ?_
    intro φ37 w37 s
    refine ops_done (by kernel_rfl) ?_
    refine wp_ret ?_
    refine ret_rule (C := []) _ [] (.agg #[.bool true, .pointer none]) [.o 2, .o 2] [φ1 2, φ1 2] s trivial (by kernel_rfl) ?_
    exact ⟨_, _, _, rfl, s, ⟨_, _, rfl, by rw [mk_one hc31 hc35]; exact ⟨rfl, rfl⟩⟩⟩
   ·
    rw [hc35]
    refine cond_false_rule (b := false) (by kernel_rfl) rfl ?_
    refine wp_skip ?_
    refine wp_seq ?_
    refine draw_rule (C := []) ⟨(fun φ38 xs38 => [.look 0 [.o 0, .o 0] [φ1 0, φ1 0], .look 0 [.o 1, .o 1] [φ1 1, φ1 1], .look 0 [.o 0, .o 0] [φ1 0, φ1 0], .call 91 #[.agg #[.bool bl, .pointer pl]], .look 0 [.o 1, .o 1] [φ1 1, φ1 1], .call 91 #[.agg #[.bool br, .pointer pr]], .sub 0 [] [] (.int .i64 (if ((T.depth r : Nat) : Int) > ((T.depth l : Nat) : Int) then ((T.depth r : Nat) : Int) else ((T.depth l : Nat) : Int))), .sub 0 [] [] (.int .i64 (IntKind.wrap .i64 (((1 : Nat) : Int) + ((max (T.depth l) (T.depth r) : Nat) : Int)))), .look 0 [] [], .new, .look 0 [] [], .store 0 [.o 2, .o 2] [φ1 2, φ1 2]]), (fun φ38 xs38 => [.agg #[.bool bl, .pointer pl], .agg #[.bool br, .pointer pr], .agg #[.bool bl, .pointer pl], .int .i64 (T.depth l), .agg #[.bool br, .pointer pr], .int .i64 (T.depth r), .int .i64 ((max (T.depth l) (T.depth r) : Nat) : Int), .int .i64 ((1 + (max (T.depth l) (T.depth r)) : Nat) : Int), .agg #[.bool bl, .pointer pl, .bool br, .pointer pr, .int .i64 ((1 + (max (T.depth l) (T.depth r)) : Nat) : Int)], pB (φ38 9), .agg #[.bool false, pB (φ38 9)], undef]), (fun φ38 xs38 => [[(φ1 0, .cells #[.bool bl, .pointer pl] 26), (φ1 1, .cells #[.bool br, .pointer pr] 26), (φ1 2, .cells #[.bool false, .pointer none] 26)], [(φ1 0, .cells #[.bool bl, .pointer pl] 26), (φ1 1, .cells #[.bool br, .pointer pr] 26), (φ1 2, .cells #[.bool false, pB (φ38 9)] 26)]]), (fun φ38 xs38 => [[default, default, default, default, default, default, default, default, default, .cells #[.bool bl, .pointer pl, .bool br, .pointer pr, .int .i64 ((1 + (max (T.depth l) (T.depth r)) : Nat) : Int)] 122, default, default], [default, default, default, default, default, default, default, default, default, .cells #[.bool bl, .pointer pl, .bool br, .pointer pr, .int .i64 ((1 + (max (T.depth l) (T.depth r)) : Nat) : Int)] 122, default, default]]), [11], [1, 1, 1, 3, 1, 3, 5, 5, 1, 2, 1, 4]⟩ (fun j => ([MP.any] : List MP).getD j MP.any) [3, 5] [6, 7] [] (fun φ38 xs38 => [[none, none, none, none, none, none, none, none, none, none, none, none]]) (fun φ38 xs38 => [(19, .agg #[.bool bl, .pointer pl]), (20, .agg #[.bool br, .pointer pr]), (21, .agg #[.bool bl, .pointer pl]), (22, .int .i64 (T.depth l)), (23, .agg #[.bool br, .pointer pr]), (24, .int .i64 (T.depth r)), (25, .int .i64 ((max (T.depth l) (T.depth r) : Nat) : Int)), (26, .int .i64 ((1 + (max (T.depth l) (T.depth r)) : Nat) : Int)), (27, .agg #[.bool bl, .pointer pl, .bool br, .pointer pr, .int .i64 ((1 + (max (T.depth l) (T.depth r)) : Nat) : Int)]), (28, pB (φ38 9)), (29, .agg #[.bool false, pB (φ38 9)])]) (fun φ38 xs38 => [(φ1 0, .cells #[.bool bl, .pointer pl] 26), (φ1 1, .cells #[.bool br, .pointer pr] 26), (φ1 2, .cells #[.bool false, pB (φ38 9)] 26), (φ38 9, .cells #[.bool bl, .pointer pl, .bool br, .pointer pr, .int .i64 ((1 + (max (T.depth l) (T.depth r)) : Nat) : Int)] 122)]) s trivial (by kernel_rfl) (by kernel_rfl) (fun _ _ => by kernel_rfl) (fun _ _ => by kernel_rfl) ⟨fun _ _ => by kernel_rfl, fun _ _ => by kernel_rfl, fun _ _ => by kernel_rfl, fun _ _ => by kernel_rfl⟩ (fun _ _ _ => by kernel_rfl) (fun _ _ => by kernel_rfl) (fun _ _ => by kernel_rfl) (fun _ _ => by kernel_rfl) (fun _ _ => by kernel_rfl) (fun _ _ => by kernel_rfl) ⟨kcast (A := ∀ (φ38 : Nat → Nat) (xs38 : Xs), (.int .i64 (if ((T.depth r : Nat) : Int) > ((T.depth l : Nat) : Int) then ((T.depth r : Nat) : Int) else ((T.depth l : Nat) : Int)) : Value) = .int .i64 ((max (T.depth l) (T.depth r) : Nat) : Int)) (by kernel_rfl) (fun φ38 xs38 => congrArg (Value.int .i64) ((nat_max (a := (T.depth l)) (b := (T.depth r))))), ⟨kcast (A := ∀ (φ38 : Nat → Nat) (xs38 : Xs), (.int .i64 (IntKind.wrap .i64 (((1 : Nat) : Int) + ((max (T.depth l) (T.depth r) : Nat) : Int))) : Value) = .int .i64 ((1 + (max (T.depth l) (T.depth r)) : Nat) : Int)) (by kernel_rfl) (fun φ38 xs38 => congrArg (Value.int .i64) ((nat_addI (a := 1) (b := (max (T.depth l) (T.depth r))) (by omega)))), trivial⟩⟩ trivial (by kernel_rfl) ⟨?c38_3, ?c38_5, trivial⟩ ?k38
    case c38_3 =>
     refine kcast (A := ∀ (φ38 : Nat → Nat) (xs38 : Xs) (J3_38 : IM), I33.Le J3_38 → Fun Try.prog 91 #[.agg #[.bool bl, .pointer pl]] J3_38 (fun v J' => ∃ x : UX, v = .int .i64 (T.depth l) ∧ (True))) (by kernel_rfl) ?_
     intro φ38 xs38 J3_38 leJ
     have hl := TRep.mono leJ hl
     exact Fun.mono (tdepth_c hl) (fun v J' _ h => ⟨UX.d, h, trivial⟩)
    case c38_5 =>
     refine kcast (A := ∀ (φ38 : Nat → Nat) (xs38 : Xs) (J5_38 : IM), I33.Le J5_38 → (True) → Fun Try.prog 91 #[.agg #[.bool br, .pointer pr]] J5_38 (fun v J' => ∃ x : UX, v = .int .i64 (T.depth r) ∧ (True))) (by kernel_rfl) ?_
     intro φ38 xs38 J5_38 leJ
     rintro _
     have hr := TRep.mono leJ hr
     exact Fun.mono (tdepth_c hr) (fun v J' _ h => ⟨UX.d, h, trivial⟩)
    case k38 =>
     rintro φ38 xs38 I38 w38 le38 s _ _
     replace hl := TRep.mono le38 hl
     replace hr := TRep.mono le38 hr
     refine wp_ret ?_
     refine ret_rule (C := []) [(φ1 0, .cells #[.bool bl, .pointer pl] 26), (φ1 1, .cells #[.bool br, .pointer pr] 26), (φ1 2, .cells #[.bool false, pB (φ38 9)] 26), (φ38 9, .cells #[.bool bl, .pointer pl, .bool br, .pointer pr, .int .i64 ((1 + (max (T.depth l) (T.depth r)) : Nat) : Int)] 122)] [] (.agg #[.bool false, pB (φ38 9)]) [.o 2, .o 2] [φ1 2, φ1 2] s trivial (by kernel_rfl) ?_
     obtain ⟨I39, le39, hk39, s⟩ := s.freezeAt 3 (φ38 9) (.cells #[.bool bl, .pointer pl, .bool br, .pointer pr, .int .i64 ((1 + (max (T.depth l) (T.depth r)) : Nat) : Int)] 122) [((φ1 0), .cells #[.bool bl, .pointer pl] 26), ((φ1 1), .cells #[.bool br, .pointer pr] 26), ((φ1 2), .cells #[.bool false, .pointer (some ⟨(φ38 9), 0, none⟩)] 26)] (by kernel_rfl) (by kernel_rfl)
     replace hl := TRep.mono le39 hl
     replace hr := TRep.mono le39 hr
     exact ⟨_, _, _, rfl, s, ⟨_, _, rfl, by rw [mk_node (.inl hc5) (.inr hc35)]; exact ⟨rfl, _, _, _, _, _, rfl, hk39, hl, hr⟩⟩⟩
  ·
   rw [hc31]
   refine ops_rule (C := []) _ [] 3 [] 0 (fun φ40 => [(17, .bool false), (16, undef), (15, undef)]) (fun φ40 => [(φ1 0, .cells #[.bool bl, .pointer pl] 26), (φ1 1, .cells #[.bool br, .pointer pr] 26), (φ1 2, .cells #[.bool false, .pointer none] 26)]) (fun φ40 => []) s trivial (fun φ40 => by kernel_rfl) ?_
   intro φ40 w40 s
   refine ops_done (by kernel_rfl) ?_
   refine cond_false_rule (b := false) (by kernel_rfl) rfl ?_
   refine wp_skip ?_
   refine wp_seq ?_
   refine draw_rule (C := []) ⟨(fun φ41 xs41 => [.look 0 [.o 0, .o 0] [φ1 0, φ1 0], .look 0 [.o 1, .o 1] [φ1 1, φ1 1], .look 0 [.o 0, .o 0] [φ1 0, φ1 0], .call 91 #[.agg #[.bool bl, .pointer pl]], .look 0 [.o 1, .o 1] [φ1 1, φ1 1], .call 91 #[.agg #[.bool br, .pointer pr]], .sub 0 [] [] (.int .i64 (if ((T.depth r : Nat) : Int) > ((T.depth l : Nat) : Int) then ((T.depth r : Nat) : Int) else ((T.depth l : Nat) : Int))), .sub 0 [] [] (.int .i64 (IntKind.wrap .i64 (((1 : Nat) : Int) + ((max (T.depth l) (T.depth r) : Nat) : Int)))), .look 0 [] [], .new, .look 0 [] [], .store 0 [.o 2, .o 2] [φ1 2, φ1 2]]), (fun φ41 xs41 => [.agg #[.bool bl, .pointer pl], .agg #[.bool br, .pointer pr], .agg #[.bool bl, .pointer pl], .int .i64 (T.depth l), .agg #[.bool br, .pointer pr], .int .i64 (T.depth r), .int .i64 ((max (T.depth l) (T.depth r) : Nat) : Int), .int .i64 ((1 + (max (T.depth l) (T.depth r)) : Nat) : Int), .agg #[.bool bl, .pointer pl, .bool br, .pointer pr, .int .i64 ((1 + (max (T.depth l) (T.depth r)) : Nat) : Int)], pB (φ41 9), .agg #[.bool false, pB (φ41 9)], undef]), (fun φ41 xs41 => [[(φ1 0, .cells #[.bool bl, .pointer pl] 26), (φ1 1, .cells #[.bool br, .pointer pr] 26), (φ1 2, .cells #[.bool false, .pointer none] 26)], [(φ1 0, .cells #[.bool bl, .pointer pl] 26), (φ1 1, .cells #[.bool br, .pointer pr] 26), (φ1 2, .cells #[.bool false, pB (φ41 9)] 26)]]), (fun φ41 xs41 => [[default, default, default, default, default, default, default, default, default, .cells #[.bool bl, .pointer pl, .bool br, .pointer pr, .int .i64 ((1 + (max (T.depth l) (T.depth r)) : Nat) : Int)] 122, default, default], [default, default, default, default, default, default, default, default, default, .cells #[.bool bl, .pointer pl, .bool br, .pointer pr, .int .i64 ((1 + (max (T.depth l) (T.depth r)) : Nat) : Int)] 122, default, default]]), [11], [1, 1, 1, 3, 1, 3, 5, 5, 1, 2, 1, 4]⟩ (fun j => ([MP.any] : List MP).getD j MP.any) [3, 5] [6, 7] [] (fun φ41 xs41 => [[none, none, none, none, none, none, none, none, none, none, none, none]]) (fun φ41 xs41 => [(19, .agg #[.bool bl, .pointer pl]), (20, .agg #[.bool br, .pointer pr]), (21, .agg #[.bool bl, .pointer pl]), (22, .int .i64 (T.depth l)), (23, .agg #[.bool br, .pointer pr]), (24, .int .i64 (T.depth r)), (25, .int .i64 ((max (T.depth l) (T.depth r) : Nat) : Int)), (26, .int .i64 ((1 + (max (T.depth l) (T.depth r)) : Nat) : Int)), (27, .agg #[.bool bl, .pointer pl, .bool br, .pointer pr, .int .i64 ((1 + (max (T.depth l) (T.depth r)) : Nat) : Int)]), (28, pB (φ41 9)), (29, .agg #[.bool false, pB (φ41 9)])]) (fun φ41 xs41 => [(φ1 0, .cells #[.bool bl, .pointer pl] 26), (φ1 1, .cells #[.bool br, .pointer pr] 26), (φ1 2, .cells #[.bool false, pB (φ41 9)] 26), (φ41 9, .cells #[.bool bl, .pointer pl, .bool br, .pointer pr, .int .i64 ((1 + (max (T.depth l) (T.depth r)) : Nat) : Int)] 122)]) s trivial (by kernel_rfl) (by kernel_rfl) (fun _ _ => by kernel_rfl) (fun _ _ => by kernel_rfl) ⟨fun _ _ => by kernel_rfl, fun _ _ => by kernel_rfl, fun _ _ => by kernel_rfl, fun _ _ => by kernel_rfl⟩ (fun _ _ _ => by kernel_rfl) (fun _ _ => by kernel_rfl) (fun _ _ => by kernel_rfl) (fun _ _ => by kernel_rfl) (fun _ _ => by kernel_rfl) (fun _ _ => by kernel_rfl) ⟨kcast (A := ∀ (φ41 : Nat → Nat) (xs41 : Xs), (.int .i64 (if ((T.depth r : Nat) : Int) > ((T.depth l : Nat) : Int) then ((T.depth r : Nat) : Int) else ((T.depth l : Nat) : Int)) : Value) = .int .i64 ((max (T.depth l) (T.depth r) : Nat) : Int)) (by kernel_rfl) (fun φ41 xs41 => congrArg (Value.int .i64) ((nat_max (a := (T.depth l)) (b := (T.depth r))))), ⟨kcast (A := ∀ (φ41 : Nat → Nat) (xs41 : Xs), (.int .i64 (IntKind.wrap .i64 (((1 : Nat) : Int) + ((max (T.depth l) (T.depth r) : Nat) : Int))) : Value) = .int .i64 ((1 + (max (T.depth l) (T.depth r)) : Nat) : Int)) (by kernel_rfl) (fun φ41 xs41 => congrArg (Value.int .i64) ((nat_addI (a := 1) (b := (max (T.depth l) (T.depth r))) (by omega)))), trivial⟩⟩ trivial (by kernel_rfl) ⟨?c41_3, ?c41_5, trivial⟩ ?k41
   case c41_3 =>
    refine kcast (A := ∀ (φ41 : Nat → Nat) (xs41 : Xs) (J3_41 : IM), I29.Le J3_41 → Fun Try.prog 91 #[.agg #[.bool bl, .pointer pl]] J3_41 (fun v J' => ∃ x : UX, v = .int .i64 (T.depth l) ∧ (True))) (by kernel_rfl) ?_
    intro φ41 xs41 J3_41 leJ
    have hl := TRep.mono leJ hl
    exact Fun.mono (tdepth_c hl) (fun v J' _ h => ⟨UX.d, h, trivial⟩)
   case c41_5 =>
    refine kcast (A := ∀ (φ41 : Nat → Nat) (xs41 : Xs) (J5_41 : IM), I29.Le J5_41 → (True) → Fun Try.prog 91 #[.agg #[.bool br, .pointer pr]] J5_41 (fun v J' => ∃ x : UX, v = .int .i64 (T.depth r) ∧ (True))) (by kernel_rfl) ?_
    intro φ41 xs41 J5_41 leJ
    rintro _
    have hr := TRep.mono leJ hr
    exact Fun.mono (tdepth_c hr) (fun v J' _ h => ⟨UX.d, h, trivial⟩)
   case k41 =>
    rintro φ41 xs41 I41 w41 le41 s _ _
    replace hl := TRep.mono le41 hl
    replace hr := TRep.mono le41 hr
    refine wp_ret ?_
    refine ret_rule (C := []) [(φ1 0, .cells #[.bool bl, .pointer pl] 26), (φ1 1, .cells #[.bool br, .pointer pr] 26), (φ1 2, .cells #[.bool false, pB (φ41 9)] 26), (φ41 9, .cells #[.bool bl, .pointer pl, .bool br, .pointer pr, .int .i64 ((1 + (max (T.depth l) (T.depth r)) : Nat) : Int)] 122)] [] (.agg #[.bool false, pB (φ41 9)]) [.o 2, .o 2] [φ1 2, φ1 2] s trivial (by kernel_rfl) ?_
    obtain ⟨I42, le42, hk42, s⟩ := s.freezeAt 3 (φ41 9) (.cells #[.bool bl, .pointer pl, .bool br, .pointer pr, .int .i64 ((1 + (max (T.depth l) (T.depth r)) : Nat) : Int)] 122) [((φ1 0), .cells #[.bool bl, .pointer pl] 26), ((φ1 1), .cells #[.bool br, .pointer pr] 26), ((φ1 2), .cells #[.bool false, .pointer (some ⟨(φ41 9), 0, none⟩)] 26)] (by kernel_rfl) (by kernel_rfl)
    replace hl := TRep.mono le42 hl
    replace hr := TRep.mono le42 hr
    exact ⟨_, _, _, rfl, s, ⟨_, _, rfl, by rw [mk_node (.inl hc5) (.inl hc31)]; exact ⟨rfl, _, _, _, _, _, rfl, hk42, hl, hr⟩⟩⟩

end Go.Proofs.Ytgmigcmhnmmdkaa.Ev

/- The program's ids: cut, Split, Covers, Same, Disjoint, union, Sum, Text. -/
set_option linter.all false
set_option maxRecDepth 100000
namespace Go.Proofs.Ytgmigcmhnmmdkaa.Ev
open Go.RowKit Go.Sep

theorem T.mk_depth (l r : T) : (T.mk l r).depth ≤ 1 + max l.depth r.depth := by
  cases l <;> cases r <;> simp [T.mk, T.depth]
def cutT : T → T × T
  | .zero => (.zero, .zero)
  | .one => (T.mk .one .zero, T.mk .zero .one)
  | .node l r => if l.isZero = true then (T.mk .zero (cutT r).1, T.mk .zero (cutT r).2) else if r.isZero = true then (T.mk (cutT l).1 .zero, T.mk (cutT l).2 .zero) else (T.mk l .zero, T.mk .zero r)
def coverT : T → T → Bool
  | .one, _ => true
  | _, .zero => true
  | .zero, _ => false
  | _, .one => false
  | .node l r, .node l' r' => coverT l l' && coverT r r'
set_option maxHeartbeats 1000000 in
theorem covers_step {I : IM} {A B : T} {ba bb : Bool} {pa pb : Option Addr} (hA : TRep I A ba pa) (hB : TRep I B bb pb) (cl cr : Bool) (ihl : A.isOne = false → B.isZero = false → A.isZero = false → B.isOne = false → ∀ {J : IM} {b1 b2 : Bool} {p1 p2 : Option Addr}, TRep J A.left b1 p1 → TRep J B.left b2 p2 → Fun Try.prog 41 #[idv b1 p1, idv b2 p2] J (fun v _ => v = .bool cl)) (ihr : A.isOne = false → B.isZero = false → A.isZero = false → B.isOne = false → ∀ {J : IM} {b1 b2 : Bool} {p1 p2 : Option Addr}, TRep J A.right b1 p1 → TRep J B.right b2 p2 → Fun Try.prog 41 #[idv b1 p1, idv b2 p2] J (fun v _ => v = .bool cr)) : Fun Try.prog 41 #[idv ba pa, idv bb pb] I (fun v J => v = .bool (A.isOne || B.isZero || (!A.isZero && !B.isOne && (cl && cr)))) := by
 refine enter_rule 29 [(0, .agg #[.bool ba, .pointer pa]), (1, .agg #[.bool bb, .pointer pb])] Try.func41 rfl (by kernel_rfl) ?_
 intro w s
 refine seqR ?_
 refine ops_rule (C := []) [] [] 3 [] 2 (fun φ1 => [(4, .bool false), (3, pB (φ1 1)), (2, pB (φ1 0))]) (fun φ1 => [(φ1 0, .cells #[.bool ba, .pointer pa] 26), (φ1 1, .cells #[.bool bb, .pointer pb] 26)]) (fun φ1 => []) s trivial (fun φ1 => by kernel_rfl) ?_
 intro φ1 w1 s
 refine ops_done (by kernel_rfl) ?_
 refine wp_seq ?_
 refine seqR ?_
 refine ops_rule (C := []) _ [] 1 [.o 0, .o 0] 0 (fun φ2 => [(5, .agg #[.bool ba, .pointer pa])]) (fun φ2 => [(φ1 0, .cells #[.bool ba, .pointer pa] 26), (φ1 1, .cells #[.bool bb, .pointer pb] 26)]) (fun φ2 => [φ1 0, φ1 0]) s trivial (fun φ2 => by kernel_rfl) ?_
 intro φ2 w2 s
 refine call_rule (some 6) s (isOne_c hA) (by kernel_rfl) ?_
 intro v3 I3 w3 le3 h3 s
 replace hA := TRep.mono le3 hA
 replace hB := TRep.mono le3 hB
 obtain rfl := h3
 refine ops_rule (C := []) _ [] 1 [] 0 (fun φ4 => [(7, .bool (T.isOne A))]) (fun φ4 => [(φ1 0, .cells #[.bool ba, .pointer pa] 26), (φ1 1, .cells #[.bool bb, .pointer pb] 26)]) (fun φ4 => []) s trivial (fun φ4 => by kernel_rfl) ?_
 intro φ4 w4 s
 rcases Bool.eq_false_or_eq_true (T.isOne A) with hc5 | hc5
 ·
  rw [hc5]
  refine ops_rule (C := []) _ [] 3 [] 0 (fun φ6 => [(10, .bool true), (9, undef), (8, undef)]) (fun φ6 => [(φ1 0, .cells #[.bool ba, .pointer pa] 26), (φ1 1, .cells #[.bool bb, .pointer pb] 26)]) (fun φ6 => []) s trivial (fun φ6 => by kernel_rfl) ?_
  intro φ6 w6 s
  refine ops_done (by kernel_rfl) ?_
  refine cond_true_rule (b := true) (by kernel_rfl) rfl ?_
  refine seqR ?_
  refine ops_rule (C := []) _ [] 1 [] 0 (fun φ7 => [(4, .bool true)]) (fun φ7 => [(φ1 0, .cells #[.bool ba, .pointer pa] 26), (φ1 1, .cells #[.bool bb, .pointer pb] 26)]) (fun φ7 => []) s trivial (fun φ7 => by kernel_rfl) ?_
  intro φ7 w7 s
  refine ops_done (by kernel_rfl) ?_
  refine wp_ret ?_
  refine ret_rule (C := []) _ [] (.bool true) [] [] s trivial (by kernel_rfl) ?_
  exact ⟨_, _, _, rfl, s, (by simp [hc5])⟩
 ·
  rw [hc5]
  refine ops_rule (C := []) _ [] 1 [.o 1, .o 1] 0 (fun φ8 => [(8, .agg #[.bool bb, .pointer pb])]) (fun φ8 => [(φ1 0, .cells #[.bool ba, .pointer pa] 26), (φ1 1, .cells #[.bool bb, .pointer pb] 26)]) (fun φ8 => [φ1 1, φ1 1]) s trivial (fun φ8 => by kernel_rfl) ?_
  intro φ8 w8 s
  refine call_rule (some 9) s (isZero_c hB) (by kernel_rfl) ?_
  intro v9 I9 w9 le9 h9 s
  replace hA := TRep.mono le9 hA
  replace hB := TRep.mono le9 hB
  obtain rfl := h9
  refine ops_rule (C := []) _ [] 1 [] 0 (fun φ10 => [(10, .bool (T.isZero B))]) (fun φ10 => [(φ1 0, .cells #[.bool ba, .pointer pa] 26), (φ1 1, .cells #[.bool bb, .pointer pb] 26)]) (fun φ10 => []) s trivial (fun φ10 => by kernel_rfl) ?_
  intro φ10 w10 s
  refine ops_done (by kernel_rfl) ?_
  rcases Bool.eq_false_or_eq_true (T.isZero B) with hc11 | hc11
  ·
   rw [hc11]
   refine cond_true_rule (b := true) (by kernel_rfl) rfl ?_
   refine seqR ?_
   refine ops_rule (C := []) _ [] 1 [] 0 (fun φ12 => [(4, .bool true)]) (fun φ12 => [(φ1 0, .cells #[.bool ba, .pointer pa] 26), (φ1 1, .cells #[.bool bb, .pointer pb] 26)]) (fun φ12 => []) s trivial (fun φ12 => by kernel_rfl) ?_
   intro φ12 w12 s
   refine ops_done (by kernel_rfl) ?_
   refine wp_ret ?_
   refine ret_rule (C := []) _ [] (.bool true) [] [] s trivial (by kernel_rfl) ?_
   exact ⟨_, _, _, rfl, s, (by simp [hc5, hc11])⟩
  ·
   rw [hc11]
   refine cond_false_rule (b := false) (by kernel_rfl) rfl ?_
   refine wp_skip ?_
   refine wp_seq ?_
   refine seqR ?_
   refine ops_rule (C := []) _ [] 1 [.o 0, .o 0] 0 (fun φ13 => [(11, .agg #[.bool ba, .pointer pa])]) (fun φ13 => [(φ1 0, .cells #[.bool ba, .pointer pa] 26), (φ1 1, .cells #[.bool bb, .pointer pb] 26)]) (fun φ13 => [φ1 0, φ1 0]) s trivial (fun φ13 => by kernel_rfl) ?_
   intro φ13 w13 s
   refine call_rule (some 12) s (isZero_c hA) (by kernel_rfl) ?_
   intro v14 I14 w14 le14 h14 s
   replace hA := TRep.mono le14 hA
   replace hB := TRep.mono le14 hB
   obtain rfl := h14
   refine ops_rule (C := []) _ [] 1 [] 0 (fun φ15 => [(13, .bool (T.isZero A))]) (fun φ15 => [(φ1 0, .cells #[.bool ba, .pointer pa] 26), (φ1 1, .cells #[.bool bb, .pointer pb] 26)]) (fun φ15 => []) s trivial (fun φ15 => by kernel_rfl) ?_
   intro φ15 w15 s
   rcases Bool.eq_false_or_eq_true (T.isZero A) with hc16 | hc16
   ·
    rw [hc16]
    refine ops_rule (C := []) _ [] 3 [] 0 (fun φ17 => [(16, .bool true), (15, undef), (14, undef)]) (fun φ17 => [(φ1 0, .cells #[.bool ba, .pointer pa] 26), (φ1 1, .cells #[.bool bb, .pointer pb] 26)]) (fun φ17 => []) s trivial (fun φ17 => by kernel_rfl) ?_
    intro φ17 w17 s
    refine ops_done (by kernel_rfl) ?_
    refine cond_true_rule (b := true) (by kernel_rfl) rfl ?_
    refine seqR ?_
    refine ops_rule (C := []) _ [] 1 [] 0 (fun φ18 => [(4, .bool false)]) (fun φ18 => [(φ1 0, .cells #[.bool ba, .pointer pa] 26), (φ1 1, .cells #[.bool bb, .pointer pb] 26)]) (fun φ18 => []) s trivial (fun φ18 => by kernel_rfl) ?_
    intro φ18 w18 s
    refine ops_done (by kernel_rfl) ?_
    refine wp_ret ?_
    refine ret_rule (C := []) [(φ1 0, .cells #[.bool ba, .pointer pa] 26), (φ1 1, .cells #[.bool bb, .pointer pb] 26)] [] (.bool false) [] [] s trivial (by kernel_rfl) ?_
    exact ⟨_, _, _, rfl, s, (by simp [hc5, hc11, hc16])⟩
   ·
    rw [hc16]
    refine ops_rule (C := []) _ [] 1 [.o 1, .o 1] 0 (fun φ19 => [(14, .agg #[.bool bb, .pointer pb])]) (fun φ19 => [(φ1 0, .cells #[.bool ba, .pointer pa] 26), (φ1 1, .cells #[.bool bb, .pointer pb] 26)]) (fun φ19 => [φ1 1, φ1 1]) s trivial (fun φ19 => by kernel_rfl) ?_
    intro φ19 w19 s
    refine call_rule (some 15) s (isOne_c hB) (by kernel_rfl) ?_
    intro v20 I20 w20 le20 h20 s
    replace hA := TRep.mono le20 hA
    replace hB := TRep.mono le20 hB
    obtain rfl := h20
    refine ops_rule (C := []) _ [] 1 [] 0 (fun φ21 => [(16, .bool (T.isOne B))]) (fun φ21 => [(φ1 0, .cells #[.bool ba, .pointer pa] 26), (φ1 1, .cells #[.bool bb, .pointer pb] 26)]) (fun φ21 => []) s trivial (fun φ21 => by kernel_rfl) ?_
    intro φ21 w21 s
    refine ops_done (by kernel_rfl) ?_
    rcases Bool.eq_false_or_eq_true (T.isOne B) with hc22 | hc22
    ·
     rw [hc22]
     refine cond_true_rule (b := true) (by kernel_rfl) rfl ?_
     refine seqR ?_
     refine ops_rule (C := []) _ [] 1 [] 0 (fun φ23 => [(4, .bool false)]) (fun φ23 => [(φ1 0, .cells #[.bool ba, .pointer pa] 26), (φ1 1, .cells #[.bool bb, .pointer pb] 26)]) (fun φ23 => []) s trivial (fun φ23 => by kernel_rfl) ?_
     intro φ23 w23 s
     refine ops_done (by kernel_rfl) ?_
     refine wp_ret ?_
     refine ret_rule (C := []) [(φ1 0, .cells #[.bool ba, .pointer pa] 26), (φ1 1, .cells #[.bool bb, .pointer pb] 26)] [] (.bool false) [] [] s trivial (by kernel_rfl) ?_
     exact ⟨_, _, _, rfl, s, (by simp [hc5, hc11, hc16, hc22])⟩
    ·
     rw [hc22]
     refine cond_false_rule (b := false) (by kernel_rfl) rfl ?_
     refine wp_skip ?_
     refine wp_seq ?_
     rcases Bool.eq_false_or_eq_true (cl) with hc24 | hc24
     ·
      refine draw_rule (C := []) ⟨(fun φ25 xs25 => [.look 0 [.o 0, .o 0] [φ1 0, φ1 0], .call 55 #[.agg #[.bool ba, .pointer pa]], .look 0 [.o 1, .o 1] [φ1 1, φ1 1], .call 55 #[.agg #[.bool bb, .pointer pb]], .call 41 #[.agg #[.bool ((xs25 1).b 0), .pointer ((xs25 1).p 0)], .agg #[.bool ((xs25 3).b 0), .pointer ((xs25 3).p 0)]], .look 0 [] [], .look 0 [.o 0, .o 0] [φ1 0, φ1 0], .call 56 #[.agg #[.bool ba, .pointer pa]], .look 0 [.o 1, .o 1] [φ1 1, φ1 1], .call 56 #[.agg #[.bool bb, .pointer pb]], .call 41 #[.agg #[.bool ((xs25 7).b 0), .pointer ((xs25 7).p 0)], .agg #[.bool ((xs25 9).b 0), .pointer ((xs25 9).p 0)]], .look 0 [] [], .look 0 [] []]), (fun φ25 xs25 => [.agg #[.bool ba, .pointer pa], .agg #[.bool ((xs25 1).b 0), .pointer ((xs25 1).p 0)], .agg #[.bool bb, .pointer pb], .agg #[.bool ((xs25 3).b 0), .pointer ((xs25 3).p 0)], .bool true, .bool true, .agg #[.bool ba, .pointer pa], .agg #[.bool ((xs25 7).b 0), .pointer ((xs25 7).p 0)], .agg #[.bool bb, .pointer pb], .agg #[.bool ((xs25 9).b 0), .pointer ((xs25 9).p 0)], .bool cr, .bool cr, .bool cr]), (fun φ25 xs25 => [[(φ1 0, .cells #[.bool ba, .pointer pa] 26), (φ1 1, .cells #[.bool bb, .pointer pb] 26)]]), (fun φ25 xs25 => [[default, default, default, default, default, default, default, default, default, default, default, default, default]]), [], [1, 3, 1, 3, 3, 1, 1, 3, 1, 3, 3, 1, 1]⟩ (fun j => ([MP.any, ⟨fun x J => TRep J (T.left A) (x.b 0) (x.p 0), fun le h => TRep.mono le h⟩, MP.any, ⟨fun x J => TRep J (T.left B) (x.b 0) (x.p 0), fun le h => TRep.mono le h⟩, MP.any, MP.any, MP.any, ⟨fun x J => TRep J (T.right A) (x.b 0) (x.p 0), fun le h => TRep.mono le h⟩, MP.any, ⟨fun x J => TRep J (T.right B) (x.b 0) (x.p 0), fun le h => TRep.mono le h⟩] : List MP).getD j MP.any) [1, 3, 4, 7, 9, 10] [] [] (fun φ25 xs25 => []) (fun φ25 xs25 => [(17, .agg #[.bool ba, .pointer pa]), (18, .agg #[.bool ((xs25 1).b 0), .pointer ((xs25 1).p 0)]), (19, .agg #[.bool bb, .pointer pb]), (20, .agg #[.bool ((xs25 3).b 0), .pointer ((xs25 3).p 0)]), (21, .bool true), (22, .bool true), (23, .agg #[.bool ba, .pointer pa]), (24, .agg #[.bool ((xs25 7).b 0), .pointer ((xs25 7).p 0)]), (25, .agg #[.bool bb, .pointer pb]), (26, .agg #[.bool ((xs25 9).b 0), .pointer ((xs25 9).p 0)]), (27, .bool cr), (28, .bool cr), (4, .bool cr)]) (fun φ25 xs25 => [(φ1 0, .cells #[.bool ba, .pointer pa] 26), (φ1 1, .cells #[.bool bb, .pointer pb] 26)]) s trivial (by kernel_rfl) (by kernel_rfl) (fun _ _ => by kernel_rfl) (fun _ _ => by kernel_rfl) ⟨fun _ _ => by kernel_rfl, fun _ _ => by kernel_rfl, fun _ _ => by kernel_rfl, fun _ _ => by kernel_rfl⟩ (fun _ _ _ => by kernel_rfl) (fun _ _ => by kernel_rfl) (fun _ _ => by kernel_rfl) (fun _ _ => by kernel_rfl) (fun _ _ => by kernel_rfl) (fun _ _ => by kernel_rfl) trivial trivial (by kernel_rfl) ⟨?c25_1, ?c25_3, ?c25_4, ?c25_7, ?c25_9, ?c25_10, trivial⟩ ?k25
      case c25_1 =>
       refine kcast (A := ∀ (φ25 : Nat → Nat) (xs25 : Xs) (J1_25 : IM), I20.Le J1_25 → Fun Try.prog 55 #[.agg #[.bool ba, .pointer pa]] J1_25 (fun v J' => ∃ x : UX, v = .agg #[.bool (x.b 0), .pointer (x.p 0)] ∧ (TRep J' (T.left A) (x.b 0) (x.p 0)))) (by kernel_rfl) ?_
       intro φ25 xs25 J1_25 leJ
       have hA := TRep.mono leJ hA
       exact Fun.mono (tleft_c hA) (fun v J' _ ⟨y0, y1, hv, g0⟩ => ⟨{ UX.d with b := fun j => y0, p := fun j => y1 }, hv, g0⟩)
      case c25_3 =>
       refine kcast (A := ∀ (φ25 : Nat → Nat) (xs25 : Xs) (J3_25 : IM), I20.Le J3_25 → (TRep J3_25 (T.left A) ((xs25 1).b 0) ((xs25 1).p 0)) → Fun Try.prog 55 #[.agg #[.bool bb, .pointer pb]] J3_25 (fun v J' => ∃ x : UX, v = .agg #[.bool (x.b 0), .pointer (x.p 0)] ∧ (TRep J' (T.left B) (x.b 0) (x.p 0)))) (by kernel_rfl) ?_
       intro φ25 xs25 J3_25 leJ
       rintro h25_1_0
       have hB := TRep.mono leJ hB
       exact Fun.mono (tleft_c hB) (fun v J' _ ⟨y0, y1, hv, g0⟩ => ⟨{ UX.d with b := fun j => y0, p := fun j => y1 }, hv, g0⟩)
      case c25_4 =>
       refine kcast (A := ∀ (φ25 : Nat → Nat) (xs25 : Xs) (J4_25 : IM), I20.Le J4_25 → (TRep J4_25 (T.left A) ((xs25 1).b 0) ((xs25 1).p 0)) → (TRep J4_25 (T.left B) ((xs25 3).b 0) ((xs25 3).p 0)) → Fun Try.prog 41 #[.agg #[.bool ((xs25 1).b 0), .pointer ((xs25 1).p 0)], .agg #[.bool ((xs25 3).b 0), .pointer ((xs25 3).p 0)]] J4_25 (fun v J' => ∃ x : UX, v = .bool true ∧ (True))) (by kernel_rfl) ?_
       intro φ25 xs25 J4_25 leJ
       rintro h25_1_0 h25_3_0
       exact Fun.mono (ihl hc5 hc11 hc16 hc22 h25_1_0 h25_3_0) (fun v J' _ h => ⟨UX.d, h.trans (congrArg Value.bool hc24), trivial⟩)
      case c25_7 =>
       refine kcast (A := ∀ (φ25 : Nat → Nat) (xs25 : Xs) (J7_25 : IM), I20.Le J7_25 → (TRep J7_25 (T.left A) ((xs25 1).b 0) ((xs25 1).p 0)) → (TRep J7_25 (T.left B) ((xs25 3).b 0) ((xs25 3).p 0)) → (True) → Fun Try.prog 56 #[.agg #[.bool ba, .pointer pa]] J7_25 (fun v J' => ∃ x : UX, v = .agg #[.bool (x.b 0), .pointer (x.p 0)] ∧ (TRep J' (T.right A) (x.b 0) (x.p 0)))) (by kernel_rfl) ?_
       intro φ25 xs25 J7_25 leJ
       rintro h25_1_0 h25_3_0 _
       have hA := TRep.mono leJ hA
       exact Fun.mono (tright_c hA) (fun v J' _ ⟨y0, y1, hv, g0⟩ => ⟨{ UX.d with b := fun j => y0, p := fun j => y1 }, hv, g0⟩)
      case c25_9 =>
       refine kcast (A := ∀ (φ25 : Nat → Nat) (xs25 : Xs) (J9_25 : IM), I20.Le J9_25 → (TRep J9_25 (T.left A) ((xs25 1).b 0) ((xs25 1).p 0)) → (TRep J9_25 (T.left B) ((xs25 3).b 0) ((xs25 3).p 0)) → (True) → (TRep J9_25 (T.right A) ((xs25 7).b 0) ((xs25 7).p 0)) → Fun Try.prog 56 #[.agg #[.bool bb, .pointer pb]] J9_25 (fun v J' => ∃ x : UX, v = .agg #[.bool (x.b 0), .pointer (x.p 0)] ∧ (TRep J' (T.right B) (x.b 0) (x.p 0)))) (by kernel_rfl) ?_
       intro φ25 xs25 J9_25 leJ
       rintro h25_1_0 h25_3_0 _ h25_7_0
       have hB := TRep.mono leJ hB
       exact Fun.mono (tright_c hB) (fun v J' _ ⟨y0, y1, hv, g0⟩ => ⟨{ UX.d with b := fun j => y0, p := fun j => y1 }, hv, g0⟩)
      case c25_10 =>
       refine kcast (A := ∀ (φ25 : Nat → Nat) (xs25 : Xs) (J10_25 : IM), I20.Le J10_25 → (TRep J10_25 (T.left A) ((xs25 1).b 0) ((xs25 1).p 0)) → (TRep J10_25 (T.left B) ((xs25 3).b 0) ((xs25 3).p 0)) → (True) → (TRep J10_25 (T.right A) ((xs25 7).b 0) ((xs25 7).p 0)) → (TRep J10_25 (T.right B) ((xs25 9).b 0) ((xs25 9).p 0)) → Fun Try.prog 41 #[.agg #[.bool ((xs25 7).b 0), .pointer ((xs25 7).p 0)], .agg #[.bool ((xs25 9).b 0), .pointer ((xs25 9).p 0)]] J10_25 (fun v J' => ∃ x : UX, v = .bool cr ∧ (True))) (by kernel_rfl) ?_
       intro φ25 xs25 J10_25 leJ
       rintro h25_1_0 h25_3_0 _ h25_7_0 h25_9_0
       exact Fun.mono (ihr hc5 hc11 hc16 hc22 h25_7_0 h25_9_0) (fun v J' _ h => ⟨UX.d, h, trivial⟩)
      case k25 =>
       rintro φ25 xs25 I25 w25 le25 s h25_1_0 h25_3_0 _ h25_7_0 h25_9_0 _
       replace hA := TRep.mono le25 hA
       replace hB := TRep.mono le25 hB
       refine wp_ret ?_
       refine ret_rule (C := []) [(φ1 0, .cells #[.bool ba, .pointer pa] 26), (φ1 1, .cells #[.bool bb, .pointer pb] 26)] [] (.bool cr) [] [] s trivial (by kernel_rfl) ?_
       exact ⟨_, _, _, rfl, s, (by simp [hc5, hc11, hc16, hc22, hc24])⟩
     ·
      refine draw_rule (C := []) ⟨(fun φ26 xs26 => [.look 0 [.o 0, .o 0] [φ1 0, φ1 0], .call 55 #[.agg #[.bool ba, .pointer pa]], .look 0 [.o 1, .o 1] [φ1 1, φ1 1], .call 55 #[.agg #[.bool bb, .pointer pb]], .call 41 #[.agg #[.bool ((xs26 1).b 0), .pointer ((xs26 1).p 0)], .agg #[.bool ((xs26 3).b 0), .pointer ((xs26 3).p 0)]], .look 0 [] [], .skip, .skip, .skip, .skip, .skip, .look 0 [] [], .look 0 [] []]), (fun φ26 xs26 => [.agg #[.bool ba, .pointer pa], .agg #[.bool ((xs26 1).b 0), .pointer ((xs26 1).p 0)], .agg #[.bool bb, .pointer pb], .agg #[.bool ((xs26 3).b 0), .pointer ((xs26 3).p 0)], .bool false, .bool false, undef, undef, undef, undef, undef, .bool false, .bool false]), (fun φ26 xs26 => [[(φ1 0, .cells #[.bool ba, .pointer pa] 26), (φ1 1, .cells #[.bool bb, .pointer pb] 26)]]), (fun φ26 xs26 => [[default, default, default, default, default, default, default, default, default, default, default, default, default]]), [], [1, 3, 1, 3, 3, 1, 0, 0, 0, 0, 0, 1, 1]⟩ (fun j => ([MP.any, ⟨fun x J => TRep J (T.left A) (x.b 0) (x.p 0), fun le h => TRep.mono le h⟩, MP.any, ⟨fun x J => TRep J (T.left B) (x.b 0) (x.p 0), fun le h => TRep.mono le h⟩] : List MP).getD j MP.any) [1, 3, 4] [] [] (fun φ26 xs26 => []) (fun φ26 xs26 => [(17, .agg #[.bool ba, .pointer pa]), (18, .agg #[.bool ((xs26 1).b 0), .pointer ((xs26 1).p 0)]), (19, .agg #[.bool bb, .pointer pb]), (20, .agg #[.bool ((xs26 3).b 0), .pointer ((xs26 3).p 0)]), (21, .bool false), (22, .bool false), (23, undef), (24, undef), (25, undef), (26, undef), (27, undef), (28, .bool false), (4, .bool false)]) (fun φ26 xs26 => [(φ1 0, .cells #[.bool ba, .pointer pa] 26), (φ1 1, .cells #[.bool bb, .pointer pb] 26)]) s trivial (by kernel_rfl) (by kernel_rfl) (fun _ _ => by kernel_rfl) (fun _ _ => by kernel_rfl) ⟨fun _ _ => by kernel_rfl, fun _ _ => by kernel_rfl, fun _ _ => by kernel_rfl, fun _ _ => by kernel_rfl⟩ (fun _ _ _ => by kernel_rfl) (fun _ _ => by kernel_rfl) (fun _ _ => by kernel_rfl) (fun _ _ => by kernel_rfl) (fun _ _ => by kernel_rfl) (fun _ _ => by kernel_rfl) trivial trivial (by kernel_rfl) ⟨?c26_1, ?c26_3, ?c26_4, trivial⟩ ?k26
      case c26_1 =>
       refine kcast (A := ∀ (φ26 : Nat → Nat) (xs26 : Xs) (J1_26 : IM), I20.Le J1_26 → Fun Try.prog 55 #[.agg #[.bool ba, .pointer pa]] J1_26 (fun v J' => ∃ x : UX, v = .agg #[.bool (x.b 0), .pointer (x.p 0)] ∧ (TRep J' (T.left A) (x.b 0) (x.p 0)))) (by kernel_rfl) ?_
       intro φ26 xs26 J1_26 leJ
       have hA := TRep.mono leJ hA
       exact Fun.mono (tleft_c hA) (fun v J' _ ⟨y0, y1, hv, g0⟩ => ⟨{ UX.d with b := fun j => y0, p := fun j => y1 }, hv, g0⟩)
      case c26_3 =>
       refine kcast (A := ∀ (φ26 : Nat → Nat) (xs26 : Xs) (J3_26 : IM), I20.Le J3_26 → (TRep J3_26 (T.left A) ((xs26 1).b 0) ((xs26 1).p 0)) → Fun Try.prog 55 #[.agg #[.bool bb, .pointer pb]] J3_26 (fun v J' => ∃ x : UX, v = .agg #[.bool (x.b 0), .pointer (x.p 0)] ∧ (TRep J' (T.left B) (x.b 0) (x.p 0)))) (by kernel_rfl) ?_
       intro φ26 xs26 J3_26 leJ
       rintro h26_1_0
       have hB := TRep.mono leJ hB
       exact Fun.mono (tleft_c hB) (fun v J' _ ⟨y0, y1, hv, g0⟩ => ⟨{ UX.d with b := fun j => y0, p := fun j => y1 }, hv, g0⟩)
      case c26_4 =>
       refine kcast (A := ∀ (φ26 : Nat → Nat) (xs26 : Xs) (J4_26 : IM), I20.Le J4_26 → (TRep J4_26 (T.left A) ((xs26 1).b 0) ((xs26 1).p 0)) → (TRep J4_26 (T.left B) ((xs26 3).b 0) ((xs26 3).p 0)) → Fun Try.prog 41 #[.agg #[.bool ((xs26 1).b 0), .pointer ((xs26 1).p 0)], .agg #[.bool ((xs26 3).b 0), .pointer ((xs26 3).p 0)]] J4_26 (fun v J' => ∃ x : UX, v = .bool false ∧ (True))) (by kernel_rfl) ?_
       intro φ26 xs26 J4_26 leJ
       rintro h26_1_0 h26_3_0
       exact Fun.mono (ihl hc5 hc11 hc16 hc22 h26_1_0 h26_3_0) (fun v J' _ h => ⟨UX.d, h.trans (congrArg Value.bool hc24), trivial⟩)
      case k26 =>
       rintro φ26 xs26 I26 w26 le26 s h26_1_0 h26_3_0 _
       refine wp_ret ?_
       refine ret_rule (C := []) [(φ1 0, .cells #[.bool ba, .pointer pa] 26), (φ1 1, .cells #[.bool bb, .pointer pb] 26)] [] (.bool false) [] [] s trivial (by kernel_rfl) ?_
       exact ⟨_, _, _, rfl, s, (by simp [hc5, hc11, hc16, hc22, hc24])⟩

theorem covers_c : ∀ (A B : T) {I : IM} {ba bb : Bool} {pa pb : Option Addr}, TRep I A ba pa → TRep I B bb pb → Fun Try.prog 41 #[idv ba pa, idv bb pb] I (fun v _ => v = .bool (coverT A B))
  | .zero, B, _, _, _, _, _, hA, hB => (by cases B <;> simpa [coverT, T.isZero, T.isOne] using covers_step hA hB false false (by simp [T.isZero, T.isOne]) (by simp [T.isZero, T.isOne]))
  | .one, B, _, _, _, _, _, hA, hB => (by cases B <;> simpa [coverT, T.isZero, T.isOne] using covers_step hA hB false false (by simp [T.isZero, T.isOne]) (by simp [T.isZero, T.isOne]))
  | .node l r, .zero, _, _, _, _, _, hA, hB => (by simpa [coverT, T.isZero, T.isOne] using covers_step hA hB false false (by simp [T.isZero, T.isOne]) (by simp [T.isZero, T.isOne]))
  | .node l r, .one, _, _, _, _, _, hA, hB => (by simpa [coverT, T.isZero, T.isOne] using covers_step hA hB false false (by simp [T.isZero, T.isOne]) (by simp [T.isZero, T.isOne]))
  | .node l r, .node l' r', _, _, _, _, _, hA, hB => by
    have := covers_step hA hB (coverT l l') (coverT r r') (fun _ _ _ _ {J} {b1} {b2} {p1} {p2} k1 k2 => covers_c l l' k1 k2) (fun _ _ _ _ {J} {b1} {b2} {p1} {p2} k1 k2 => covers_c r r' k1 k2)
    simpa [coverT, T.isZero, T.isOne] using this

set_option maxHeartbeats 1000000 in
theorem idsame_c {I : IM} {A B : T} {ba bb : Bool} {pa pb : Option Addr} (hA : TRep I A ba pa) (hB : TRep I B bb pb) : Fun Try.prog 18 #[idv ba pa, idv bb pb] I (fun v J => v = .bool (coverT A B && coverT B A)) := by
 refine enter_rule 13 [(0, .agg #[.bool ba, .pointer pa]), (1, .agg #[.bool bb, .pointer pb])] Try.func18 rfl (by kernel_rfl) ?_
 intro w s
 refine seqR ?_
 refine ops_rule (C := []) [] [] 3 [] 2 (fun φ1 => [(4, .bool false), (3, pB (φ1 1)), (2, pB (φ1 0))]) (fun φ1 => [(φ1 0, .cells #[.bool ba, .pointer pa] 26), (φ1 1, .cells #[.bool bb, .pointer pb] 26)]) (fun φ1 => []) s trivial (fun φ1 => by kernel_rfl) ?_
 intro φ1 w1 s
 refine ops_done (by kernel_rfl) ?_
 refine seqR ?_
 refine ops_rule (C := []) _ [] 2 [.o 0, .o 0, .o 1, .o 1] 0 (fun φ2 => [(6, .agg #[.bool bb, .pointer pb]), (5, .agg #[.bool ba, .pointer pa])]) (fun φ2 => [(φ1 0, .cells #[.bool ba, .pointer pa] 26), (φ1 1, .cells #[.bool bb, .pointer pb] 26)]) (fun φ2 => [φ1 0, φ1 0, φ1 1, φ1 1]) s trivial (fun φ2 => by kernel_rfl) ?_
 intro φ2 w2 s
 refine call_rule (some 7) s (covers_c A B hA hB) (by kernel_rfl) ?_
 intro v3 I3 w3 le3 h3 s
 replace hA := TRep.mono le3 hA
 replace hB := TRep.mono le3 hB
 obtain rfl := h3
 refine ops_rule (C := []) _ [] 1 [] 0 (fun φ4 => [(8, .bool (coverT A B))]) (fun φ4 => [(φ1 0, .cells #[.bool ba, .pointer pa] 26), (φ1 1, .cells #[.bool bb, .pointer pb] 26)]) (fun φ4 => []) s trivial (fun φ4 => by kernel_rfl) ?_
 intro φ4 w4 s
 rcases Bool.eq_false_or_eq_true (coverT A B) with hc5 | hc5
 ·
  rw [hc5]
  refine ops_rule (C := []) _ [] 2 [.o 1, .o 1, .o 0, .o 0] 0 (fun φ6 => [(10, .agg #[.bool ba, .pointer pa]), (9, .agg #[.bool bb, .pointer pb])]) (fun φ6 => [(φ1 0, .cells #[.bool ba, .pointer pa] 26), (φ1 1, .cells #[.bool bb, .pointer pb] 26)]) (fun φ6 => [φ1 1, φ1 1, φ1 0, φ1 0]) s trivial (fun φ6 => by kernel_rfl) ?_
  intro φ6 w6 s
  refine call_rule (some 11) s (covers_c B A hB hA) (by kernel_rfl) ?_
  intro v7 I7 w7 le7 h7 s
  obtain rfl := h7
  refine ops_rule (C := []) _ [] 2 [] 0 (fun φ8 => [(4, .bool (coverT B A)), (12, .bool (coverT B A))]) (fun φ8 => [(φ1 0, .cells #[.bool ba, .pointer pa] 26), (φ1 1, .cells #[.bool bb, .pointer pb] 26)]) (fun φ8 => []) s trivial (fun φ8 => by kernel_rfl) ?_
  intro φ8 w8 s
  refine ops_done (by kernel_rfl) ?_
  refine wp_ret ?_
  refine ret_rule (C := []) _ [] (.bool (coverT B A)) [] [] s trivial (by kernel_rfl) ?_
  exact ⟨_, _, _, rfl, s, (by simp [hc5])⟩
 ·
  rw [hc5]
  refine ops_rule (C := []) _ [] 5 [] 0 (fun φ9 => [(4, .bool false), (12, .bool false), (11, undef), (10, undef), (9, undef)]) (fun φ9 => [(φ1 0, .cells #[.bool ba, .pointer pa] 26), (φ1 1, .cells #[.bool bb, .pointer pb] 26)]) (fun φ9 => []) s trivial (fun φ9 => by kernel_rfl) ?_
  intro φ9 w9 s
  refine ops_done (by kernel_rfl) ?_
  refine wp_ret ?_
  refine ret_rule (C := []) [(φ1 0, .cells #[.bool ba, .pointer pa] 26), (φ1 1, .cells #[.bool bb, .pointer pb] 26)] [] (.bool false) [] [] s trivial (by kernel_rfl) ?_
  exact ⟨_, _, _, rfl, s, (by simp [hc5])⟩

end Go.Proofs.Ytgmigcmhnmmdkaa.Ev

/- The program's ids: union, Sum, Pair, Text. -/
set_option linter.all false
set_option maxRecDepth 100000
namespace Go.Proofs.Ytgmigcmhnmmdkaa.Ev
open Go.RowKit Go.Sep

def pairT (l r : T) : T × Nat := if 16 < (T.mk l r).depth then (.zero, 3) else (T.mk l r, 0)

set_option maxHeartbeats 1000000 in
theorem pair_c {I : IM} {l r : T} {bl br : Bool} {pl pr : Option Addr} (hl : TRep I l bl pl) (hr : TRep I r br pr) (hdl : l.depth ≤ 1000) (hdr : r.depth ≤ 1000) : Fun Try.prog 72 #[idv bl pl, idv br pr] I (fun v J => ∃ b p, v = .tuple #[idv b p, .int .i64 (((pairT l r).2 : Nat) : Int)] ∧ TRep J (pairT l r).1 b p) := by
 refine enter_rule 15 [(0, .agg #[.bool bl, .pointer pl]), (1, .agg #[.bool br, .pointer pr])] Try.func72 rfl (by kernel_rfl) ?_
 intro w s
 refine seqR ?_
 refine ops_rule (C := []) [] [] 4 [] 3 (fun φ1 => [(5, .int .i64 0), (4, pB (φ1 2)), (3, pB (φ1 1)), (2, pB (φ1 0))]) (fun φ1 => [(φ1 0, .cells #[.bool bl, .pointer pl] 26), (φ1 1, .cells #[.bool br, .pointer pr] 26), (φ1 2, .cells #[.bool false, .pointer none] 26)]) (fun φ1 => []) s trivial (fun φ1 => by kernel_rfl) ?_
 intro φ1 w1 s
 refine ops_done (by kernel_rfl) ?_
 refine seqR ?_
 refine ops_rule (C := []) _ [] 2 [.o 0, .o 0, .o 1, .o 1] 0 (fun φ2 => [(8, .agg #[.bool br, .pointer pr]), (7, .agg #[.bool bl, .pointer pl])]) (fun φ2 => [(φ1 0, .cells #[.bool bl, .pointer pl] 26), (φ1 1, .cells #[.bool br, .pointer pr] 26), (φ1 2, .cells #[.bool false, .pointer none] 26)]) (fun φ2 => [φ1 0, φ1 0, φ1 1, φ1 1]) s trivial (fun φ2 => by kernel_rfl) ?_
 intro φ2 w2 s
 refine call_rule (some 9) s (merge_c hl hr (by omega) (by omega)) (by kernel_rfl) ?_
 intro v3 I3 w3 le3 h3 s
 obtain ⟨b3, p3, rfl, h3_0⟩ := h3
 refine ops_rule (C := []) _ [] 2 [.o 3, .o 3] 1 (fun φ4 => [(6, pB (φ4 0))]) (fun φ4 => [(φ1 0, .cells #[.bool bl, .pointer pl] 26), (φ1 1, .cells #[.bool br, .pointer pr] 26), (φ1 2, .cells #[.bool false, .pointer none] 26), (φ4 0, .cells #[.bool b3, .pointer p3] 26)]) (fun φ4 => [φ4 0, φ4 0]) s trivial (fun φ4 => by kernel_rfl) ?_
 intro φ4 w4 s
 refine ops_done (by kernel_rfl) ?_
 refine wp_seq ?_
 refine seqR ?_
 refine ops_rule (C := []) _ [] 1 [.o 3, .o 3] 0 (fun φ5 => [(10, .agg #[.bool b3, .pointer p3])]) (fun φ5 => [(φ1 0, .cells #[.bool bl, .pointer pl] 26), (φ1 1, .cells #[.bool br, .pointer pr] 26), (φ1 2, .cells #[.bool false, .pointer none] 26), (φ4 0, .cells #[.bool b3, .pointer p3] 26)]) (fun φ5 => [φ4 0, φ4 0]) s trivial (fun φ5 => by kernel_rfl) ?_
 intro φ5 w5 s
 refine call_rule (some 11) s (tdepth_c h3_0) (by kernel_rfl) ?_
 intro v6 I6 w6 le6 h6 s
 replace h3_0 := TRep.mono le6 h3_0
 obtain rfl := h6
 refine ops_rule (C := []) _ [] 1 [] 0 (fun φ7 => [(12, .bool (decide (((T.depth (T.mk l r) : Nat) : Int) > ((16 : Nat) : Int))))]) (fun φ7 => [(φ1 0, .cells #[.bool bl, .pointer pl] 26), (φ1 1, .cells #[.bool br, .pointer pr] 26), (φ1 2, .cells #[.bool false, .pointer none] 26), (φ4 0, .cells #[.bool b3, .pointer p3] 26)]) (fun φ7 => []) s trivial (fun φ7 => by kernel_rfl) ?_
 intro φ7 w7 s
 rw [nat_gtr (a := (T.depth (T.mk l r))) (b := 16)]
 refine ops_done (by kernel_rfl) ?_
 rcases Bool.eq_false_or_eq_true (decide (16 < (T.depth (T.mk l r)))) with hc8 | hc8
 ·
  rw [hc8]
  refine cond_true_rule (b := true) (by kernel_rfl) rfl ?_
  refine seqR ?_
  refine call_rule (some 13) s (tzero_c) (by kernel_rfl) ?_
  intro v9 I9 w9 le9 h9 s
  replace h3_0 := TRep.mono le9 h3_0
  obtain rfl := h9
  refine ops_rule (C := []) _ [] 2 [.o 2, .o 2] 0 (fun φ10 => [(5, .int .i64 3)]) (fun φ10 => [(φ1 0, .cells #[.bool bl, .pointer pl] 26), (φ1 1, .cells #[.bool br, .pointer pr] 26), (φ1 2, .cells #[.bool false, .pointer none] 26), (φ4 0, .cells #[.bool b3, .pointer p3] 26)]) (fun φ10 => [φ1 2, φ1 2]) s trivial (fun φ10 => by kernel_rfl) ?_
  intro φ10 w10 s
  refine ops_done (by kernel_rfl) ?_
  refine wp_ret ?_
  refine ret_rule (C := []) _ [] (.tuple #[.agg #[.bool false, .pointer none], .int .i64 3]) [.o 2, .o 2] [φ1 2, φ1 2] s trivial (by kernel_rfl) ?_
  exact ⟨_, _, _, rfl, s, (by rw [pairT, if_pos (of_decide_eq_true hc8)]; exact ⟨_, _, rfl, rfl, rfl⟩)⟩
 ·
  rw [hc8]
  refine cond_false_rule (b := false) (by kernel_rfl) rfl ?_
  refine wp_skip ?_
  refine seqR ?_
  refine ops_rule (C := []) _ [] 3 [.o 3, .o 3, .o 2, .o 2] 0 (fun φ11 => [(5, .int .i64 0), (14, .agg #[.bool b3, .pointer p3])]) (fun φ11 => [(φ1 0, .cells #[.bool bl, .pointer pl] 26), (φ1 1, .cells #[.bool br, .pointer pr] 26), (φ1 2, .cells #[.bool b3, .pointer p3] 26), (φ4 0, .cells #[.bool b3, .pointer p3] 26)]) (fun φ11 => [φ4 0, φ4 0, φ1 2, φ1 2]) s trivial (fun φ11 => by kernel_rfl) ?_
  intro φ11 w11 s
  refine ops_done (by kernel_rfl) ?_
  refine wp_ret ?_
  refine ret_rule (C := []) _ [] (.tuple #[.agg #[.bool b3, .pointer p3], .int .i64 0]) [.o 2, .o 2] [φ1 2, φ1 2] s trivial (by kernel_rfl) ?_
  exact ⟨_, _, _, rfl, s, (by rw [pairT, if_neg (of_decide_eq_false hc8)]; exact ⟨_, _, rfl, h3_0⟩)⟩

theorem pairOk_c {I : IM} {l r : T} {bl br : Bool} {pl pr : Option Addr} (hl : TRep I l bl pl) (hr : TRep I r br pr) (h : (T.mk l r).depth ≤ 16) (hdl : l.depth ≤ 1000) (hdr : r.depth ≤ 1000) : Fun Try.prog 72 #[idv bl pl, idv br pr] I (fun v J => ∃ b p, v = .tuple #[idv b p, .int .i64 0] ∧ TRep J (T.mk l r) b p) := by
  have h1 := pair_c hl hr hdl hdr
  rw [pairT, if_neg (by omega)] at h1; exact h1

end Go.Proofs.Ytgmigcmhnmmdkaa.Ev

/- The program's stamps: Fill, Grow, Tick, Fork, Join. -/
set_option linter.all false
set_option maxRecDepth 100000
namespace Go.Proofs.Ytgmigcmhnmmdkaa.Ev
open Go.RowKit Go.Sep

theorem T.half_depth (t : T) : t.left.depth ≤ t.depth ∧ t.right.depth ≤ t.depth := by
  cases t with
  | zero => exact ⟨Nat.le_refl _, Nat.le_refl _⟩
  | one => exact ⟨Nat.le_refl _, Nat.le_refl _⟩
  | node l r => exact ⟨show l.depth ≤ 1 + max l.depth r.depth by omega, show r.depth ≤ 1 + max l.depth r.depth by omega⟩
end Go.Proofs.Ytgmigcmhnmmdkaa.Ev

/- The program's stamps: Grow, Tick, Fork, Join. -/
set_option linter.all false
set_option maxRecDepth 100000
namespace Go.Proofs.Ytgmigcmhnmmdkaa.Ev
open Go.RowKit Go.Sep

abbrev stv (ib : Bool) (ip : Option Addr) (eb : Nat) (ep : Option Addr) : Value := .agg #[.bool ib, .pointer ip, .int .u64 ((eb : Nat) : Int), .pointer ep]
set_option maxHeartbeats 400000 in
theorem seed_c {I : IM} : Fun Try.prog 32 #[] I (fun v J => v = stv true none 0 none) := by
 refine enter_rule 3 [] Try.func32 rfl (by kernel_rfl) ?_
 intro w s
 refine seqR ?_
 refine ops_rule (C := []) [] [] 1 [] 1 (fun φ1 => [(0, pB (φ1 0))]) (fun φ1 => [(φ1 0, .cells #[.bool false, .pointer none, .int .u64 0, .pointer none] 32)]) (fun φ1 => []) s trivial (fun φ1 => by kernel_rfl) ?_
 intro φ1 w1 s
 refine ops_done (by kernel_rfl) ?_
 refine seqR ?_
 refine call_rule (some 1) s (tone_c) (by kernel_rfl) ?_
 intro v2 I2 w2 le2 h2 s
 obtain rfl := h2
 refine ops_rule (C := []) _ [] 2 [.o 0, .o 0, .o 0, .o 0] 0 (fun φ3 => [(2, .agg #[.bool true, .pointer none, .int .u64 0, .pointer none])]) (fun φ3 => [(φ1 0, .cells #[.bool true, .pointer none, .int .u64 0, .pointer none] 32)]) (fun φ3 => [φ1 0, φ1 0, φ1 0, φ1 0]) s trivial (fun φ3 => by kernel_rfl) ?_
 intro φ3 w3 s
 refine ops_done (by kernel_rfl) ?_
 refine wp_ret ?_
 refine ret_rule (C := []) _ [] (.agg #[.bool true, .pointer none, .int .u64 0, .pointer none]) [.o 0, .o 0, .o 0, .o 0] [φ1 0, φ1 0, φ1 0, φ1 0] s trivial (by kernel_rfl) ?_
 exact ⟨_, _, _, rfl, s, rfl⟩

end Go.Proofs.Ytgmigcmhnmmdkaa.Ev

/- The limits of stamps. -/
set_option linter.all false
set_option maxRecDepth 100000
namespace Go.Proofs.Ytgmigcmhnmmdkaa.Ev
open Go.RowKit Go.Sep

/-- An id with one part alone, so deep. -/
def Spine : Nat → T → Prop
  | 0, i => i = .one
  | k + 1, i => ∃ s, Spine k s ∧ (i = .node s .zero ∨ i = .node .zero s)
theorem Spine.nz : ∀ {k : Nat} {i : T}, Spine k i → i.isZero = false
  | 0, _, h => by rw [show _ = _ from h]; rfl
  | k + 1, _, ⟨s, hs, h⟩ => by rcases h with rfl | rfl <;> rfl
theorem Spine.depth : ∀ {k : Nat} {i : T}, Spine k i → i.depth = k
  | 0, _, h => by rw [show _ = _ from h]; rfl
  | k + 1, _, ⟨s, hs, h⟩ => by
    have := hs.depth
    rcases h with rfl | rfl
    · show 1 + max s.depth 0 = k + 1; omega
    · show 1 + max 0 s.depth = k + 1; omega
theorem mk_left {s : T} (h : s.isZero = false) : T.mk s .zero = .node s .zero := by cases s <;> simp_all [T.isZero, T.mk]
theorem mk_right {s : T} (h : s.isZero = false) : T.mk .zero s = .node .zero s := by cases s <;> simp_all [T.isZero, T.mk]
theorem Spine.cut : ∀ {k : Nat} {i : T}, Spine k i → Spine (k + 1) (cutT i).1 ∧ Spine (k + 1) (cutT i).2
  | 0, _, h => by
    rw [show _ = _ from h]
    exact ⟨⟨.one, rfl, .inl rfl⟩, ⟨.one, rfl, .inr rfl⟩⟩
  | k + 1, _, ⟨s, hs, h⟩ => by
    have ih := hs.cut
    have hz := hs.nz
    rcases h with rfl | rfl
    · have : cutT (.node s .zero) = (T.mk (cutT s).1 .zero, T.mk (cutT s).2 .zero) := by
        rw [cutT, if_neg (by rw [hz]; simp), if_pos (show T.zero.isZero = true from rfl)]
      rw [this, mk_left ih.1.nz, mk_left ih.2.nz]
      exact ⟨⟨_, ih.1, .inl rfl⟩, ⟨_, ih.2, .inl rfl⟩⟩
    · have : cutT (.node .zero s) = (T.mk .zero (cutT s).1, T.mk .zero (cutT s).2) := by
        rw [cutT, if_pos (show T.zero.isZero = true from rfl)]
      rw [this, mk_right ih.1.nz, mk_right ih.2.nz]
      exact ⟨⟨_, ih.1, .inr rfl⟩, ⟨_, ih.2, .inr rfl⟩⟩
end Go.Proofs.Ytgmigcmhnmmdkaa.Ev

/- The document's trees, and their texts. -/
set_option linter.all false
set_option maxRecDepth 100000
namespace Go.Proofs.Ytgmigcmhnmmdkaa.Ev
open Go.RowKit Go.Sep

def RT (I : IM) : T → Nat → Prop
  | .zero, k => I k = some (.cells #[.int .i64 0, .pointer none, .pointer none] 84)
  | .one, k => I k = some (.cells #[.int .i64 1, .pointer none, .pointer none] 84)
  | .node l r, k => ∃ kl kr, I k = some (.cells #[.int .i64 2, .pointer (some ⟨kl, 0, none⟩), .pointer (some ⟨kr, 0, none⟩)] 84) ∧ RT I l kl ∧ RT I r kr
def RE (I : IM) : E → Nat → Prop
  | .leaf n, k => I k = some (.cells #[.int .u64 ((n : Nat) : Int), .pointer none, .pointer none] 87)
  | .node n l r, k => ∃ kl kr, I k = some (.cells #[.int .u64 ((n : Nat) : Int), .pointer (some ⟨kl, 0, none⟩), .pointer (some ⟨kr, 0, none⟩)] 87) ∧ RE I l kl ∧ RE I r kr
theorem RT.mono {I J : IM} (le : I.Le J) : ∀ {t : T} {k : Nat}, RT I t k → RT J t k
  | .zero, _, h => le _ _ h
  | .one, _, h => le _ _ h
  | .node _ _, _, ⟨kl, kr, h, hl, hr⟩ => ⟨kl, kr, le _ _ h, hl.mono le, hr.mono le⟩
theorem RE.mono {I J : IM} (le : I.Le J) : ∀ {e : E} {k : Nat}, RE I e k → RE J e k
  | .leaf _, _, h => le _ _ h
  | .node _ _ _, _, ⟨kl, kr, h, hl, hr⟩ => ⟨kl, kr, le _ _ h, hl.mono le, hr.mono le⟩
end Go.Proofs.Ytgmigcmhnmmdkaa.Ev

/- The document's ids. -/
set_option linter.all false
set_option maxRecDepth 100000
namespace Go.Proofs.Ytgmigcmhnmmdkaa.Ev
open Go.RowKit Go.Sep

def kindT : T → Nat
  | .zero => 0
  | .one => 1
  | .node _ _ => 2
theorem RT.peek {I : IM} {t : T} {k : Nat} (h : RT I t k) : ∃ pl pr, I k = some (.cells #[.int .i64 ((kindT t : Nat) : Int), .pointer pl, .pointer pr] 84) := by
  cases t with
  | zero => exact ⟨_, _, h⟩
  | one => exact ⟨_, _, h⟩
  | node l r => obtain ⟨kl, kr, h, _, _⟩ := h; exact ⟨_, _, h⟩
theorem mk_same {l r : T} (h : kindT l = kindT r) (h2 : kindT l < 2) : T.mk l r = l := by
  cases l <;> cases r <;> simp_all [kindT, T.mk]
theorem mk_apart {l r : T} (h : kindT l ≠ kindT r) : T.mk l r = .node l r := by
  cases l <;> cases r <;> simp_all [kindT, T.mk]
theorem mk_deep {l r : T} (h : ¬ kindT l < 2) : T.mk l r = .node l r := by
  cases l <;> cases r <;> simp_all [kindT, T.mk]
theorem kind_zero {t : T} (h : kindT t = 0) : t = .zero := by cases t <;> simp_all [kindT]
theorem kind_nz {t : T} (h : ¬ kindT t = 0) : t.isZero = false := by cases t <;> simp_all [kindT, T.isZero]

set_option maxHeartbeats 400000 in
theorem rzero_c {I : IM} : Fun Try.prog 67 #[] I (fun v J => ∃ k, v = .pointer (some ⟨k, 0, none⟩) ∧ RT J T.zero k) := by
 refine enter_rule 3 [] Try.func67 rfl (by kernel_rfl) ?_
 intro w s
 refine seqR ?_
 refine ops_rule (C := []) [] [] 1 [] 0 (fun φ1 => [(0, .pointer none)]) (fun φ1 => []) (fun φ1 => []) s trivial (fun φ1 => by kernel_rfl) ?_
 intro φ1 w1 s
 refine ops_done (by kernel_rfl) ?_
 refine seqR ?_
 refine ops_rule (C := []) [] [] 3 [] 1 (fun φ2 => [(0, pB (φ2 0)), (2, pB (φ2 0)), (1, .agg #[.int .i64 0, .pointer none, .pointer none])]) (fun φ2 => [(φ2 0, .cells #[.int .i64 0, .pointer none, .pointer none] 84)]) (fun φ2 => []) s trivial (fun φ2 => by kernel_rfl) ?_
 intro φ2 w2 s
 refine ops_done (by kernel_rfl) ?_
 refine wp_ret ?_
 refine ret_rule (C := []) _ [] (pB (φ2 0)) [] [] s trivial (by kernel_rfl) ?_
 obtain ⟨I3, le3, hk3, s⟩ := s.freezeAt 0 (φ2 0) (.cells #[.int .i64 0, .pointer none, .pointer none] 84) [] (by kernel_rfl) (by kernel_rfl)
 exact ⟨_, _, _, rfl, s, ⟨_, rfl, hk3⟩⟩

set_option maxHeartbeats 1000000 in
theorem rpair_c {I : IM} {l r : T} {kl kr : Nat} (hl : RT I l kl) (hr : RT I r kr) : Fun Try.prog 68 #[.pointer (some ⟨kl, 0, none⟩), .pointer (some ⟨kr, 0, none⟩)] I (fun v J => ∃ k, v = .pointer (some ⟨k, 0, none⟩) ∧ RT J (T.mk l r) k) := by
 refine enter_rule 26 [(0, pB kl), (1, pB kr)] Try.func68 rfl (by kernel_rfl) ?_
 intro w s
 refine seqR ?_
 refine ops_rule (C := []) [] [] 1 [] 0 (fun φ1 => [(4, .pointer none)]) (fun φ1 => []) (fun φ1 => []) s trivial (fun φ1 => by kernel_rfl) ?_
 intro φ1 w1 s
 refine ops_done (by kernel_rfl) ?_
 refine wp_seq ?_
 refine wp_seq ?_
 rcases Bool.eq_false_or_eq_true (decide ((kindT l) = (kindT r))) with hc4 | hc4
 ·
  obtain ⟨pl5, pr5, hp5⟩ := RT.peek hl
  obtain ⟨pl6, pr6, hp6⟩ := RT.peek hr
  refine draw_rule (C := [(kl, .cells #[.int .i64 (kindT l), .pointer pl5, .pointer pr5] 84), (kr, .cells #[.int .i64 (kindT r), .pointer pl6, .pointer pr6] 84)]) ⟨(fun φ5 xs5 => [.look 0 [] [], .look 0 [] [], .look 0 [] [], .look 0 [.c 0] [kl], .look 0 [] [], .look 0 [] [], .look 0 [] [], .look 0 [.c 1] [kr], .sub 0 [] [] (.bool (((kindT l : Nat) : Int) == ((kindT r : Nat) : Int))), .look 0 [] [], .look 0 [] [], .look 0 [] [], .look 0 [] [], .look 0 [.c 0] [kl], .sub 0 [] [] (.bool (decide (((kindT l : Nat) : Int) < ((2 : Nat) : Int)))), .look 0 [] []]), (fun φ5 xs5 => [pB kl, pB kl, pB kl, .int .i64 (kindT l), pB kr, pB kr, pB kr, .int .i64 (kindT r), .bool true, .bool true, pB kl, pB kl, pB kl, .int .i64 (kindT l), .bool (decide ((kindT l) < 2)), .bool (decide ((kindT l) < 2))]), (fun φ5 xs5 => [[]]), (fun φ5 xs5 => [[default, default, default, default, default, default, default, default, default, default, default, default, default, default, default, default]]), [], [1, 1, 1, 1, 1, 1, 1, 1, 5, 1, 1, 1, 1, 1, 5, 1]⟩ (fun j => ([MP.any] : List MP).getD j MP.any) [] [8, 14] [] (fun φ5 xs5 => []) (fun φ5 xs5 => [(5, pB kl), (6, pB kl), (7, pB kl), (8, .int .i64 (kindT l)), (9, pB kr), (10, pB kr), (11, pB kr), (12, .int .i64 (kindT r)), (13, .bool true), (14, .bool true), (15, pB kl), (16, pB kl), (17, pB kl), (18, .int .i64 (kindT l)), (19, .bool (decide ((kindT l) < 2))), (20, .bool (decide ((kindT l) < 2)))]) (fun φ5 xs5 => []) s ⟨hp5, ⟨hp6, trivial⟩⟩ (by kernel_rfl) (by kernel_rfl) (fun _ _ => by kernel_rfl) (fun _ _ => by kernel_rfl) ⟨fun _ _ => by kernel_rfl, fun _ _ => by kernel_rfl, fun _ _ => by kernel_rfl, fun _ _ => by kernel_rfl⟩ (fun _ _ _ => by kernel_rfl) (fun _ _ => by kernel_rfl) (fun _ _ => by kernel_rfl) (fun _ _ => by kernel_rfl) (fun _ _ => by kernel_rfl) (fun _ _ => by kernel_rfl) ⟨kcast (A := ∀ (φ5 : Nat → Nat) (xs5 : Xs), (.bool (((kindT l : Nat) : Int) == ((kindT r : Nat) : Int)) : Value) = .bool true) (by kernel_rfl) (fun φ5 xs5 => congrArg Value.bool ((nat_eql (a := (kindT l)) (b := (kindT r))).trans (hc4))), ⟨kcast (A := ∀ (φ5 : Nat → Nat) (xs5 : Xs), (.bool (decide (((kindT l : Nat) : Int) < ((2 : Nat) : Int))) : Value) = .bool (decide ((kindT l) < 2))) (by kernel_rfl) (fun φ5 xs5 => congrArg Value.bool ((nat_lss (a := (kindT l)) (b := 2)))), trivial⟩⟩ trivial (by kernel_rfl) trivial ?k5
  case k5 =>
   rintro φ5 xs5 I5 w5 le5 s 
   replace hl := RT.mono le5 hl
   replace hr := RT.mono le5 hr
   rcases Bool.eq_false_or_eq_true (decide ((kindT l) < 2)) with hc8 | hc8
   ·
    rw [hc8]
    refine cond_true_rule (b := true) (by kernel_rfl) rfl ?_
    refine seqR ?_
    refine ops_rule (C := []) [] [] 2 [] 0 (fun φ9 => [(4, pB kl), (21, pB kl)]) (fun φ9 => []) (fun φ9 => []) s trivial (fun φ9 => by kernel_rfl) ?_
    intro φ9 w9 s
    refine ops_done (by kernel_rfl) ?_
    refine wp_ret ?_
    refine ret_rule (C := []) [] [] (pB kl) [] [] s trivial (by kernel_rfl) ?_
    exact ⟨_, _, _, rfl, s, ⟨_, rfl, by rw [mk_same (of_decide_eq_true hc4) (of_decide_eq_true hc8)]; exact hl⟩⟩
   ·
    rw [hc8]
    refine cond_false_rule (b := false) (by kernel_rfl) rfl ?_
    refine wp_skip ?_
    refine seqR ?_
    refine ops_rule (C := []) [] [] 5 [] 1 (fun φ10 => [(4, pB (φ10 0)), (25, pB (φ10 0)), (24, .agg #[.int .i64 2, pB kl, pB kr]), (23, pB kr), (22, pB kl)]) (fun φ10 => [(φ10 0, .cells #[.int .i64 2, pB kl, pB kr] 84)]) (fun φ10 => []) s trivial (fun φ10 => by kernel_rfl) ?_
    intro φ10 w10 s
    refine ops_done (by kernel_rfl) ?_
    refine wp_ret ?_
    refine ret_rule (C := []) _ [] (pB (φ10 0)) [] [] s trivial (by kernel_rfl) ?_
    obtain ⟨I11, le11, hk11, s⟩ := s.freezeAt 0 (φ10 0) (.cells #[.int .i64 2, .pointer (some ⟨kl, 0, none⟩), .pointer (some ⟨kr, 0, none⟩)] 84) [] (by kernel_rfl) (by kernel_rfl)
    replace hl := RT.mono le11 hl
    replace hr := RT.mono le11 hr
    exact ⟨_, _, _, rfl, s, ⟨_, rfl, by rw [mk_deep (of_decide_eq_false hc8)]; exact ⟨_, _, hk11, hl, hr⟩⟩⟩
 ·
  obtain ⟨pl12, pr12, hp12⟩ := RT.peek hl
  obtain ⟨pl13, pr13, hp13⟩ := RT.peek hr
  refine draw_rule (C := [(kl, .cells #[.int .i64 (kindT l), .pointer pl12, .pointer pr12] 84), (kr, .cells #[.int .i64 (kindT r), .pointer pl13, .pointer pr13] 84)]) ⟨(fun φ12 xs12 => [.look 0 [] [], .look 0 [] [], .look 0 [] [], .look 0 [.c 0] [kl], .look 0 [] [], .look 0 [] [], .look 0 [] [], .look 0 [.c 1] [kr], .sub 0 [] [] (.bool (((kindT l : Nat) : Int) == ((kindT r : Nat) : Int))), .look 0 [] [], .skip, .skip, .skip, .skip, .skip, .look 0 [] []]), (fun φ12 xs12 => [pB kl, pB kl, pB kl, .int .i64 (kindT l), pB kr, pB kr, pB kr, .int .i64 (kindT r), .bool false, .bool false, undef, undef, undef, undef, undef, .bool false]), (fun φ12 xs12 => [[]]), (fun φ12 xs12 => [[default, default, default, default, default, default, default, default, default, default, default, default, default, default, default, default]]), [], [1, 1, 1, 1, 1, 1, 1, 1, 5, 1, 0, 0, 0, 0, 0, 1]⟩ (fun j => ([MP.any] : List MP).getD j MP.any) [] [8] [] (fun φ12 xs12 => []) (fun φ12 xs12 => [(5, pB kl), (6, pB kl), (7, pB kl), (8, .int .i64 (kindT l)), (9, pB kr), (10, pB kr), (11, pB kr), (12, .int .i64 (kindT r)), (13, .bool false), (14, .bool false), (15, undef), (16, undef), (17, undef), (18, undef), (19, undef), (20, .bool false)]) (fun φ12 xs12 => []) s ⟨hp12, ⟨hp13, trivial⟩⟩ (by kernel_rfl) (by kernel_rfl) (fun _ _ => by kernel_rfl) (fun _ _ => by kernel_rfl) ⟨fun _ _ => by kernel_rfl, fun _ _ => by kernel_rfl, fun _ _ => by kernel_rfl, fun _ _ => by kernel_rfl⟩ (fun _ _ _ => by kernel_rfl) (fun _ _ => by kernel_rfl) (fun _ _ => by kernel_rfl) (fun _ _ => by kernel_rfl) (fun _ _ => by kernel_rfl) (fun _ _ => by kernel_rfl) ⟨kcast (A := ∀ (φ12 : Nat → Nat) (xs12 : Xs), (.bool (((kindT l : Nat) : Int) == ((kindT r : Nat) : Int)) : Value) = .bool false) (by kernel_rfl) (fun φ12 xs12 => congrArg Value.bool ((nat_eql (a := (kindT l)) (b := (kindT r))).trans (hc4))), trivial⟩ trivial (by kernel_rfl) trivial ?k12
  case k12 =>
   rintro φ12 xs12 I12 w12 le12 s 
   replace hl := RT.mono le12 hl
   replace hr := RT.mono le12 hr
   refine cond_false_rule (b := false) (by kernel_rfl) rfl ?_
   refine wp_skip ?_
   refine seqR ?_
   refine ops_rule (C := []) [] [] 5 [] 1 (fun φ15 => [(4, pB (φ15 0)), (25, pB (φ15 0)), (24, .agg #[.int .i64 2, pB kl, pB kr]), (23, pB kr), (22, pB kl)]) (fun φ15 => [(φ15 0, .cells #[.int .i64 2, pB kl, pB kr] 84)]) (fun φ15 => []) s trivial (fun φ15 => by kernel_rfl) ?_
   intro φ15 w15 s
   refine ops_done (by kernel_rfl) ?_
   refine wp_ret ?_
   refine ret_rule (C := []) _ [] (pB (φ15 0)) [] [] s trivial (by kernel_rfl) ?_
   obtain ⟨I16, le16, hk16, s⟩ := s.freezeAt 0 (φ15 0) (.cells #[.int .i64 2, .pointer (some ⟨kl, 0, none⟩), .pointer (some ⟨kr, 0, none⟩)] 84) [] (by kernel_rfl) (by kernel_rfl)
   replace hl := RT.mono le16 hl
   replace hr := RT.mono le16 hr
   exact ⟨_, _, _, rfl, s, ⟨_, rfl, by rw [mk_apart (of_decide_eq_false hc4)]; exact ⟨_, _, hk16, hl, hr⟩⟩⟩

end Go.Proofs.Ytgmigcmhnmmdkaa.Ev

/- The document's events; to the program's own. -/
set_option linter.all false
set_option maxRecDepth 100000
namespace Go.Proofs.Ytgmigcmhnmmdkaa.Ev
open Go.RowKit Go.Sep

def T.nf : T → Prop
  | .node l r => l.nf ∧ r.nf ∧ T.mk l r = .node l r
  | _ => True
theorem T.nf_mk {l r : T} (hl : l.nf) (hr : r.nf) : (T.mk l r).nf := by
  have hn : ∀ {a b : T}, T.mk a b = .node a b → a.nf → b.nf → (T.mk a b).nf := fun {a b} h ha hb => by rw [h]; exact ⟨ha, hb, h⟩
  cases l with
  | zero => cases r with
    | zero => trivial
    | one => exact hn rfl hl hr
    | node _ _ => exact hn rfl hl hr
  | one => cases r with
    | zero => exact hn rfl hl hr
    | one => trivial
    | node _ _ => exact hn rfl hl hr
  | node _ _ => exact hn rfl hl hr
def E.nf : E → Prop
  | .node n l r => l.nf ∧ r.nf ∧ E.mk n l r = .node n l r
  | _ => True
def E.minE : E → Nat
  | .leaf n => n
  | .node n l r => n + min l.minE r.minE
theorem E.minE_le : ∀ e : E, e.minE ≤ e.top
  | .leaf n => Nat.le_refl n
  | .node n l r => by
    have := E.minE_le l
    have := E.minE_le r
    show n + min l.minE r.minE ≤ n + max l.top r.top
    omega
theorem E.mk_iff {n : Nat} {l r : E} : E.mk n l r = .node n l r ↔ ¬ (l.isLeaf = true ∧ r.isLeaf = true ∧ l.base = r.base) ∧ min l.base r.base = 0 := by
  unfold E.mk
  constructor
  · intro h
    split at h
    · cases h
    · rename_i hc
      refine ⟨hc, ?_⟩
      have : n + min l.base r.base = n := congrArg E.base h
      omega
  · rintro ⟨hc, hm⟩
    have hdn : ∀ e : E, E.dn 0 e = e := fun e => by cases e <;> rfl
    rw [if_neg hc, hm, hdn, hdn]; rfl
theorem E.min_base : ∀ {e : E}, e.nf → e.minE = e.base
  | .leaf n, _ => rfl
  | .node n l r, ⟨hl, hr, h⟩ => by
    have := (E.mk_iff.1 h).2
    show n + min l.minE r.minE = n
    rw [E.min_base hl, E.min_base hr]; omega
theorem E.dn_nf {m : Nat} {e : E} (h : e.nf) : (E.dn m e).nf := by
  cases e with
  | leaf n => trivial
  | node n l r => exact ⟨h.1, h.2.1, E.mk_iff.2 (E.mk_iff.1 h.2.2)⟩
theorem E.dn_base (m : Nat) (e : E) : (E.dn m e).base = e.base - m := by cases e <;> rfl
theorem E.dn_leaf (m : Nat) (e : E) : (E.dn m e).isLeaf = e.isLeaf := by cases e <;> rfl
theorem E.nf_mk {n : Nat} {l r : E} (hl : l.nf) (hr : r.nf) : (E.mk n l r).nf := by
  have e : E.mk n l r = if l.isLeaf = true ∧ r.isLeaf = true ∧ l.base = r.base then .leaf (n + l.base) else .node (n + min l.base r.base) (E.dn (min l.base r.base) l) (E.dn (min l.base r.base) r) := rfl
  rw [e]
  split
  · trivial
  · rename_i hc
    refine ⟨E.dn_nf hl, E.dn_nf hr, E.mk_iff.2 ⟨?_, ?_⟩⟩
    · rintro ⟨h1, h2, h3⟩
      rw [E.dn_leaf] at h1 h2
      rw [E.dn_base, E.dn_base] at h3
      exact hc ⟨h1, h2, by omega⟩
    · rw [E.dn_base, E.dn_base]; omega

set_option maxHeartbeats 2000000 in
theorem own_step {I : IM} {t : T} {k : Nat} (h : RT I t k) (hnf : t.nf) (hd : t.depth ≤ 16) (ih : ∀ l r, t = .node l r → (∀ {J : IM} {k : Nat}, RT J l k → Fun Try.prog 35 #[.pointer (some ⟨k, 0, none⟩)] J (fun v J => ∃ b p, v = idv b p ∧ TRep J l b p)) ∧ (∀ {J : IM} {k : Nat}, RT J r k → Fun Try.prog 35 #[.pointer (some ⟨k, 0, none⟩)] J (fun v J => ∃ b p, v = idv b p ∧ TRep J r b p))) : Fun Try.prog 35 #[.pointer (some ⟨k, 0, none⟩)] I (fun v J => ∃ b p, v = idv b p ∧ TRep J t b p) := by
 cases t with
 | zero =>
  have hz : RT _ T.zero k := h
  refine enter_rule 30 [(0, pB k)] Try.func35 rfl (by kernel_rfl) ?_
  intro w s
  refine seqR ?_
  refine ops_rule (C := []) [] [] 1 [] 1 (fun φ1 => [(2, pB (φ1 0))]) (fun φ1 => [(φ1 0, .cells #[.bool false, .pointer none] 26)]) (fun φ1 => []) s trivial (fun φ1 => by kernel_rfl) ?_
  intro φ1 w1 s
  refine ops_done (by kernel_rfl) ?_
  refine wp_seq ?_
  refine seqR ?_
  refine ops_rule (C := [(k, .cells #[.int .i64 0, .pointer none, .pointer none] 84)]) _ [] 4 [.c 0] 0 (fun φ2 => [(8, .int .i64 0), (7, pB k), (6, pB k), (5, pB k)]) (fun φ2 => [(φ1 0, .cells #[.bool false, .pointer none] 26)]) (fun φ2 => [k]) s ⟨h, trivial⟩ (fun φ2 => by kernel_rfl) ?_
  intro φ2 w2 s
  refine ops_done (by kernel_rfl) ?_
  refine wp_block ?_
  refine seqR ?_
  refine ops_rule (C := []) _ [] 2 [] 0 (fun φ3 => [(9, .bool true), (10, .bool true)]) (fun φ3 => [(φ1 0, .cells #[.bool false, .pointer none] 26)]) (fun φ3 => []) s trivial (fun φ3 => by kernel_rfl) ?_
  intro φ3 w3 s
  refine ops_done (by kernel_rfl) ?_
  refine cond_true_rule (b := true) (by kernel_rfl) rfl ?_
  refine seqR ?_
  refine call_rule (some 11) s (tzero_c) (by kernel_rfl) ?_
  intro v4 I4 w4 le4 h4 s
  replace hz := RT.mono le4 hz
  replace h := le4 _ _ h
  obtain rfl := h4
  refine ops_rule (C := []) _ [] 1 [.o 0, .o 0] 0 (fun φ5 => []) (fun φ5 => [(φ1 0, .cells #[.bool false, .pointer none] 26)]) (fun φ5 => [φ1 0, φ1 0]) s trivial (fun φ5 => by kernel_rfl) ?_
  intro φ5 w5 s
  refine ops_done (by kernel_rfl) ?_
  refine wp_ret ?_
  refine ret_rule (C := []) _ [] (.agg #[.bool false, .pointer none]) [.o 0, .o 0] [φ1 0, φ1 0] s trivial (by kernel_rfl) ?_
  exact ⟨_, _, _, rfl, s, ⟨_, _, rfl, rfl, rfl⟩⟩
 | one =>
  have hz : RT _ T.one k := h
  refine enter_rule 30 [(0, pB k)] Try.func35 rfl (by kernel_rfl) ?_
  intro w s
  refine seqR ?_
  refine ops_rule (C := []) [] [] 1 [] 1 (fun φ1 => [(2, pB (φ1 0))]) (fun φ1 => [(φ1 0, .cells #[.bool false, .pointer none] 26)]) (fun φ1 => []) s trivial (fun φ1 => by kernel_rfl) ?_
  intro φ1 w1 s
  refine ops_done (by kernel_rfl) ?_
  refine wp_seq ?_
  refine seqR ?_
  refine ops_rule (C := [(k, .cells #[.int .i64 1, .pointer none, .pointer none] 84)]) _ [] 4 [.c 0] 0 (fun φ2 => [(8, .int .i64 1), (7, pB k), (6, pB k), (5, pB k)]) (fun φ2 => [(φ1 0, .cells #[.bool false, .pointer none] 26)]) (fun φ2 => [k]) s ⟨h, trivial⟩ (fun φ2 => by kernel_rfl) ?_
  intro φ2 w2 s
  refine ops_done (by kernel_rfl) ?_
  refine wp_block ?_
  refine seqR ?_
  refine ops_rule (C := []) _ [] 2 [] 0 (fun φ3 => [(9, .bool false), (10, .bool false)]) (fun φ3 => [(φ1 0, .cells #[.bool false, .pointer none] 26)]) (fun φ3 => []) s trivial (fun φ3 => by kernel_rfl) ?_
  intro φ3 w3 s
  refine ops_done (by kernel_rfl) ?_
  refine cond_false_rule (b := false) (by kernel_rfl) rfl ?_
  refine seqR ?_
  refine ops_rule (C := []) _ [] 2 [] 0 (fun φ4 => [(12, .bool true), (13, .bool true)]) (fun φ4 => [(φ1 0, .cells #[.bool false, .pointer none] 26)]) (fun φ4 => []) s trivial (fun φ4 => by kernel_rfl) ?_
  intro φ4 w4 s
  refine ops_done (by kernel_rfl) ?_
  refine cond_true_rule (b := true) (by kernel_rfl) rfl ?_
  refine seqR ?_
  refine call_rule (some 14) s (tone_c) (by kernel_rfl) ?_
  intro v5 I5 w5 le5 h5 s
  replace h := le5 _ _ h
  obtain rfl := h5
  refine ops_rule (C := []) _ [] 1 [.o 0, .o 0] 0 (fun φ6 => []) (fun φ6 => [(φ1 0, .cells #[.bool true, .pointer none] 26)]) (fun φ6 => [φ1 0, φ1 0]) s trivial (fun φ6 => by kernel_rfl) ?_
  intro φ6 w6 s
  refine ops_done (by kernel_rfl) ?_
  refine wp_ret ?_
  refine ret_rule (C := []) _ [] (.agg #[.bool true, .pointer none]) [.o 0, .o 0] [φ1 0, φ1 0] s trivial (by kernel_rfl) ?_
  exact ⟨_, _, _, rfl, s, ⟨_, _, rfl, rfl, rfl⟩⟩
 | node l r =>
  obtain ⟨kl, kr, hk, hl, hr⟩ := h
  obtain ⟨ihl, ihr⟩ := ih l r rfl
  clear ih
  have hd1 : 1 + max l.depth r.depth ≤ 16 := hd
  refine enter_rule 30 [(0, pB k)] Try.func35 rfl (by kernel_rfl) ?_
  intro w s
  refine seqR ?_
  refine ops_rule (C := []) [] [] 1 [] 1 (fun φ1 => [(2, pB (φ1 0))]) (fun φ1 => [(φ1 0, .cells #[.bool false, .pointer none] 26)]) (fun φ1 => []) s trivial (fun φ1 => by kernel_rfl) ?_
  intro φ1 w1 s
  refine ops_done (by kernel_rfl) ?_
  refine wp_seq ?_
  refine seqR ?_
  refine ops_rule (C := [(k, .cells #[.int .i64 2, pB kl, pB kr] 84)]) _ [] 4 [.c 0] 0 (fun φ2 => [(8, .int .i64 2), (7, pB k), (6, pB k), (5, pB k)]) (fun φ2 => [(φ1 0, .cells #[.bool false, .pointer none] 26)]) (fun φ2 => [k]) s ⟨hk, trivial⟩ (fun φ2 => by kernel_rfl) ?_
  intro φ2 w2 s
  refine ops_done (by kernel_rfl) ?_
  refine wp_block ?_
  refine seqR ?_
  refine ops_rule (C := []) _ [] 2 [] 0 (fun φ3 => [(9, .bool false), (10, .bool false)]) (fun φ3 => [(φ1 0, .cells #[.bool false, .pointer none] 26)]) (fun φ3 => []) s trivial (fun φ3 => by kernel_rfl) ?_
  intro φ3 w3 s
  refine ops_done (by kernel_rfl) ?_
  refine cond_false_rule (b := false) (by kernel_rfl) rfl ?_
  refine seqR ?_
  refine ops_rule (C := []) _ [] 2 [] 0 (fun φ4 => [(12, .bool false), (13, .bool false)]) (fun φ4 => [(φ1 0, .cells #[.bool false, .pointer none] 26)]) (fun φ4 => []) s trivial (fun φ4 => by kernel_rfl) ?_
  intro φ4 w4 s
  refine ops_done (by kernel_rfl) ?_
  refine cond_false_rule (b := false) (by kernel_rfl) rfl ?_
  refine wp_skip ?_
  refine wp_seq ?_
  refine draw_rule (C := [(k, .cells #[.int .i64 2, pB kl, pB kr] 84)]) ⟨(fun φ5 xs5 => [.look 0 [] [], .look 0 [] [], .look 0 [] [], .look 0 [.c 0] [k], .call 35 #[pB kl], .look 0 [] [], .look 0 [] [], .look 0 [] [], .look 0 [.c 0] [k], .call 35 #[pB kr], .call 72 #[.agg #[.bool ((xs5 4).b 0), .pointer ((xs5 4).p 0)], .agg #[.bool ((xs5 9).b 0), .pointer ((xs5 9).p 0)]], .look 0 [] [], .look 0 [] [], .look 0 [] [], .new, .store 0 [.o 1, .o 1] [φ5 14, φ5 14], .look 1 [] []]), (fun φ5 xs5 => [pB k, pB k, .pointer (some ⟨k, 1, none⟩), pB kl, .agg #[.bool ((xs5 4).b 0), .pointer ((xs5 4).p 0)], pB k, pB k, .pointer (some ⟨k, 2, none⟩), pB kr, .agg #[.bool ((xs5 9).b 0), .pointer ((xs5 9).p 0)], .tuple #[.agg #[.bool ((xs5 10).b 0), .pointer ((xs5 10).p 0)], .int .i64 0], .tuple #[.agg #[.bool ((xs5 10).b 0), .pointer ((xs5 10).p 0)], .int .i64 0], .agg #[.bool ((xs5 10).b 0), .pointer ((xs5 10).p 0)], .int .i64 0, pB (φ5 14), undef, .int .i64 0]), (fun φ5 xs5 => [[(φ1 0, .cells #[.bool false, .pointer none] 26)], [(φ1 0, .cells #[.bool false, .pointer none] 26)]]), (fun φ5 xs5 => [[default, default, default, default, default, default, default, default, default, default, default, default, default, default, .cells #[.bool false, .pointer none] 26, default, default], [default, default, default, default, default, default, default, default, default, default, default, default, default, default, .cells #[.bool ((xs5 10).b 0), .pointer ((xs5 10).p 0)] 26, default, default]]), [15], [1, 1, 1, 1, 3, 1, 1, 1, 1, 3, 3, 1, 1, 1, 2, 4, 1]⟩ (fun j => ([MP.any, MP.any, MP.any, MP.any, ⟨fun x J => TRep J l (x.b 0) (x.p 0), fun le h => TRep.mono le h⟩, MP.any, MP.any, MP.any, MP.any, ⟨fun x J => TRep J r (x.b 0) (x.p 0), fun le h => TRep.mono le h⟩, ⟨fun x J => TRep J (T.mk l r) (x.b 0) (x.p 0), fun le h => TRep.mono le h⟩] : List MP).getD j MP.any) [4, 9, 10] [] [] (fun φ5 xs5 => [[none, none, none, none, none, none, none, none, none, none, none, none, none, none, none, none, none]]) (fun φ5 xs5 => [(16, pB k), (17, pB k), (18, .pointer (some ⟨k, 1, none⟩)), (19, pB kl), (20, .agg #[.bool ((xs5 4).b 0), .pointer ((xs5 4).p 0)]), (21, pB k), (22, pB k), (23, .pointer (some ⟨k, 2, none⟩)), (24, pB kr), (25, .agg #[.bool ((xs5 9).b 0), .pointer ((xs5 9).p 0)]), (26, .tuple #[.agg #[.bool ((xs5 10).b 0), .pointer ((xs5 10).p 0)], .int .i64 0]), (15, .tuple #[.agg #[.bool ((xs5 10).b 0), .pointer ((xs5 10).p 0)], .int .i64 0]), (27, .agg #[.bool ((xs5 10).b 0), .pointer ((xs5 10).p 0)]), (28, .int .i64 0), (3, pB (φ5 14)), (4, .int .i64 0)]) (fun φ5 xs5 => [(φ1 0, .cells #[.bool false, .pointer none] 26), (φ5 14, .cells #[.bool ((xs5 10).b 0), .pointer ((xs5 10).p 0)] 26)]) s ⟨hk, trivial⟩ (by kernel_rfl) (by kernel_rfl) (fun _ _ => by kernel_rfl) (fun _ _ => by kernel_rfl) ⟨fun _ _ => by kernel_rfl, fun _ _ => by kernel_rfl, fun _ _ => by kernel_rfl, fun _ _ => by kernel_rfl⟩ (fun _ _ _ => by kernel_rfl) (fun _ _ => by kernel_rfl) (fun _ _ => by kernel_rfl) (fun _ _ => by kernel_rfl) (fun _ _ => by kernel_rfl) (fun _ _ => by kernel_rfl) trivial trivial (by kernel_rfl) ⟨?c5_4, ?c5_9, ?c5_10, trivial⟩ ?k5
  case c5_4 =>
   refine kcast (A := ∀ (φ5 : Nat → Nat) (xs5 : Xs) (J4_5 : IM), I.Le J4_5 → Fun Try.prog 35 #[pB kl] J4_5 (fun v J' => ∃ x : UX, v = .agg #[.bool (x.b 0), .pointer (x.p 0)] ∧ (TRep J' l (x.b 0) (x.p 0)))) (by kernel_rfl) ?_
   intro φ5 xs5 J4_5 leJ
   have hl := RT.mono leJ hl
   exact Fun.mono (ihl hl) (fun v J' _ ⟨y0, y1, hv, g0⟩ => ⟨{ UX.d with b := fun j => y0, p := fun j => y1 }, hv, g0⟩)
  case c5_9 =>
   refine kcast (A := ∀ (φ5 : Nat → Nat) (xs5 : Xs) (J9_5 : IM), I.Le J9_5 → (TRep J9_5 l ((xs5 4).b 0) ((xs5 4).p 0)) → Fun Try.prog 35 #[pB kr] J9_5 (fun v J' => ∃ x : UX, v = .agg #[.bool (x.b 0), .pointer (x.p 0)] ∧ (TRep J' r (x.b 0) (x.p 0)))) (by kernel_rfl) ?_
   intro φ5 xs5 J9_5 leJ
   rintro h5_4_0
   have hr := RT.mono leJ hr
   exact Fun.mono (ihr hr) (fun v J' _ ⟨y0, y1, hv, g0⟩ => ⟨{ UX.d with b := fun j => y0, p := fun j => y1 }, hv, g0⟩)
  case c5_10 =>
   refine kcast (A := ∀ (φ5 : Nat → Nat) (xs5 : Xs) (J10_5 : IM), I.Le J10_5 → (TRep J10_5 l ((xs5 4).b 0) ((xs5 4).p 0)) → (TRep J10_5 r ((xs5 9).b 0) ((xs5 9).p 0)) → Fun Try.prog 72 #[.agg #[.bool ((xs5 4).b 0), .pointer ((xs5 4).p 0)], .agg #[.bool ((xs5 9).b 0), .pointer ((xs5 9).p 0)]] J10_5 (fun v J' => ∃ x : UX, v = .tuple #[.agg #[.bool (x.b 0), .pointer (x.p 0)], .int .i64 0] ∧ (TRep J' (T.mk l r) (x.b 0) (x.p 0)))) (by kernel_rfl) ?_
   intro φ5 xs5 J10_5 leJ
   rintro h5_4_0 h5_9_0
   exact Fun.mono (pairOk_c h5_4_0 h5_9_0 (by first | omega | (rw [hnf.2.2]; exact hd)) (by first | omega | (rw [hnf.2.2]; exact hd)) (by first | omega | (rw [hnf.2.2]; exact hd))) (fun v J' _ ⟨y0, y1, hv, g0⟩ => ⟨{ UX.d with b := fun j => y0, p := fun j => y1 }, hv, g0⟩)
  case k5 =>
   rintro φ5 xs5 I5 w5 le5 s h5_4_0 h5_9_0 h5_10_0
   refine seqR ?_
   refine ops_rule (C := []) [(φ1 0, .cells #[.bool false, .pointer none] 26), (φ5 14, .cells #[.bool ((xs5 10).b 0), .pointer ((xs5 10).p 0)] 26)] [] 2 [.o 1, .o 1, .o 0, .o 0] 0 (fun φ6 => [(29, .agg #[.bool ((xs5 10).b 0), .pointer ((xs5 10).p 0)])]) (fun φ6 => [(φ1 0, .cells #[.bool ((xs5 10).b 0), .pointer ((xs5 10).p 0)] 26), (φ5 14, .cells #[.bool ((xs5 10).b 0), .pointer ((xs5 10).p 0)] 26)]) (fun φ6 => [φ5 14, φ5 14, φ1 0, φ1 0]) s trivial (fun φ6 => by kernel_rfl) ?_
   intro φ6 w6 s
   refine ops_done (by kernel_rfl) ?_
   refine wp_ret ?_
   refine ret_rule (C := []) _ [] (.agg #[.bool ((xs5 10).b 0), .pointer ((xs5 10).p 0)]) [.o 0, .o 0] [φ1 0, φ1 0] s trivial (by kernel_rfl) ?_
   exact ⟨_, _, _, rfl, s, (by have h9 := h5_10_0; rw [hnf.2.2] at h9; exact ⟨_, _, rfl, h9⟩)⟩

theorem own_c : ∀ (t : T) {I : IM} {k : Nat}, t.nf → t.depth ≤ 16 → RT I t k → Fun Try.prog 35 #[.pointer (some ⟨k, 0, none⟩)] I (fun v J => ∃ b p, v = idv b p ∧ TRep J t b p)
  | .zero, _, _, hn, hd, h => own_step h hn hd (fun l r h => by cases h)
  | .one, _, _, hn, hd, h => own_step h hn hd (fun l r h => by cases h)
  | .node l r, _, _, hn, hd, h => own_step h hn hd (fun l' r' e => by
      cases e
      have hd1 : 1 + max l.depth r.depth ≤ 16 := hd
      exact ⟨fun {J} {k} a => own_c l hn.1 (by omega) a, fun {J} {k} a => own_c r hn.2.1 (by omega) a⟩)

end Go.Proofs.Ytgmigcmhnmmdkaa.Ev

/- The document's events: Leaf, Min; to the program's own; like. -/
set_option linter.all false
set_option maxRecDepth 100000
namespace Go.Proofs.Ytgmigcmhnmmdkaa.Ev
open Go.RowKit Go.Sep

set_option maxHeartbeats 400000 in
theorem rleaf_c {I : IM} {n : Nat} : Fun Try.prog 69 #[.int .u64 ((n : Nat) : Int)] I (fun v J => ∃ k, v = .pointer (some ⟨k, 0, none⟩) ∧ RE J (E.leaf n) k) := by
 refine enter_rule 6 [(0, .int .u64 n)] Try.func69 rfl (by kernel_rfl) ?_
 intro w s
 refine seqR ?_
 refine ops_rule (C := []) [] [] 1 [] 0 (fun φ1 => [(2, .pointer none)]) (fun φ1 => []) (fun φ1 => []) s trivial (fun φ1 => by kernel_rfl) ?_
 intro φ1 w1 s
 refine ops_done (by kernel_rfl) ?_
 refine seqR ?_
 refine ops_rule (C := []) [] [] 4 [] 1 (fun φ2 => [(2, pB (φ2 0)), (5, pB (φ2 0)), (4, .agg #[.int .u64 n, .pointer none, .pointer none]), (3, .int .u64 n)]) (fun φ2 => [(φ2 0, .cells #[.int .u64 n, .pointer none, .pointer none] 87)]) (fun φ2 => []) s trivial (fun φ2 => by kernel_rfl) ?_
 intro φ2 w2 s
 refine ops_done (by kernel_rfl) ?_
 refine wp_ret ?_
 refine ret_rule (C := []) _ [] (pB (φ2 0)) [] [] s trivial (by kernel_rfl) ?_
 obtain ⟨I3, le3, hk3, s⟩ := s.freezeAt 0 (φ2 0) (.cells #[.int .u64 ((n : Nat) : Int), .pointer none, .pointer none] 87) [] (by kernel_rfl) (by kernel_rfl)
 exact ⟨_, _, _, rfl, s, ⟨_, rfl, hk3⟩⟩

set_option maxHeartbeats 2000000 in
theorem rmin_step {I : IM} {e : E} {k : Nat} (h : RE I e k) (ht : e.top < 18446744073709551616) (ih : ∀ n l r, e = .node n l r → (∀ {J : IM} {k : Nat}, RE J l k → l.top < 18446744073709551616 → Fun Try.prog 89 #[.pointer (some ⟨k, 0, none⟩)] J (fun v J => v = .int .u64 ((l.minE : Nat) : Int))) ∧ (∀ {J : IM} {k : Nat}, RE J r k → r.top < 18446744073709551616 → Fun Try.prog 89 #[.pointer (some ⟨k, 0, none⟩)] J (fun v J => v = .int .u64 ((r.minE : Nat) : Int)))) : Fun Try.prog 89 #[.pointer (some ⟨k, 0, none⟩)] I (fun v J => v = .int .u64 ((e.minE : Nat) : Int)) := by
 cases e with
 | leaf n =>
  have h0 : RE _ (E.leaf n) k := h
  refine enter_rule 39 [(0, pB k)] Try.func89 rfl (by kernel_rfl) ?_
  intro w s
  refine seqR ?_
  refine ops_rule (C := []) [] [] 1 [] 0 (fun φ1 => [(2, .int .u64 0)]) (fun φ1 => []) (fun φ1 => []) s trivial (fun φ1 => by kernel_rfl) ?_
  intro φ1 w1 s
  refine ops_done (by kernel_rfl) ?_
  refine wp_seq ?_
  refine seqR ?_
  refine ops_rule (C := [(k, .cells #[.int .u64 n, .pointer none, .pointer none] 87)]) [] [] 5 [.c 0] 0 (fun φ2 => [(9, .bool true), (8, .pointer none), (7, .pointer (some ⟨k, 1, none⟩)), (6, pB k), (5, pB k)]) (fun φ2 => []) (fun φ2 => [k]) s ⟨h, trivial⟩ (fun φ2 => by kernel_rfl) ?_
  intro φ2 w2 s
  refine ops_done (by kernel_rfl) ?_
  refine cond_true_rule (b := true) (by kernel_rfl) rfl ?_
  refine seqR ?_
  refine ops_rule (C := [(k, .cells #[.int .u64 n, .pointer none, .pointer none] 87)]) [] [] 5 [.c 0] 0 (fun φ3 => [(2, .int .u64 n), (13, .int .u64 n), (12, pB k), (11, pB k), (10, pB k)]) (fun φ3 => []) (fun φ3 => [k]) s ⟨h, trivial⟩ (fun φ3 => by kernel_rfl) ?_
  intro φ3 w3 s
  refine ops_done (by kernel_rfl) ?_
  refine wp_ret ?_
  refine ret_rule (C := []) [] [] (.int .u64 n) [] [] s trivial (by kernel_rfl) ?_
  exact ⟨_, _, _, rfl, s, rfl⟩
 | node n l r =>
  have h0 : RE _ (E.node n l r) k := h
  obtain ⟨kl, kr, hk, hl, hr⟩ := h
  obtain ⟨ihl, ihr⟩ := ih n l r rfl
  clear ih
  have ht1 : n + max l.top r.top < 18446744073709551616 := ht
  have hm1 := E.minE_le l
  have hm2 := E.minE_le r
  refine enter_rule 39 [(0, pB k)] Try.func89 rfl (by kernel_rfl) ?_
  intro w s
  refine seqR ?_
  refine ops_rule (C := []) [] [] 1 [] 0 (fun φ1 => [(2, .int .u64 0)]) (fun φ1 => []) (fun φ1 => []) s trivial (fun φ1 => by kernel_rfl) ?_
  intro φ1 w1 s
  refine ops_done (by kernel_rfl) ?_
  refine wp_seq ?_
  refine seqR ?_
  refine ops_rule (C := [(k, .cells #[.int .u64 n, pB kl, pB kr] 87)]) [] [] 5 [.c 0] 0 (fun φ2 => [(9, .bool false), (8, pB kl), (7, .pointer (some ⟨k, 1, none⟩)), (6, pB k), (5, pB k)]) (fun φ2 => []) (fun φ2 => [k]) s ⟨hk, trivial⟩ (fun φ2 => by kernel_rfl) ?_
  intro φ2 w2 s
  refine ops_done (by kernel_rfl) ?_
  refine cond_false_rule (b := false) (by kernel_rfl) rfl ?_
  refine wp_skip ?_
  refine wp_seq ?_
  refine draw_rule (C := [(k, .cells #[.int .u64 n, pB kl, pB kr] 87)]) ⟨(fun φ3 xs3 => [.look 0 [] [], .look 0 [] [], .look 0 [] [], .look 0 [.c 0] [k], .call 89 #[pB kl], .look 0 [] [], .look 0 [] [], .look 0 [] [], .look 0 [.c 0] [k], .call 89 #[pB kr], .look 0 [] [], .look 0 [] []]), (fun φ3 xs3 => [pB k, pB k, .pointer (some ⟨k, 1, none⟩), pB kl, .int .u64 l.minE, pB k, pB k, .pointer (some ⟨k, 2, none⟩), pB kr, .int .u64 r.minE, .int .u64 l.minE, .int .u64 r.minE]), (fun φ3 xs3 => [[]]), (fun φ3 xs3 => [[default, default, default, default, default, default, default, default, default, default, default, default]]), [], [1, 1, 1, 1, 3, 1, 1, 1, 1, 3, 1, 1]⟩ (fun j => ([MP.any] : List MP).getD j MP.any) [4, 9] [] [] (fun φ3 xs3 => []) (fun φ3 xs3 => [(14, pB k), (15, pB k), (16, .pointer (some ⟨k, 1, none⟩)), (17, pB kl), (18, .int .u64 l.minE), (19, pB k), (20, pB k), (21, .pointer (some ⟨k, 2, none⟩)), (22, pB kr), (23, .int .u64 r.minE), (3, .int .u64 l.minE), (4, .int .u64 r.minE)]) (fun φ3 xs3 => []) s ⟨hk, trivial⟩ (by kernel_rfl) (by kernel_rfl) (fun _ _ => by kernel_rfl) (fun _ _ => by kernel_rfl) ⟨fun _ _ => by kernel_rfl, fun _ _ => by kernel_rfl, fun _ _ => by kernel_rfl, fun _ _ => by kernel_rfl⟩ (fun _ _ _ => by kernel_rfl) (fun _ _ => by kernel_rfl) (fun _ _ => by kernel_rfl) (fun _ _ => by kernel_rfl) (fun _ _ => by kernel_rfl) (fun _ _ => by kernel_rfl) trivial trivial (by kernel_rfl) ⟨?c3_4, ?c3_9, trivial⟩ ?k3
  case c3_4 =>
   refine kcast (A := ∀ (φ3 : Nat → Nat) (xs3 : Xs) (J4_3 : IM), I.Le J4_3 → Fun Try.prog 89 #[pB kl] J4_3 (fun v J' => ∃ x : UX, v = .int .u64 l.minE ∧ (True))) (by kernel_rfl) ?_
   intro φ3 xs3 J4_3 leJ
   have hl := RE.mono leJ hl
   exact Fun.mono (ihl hl (by omega)) (fun v J' _ h => ⟨UX.d, h, trivial⟩)
  case c3_9 =>
   refine kcast (A := ∀ (φ3 : Nat → Nat) (xs3 : Xs) (J9_3 : IM), I.Le J9_3 → (True) → Fun Try.prog 89 #[pB kr] J9_3 (fun v J' => ∃ x : UX, v = .int .u64 r.minE ∧ (True))) (by kernel_rfl) ?_
   intro φ3 xs3 J9_3 leJ
   rintro _
   have hr := RE.mono leJ hr
   exact Fun.mono (ihr hr (by omega)) (fun v J' _ h => ⟨UX.d, h, trivial⟩)
  case k3 =>
   rintro φ3 xs3 I3 w3 le3 s _ _
   replace hk := le3 _ _ hk
   refine wp_seq ?_
   refine seqR ?_
   refine ops_rule (C := []) [] [] 3 [] 0 (fun φ4 => [(26, .bool (decide (((l.minE : Nat) : Int) < ((r.minE : Nat) : Int)))), (25, .int .u64 r.minE), (24, .int .u64 l.minE)]) (fun φ4 => []) (fun φ4 => []) s trivial (fun φ4 => by kernel_rfl) ?_
   intro φ4 w4 s
   rw [nat_lss (a := l.minE) (b := r.minE)]
   refine ops_done (by kernel_rfl) ?_
   rcases Bool.eq_false_or_eq_true (decide (l.minE < r.minE)) with hc5 | hc5
   ·
    rw [hc5]
    refine cond_true_rule (b := true) (by kernel_rfl) rfl ?_
    refine seqR ?_
    refine ops_rule (C := [(k, .cells #[.int .u64 n, pB kl, pB kr] 87)]) [] [] 7 [.c 0] 0 (fun φ6 => [(2, .int .u64 (IntKind.wrap .u64 (((n : Nat) : Int) + ((l.minE : Nat) : Int)))), (32, .int .u64 (IntKind.wrap .u64 (((n : Nat) : Int) + ((l.minE : Nat) : Int)))), (31, .int .u64 l.minE), (30, .int .u64 n), (29, pB k), (28, pB k), (27, pB k)]) (fun φ6 => []) (fun φ6 => [k]) s ⟨hk, trivial⟩ (fun φ6 => by kernel_rfl) ?_
    intro φ6 w6 s
    rw [nat_addU (a := n) (b := l.minE) (by omega)]
    refine ops_done (by kernel_rfl) ?_
    refine wp_ret ?_
    refine ret_rule (C := []) [] [] (.int .u64 ((n + l.minE : Nat) : Int)) [] [] s trivial (by kernel_rfl) ?_
    exact ⟨_, _, _, rfl, s, (by have hc := of_decide_eq_true hc5; show _ = Value.int .u64 ((n + min l.minE r.minE : Nat) : Int); rw [Nat.min_eq_left (by omega)])⟩
   ·
    rw [hc5]
    refine cond_false_rule (b := false) (by kernel_rfl) rfl ?_
    refine wp_skip ?_
    refine seqR ?_
    refine ops_rule (C := [(k, .cells #[.int .u64 n, pB kl, pB kr] 87)]) [] [] 7 [.c 0] 0 (fun φ7 => [(2, .int .u64 (IntKind.wrap .u64 (((n : Nat) : Int) + ((r.minE : Nat) : Int)))), (38, .int .u64 (IntKind.wrap .u64 (((n : Nat) : Int) + ((r.minE : Nat) : Int)))), (37, .int .u64 r.minE), (36, .int .u64 n), (35, pB k), (34, pB k), (33, pB k)]) (fun φ7 => []) (fun φ7 => [k]) s ⟨hk, trivial⟩ (fun φ7 => by kernel_rfl) ?_
    intro φ7 w7 s
    rw [nat_addU (a := n) (b := r.minE) (by omega)]
    refine ops_done (by kernel_rfl) ?_
    refine wp_ret ?_
    refine ret_rule (C := []) [] [] (.int .u64 ((n + r.minE : Nat) : Int)) [] [] s trivial (by kernel_rfl) ?_
    exact ⟨_, _, _, rfl, s, (by have hc := of_decide_eq_false hc5; show _ = Value.int .u64 ((n + min l.minE r.minE : Nat) : Int); rw [Nat.min_eq_right (by omega)])⟩

theorem rmin_c : ∀ (e : E) {I : IM} {k : Nat}, RE I e k → e.top < 18446744073709551616 → Fun Try.prog 89 #[.pointer (some ⟨k, 0, none⟩)] I (fun v _ => v = .int .u64 ((e.minE : Nat) : Int))
  | .leaf n, _, _, h, ht => rmin_step h ht (fun n l r h => by cases h)
  | .node n l r, _, _, h, ht => rmin_step h ht (fun n' l' r' e => by
      cases e
      exact ⟨fun {J} {k} a b => rmin_c l a b, fun {J} {k} a b => rmin_c r a b⟩)

theorem nodeOk9_c {I : IM} {n : Nat} {l r : E} {bl br : Nat} {pl pr : Option Addr} (hm : E.mk n l r = .node n l r) (ht : (E.node n l r).top ≤ 1048576) (hd : (E.node n l r).depth ≤ 16) (hl : ERep I l bl pl) (hr : ERep I r br pr) : Fun Try.prog 74 #[.int .u64 ((n : Nat) : Int), evv bl pl, evv br pr] I (fun v J => ∃ b p, v = .tuple #[evv b p, .int .i64 0] ∧ ERep J (E.node n l r) b p) := by
  have ht1 : n + max l.top r.top ≤ 1048576 := ht
  have hd1 : 1 + max l.depth r.depth ≤ 16 := hd
  have h := nodeR_c (n := n) hl hr (by omega) (by omega) (by omega) (by omega)
  have e : nodeR n l r = (.node n l r, 0) := by
    unfold nodeR
    rw [if_neg (by omega), if_neg (by omega), if_neg (by omega), hm]
  rw [e] at h
  exact h

set_option maxHeartbeats 2000000 in
theorem tree_step {I : IM} {e : E} {k : Nat} (h : RE I e k) (hnf : e.nf) (ht : e.top ≤ 1048576) (hd : e.depth ≤ 16) (ih : ∀ n l r, e = .node n l r → (∀ {J : IM} {k : Nat}, RE J l k → Fun Try.prog 36 #[.pointer (some ⟨k, 0, none⟩)] J (fun v J => ∃ b p, v = evv b p ∧ ERep J l b p)) ∧ (∀ {J : IM} {k : Nat}, RE J r k → Fun Try.prog 36 #[.pointer (some ⟨k, 0, none⟩)] J (fun v J => ∃ b p, v = evv b p ∧ ERep J r b p))) : Fun Try.prog 36 #[.pointer (some ⟨k, 0, none⟩)] I (fun v J => ∃ b p, v = evv b p ∧ ERep J e b p) := by
 cases e with
 | leaf n =>
  have h0 : RE _ (E.leaf n) k := h
  refine enter_rule 40 [(0, pB k)] Try.func36 rfl (by kernel_rfl) ?_
  intro w s
  refine seqR ?_
  refine ops_rule (C := []) [] [] 1 [] 1 (fun φ1 => [(2, pB (φ1 0))]) (fun φ1 => [(φ1 0, .cells #[.int .u64 0, .pointer none] 30)]) (fun φ1 => []) s trivial (fun φ1 => by kernel_rfl) ?_
  intro φ1 w1 s
  refine ops_done (by kernel_rfl) ?_
  refine wp_seq ?_
  refine seqR ?_
  refine ops_rule (C := [(k, .cells #[.int .u64 n, .pointer none, .pointer none] 87)]) _ [] 5 [.c 0] 0 (fun φ2 => [(11, .bool true), (10, .pointer none), (9, .pointer (some ⟨k, 1, none⟩)), (8, pB k), (7, pB k)]) (fun φ2 => [(φ1 0, .cells #[.int .u64 0, .pointer none] 30)]) (fun φ2 => [k]) s ⟨h, trivial⟩ (fun φ2 => by kernel_rfl) ?_
  intro φ2 w2 s
  refine ops_done (by kernel_rfl) ?_
  refine cond_true_rule (b := true) (by kernel_rfl) rfl ?_
  refine seqR ?_
  refine ops_rule (C := [(k, .cells #[.int .u64 n, .pointer none, .pointer none] 87)]) _ [] 4 [.c 0] 0 (fun φ3 => [(16, .int .u64 n), (15, pB k), (14, pB k), (13, pB k)]) (fun φ3 => [(φ1 0, .cells #[.int .u64 0, .pointer none] 30)]) (fun φ3 => [k]) s ⟨h, trivial⟩ (fun φ3 => by kernel_rfl) ?_
  intro φ3 w3 s
  refine call_rule (some 17) s (leafOk_c (n := n) (by exact ht)) (by kernel_rfl) ?_
  intro v4 I4 w4 le4 h4 s
  replace h0 := RE.mono le4 h0
  replace h := le4 _ _ h
  obtain rfl := h4
  refine ops_rule (C := []) _ [] 6 [.o 1, .o 1] 1 (fun φ5 => [(4, .int .i64 0), (3, pB (φ5 0)), (19, .int .i64 0), (18, .agg #[.int .u64 n, .pointer none]), (12, .tuple #[.agg #[.int .u64 n, .pointer none], .int .i64 0])]) (fun φ5 => [(φ1 0, .cells #[.int .u64 0, .pointer none] 30), (φ5 0, .cells #[.int .u64 n, .pointer none] 30)]) (fun φ5 => [φ5 0, φ5 0]) s trivial (fun φ5 => by kernel_rfl) ?_
  intro φ5 w5 s
  refine ops_done (by kernel_rfl) ?_
  refine seqR ?_
  refine ops_rule (C := []) _ [] 2 [.o 1, .o 1, .o 0, .o 0] 0 (fun φ6 => [(20, .agg #[.int .u64 n, .pointer none])]) (fun φ6 => [(φ1 0, .cells #[.int .u64 n, .pointer none] 30), (φ5 0, .cells #[.int .u64 n, .pointer none] 30)]) (fun φ6 => [φ5 0, φ5 0, φ1 0, φ1 0]) s trivial (fun φ6 => by kernel_rfl) ?_
  intro φ6 w6 s
  refine ops_done (by kernel_rfl) ?_
  refine wp_ret ?_
  refine ret_rule (C := []) _ [] (.agg #[.int .u64 n, .pointer none]) [.o 0, .o 0] [φ1 0, φ1 0] s trivial (by kernel_rfl) ?_
  exact ⟨_, _, _, rfl, s, ⟨_, _, rfl, rfl, rfl⟩⟩
 | node n l r =>
  have h0 : RE _ (E.node n l r) k := h
  obtain ⟨kl, kr, hk, hl, hr⟩ := h
  obtain ⟨ihl, ihr⟩ := ih n l r rfl
  clear ih
  refine enter_rule 40 [(0, pB k)] Try.func36 rfl (by kernel_rfl) ?_
  intro w s
  refine seqR ?_
  refine ops_rule (C := []) [] [] 1 [] 1 (fun φ1 => [(2, pB (φ1 0))]) (fun φ1 => [(φ1 0, .cells #[.int .u64 0, .pointer none] 30)]) (fun φ1 => []) s trivial (fun φ1 => by kernel_rfl) ?_
  intro φ1 w1 s
  refine ops_done (by kernel_rfl) ?_
  refine wp_seq ?_
  refine seqR ?_
  refine ops_rule (C := [(k, .cells #[.int .u64 n, pB kl, pB kr] 87)]) _ [] 5 [.c 0] 0 (fun φ2 => [(11, .bool false), (10, pB kl), (9, .pointer (some ⟨k, 1, none⟩)), (8, pB k), (7, pB k)]) (fun φ2 => [(φ1 0, .cells #[.int .u64 0, .pointer none] 30)]) (fun φ2 => [k]) s ⟨hk, trivial⟩ (fun φ2 => by kernel_rfl) ?_
  intro φ2 w2 s
  refine ops_done (by kernel_rfl) ?_
  refine cond_false_rule (b := false) (by kernel_rfl) rfl ?_
  refine wp_skip ?_
  refine wp_seq ?_
  refine draw_rule (C := [(k, .cells #[.int .u64 n, pB kl, pB kr] 87)]) ⟨(fun φ3 xs3 => [.look 0 [] [], .look 0 [] [], .look 0 [] [], .look 0 [.c 0] [k], .look 0 [] [], .look 0 [] [], .look 0 [] [], .look 0 [.c 0] [k], .call 36 #[pB kl], .look 0 [] [], .look 0 [] [], .look 0 [] [], .look 0 [.c 0] [k], .call 36 #[pB kr], .call 74 #[.int .u64 n, .agg #[.int .u64 (((xs3 8).n 0 : Nat) : Int), .pointer ((xs3 8).p 0)], .agg #[.int .u64 (((xs3 13).n 0 : Nat) : Int), .pointer ((xs3 13).p 0)]], .look 0 [] [], .look 0 [] [], .look 0 [] [], .new, .store 0 [.o 1, .o 1] [φ3 18, φ3 18], .look 1 [] []]), (fun φ3 xs3 => [pB k, pB k, pB k, .int .u64 n, pB k, pB k, .pointer (some ⟨k, 1, none⟩), pB kl, .agg #[.int .u64 (((xs3 8).n 0 : Nat) : Int), .pointer ((xs3 8).p 0)], pB k, pB k, .pointer (some ⟨k, 2, none⟩), pB kr, .agg #[.int .u64 (((xs3 13).n 0 : Nat) : Int), .pointer ((xs3 13).p 0)], .tuple #[.agg #[.int .u64 (((xs3 14).n 0 : Nat) : Int), .pointer ((xs3 14).p 0)], .int .i64 0], .tuple #[.agg #[.int .u64 (((xs3 14).n 0 : Nat) : Int), .pointer ((xs3 14).p 0)], .int .i64 0], .agg #[.int .u64 (((xs3 14).n 0 : Nat) : Int), .pointer ((xs3 14).p 0)], .int .i64 0, pB (φ3 18), undef, .int .i64 0]), (fun φ3 xs3 => [[(φ1 0, .cells #[.int .u64 0, .pointer none] 30)], [(φ1 0, .cells #[.int .u64 0, .pointer none] 30)]]), (fun φ3 xs3 => [[default, default, default, default, default, default, default, default, default, default, default, default, default, default, default, default, default, default, .cells #[.int .u64 0, .pointer none] 30, default, default], [default, default, default, default, default, default, default, default, default, default, default, default, default, default, default, default, default, default, .cells #[.int .u64 (((xs3 14).n 0 : Nat) : Int), .pointer ((xs3 14).p 0)] 30, default, default]]), [19], [1, 1, 1, 1, 1, 1, 1, 1, 3, 1, 1, 1, 1, 3, 3, 1, 1, 1, 2, 4, 1]⟩ (fun j => ([MP.any, MP.any, MP.any, MP.any, MP.any, MP.any, MP.any, MP.any, ⟨fun x J => ERep J l (x.n 0) (x.p 0), fun le h => ERep.mono le h⟩, MP.any, MP.any, MP.any, MP.any, ⟨fun x J => ERep J r (x.n 0) (x.p 0), fun le h => ERep.mono le h⟩, ⟨fun x J => ERep J (E.node n l r) (x.n 0) (x.p 0), fun le h => ERep.mono le h⟩] : List MP).getD j MP.any) [8, 13, 14] [] [] (fun φ3 xs3 => [[none, none, none, none, none, none, none, none, none, none, none, none, none, none, none, none, none, none, none, none, none]]) (fun φ3 xs3 => [(22, pB k), (23, pB k), (24, pB k), (25, .int .u64 n), (26, pB k), (27, pB k), (28, .pointer (some ⟨k, 1, none⟩)), (29, pB kl), (30, .agg #[.int .u64 (((xs3 8).n 0 : Nat) : Int), .pointer ((xs3 8).p 0)]), (31, pB k), (32, pB k), (33, .pointer (some ⟨k, 2, none⟩)), (34, pB kr), (35, .agg #[.int .u64 (((xs3 13).n 0 : Nat) : Int), .pointer ((xs3 13).p 0)]), (36, .tuple #[.agg #[.int .u64 (((xs3 14).n 0 : Nat) : Int), .pointer ((xs3 14).p 0)], .int .i64 0]), (21, .tuple #[.agg #[.int .u64 (((xs3 14).n 0 : Nat) : Int), .pointer ((xs3 14).p 0)], .int .i64 0]), (37, .agg #[.int .u64 (((xs3 14).n 0 : Nat) : Int), .pointer ((xs3 14).p 0)]), (38, .int .i64 0), (5, pB (φ3 18)), (6, .int .i64 0)]) (fun φ3 xs3 => [(φ1 0, .cells #[.int .u64 0, .pointer none] 30), (φ3 18, .cells #[.int .u64 (((xs3 14).n 0 : Nat) : Int), .pointer ((xs3 14).p 0)] 30)]) s ⟨hk, trivial⟩ (by kernel_rfl) (by kernel_rfl) (fun _ _ => by kernel_rfl) (fun _ _ => by kernel_rfl) ⟨fun _ _ => by kernel_rfl, fun _ _ => by kernel_rfl, fun _ _ => by kernel_rfl, fun _ _ => by kernel_rfl⟩ (fun _ _ _ => by kernel_rfl) (fun _ _ => by kernel_rfl) (fun _ _ => by kernel_rfl) (fun _ _ => by kernel_rfl) (fun _ _ => by kernel_rfl) (fun _ _ => by kernel_rfl) trivial trivial (by kernel_rfl) ⟨?c3_8, ?c3_13, ?c3_14, trivial⟩ ?k3
  case c3_8 =>
   refine kcast (A := ∀ (φ3 : Nat → Nat) (xs3 : Xs) (J8_3 : IM), I.Le J8_3 → Fun Try.prog 36 #[pB kl] J8_3 (fun v J' => ∃ x : UX, v = .agg #[.int .u64 (x.n 0), .pointer (x.p 0)] ∧ (ERep J' l (x.n 0) (x.p 0)))) (by kernel_rfl) ?_
   intro φ3 xs3 J8_3 leJ
   have hl := RE.mono leJ hl
   exact Fun.mono (ihl hl) (fun v J' _ ⟨y0, y1, hv, g0⟩ => ⟨{ UX.d with n := fun j => y0, p := fun j => y1 }, hv, g0⟩)
  case c3_13 =>
   refine kcast (A := ∀ (φ3 : Nat → Nat) (xs3 : Xs) (J13_3 : IM), I.Le J13_3 → (ERep J13_3 l ((xs3 8).n 0) ((xs3 8).p 0)) → Fun Try.prog 36 #[pB kr] J13_3 (fun v J' => ∃ x : UX, v = .agg #[.int .u64 (x.n 0), .pointer (x.p 0)] ∧ (ERep J' r (x.n 0) (x.p 0)))) (by kernel_rfl) ?_
   intro φ3 xs3 J13_3 leJ
   rintro h3_8_0
   have hr := RE.mono leJ hr
   exact Fun.mono (ihr hr) (fun v J' _ ⟨y0, y1, hv, g0⟩ => ⟨{ UX.d with n := fun j => y0, p := fun j => y1 }, hv, g0⟩)
  case c3_14 =>
   refine kcast (A := ∀ (φ3 : Nat → Nat) (xs3 : Xs) (J14_3 : IM), I.Le J14_3 → (ERep J14_3 l ((xs3 8).n 0) ((xs3 8).p 0)) → (ERep J14_3 r ((xs3 13).n 0) ((xs3 13).p 0)) → Fun Try.prog 74 #[.int .u64 n, .agg #[.int .u64 (((xs3 8).n 0 : Nat) : Int), .pointer ((xs3 8).p 0)], .agg #[.int .u64 (((xs3 13).n 0 : Nat) : Int), .pointer ((xs3 13).p 0)]] J14_3 (fun v J' => ∃ x : UX, v = .tuple #[.agg #[.int .u64 (x.n 0), .pointer (x.p 0)], .int .i64 0] ∧ (ERep J' (E.node n l r) (x.n 0) (x.p 0)))) (by kernel_rfl) ?_
   intro φ3 xs3 J14_3 leJ
   rintro h3_8_0 h3_13_0
   exact Fun.mono (nodeOk9_c (n := n) hnf.2.2 ht hd h3_8_0 h3_13_0) (fun v J' _ ⟨y0, y1, hv, g0⟩ => ⟨{ UX.d with n := fun j => y0, p := fun j => y1 }, hv, g0⟩)
  case k3 =>
   rintro φ3 xs3 I3 w3 le3 s h3_8_0 h3_13_0 h3_14_0
   refine seqR ?_
   refine ops_rule (C := []) [(φ1 0, .cells #[.int .u64 0, .pointer none] 30), (φ3 18, .cells #[.int .u64 (((xs3 14).n 0 : Nat) : Int), .pointer ((xs3 14).p 0)] 30)] [] 2 [.o 1, .o 1, .o 0, .o 0] 0 (fun φ4 => [(39, .agg #[.int .u64 (((xs3 14).n 0 : Nat) : Int), .pointer ((xs3 14).p 0)])]) (fun φ4 => [(φ1 0, .cells #[.int .u64 (((xs3 14).n 0 : Nat) : Int), .pointer ((xs3 14).p 0)] 30), (φ3 18, .cells #[.int .u64 (((xs3 14).n 0 : Nat) : Int), .pointer ((xs3 14).p 0)] 30)]) (fun φ4 => [φ3 18, φ3 18, φ1 0, φ1 0]) s trivial (fun φ4 => by kernel_rfl) ?_
   intro φ4 w4 s
   refine ops_done (by kernel_rfl) ?_
   refine wp_ret ?_
   refine ret_rule (C := []) _ [] (.agg #[.int .u64 (((xs3 14).n 0 : Nat) : Int), .pointer ((xs3 14).p 0)]) [.o 0, .o 0] [φ1 0, φ1 0] s trivial (by kernel_rfl) ?_
   exact ⟨_, _, _, rfl, s, ⟨_, _, rfl, h3_14_0⟩⟩

theorem tree_c : ∀ (e : E) {I : IM} {k : Nat}, e.nf → e.top ≤ 1048576 → e.depth ≤ 16 → RE I e k → Fun Try.prog 36 #[.pointer (some ⟨k, 0, none⟩)] I (fun v J => ∃ b p, v = evv b p ∧ ERep J e b p)
  | .leaf n, _, _, hn, ht, hd, h => tree_step h hn ht hd (fun n l r h => by cases h)
  | .node n l r, _, _, hn, ht, hd, h => tree_step h hn ht hd (fun n' l' r' e => by
      cases e
      have ht1 : n + max l.top r.top ≤ 1048576 := ht
      have hd1 : 1 + max l.depth r.depth ≤ 16 := hd
      exact ⟨fun {J} {k} a => tree_c l hn.1 (by omega) (by omega) a, fun {J} {k} a => tree_c r hn.2.1 (by omega) (by omega) a⟩)

end Go.Proofs.Ytgmigcmhnmmdkaa.Ev

