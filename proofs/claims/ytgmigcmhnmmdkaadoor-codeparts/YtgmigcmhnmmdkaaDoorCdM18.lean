/- The program's ids. -/
import Derived.Test.YtgmigcmhnmmdkaaDoorProg
import Derived.Test.YtgmigcmhnmmdkaaDoorCdM17
import Derived.Test.YtgmigcmhnmmdkaaDoorCdS9
import Derived.Test.YtgmigcmhnmmdkaaDoorCdM13
import Derived.Test.YtgmigcmhnmmdkaaDoorCdM14
import Derived.Test.YtgmigcmhnmmdkaaDoorCdS11
import Derived.OrdersHeld
import Derived.Scope
set_option linter.all false
set_option maxRecDepth 100000
namespace Go.Proofs.YtgmigcmhnmmdkaaDoor.Ev
open Go.RowKit Go.Sep

inductive T where
  | zero | one | node (l r : T)
  deriving DecidableEq
def T.depth : T → Nat
  | .node l r => 1 + max l.depth r.depth
  | _ => 0
def T.isZero : T → Bool
  | .zero => true
  | _ => false
def T.isOne : T → Bool
  | .one => true
  | _ => false
def T.left : T → T
  | .node l _ => l
  | t => t
def T.right : T → T
  | .node _ r => r
  | t => t
def T.mk : T → T → T
  | .zero, .zero => .zero
  | .one, .one => .one
  | l, r => .node l r
def TRep (I : IM) : T → Bool → Option Addr → Prop
  | .zero, b, p => b = false ∧ p = none
  | .one, b, p => b = true ∧ p = none
  | .node l r, b, p => b = false ∧ ∃ k bl pl br pr, p = some ⟨k, 0, none⟩ ∧
      I k = some (.cells #[.bool bl, .pointer pl, .bool br, .pointer pr, .int .i64 (((T.node l r).depth : Nat) : Int)] 152) ∧ TRep I l bl pl ∧ TRep I r br pr
theorem TRep.mono {I J : IM} (le : I.Le J) : ∀ {t : T} {b : Bool} {p : Option Addr}, TRep I t b p → TRep J t b p
  | .zero, _, _, h => h
  | .one, _, _, h => h
  | .node _ _, _, _, ⟨hb, k, bl, pl, br, pr, hp, hk, hl, hr⟩ => ⟨hb, k, bl, pl, br, pr, hp, le _ _ hk, hl.mono le, hr.mono le⟩
abbrev idv (b : Bool) (p : Option Addr) : Value := .agg #[.bool b, .pointer p]
theorem TRep.z (I : IM) : TRep I .zero false none := ⟨rfl, rfl⟩
theorem TRep.o (I : IM) : TRep I .one true none := ⟨rfl, rfl⟩

set_option maxHeartbeats 400000 in
theorem isZero_c {I : IM} {t : T} {b : Bool} {p : Option Addr} (h : TRep I t b p) : Fun Tryd.prog 82 #[idv b p] I (fun v J => v = .bool t.isZero) := by
 cases t with
 | zero =>
  obtain ⟨rfl, rfl⟩ := h
  refine enter_rule 11 [(0, .agg #[.bool false, .pointer none])] Tryd.func82 rfl (by kernel_rfl) ?_
  intro w s
  refine seqR ?_
  refine oAD [] [] 2 [] 1 (fun φ1 => [(2, .bool false), (1, pB (φ1 0))]) (fun φ1 => [(φ1 0, .cells #[.bool false, .pointer none] 27)]) (fun φ1 => []) s (fun φ1 => by kernel_rfl) (by kernel_rfl) ?_
  intro φ1 w1 s
  refine seqR ?_
  refine oKD _ [] 9 [.o 0, .o 0] 0 (fun φ2 => [(2, .bool true), (10, .bool true), (9, .bool true), (8, .pointer none), (7, .pointer (some ⟨(φ1 0), 1, none⟩)), (6, .bool true), (5, .bool true), (4, .bool false), (3, pB (φ1 0))]) (fun φ2 => [φ1 0, φ1 0]) s (fun φ2 => by kernel_rfl) (by kernel_rfl) ?_
  intro φ2 w2 s
  refine wp_ret ?_
  refine ret_rule (C := []) _ [] (.bool true) [] [] s trivial (by kernel_rfl) ?_
  exact ⟨_, _, _, rfl, s, rfl⟩
 | one =>
  obtain ⟨rfl, rfl⟩ := h
  refine enter_rule 11 [(0, .agg #[.bool true, .pointer none])] Tryd.func82 rfl (by kernel_rfl) ?_
  intro w s
  refine seqR ?_
  refine oAD [] [] 2 [] 1 (fun φ1 => [(2, .bool false), (1, pB (φ1 0))]) (fun φ1 => [(φ1 0, .cells #[.bool true, .pointer none] 27)]) (fun φ1 => []) s (fun φ1 => by kernel_rfl) (by kernel_rfl) ?_
  intro φ1 w1 s
  refine seqR ?_
  refine oKD _ [] 9 [.o 0] 0 (fun φ2 => [(2, .bool false), (10, .bool false), (9, undef), (8, undef), (7, undef), (6, .bool false), (5, .bool false), (4, .bool true), (3, pB (φ1 0))]) (fun φ2 => [(φ1 0)]) s (fun φ2 => by kernel_rfl) (by kernel_rfl) ?_
  intro φ2 w2 s
  refine wp_ret ?_
  refine ret_rule (C := []) _ [] (.bool false) [] [] s trivial (by kernel_rfl) ?_
  exact ⟨_, _, _, rfl, s, rfl⟩
 | node l r =>
  have hn := h
  obtain ⟨rfl, k, bl, pl, br, pr, rfl, hk, hl, hr⟩ := h
  refine enter_rule 11 [(0, .agg #[.bool false, pB k])] Tryd.func82 rfl (by kernel_rfl) ?_
  intro w s
  refine seqR ?_
  refine oAD [] [] 2 [] 1 (fun φ1 => [(2, .bool false), (1, pB (φ1 0))]) (fun φ1 => [(φ1 0, .cells #[.bool false, pB k] 27)]) (fun φ1 => []) s (fun φ1 => by kernel_rfl) (by kernel_rfl) ?_
  intro φ1 w1 s
  refine seqR ?_
  refine oKD _ [] 9 [.o 0, .o 0] 0 (fun φ2 => [(2, .bool false), (10, .bool false), (9, .bool false), (8, pB k), (7, .pointer (some ⟨(φ1 0), 1, none⟩)), (6, .bool true), (5, .bool true), (4, .bool false), (3, pB (φ1 0))]) (fun φ2 => [φ1 0, φ1 0]) s (fun φ2 => by kernel_rfl) (by kernel_rfl) ?_
  intro φ2 w2 s
  refine wp_ret ?_
  refine ret_rule (C := []) _ [] (.bool false) [] [] s trivial (by kernel_rfl) ?_
  exact ⟨_, _, _, rfl, s, rfl⟩

set_option maxHeartbeats 400000 in
theorem isOne_c {I : IM} {t : T} {b : Bool} {p : Option Addr} (h : TRep I t b p) : Fun Tryd.prog 83 #[idv b p] I (fun v J => v = .bool t.isOne) := by
 cases t with
 | zero =>
  obtain ⟨rfl, rfl⟩ := h
  refine enter_rule 5 [(0, .agg #[.bool false, .pointer none])] Tryd.func83 rfl (by kernel_rfl) ?_
  intro w s
  refine seqR ?_
  refine oAD [] [] 2 [] 1 (fun φ1 => [(2, .bool false), (1, pB (φ1 0))]) (fun φ1 => [(φ1 0, .cells #[.bool false, .pointer none] 27)]) (fun φ1 => []) s (fun φ1 => by kernel_rfl) (by kernel_rfl) ?_
  intro φ1 w1 s
  refine seqR ?_
  refine oKD _ [] 3 [.o 0] 0 (fun φ2 => [(2, .bool false), (4, .bool false), (3, pB (φ1 0))]) (fun φ2 => [(φ1 0)]) s (fun φ2 => by kernel_rfl) (by kernel_rfl) ?_
  intro φ2 w2 s
  refine wp_ret ?_
  refine ret_rule (C := []) _ [] (.bool false) [] [] s trivial (by kernel_rfl) ?_
  exact ⟨_, _, _, rfl, s, rfl⟩
 | one =>
  obtain ⟨rfl, rfl⟩ := h
  refine enter_rule 5 [(0, .agg #[.bool true, .pointer none])] Tryd.func83 rfl (by kernel_rfl) ?_
  intro w s
  refine seqR ?_
  refine oAD [] [] 2 [] 1 (fun φ1 => [(2, .bool false), (1, pB (φ1 0))]) (fun φ1 => [(φ1 0, .cells #[.bool true, .pointer none] 27)]) (fun φ1 => []) s (fun φ1 => by kernel_rfl) (by kernel_rfl) ?_
  intro φ1 w1 s
  refine seqR ?_
  refine oKD _ [] 3 [.o 0] 0 (fun φ2 => [(2, .bool true), (4, .bool true), (3, pB (φ1 0))]) (fun φ2 => [(φ1 0)]) s (fun φ2 => by kernel_rfl) (by kernel_rfl) ?_
  intro φ2 w2 s
  refine wp_ret ?_
  refine ret_rule (C := []) _ [] (.bool true) [] [] s trivial (by kernel_rfl) ?_
  exact ⟨_, _, _, rfl, s, rfl⟩
 | node l r =>
  have hn := h
  obtain ⟨rfl, k, bl, pl, br, pr, rfl, hk, hl, hr⟩ := h
  refine enter_rule 5 [(0, .agg #[.bool false, pB k])] Tryd.func83 rfl (by kernel_rfl) ?_
  intro w s
  refine seqR ?_
  refine oAD [] [] 2 [] 1 (fun φ1 => [(2, .bool false), (1, pB (φ1 0))]) (fun φ1 => [(φ1 0, .cells #[.bool false, pB k] 27)]) (fun φ1 => []) s (fun φ1 => by kernel_rfl) (by kernel_rfl) ?_
  intro φ1 w1 s
  refine seqR ?_
  refine oKD _ [] 3 [.o 0] 0 (fun φ2 => [(2, .bool false), (4, .bool false), (3, pB (φ1 0))]) (fun φ2 => [(φ1 0)]) s (fun φ2 => by kernel_rfl) (by kernel_rfl) ?_
  intro φ2 w2 s
  refine wp_ret ?_
  refine ret_rule (C := []) _ [] (.bool false) [] [] s trivial (by kernel_rfl) ?_
  exact ⟨_, _, _, rfl, s, rfl⟩

set_option maxHeartbeats 400000 in
theorem tleft_c {I : IM} {t : T} {b : Bool} {p : Option Addr} (h : TRep I t b p) : Fun Tryd.prog 84 #[idv b p] I (fun v J => ∃ b' p', v = idv b' p' ∧ TRep J t.left b' p') := by
 cases t with
 | zero =>
  obtain ⟨rfl, rfl⟩ := h
  refine enter_rule 12 [(0, .agg #[.bool false, .pointer none])] Tryd.func84 rfl (by kernel_rfl) ?_
  intro w s
  refine seqR ?_
  refine oAD [] [] 2 [] 2 (fun φ1 => [(2, pB (φ1 1)), (1, pB (φ1 0))]) (fun φ1 => [(φ1 0, .cells #[.bool false, .pointer none] 27), (φ1 1, .cells #[.bool false, .pointer none] 27)]) (fun φ1 => []) s (fun φ1 => by kernel_rfl) (by kernel_rfl) ?_
  intro φ1 w1 s
  refine wp_seq ?_
  refine seqR ?_
  refine oKD _ [] 3 [.o 0] 0 (fun φ2 => [(5, .bool true), (4, .pointer none), (3, .pointer (some ⟨(φ1 0), 1, none⟩))]) (fun φ2 => [(φ1 0)]) s (fun φ2 => by kernel_rfl) (by kernel_rfl) ?_
  intro φ2 w2 s
  refine cond_true_rule (b := true) (by kernel_rfl) rfl ?_
  refine seqR ?_
  refine oKD _ [] 2 [.o 0, .o 0, .o 1, .o 1] 0 (fun φ3 => [(6, .agg #[.bool false, .pointer none])]) (fun φ3 => [φ1 0, φ1 0, φ1 1, φ1 1]) s (fun φ3 => by kernel_rfl) (by kernel_rfl) ?_
  intro φ3 w3 s
  refine wp_ret ?_
  refine ret_rule (C := []) _ [] (.agg #[.bool false, .pointer none]) [.o 1, .o 1] [φ1 1, φ1 1] s trivial (by kernel_rfl) ?_
  exact ⟨_, _, _, rfl, s, ⟨_, _, rfl, rfl, rfl⟩⟩
 | one =>
  obtain ⟨rfl, rfl⟩ := h
  refine enter_rule 12 [(0, .agg #[.bool true, .pointer none])] Tryd.func84 rfl (by kernel_rfl) ?_
  intro w s
  refine seqR ?_
  refine oAD [] [] 2 [] 2 (fun φ1 => [(2, pB (φ1 1)), (1, pB (φ1 0))]) (fun φ1 => [(φ1 0, .cells #[.bool true, .pointer none] 27), (φ1 1, .cells #[.bool false, .pointer none] 27)]) (fun φ1 => []) s (fun φ1 => by kernel_rfl) (by kernel_rfl) ?_
  intro φ1 w1 s
  refine wp_seq ?_
  refine seqR ?_
  refine oKD _ [] 3 [.o 0] 0 (fun φ2 => [(5, .bool true), (4, .pointer none), (3, .pointer (some ⟨(φ1 0), 1, none⟩))]) (fun φ2 => [(φ1 0)]) s (fun φ2 => by kernel_rfl) (by kernel_rfl) ?_
  intro φ2 w2 s
  refine cond_true_rule (b := true) (by kernel_rfl) rfl ?_
  refine seqR ?_
  refine oAD _ [] 2 [.o 0, .o 0, .o 1, .o 1] 0 (fun φ3 => [(6, .agg #[.bool true, .pointer none])]) (fun φ3 => [(φ1 0, .cells #[.bool true, .pointer none] 27), (φ1 1, .cells #[.bool true, .pointer none] 27)]) (fun φ3 => [φ1 0, φ1 0, φ1 1, φ1 1]) s (fun φ3 => by kernel_rfl) (by kernel_rfl) ?_
  intro φ3 w3 s
  refine wp_ret ?_
  refine ret_rule (C := []) _ [] (.agg #[.bool true, .pointer none]) [.o 1, .o 1] [φ1 1, φ1 1] s trivial (by kernel_rfl) ?_
  exact ⟨_, _, _, rfl, s, ⟨_, _, rfl, rfl, rfl⟩⟩
 | node l r =>
  have hn := h
  obtain ⟨rfl, k, bl, pl, br, pr, rfl, hk, hl, hr⟩ := h
  refine enter_rule 12 [(0, .agg #[.bool false, pB k])] Tryd.func84 rfl (by kernel_rfl) ?_
  intro w s
  refine seqR ?_
  refine oAD [] [] 2 [] 2 (fun φ1 => [(2, pB (φ1 1)), (1, pB (φ1 0))]) (fun φ1 => [(φ1 0, .cells #[.bool false, pB k] 27), (φ1 1, .cells #[.bool false, .pointer none] 27)]) (fun φ1 => []) s (fun φ1 => by kernel_rfl) (by kernel_rfl) ?_
  intro φ1 w1 s
  refine wp_seq ?_
  refine seqR ?_
  refine oKD _ [] 3 [.o 0] 0 (fun φ2 => [(5, .bool false), (4, pB k), (3, .pointer (some ⟨(φ1 0), 1, none⟩))]) (fun φ2 => [(φ1 0)]) s (fun φ2 => by kernel_rfl) (by kernel_rfl) ?_
  intro φ2 w2 s
  refine cond_false_rule (b := false) (by kernel_rfl) rfl ?_
  refine wp_skip ?_
  refine seqR ?_
  refine ops_rule (C := [(k, .cells #[.bool bl, .pointer pl, .bool br, .pointer pr, .int .i64 (T.depth (T.node l r))] 152)]) _ [] 6 [.o 0, .c 0, .c 0, .o 1, .o 1] 0 (fun φ3 => [(11, .agg #[.bool bl, .pointer pl]), (10, pB k), (9, pB k), (8, pB k), (7, .pointer (some ⟨(φ1 0), 1, none⟩))]) (fun φ3 => [(φ1 0, .cells #[.bool false, pB k] 27), (φ1 1, .cells #[.bool bl, .pointer pl] 27)]) (fun φ3 => [φ1 0, k, k, φ1 1, φ1 1]) s ⟨hk, trivial⟩ (fun φ3 => by kernel_rfl) ?_
  intro φ3 w3 s
  refine ops_done (by kernel_rfl) ?_
  refine wp_ret ?_
  refine ret_rule (C := []) _ [] (.agg #[.bool bl, .pointer pl]) [.o 1, .o 1] [φ1 1, φ1 1] s trivial (by kernel_rfl) ?_
  exact ⟨_, _, _, rfl, s, ⟨_, _, rfl, hl⟩⟩

set_option maxHeartbeats 400000 in
theorem tright_c {I : IM} {t : T} {b : Bool} {p : Option Addr} (h : TRep I t b p) : Fun Tryd.prog 85 #[idv b p] I (fun v J => ∃ b' p', v = idv b' p' ∧ TRep J t.right b' p') := by
 cases t with
 | zero =>
  obtain ⟨rfl, rfl⟩ := h
  refine enter_rule 12 [(0, .agg #[.bool false, .pointer none])] Tryd.func85 rfl (by kernel_rfl) ?_
  intro w s
  refine seqR ?_
  refine oAD [] [] 2 [] 2 (fun φ1 => [(2, pB (φ1 1)), (1, pB (φ1 0))]) (fun φ1 => [(φ1 0, .cells #[.bool false, .pointer none] 27), (φ1 1, .cells #[.bool false, .pointer none] 27)]) (fun φ1 => []) s (fun φ1 => by kernel_rfl) (by kernel_rfl) ?_
  intro φ1 w1 s
  refine wp_seq ?_
  refine seqR ?_
  refine oKD _ [] 3 [.o 0] 0 (fun φ2 => [(5, .bool true), (4, .pointer none), (3, .pointer (some ⟨(φ1 0), 1, none⟩))]) (fun φ2 => [(φ1 0)]) s (fun φ2 => by kernel_rfl) (by kernel_rfl) ?_
  intro φ2 w2 s
  refine cond_true_rule (b := true) (by kernel_rfl) rfl ?_
  refine seqR ?_
  refine oKD _ [] 2 [.o 0, .o 0, .o 1, .o 1] 0 (fun φ3 => [(6, .agg #[.bool false, .pointer none])]) (fun φ3 => [φ1 0, φ1 0, φ1 1, φ1 1]) s (fun φ3 => by kernel_rfl) (by kernel_rfl) ?_
  intro φ3 w3 s
  refine wp_ret ?_
  refine ret_rule (C := []) _ [] (.agg #[.bool false, .pointer none]) [.o 1, .o 1] [φ1 1, φ1 1] s trivial (by kernel_rfl) ?_
  exact ⟨_, _, _, rfl, s, ⟨_, _, rfl, rfl, rfl⟩⟩
 | one =>
  obtain ⟨rfl, rfl⟩ := h
  refine enter_rule 12 [(0, .agg #[.bool true, .pointer none])] Tryd.func85 rfl (by kernel_rfl) ?_
  intro w s
  refine seqR ?_
  refine oAD [] [] 2 [] 2 (fun φ1 => [(2, pB (φ1 1)), (1, pB (φ1 0))]) (fun φ1 => [(φ1 0, .cells #[.bool true, .pointer none] 27), (φ1 1, .cells #[.bool false, .pointer none] 27)]) (fun φ1 => []) s (fun φ1 => by kernel_rfl) (by kernel_rfl) ?_
  intro φ1 w1 s
  refine wp_seq ?_
  refine seqR ?_
  refine oKD _ [] 3 [.o 0] 0 (fun φ2 => [(5, .bool true), (4, .pointer none), (3, .pointer (some ⟨(φ1 0), 1, none⟩))]) (fun φ2 => [(φ1 0)]) s (fun φ2 => by kernel_rfl) (by kernel_rfl) ?_
  intro φ2 w2 s
  refine cond_true_rule (b := true) (by kernel_rfl) rfl ?_
  refine seqR ?_
  refine oAD _ [] 2 [.o 0, .o 0, .o 1, .o 1] 0 (fun φ3 => [(6, .agg #[.bool true, .pointer none])]) (fun φ3 => [(φ1 0, .cells #[.bool true, .pointer none] 27), (φ1 1, .cells #[.bool true, .pointer none] 27)]) (fun φ3 => [φ1 0, φ1 0, φ1 1, φ1 1]) s (fun φ3 => by kernel_rfl) (by kernel_rfl) ?_
  intro φ3 w3 s
  refine wp_ret ?_
  refine ret_rule (C := []) _ [] (.agg #[.bool true, .pointer none]) [.o 1, .o 1] [φ1 1, φ1 1] s trivial (by kernel_rfl) ?_
  exact ⟨_, _, _, rfl, s, ⟨_, _, rfl, rfl, rfl⟩⟩
 | node l r =>
  have hn := h
  obtain ⟨rfl, k, bl, pl, br, pr, rfl, hk, hl, hr⟩ := h
  refine enter_rule 12 [(0, .agg #[.bool false, pB k])] Tryd.func85 rfl (by kernel_rfl) ?_
  intro w s
  refine seqR ?_
  refine oAD [] [] 2 [] 2 (fun φ1 => [(2, pB (φ1 1)), (1, pB (φ1 0))]) (fun φ1 => [(φ1 0, .cells #[.bool false, pB k] 27), (φ1 1, .cells #[.bool false, .pointer none] 27)]) (fun φ1 => []) s (fun φ1 => by kernel_rfl) (by kernel_rfl) ?_
  intro φ1 w1 s
  refine wp_seq ?_
  refine seqR ?_
  refine oKD _ [] 3 [.o 0] 0 (fun φ2 => [(5, .bool false), (4, pB k), (3, .pointer (some ⟨(φ1 0), 1, none⟩))]) (fun φ2 => [(φ1 0)]) s (fun φ2 => by kernel_rfl) (by kernel_rfl) ?_
  intro φ2 w2 s
  refine cond_false_rule (b := false) (by kernel_rfl) rfl ?_
  refine wp_skip ?_
  refine seqR ?_
  refine ops_rule (C := [(k, .cells #[.bool bl, .pointer pl, .bool br, .pointer pr, .int .i64 (T.depth (T.node l r))] 152)]) _ [] 6 [.o 0, .c 0, .c 0, .o 1, .o 1] 0 (fun φ3 => [(11, .agg #[.bool br, .pointer pr]), (10, .pointer (some ⟨k, 2, none⟩)), (9, pB k), (8, pB k), (7, .pointer (some ⟨(φ1 0), 1, none⟩))]) (fun φ3 => [(φ1 0, .cells #[.bool false, pB k] 27), (φ1 1, .cells #[.bool br, .pointer pr] 27)]) (fun φ3 => [φ1 0, k, k, φ1 1, φ1 1]) s ⟨hk, trivial⟩ (fun φ3 => by kernel_rfl) ?_
  intro φ3 w3 s
  refine ops_done (by kernel_rfl) ?_
  refine wp_ret ?_
  refine ret_rule (C := []) _ [] (.agg #[.bool br, .pointer pr]) [.o 1, .o 1] [φ1 1, φ1 1] s trivial (by kernel_rfl) ?_
  exact ⟨_, _, _, rfl, s, ⟨_, _, rfl, hr⟩⟩

set_option maxHeartbeats 400000 in
theorem tdepth_c {I : IM} {t : T} {b : Bool} {p : Option Addr} (h : TRep I t b p) : Fun Tryd.prog 102 #[idv b p] I (fun v J => v = .int .i64 ((t.depth : Nat) : Int)) := by
 cases t with
 | zero =>
  obtain ⟨rfl, rfl⟩ := h
  refine enter_rule 11 [(0, .agg #[.bool false, .pointer none])] Tryd.func102 rfl (by kernel_rfl) ?_
  intro w s
  refine seqR ?_
  refine oAD [] [] 2 [] 1 (fun φ1 => [(2, .int .i64 0), (1, pB (φ1 0))]) (fun φ1 => [(φ1 0, .cells #[.bool false, .pointer none] 27)]) (fun φ1 => []) s (fun φ1 => by kernel_rfl) (by kernel_rfl) ?_
  intro φ1 w1 s
  refine wp_seq ?_
  refine seqR ?_
  refine oKD _ [] 3 [.o 0] 0 (fun φ2 => [(5, .bool true), (4, .pointer none), (3, .pointer (some ⟨(φ1 0), 1, none⟩))]) (fun φ2 => [(φ1 0)]) s (fun φ2 => by kernel_rfl) (by kernel_rfl) ?_
  intro φ2 w2 s
  refine cond_true_rule (b := true) (by kernel_rfl) rfl ?_
  refine seqR ?_
  refine oKD _ [] 1 [] 0 (fun φ3 => [(2, .int .i64 0)]) (fun φ3 => []) s (fun φ3 => by kernel_rfl) (by kernel_rfl) ?_
  intro φ3 w3 s
  refine wp_ret ?_
  refine ret_rule (C := []) _ [] (.int .i64 0) [] [] s trivial (by kernel_rfl) ?_
  exact ⟨_, _, _, rfl, s, rfl⟩
 | one =>
  obtain ⟨rfl, rfl⟩ := h
  refine enter_rule 11 [(0, .agg #[.bool true, .pointer none])] Tryd.func102 rfl (by kernel_rfl) ?_
  intro w s
  refine seqR ?_
  refine oAD [] [] 2 [] 1 (fun φ1 => [(2, .int .i64 0), (1, pB (φ1 0))]) (fun φ1 => [(φ1 0, .cells #[.bool true, .pointer none] 27)]) (fun φ1 => []) s (fun φ1 => by kernel_rfl) (by kernel_rfl) ?_
  intro φ1 w1 s
  refine wp_seq ?_
  refine seqR ?_
  refine oKD _ [] 3 [.o 0] 0 (fun φ2 => [(5, .bool true), (4, .pointer none), (3, .pointer (some ⟨(φ1 0), 1, none⟩))]) (fun φ2 => [(φ1 0)]) s (fun φ2 => by kernel_rfl) (by kernel_rfl) ?_
  intro φ2 w2 s
  refine cond_true_rule (b := true) (by kernel_rfl) rfl ?_
  refine seqR ?_
  refine oKD _ [] 1 [] 0 (fun φ3 => [(2, .int .i64 0)]) (fun φ3 => []) s (fun φ3 => by kernel_rfl) (by kernel_rfl) ?_
  intro φ3 w3 s
  refine wp_ret ?_
  refine ret_rule (C := []) _ [] (.int .i64 0) [] [] s trivial (by kernel_rfl) ?_
  exact ⟨_, _, _, rfl, s, rfl⟩
 | node l r =>
  have hn := h
  obtain ⟨rfl, k, bl, pl, br, pr, rfl, hk, hl, hr⟩ := h
  refine enter_rule 11 [(0, .agg #[.bool false, pB k])] Tryd.func102 rfl (by kernel_rfl) ?_
  intro w s
  refine seqR ?_
  refine oAD [] [] 2 [] 1 (fun φ1 => [(2, .int .i64 0), (1, pB (φ1 0))]) (fun φ1 => [(φ1 0, .cells #[.bool false, pB k] 27)]) (fun φ1 => []) s (fun φ1 => by kernel_rfl) (by kernel_rfl) ?_
  intro φ1 w1 s
  refine wp_seq ?_
  refine seqR ?_
  refine oKD _ [] 3 [.o 0] 0 (fun φ2 => [(5, .bool false), (4, pB k), (3, .pointer (some ⟨(φ1 0), 1, none⟩))]) (fun φ2 => [(φ1 0)]) s (fun φ2 => by kernel_rfl) (by kernel_rfl) ?_
  intro φ2 w2 s
  refine cond_false_rule (b := false) (by kernel_rfl) rfl ?_
  refine wp_skip ?_
  refine seqR ?_
  refine ops_rule (C := [(k, .cells #[.bool bl, .pointer pl, .bool br, .pointer pr, .int .i64 (T.depth (T.node l r))] 152)]) _ [] 6 [.o 0, .c 0] 0 (fun φ3 => [(2, .int .i64 (T.depth (T.node l r))), (10, .int .i64 (T.depth (T.node l r))), (9, .pointer (some ⟨k, 4, none⟩)), (8, pB k), (7, pB k), (6, .pointer (some ⟨(φ1 0), 1, none⟩))]) (fun φ3 => [(φ1 0, .cells #[.bool false, pB k] 27)]) (fun φ3 => [φ1 0, k]) s ⟨hk, trivial⟩ (fun φ3 => by kernel_rfl) ?_
  intro φ3 w3 s
  refine ops_done (by kernel_rfl) ?_
  refine wp_ret ?_
  refine ret_rule (C := []) _ [] (.int .i64 (T.depth (T.node l r))) [] [] s trivial (by kernel_rfl) ?_
  exact ⟨_, _, _, rfl, s, rfl⟩

set_option maxHeartbeats 400000 in
theorem tzero_c {I : IM} : Fun Tryd.prog 71 #[] I (fun v J => v = idv false none) := by
 refine enter_rule 2 [] Tryd.func71 rfl (by kernel_rfl) ?_
 intro w s
 refine seqR ?_
 refine oAD [] [] 1 [] 1 (fun φ1 => [(0, pB (φ1 0))]) (fun φ1 => [(φ1 0, .cells #[.bool false, .pointer none] 27)]) (fun φ1 => []) s (fun φ1 => by kernel_rfl) (by kernel_rfl) ?_
 intro φ1 w1 s
 refine seqR ?_
 refine oKD _ [] 2 [.o 0, .o 0] 0 (fun φ2 => [(1, .agg #[.bool false, .pointer none])]) (fun φ2 => [φ1 0, φ1 0]) s (fun φ2 => by kernel_rfl) (by kernel_rfl) ?_
 intro φ2 w2 s
 refine wp_ret ?_
 refine ret_rule (C := []) _ [] (.agg #[.bool false, .pointer none]) [.o 0, .o 0] [φ1 0, φ1 0] s trivial (by kernel_rfl) ?_
 exact ⟨_, _, _, rfl, s, rfl⟩

set_option maxHeartbeats 400000 in
theorem tone_c {I : IM} : Fun Tryd.prog 69 #[] I (fun v J => v = idv true none) := by
 refine enter_rule 2 [] Tryd.func69 rfl (by kernel_rfl) ?_
 intro w s
 refine seqR ?_
 refine oAD [] [] 1 [] 1 (fun φ1 => [(0, pB (φ1 0))]) (fun φ1 => [(φ1 0, .cells #[.bool false, .pointer none] 27)]) (fun φ1 => []) s (fun φ1 => by kernel_rfl) (by kernel_rfl) ?_
 intro φ1 w1 s
 refine seqR ?_
 refine oAD _ [] 2 [.o 0, .o 0] 0 (fun φ2 => [(1, .agg #[.bool true, .pointer none])]) (fun φ2 => [(φ1 0, .cells #[.bool true, .pointer none] 27)]) (fun φ2 => [φ1 0, φ1 0]) s (fun φ2 => by kernel_rfl) (by kernel_rfl) ?_
 intro φ2 w2 s
 refine wp_ret ?_
 refine ret_rule (C := []) _ [] (.agg #[.bool true, .pointer none]) [.o 0, .o 0] [φ1 0, φ1 0] s trivial (by kernel_rfl) ?_
 exact ⟨_, _, _, rfl, s, rfl⟩

theorem mk_zero {l r : T} (h1 : l.isZero = true) (h2 : r.isZero = true) : T.mk l r = .zero := by cases l <;> cases r <;> simp_all [T.isZero, T.mk]
theorem mk_one {l r : T} (h1 : l.isOne = true) (h2 : r.isOne = true) : T.mk l r = .one := by cases l <;> cases r <;> simp_all [T.isOne, T.mk]
theorem mk_node {l r : T} (h1 : l.isZero = false ∨ r.isZero = false) (h2 : l.isOne = false ∨ r.isOne = false) : T.mk l r = .node l r := by cases l <;> cases r <;> simp_all [T.isOne, T.isZero, T.mk]

set_option maxHeartbeats 1000000 in
theorem merge_c {I : IM} {l r : T} {bl br : Bool} {pl pr : Option Addr} (hl : TRep I l bl pl) (hr : TRep I r br pr) (hdl : l.depth ≤ 1000) (hdr : r.depth ≤ 1000) : Fun Tryd.prog 101 #[idv bl pl, idv br pr] I (fun v J => ∃ b p, v = idv b p ∧ TRep J (T.mk l r) b p) := by
 refine enter_rule 30 [(0, .agg #[.bool bl, .pointer pl]), (1, .agg #[.bool br, .pointer pr])] Tryd.func101 rfl (by kernel_rfl) ?_
 intro w s
 refine seqR ?_
 refine oAD [] [] 3 [] 3 (fun φ1 => [(4, pB (φ1 2)), (3, pB (φ1 1)), (2, pB (φ1 0))]) (fun φ1 => [(φ1 0, .cells #[.bool bl, .pointer pl] 27), (φ1 1, .cells #[.bool br, .pointer pr] 27), (φ1 2, .cells #[.bool false, .pointer none] 27)]) (fun φ1 => []) s (fun φ1 => by kernel_rfl) (by kernel_rfl) ?_
 intro φ1 w1 s
 refine wp_seq ?_
 refine seqR ?_
 refine oK _ [] 1 [.o 0, .o 0] 0 (fun φ2 => [(5, .agg #[.bool bl, .pointer pl])]) (fun φ2 => [φ1 0, φ1 0]) s (fun φ2 => by kernel_rfl) ?_
 intro φ2 w2 s
 refine call_rule (some 6) s (isZero_c hl) (by kernel_rfl) ?_
 intro v3 I3 w3 le3 h3 s
 replace hl := TRep.mono le3 hl
 replace hr := TRep.mono le3 hr
 obtain rfl := h3
 refine oK _ [] 1 [] 0 (fun φ4 => [(7, .bool (T.isZero l))]) (fun φ4 => []) s (fun φ4 => by kernel_rfl) ?_
 intro φ4 w4 s
 rcases Bool.eq_false_or_eq_true (T.isZero l) with hc5 | hc5
 ·
  rw [hc5]
  refine oK _ [] 1 [.o 1, .o 1] 0 (fun φ6 => [(8, .agg #[.bool br, .pointer pr])]) (fun φ6 => [φ1 1, φ1 1]) s (fun φ6 => by kernel_rfl) ?_
  intro φ6 w6 s
  refine call_rule (some 9) s (isZero_c hr) (by kernel_rfl) ?_
  intro v7 I7 w7 le7 h7 s
  replace hl := TRep.mono le7 hl
  replace hr := TRep.mono le7 hr
  obtain rfl := h7
  refine oKD _ [] 1 [] 0 (fun φ8 => [(10, .bool (T.isZero r))]) (fun φ8 => []) s (fun φ8 => by kernel_rfl) (by kernel_rfl) ?_
  intro φ8 w8 s
  rcases Bool.eq_false_or_eq_true (T.isZero r) with hc9 | hc9
  ·
   rw [hc9]
   refine cond_true_rule (b := true) (by kernel_rfl) rfl ?_
   refine seqR ?_
   refine call_rule (some 11) s (tzero_c) (by kernel_rfl) ?_
   intro v10 I10 w10 le10 h10 s
   replace hl := TRep.mono le10 hl
   replace hr := TRep.mono le10 hr
   obtain rfl := h10
   refine oKD _ [] 1 [.o 2, .o 2] 0 (fun φ11 => []) (fun φ11 => [φ1 2, φ1 2]) s (fun φ11 => by kernel_rfl) (by kernel_rfl) ?_
   intro φ11 w11 s
   refine wp_ret ?_
   refine ret_rule (C := []) _ [] (.agg #[.bool false, .pointer none]) [.o 2, .o 2] [φ1 2, φ1 2] s trivial (by kernel_rfl) ?_
   exact ⟨_, _, _, rfl, s, ⟨_, _, rfl, by rw [mk_zero hc5 hc9]; exact ⟨rfl, rfl⟩⟩⟩
  ·
   rw [hc9]
   refine cond_false_rule (b := false) (by kernel_rfl) rfl ?_
   refine wp_skip ?_
   refine wp_seq ?_
   refine seqR ?_
   refine oK _ [] 1 [.o 0, .o 0] 0 (fun φ12 => [(12, .agg #[.bool bl, .pointer pl])]) (fun φ12 => [φ1 0, φ1 0]) s (fun φ12 => by kernel_rfl) ?_
   intro φ12 w12 s
   refine call_rule (some 13) s (isOne_c hl) (by kernel_rfl) ?_
   intro v13 I13 w13 le13 h13 s
   replace hl := TRep.mono le13 hl
   replace hr := TRep.mono le13 hr
   obtain rfl := h13
   refine oK _ [] 1 [] 0 (fun φ14 => [(14, .bool (T.isOne l))]) (fun φ14 => []) s (fun φ14 => by kernel_rfl) ?_
   intro φ14 w14 s
   rcases Bool.eq_false_or_eq_true (T.isOne l) with hc15 | hc15
   ·
    rw [hc15]
    refine oK _ [] 1 [.o 1, .o 1] 0 (fun φ16 => [(15, .agg #[.bool br, .pointer pr])]) (fun φ16 => [φ1 1, φ1 1]) s (fun φ16 => by kernel_rfl) ?_
    intro φ16 w16 s
    refine call_rule (some 16) s (isOne_c hr) (by kernel_rfl) ?_
    intro v17 I17 w17 le17 h17 s
    replace hl := TRep.mono le17 hl
    replace hr := TRep.mono le17 hr
    obtain rfl := h17
    refine oKD _ [] 1 [] 0 (fun φ18 => [(17, .bool (T.isOne r))]) (fun φ18 => []) s (fun φ18 => by kernel_rfl) (by kernel_rfl) ?_
    intro φ18 w18 s
    rcases Bool.eq_false_or_eq_true (T.isOne r) with hc19 | hc19
    ·
     rw [hc19]
     refine cond_true_rule (b := true) (by kernel_rfl) rfl ?_
     refine seqR ?_
     refine call_rule (some 18) s (tone_c) (by kernel_rfl) ?_
     intro v20 I20 w20 le20 h20 s
     replace hl := TRep.mono le20 hl
     replace hr := TRep.mono le20 hr
     obtain rfl := h20
     refine oAD _ [] 1 [.o 2, .o 2] 0 (fun φ21 => []) (fun φ21 => [(φ1 0, .cells #[.bool bl, .pointer pl] 27), (φ1 1, .cells #[.bool br, .pointer pr] 27), (φ1 2, .cells #[.bool true, .pointer none] 27)]) (fun φ21 => [φ1 2, φ1 2]) s (fun φ21 => by kernel_rfl) (by kernel_rfl) ?_
     intro φ21 w21 s
     refine wp_ret ?_
     refine ret_rule (C := []) _ [] (.agg #[.bool true, .pointer none]) [.o 2, .o 2] [φ1 2, φ1 2] s trivial (by kernel_rfl) ?_
     exact ⟨_, _, _, rfl, s, ⟨_, _, rfl, by rw [mk_one hc15 hc19]; exact ⟨rfl, rfl⟩⟩⟩
    ·
     rw [hc19]
     refine cond_false_rule (b := false) (by kernel_rfl) rfl ?_
     refine wp_skip ?_
     refine wp_seq ?_
     refine draw_rule (C := []) ⟨(fun φ22 xs22 => [.look 0 [.o 0, .o 0] [φ1 0, φ1 0], .look 0 [.o 1, .o 1] [φ1 1, φ1 1], .look 0 [.o 0, .o 0] [φ1 0, φ1 0], .call 102 #[.agg #[.bool bl, .pointer pl]], .look 0 [.o 1, .o 1] [φ1 1, φ1 1], .call 102 #[.agg #[.bool br, .pointer pr]], .sub 0 [] [] (.int .i64 (if ((T.depth r : Nat) : Int) > ((T.depth l : Nat) : Int) then ((T.depth r : Nat) : Int) else ((T.depth l : Nat) : Int))), .sub 0 [] [] (.int .i64 (IntKind.wrap .i64 (((1 : Nat) : Int) + ((max (T.depth l) (T.depth r) : Nat) : Int)))), .look 0 [] [], .new, .look 0 [] [], .store 0 [.o 2, .o 2] [φ1 2, φ1 2]]), (fun φ22 xs22 => [.agg #[.bool bl, .pointer pl], .agg #[.bool br, .pointer pr], .agg #[.bool bl, .pointer pl], .int .i64 (T.depth l), .agg #[.bool br, .pointer pr], .int .i64 (T.depth r), .int .i64 ((max (T.depth l) (T.depth r) : Nat) : Int), .int .i64 ((1 + (max (T.depth l) (T.depth r)) : Nat) : Int), .agg #[.bool bl, .pointer pl, .bool br, .pointer pr, .int .i64 ((1 + (max (T.depth l) (T.depth r)) : Nat) : Int)], pB (φ22 9), .agg #[.bool false, pB (φ22 9)], undef]), (fun φ22 xs22 => [[(φ1 0, .cells #[.bool bl, .pointer pl] 27), (φ1 1, .cells #[.bool br, .pointer pr] 27), (φ1 2, .cells #[.bool false, .pointer none] 27)], [(φ1 0, .cells #[.bool bl, .pointer pl] 27), (φ1 1, .cells #[.bool br, .pointer pr] 27), (φ1 2, .cells #[.bool false, pB (φ22 9)] 27)]]), (fun φ22 xs22 => [[default, default, default, default, default, default, default, default, default, .cells #[.bool bl, .pointer pl, .bool br, .pointer pr, .int .i64 ((1 + (max (T.depth l) (T.depth r)) : Nat) : Int)] 152, default, default], [default, default, default, default, default, default, default, default, default, .cells #[.bool bl, .pointer pl, .bool br, .pointer pr, .int .i64 ((1 + (max (T.depth l) (T.depth r)) : Nat) : Int)] 152, default, default]]), [11], [1, 1, 1, 3, 1, 3, 5, 5, 1, 2, 1, 4]⟩ (fun j => ([MP.any] : List MP).getD j MP.any) [3, 5] [6, 7] [] (fun φ22 xs22 => [[none, none, none, none, none, none, none, none, none, none, none, none]]) (fun φ22 xs22 => [(19, .agg #[.bool bl, .pointer pl]), (20, .agg #[.bool br, .pointer pr]), (21, .agg #[.bool bl, .pointer pl]), (22, .int .i64 (T.depth l)), (23, .agg #[.bool br, .pointer pr]), (24, .int .i64 (T.depth r)), (25, .int .i64 ((max (T.depth l) (T.depth r) : Nat) : Int)), (26, .int .i64 ((1 + (max (T.depth l) (T.depth r)) : Nat) : Int)), (27, .agg #[.bool bl, .pointer pl, .bool br, .pointer pr, .int .i64 ((1 + (max (T.depth l) (T.depth r)) : Nat) : Int)]), (28, pB (φ22 9)), (29, .agg #[.bool false, pB (φ22 9)])]) (fun φ22 xs22 => [(φ1 0, .cells #[.bool bl, .pointer pl] 27), (φ1 1, .cells #[.bool br, .pointer pr] 27), (φ1 2, .cells #[.bool false, pB (φ22 9)] 27), (φ22 9, .cells #[.bool bl, .pointer pl, .bool br, .pointer pr, .int .i64 ((1 + (max (T.depth l) (T.depth r)) : Nat) : Int)] 152)]) s trivial (by kernel_rfl) (by kernel_rfl) (fun _ _ => by kernel_rfl) (fun _ _ => by kernel_rfl) ⟨fun _ _ => by kernel_rfl, fun _ _ => by kernel_rfl, fun _ _ => by kernel_rfl, fun _ _ => by kernel_rfl⟩ (fun _ _ _ => by kernel_rfl) (fun _ _ => by kernel_rfl) (fun _ _ => by kernel_rfl) (fun _ _ => by kernel_rfl) (fun _ _ => by kernel_rfl) (fun _ _ => by kernel_rfl) ⟨kcast (A := ∀ (φ22 : Nat → Nat) (xs22 : Xs), (.int .i64 (if ((T.depth r : Nat) : Int) > ((T.depth l : Nat) : Int) then ((T.depth r : Nat) : Int) else ((T.depth l : Nat) : Int)) : Value) = .int .i64 ((max (T.depth l) (T.depth r) : Nat) : Int)) (by kernel_rfl) (fun φ22 xs22 => congrArg (Value.int .i64) ((nat_max (a := (T.depth l)) (b := (T.depth r))))), ⟨kcast (A := ∀ (φ22 : Nat → Nat) (xs22 : Xs), (.int .i64 (IntKind.wrap .i64 (((1 : Nat) : Int) + ((max (T.depth l) (T.depth r) : Nat) : Int))) : Value) = .int .i64 ((1 + (max (T.depth l) (T.depth r)) : Nat) : Int)) (by kernel_rfl) (fun φ22 xs22 => congrArg (Value.int .i64) ((nat_addI (a := 1) (b := (max (T.depth l) (T.depth r))) (by omega)))), trivial⟩⟩ trivial (by kernel_rfl) ⟨?c22_3, ?c22_5, trivial⟩ ?k22
     case c22_3 =>
      refine kcast (A := ∀ (φ22 : Nat → Nat) (xs22 : Xs) (J3_22 : IM), I17.Le J3_22 → Fun Tryd.prog 102 #[.agg #[.bool bl, .pointer pl]] J3_22 (fun v J' => ∃ x : UX, v = .int .i64 (T.depth l) ∧ (True))) (by kernel_rfl) ?_
      intro φ22 xs22 J3_22 leJ
      have hl := TRep.mono leJ hl
      exact Fun.mono (tdepth_c hl) (fun v J' _ h => ⟨UX.d, h, trivial⟩)
     case c22_5 =>
      refine kcast (A := ∀ (φ22 : Nat → Nat) (xs22 : Xs) (J5_22 : IM), I17.Le J5_22 → (True) → Fun Tryd.prog 102 #[.agg #[.bool br, .pointer pr]] J5_22 (fun v J' => ∃ x : UX, v = .int .i64 (T.depth r) ∧ (True))) (by kernel_rfl) ?_
      intro φ22 xs22 J5_22 leJ
      rintro _
      have hr := TRep.mono leJ hr
      exact Fun.mono (tdepth_c hr) (fun v J' _ h => ⟨UX.d, h, trivial⟩)
     case k22 =>
      rintro φ22 xs22 I22 w22 le22 s _ _
      replace hl := TRep.mono le22 hl
      replace hr := TRep.mono le22 hr
      refine wp_ret ?_
      refine ret_rule (C := []) [(φ1 0, .cells #[.bool bl, .pointer pl] 27), (φ1 1, .cells #[.bool br, .pointer pr] 27), (φ1 2, .cells #[.bool false, pB (φ22 9)] 27), (φ22 9, .cells #[.bool bl, .pointer pl, .bool br, .pointer pr, .int .i64 ((1 + (max (T.depth l) (T.depth r)) : Nat) : Int)] 152)] [] (.agg #[.bool false, pB (φ22 9)]) [.o 2, .o 2] [φ1 2, φ1 2] s trivial (by kernel_rfl) ?_
      obtain ⟨I23, le23, hk23, s⟩ := s.freezeAt 3 (φ22 9) (.cells #[.bool bl, .pointer pl, .bool br, .pointer pr, .int .i64 ((1 + (max (T.depth l) (T.depth r)) : Nat) : Int)] 152) [((φ1 0), .cells #[.bool bl, .pointer pl] 27), ((φ1 1), .cells #[.bool br, .pointer pr] 27), ((φ1 2), .cells #[.bool false, .pointer (some ⟨(φ22 9), 0, none⟩)] 27)] (by kernel_rfl) (by kernel_rfl)
      replace hl := TRep.mono le23 hl
      replace hr := TRep.mono le23 hr
      exact ⟨_, _, _, rfl, s, ⟨_, _, rfl, by rw [mk_node (.inr hc9) (.inr hc19)]; exact ⟨rfl, _, _, _, _, _, rfl, hk23, hl, hr⟩⟩⟩
   ·
    rw [hc15]
    refine oKD _ [] 3 [] 0 (fun φ24 => [(17, .bool false), (16, undef), (15, undef)]) (fun φ24 => []) s (fun φ24 => by kernel_rfl) (by kernel_rfl) ?_
    intro φ24 w24 s
    refine cond_false_rule (b := false) (by kernel_rfl) rfl ?_
    refine wp_skip ?_
    refine wp_seq ?_
    refine draw_rule (C := []) ⟨(fun φ25 xs25 => [.look 0 [.o 0, .o 0] [φ1 0, φ1 0], .look 0 [.o 1, .o 1] [φ1 1, φ1 1], .look 0 [.o 0, .o 0] [φ1 0, φ1 0], .call 102 #[.agg #[.bool bl, .pointer pl]], .look 0 [.o 1, .o 1] [φ1 1, φ1 1], .call 102 #[.agg #[.bool br, .pointer pr]], .sub 0 [] [] (.int .i64 (if ((T.depth r : Nat) : Int) > ((T.depth l : Nat) : Int) then ((T.depth r : Nat) : Int) else ((T.depth l : Nat) : Int))), .sub 0 [] [] (.int .i64 (IntKind.wrap .i64 (((1 : Nat) : Int) + ((max (T.depth l) (T.depth r) : Nat) : Int)))), .look 0 [] [], .new, .look 0 [] [], .store 0 [.o 2, .o 2] [φ1 2, φ1 2]]), (fun φ25 xs25 => [.agg #[.bool bl, .pointer pl], .agg #[.bool br, .pointer pr], .agg #[.bool bl, .pointer pl], .int .i64 (T.depth l), .agg #[.bool br, .pointer pr], .int .i64 (T.depth r), .int .i64 ((max (T.depth l) (T.depth r) : Nat) : Int), .int .i64 ((1 + (max (T.depth l) (T.depth r)) : Nat) : Int), .agg #[.bool bl, .pointer pl, .bool br, .pointer pr, .int .i64 ((1 + (max (T.depth l) (T.depth r)) : Nat) : Int)], pB (φ25 9), .agg #[.bool false, pB (φ25 9)], undef]), (fun φ25 xs25 => [[(φ1 0, .cells #[.bool bl, .pointer pl] 27), (φ1 1, .cells #[.bool br, .pointer pr] 27), (φ1 2, .cells #[.bool false, .pointer none] 27)], [(φ1 0, .cells #[.bool bl, .pointer pl] 27), (φ1 1, .cells #[.bool br, .pointer pr] 27), (φ1 2, .cells #[.bool false, pB (φ25 9)] 27)]]), (fun φ25 xs25 => [[default, default, default, default, default, default, default, default, default, .cells #[.bool bl, .pointer pl, .bool br, .pointer pr, .int .i64 ((1 + (max (T.depth l) (T.depth r)) : Nat) : Int)] 152, default, default], [default, default, default, default, default, default, default, default, default, .cells #[.bool bl, .pointer pl, .bool br, .pointer pr, .int .i64 ((1 + (max (T.depth l) (T.depth r)) : Nat) : Int)] 152, default, default]]), [11], [1, 1, 1, 3, 1, 3, 5, 5, 1, 2, 1, 4]⟩ (fun j => ([MP.any] : List MP).getD j MP.any) [3, 5] [6, 7] [] (fun φ25 xs25 => [[none, none, none, none, none, none, none, none, none, none, none, none]]) (fun φ25 xs25 => [(19, .agg #[.bool bl, .pointer pl]), (20, .agg #[.bool br, .pointer pr]), (21, .agg #[.bool bl, .pointer pl]), (22, .int .i64 (T.depth l)), (23, .agg #[.bool br, .pointer pr]), (24, .int .i64 (T.depth r)), (25, .int .i64 ((max (T.depth l) (T.depth r) : Nat) : Int)), (26, .int .i64 ((1 + (max (T.depth l) (T.depth r)) : Nat) : Int)), (27, .agg #[.bool bl, .pointer pl, .bool br, .pointer pr, .int .i64 ((1 + (max (T.depth l) (T.depth r)) : Nat) : Int)]), (28, pB (φ25 9)), (29, .agg #[.bool false, pB (φ25 9)])]) (fun φ25 xs25 => [(φ1 0, .cells #[.bool bl, .pointer pl] 27), (φ1 1, .cells #[.bool br, .pointer pr] 27), (φ1 2, .cells #[.bool false, pB (φ25 9)] 27), (φ25 9, .cells #[.bool bl, .pointer pl, .bool br, .pointer pr, .int .i64 ((1 + (max (T.depth l) (T.depth r)) : Nat) : Int)] 152)]) s trivial (by kernel_rfl) (by kernel_rfl) (fun _ _ => by kernel_rfl) (fun _ _ => by kernel_rfl) ⟨fun _ _ => by kernel_rfl, fun _ _ => by kernel_rfl, fun _ _ => by kernel_rfl, fun _ _ => by kernel_rfl⟩ (fun _ _ _ => by kernel_rfl) (fun _ _ => by kernel_rfl) (fun _ _ => by kernel_rfl) (fun _ _ => by kernel_rfl) (fun _ _ => by kernel_rfl) (fun _ _ => by kernel_rfl) ⟨kcast (A := ∀ (φ25 : Nat → Nat) (xs25 : Xs), (.int .i64 (if ((T.depth r : Nat) : Int) > ((T.depth l : Nat) : Int) then ((T.depth r : Nat) : Int) else ((T.depth l : Nat) : Int)) : Value) = .int .i64 ((max (T.depth l) (T.depth r) : Nat) : Int)) (by kernel_rfl) (fun φ25 xs25 => congrArg (Value.int .i64) ((nat_max (a := (T.depth l)) (b := (T.depth r))))), ⟨kcast (A := ∀ (φ25 : Nat → Nat) (xs25 : Xs), (.int .i64 (IntKind.wrap .i64 (((1 : Nat) : Int) + ((max (T.depth l) (T.depth r) : Nat) : Int))) : Value) = .int .i64 ((1 + (max (T.depth l) (T.depth r)) : Nat) : Int)) (by kernel_rfl) (fun φ25 xs25 => congrArg (Value.int .i64) ((nat_addI (a := 1) (b := (max (T.depth l) (T.depth r))) (by omega)))), trivial⟩⟩ trivial (by kernel_rfl) ⟨?c25_3, ?c25_5, trivial⟩ ?k25
    case c25_3 =>
     refine kcast (A := ∀ (φ25 : Nat → Nat) (xs25 : Xs) (J3_25 : IM), I13.Le J3_25 → Fun Tryd.prog 102 #[.agg #[.bool bl, .pointer pl]] J3_25 (fun v J' => ∃ x : UX, v = .int .i64 (T.depth l) ∧ (True))) (by kernel_rfl) ?_
     intro φ25 xs25 J3_25 leJ
     have hl := TRep.mono leJ hl
     exact Fun.mono (tdepth_c hl) (fun v J' _ h => ⟨UX.d, h, trivial⟩)
    case c25_5 =>
     refine kcast (A := ∀ (φ25 : Nat → Nat) (xs25 : Xs) (J5_25 : IM), I13.Le J5_25 → (True) → Fun Tryd.prog 102 #[.agg #[.bool br, .pointer pr]] J5_25 (fun v J' => ∃ x : UX, v = .int .i64 (T.depth r) ∧ (True))) (by kernel_rfl) ?_
     intro φ25 xs25 J5_25 leJ
     rintro _
     have hr := TRep.mono leJ hr
     exact Fun.mono (tdepth_c hr) (fun v J' _ h => ⟨UX.d, h, trivial⟩)
    case k25 =>
     rintro φ25 xs25 I25 w25 le25 s _ _
     replace hl := TRep.mono le25 hl
     replace hr := TRep.mono le25 hr
     refine wp_ret ?_
     refine ret_rule (C := []) [(φ1 0, .cells #[.bool bl, .pointer pl] 27), (φ1 1, .cells #[.bool br, .pointer pr] 27), (φ1 2, .cells #[.bool false, pB (φ25 9)] 27), (φ25 9, .cells #[.bool bl, .pointer pl, .bool br, .pointer pr, .int .i64 ((1 + (max (T.depth l) (T.depth r)) : Nat) : Int)] 152)] [] (.agg #[.bool false, pB (φ25 9)]) [.o 2, .o 2] [φ1 2, φ1 2] s trivial (by kernel_rfl) ?_
     obtain ⟨I26, le26, hk26, s⟩ := s.freezeAt 3 (φ25 9) (.cells #[.bool bl, .pointer pl, .bool br, .pointer pr, .int .i64 ((1 + (max (T.depth l) (T.depth r)) : Nat) : Int)] 152) [((φ1 0), .cells #[.bool bl, .pointer pl] 27), ((φ1 1), .cells #[.bool br, .pointer pr] 27), ((φ1 2), .cells #[.bool false, .pointer (some ⟨(φ25 9), 0, none⟩)] 27)] (by kernel_rfl) (by kernel_rfl)
     replace hl := TRep.mono le26 hl
     replace hr := TRep.mono le26 hr
     exact ⟨_, _, _, rfl, s, ⟨_, _, rfl, by rw [mk_node (.inr hc9) (.inl hc15)]; exact ⟨rfl, _, _, _, _, _, rfl, hk26, hl, hr⟩⟩⟩
 ·
  rw [hc5]
  refine oKD _ [] 3 [] 0 (fun φ27 => [(10, .bool false), (9, undef), (8, undef)]) (fun φ27 => []) s (fun φ27 => by kernel_rfl) (by kernel_rfl) ?_
  intro φ27 w27 s
  refine cond_false_rule (b := false) (by kernel_rfl) rfl ?_
  refine wp_skip ?_
  refine wp_seq ?_
  refine seqR ?_
  refine oK _ [] 1 [.o 0, .o 0] 0 (fun φ28 => [(12, .agg #[.bool bl, .pointer pl])]) (fun φ28 => [φ1 0, φ1 0]) s (fun φ28 => by kernel_rfl) ?_
  intro φ28 w28 s
  refine call_rule (some 13) s (isOne_c hl) (by kernel_rfl) ?_
  intro v29 I29 w29 le29 h29 s
  replace hl := TRep.mono le29 hl
  replace hr := TRep.mono le29 hr
  obtain rfl := h29
  refine oK _ [] 1 [] 0 (fun φ30 => [(14, .bool (T.isOne l))]) (fun φ30 => []) s (fun φ30 => by kernel_rfl) ?_
  intro φ30 w30 s
  rcases Bool.eq_false_or_eq_true (T.isOne l) with hc31 | hc31
  ·
   rw [hc31]
   refine oK _ [] 1 [.o 1, .o 1] 0 (fun φ32 => [(15, .agg #[.bool br, .pointer pr])]) (fun φ32 => [φ1 1, φ1 1]) s (fun φ32 => by kernel_rfl) ?_
   intro φ32 w32 s
   refine call_rule (some 16) s (isOne_c hr) (by kernel_rfl) ?_
   intro v33 I33 w33 le33 h33 s
   replace hl := TRep.mono le33 hl
   replace hr := TRep.mono le33 hr
   obtain rfl := h33
   refine oKD _ [] 1 [] 0 (fun φ34 => [(17, .bool (T.isOne r))]) (fun φ34 => []) s (fun φ34 => by kernel_rfl) (by kernel_rfl) ?_
   intro φ34 w34 s
   rcases Bool.eq_false_or_eq_true (T.isOne r) with hc35 | hc35
   ·
    rw [hc35]
    refine cond_true_rule (b := true) (by kernel_rfl) rfl ?_
    refine seqR ?_
    refine call_rule (some 18) s (tone_c) (by kernel_rfl) ?_
    intro v36 I36 w36 le36 h36 s
    replace hl := TRep.mono le36 hl
    replace hr := TRep.mono le36 hr
    obtain rfl := h36
    refine oAD _ [] 1 [.o 2, .o 2] 0 (fun φ37 => []) (fun φ37 => [(φ1 0, .cells #[.bool bl, .pointer pl] 27), (φ1 1, .cells #[.bool br, .pointer pr] 27), (φ1 2, .cells #[.bool true, .pointer none] 27)]) (fun φ37 => [φ1 2, φ1 2]) s (fun φ37 => by kernel_rfl) (by kernel_rfl) ?_
    intro φ37 w37 s
    refine wp_ret ?_
    refine ret_rule (C := []) _ [] (.agg #[.bool true, .pointer none]) [.o 2, .o 2] [φ1 2, φ1 2] s trivial (by kernel_rfl) ?_
    exact ⟨_, _, _, rfl, s, ⟨_, _, rfl, by rw [mk_one hc31 hc35]; exact ⟨rfl, rfl⟩⟩⟩
   ·
    rw [hc35]
    refine cond_false_rule (b := false) (by kernel_rfl) rfl ?_
    refine wp_skip ?_
    refine wp_seq ?_
    refine draw_rule (C := []) ⟨(fun φ38 xs38 => [.look 0 [.o 0, .o 0] [φ1 0, φ1 0], .look 0 [.o 1, .o 1] [φ1 1, φ1 1], .look 0 [.o 0, .o 0] [φ1 0, φ1 0], .call 102 #[.agg #[.bool bl, .pointer pl]], .look 0 [.o 1, .o 1] [φ1 1, φ1 1], .call 102 #[.agg #[.bool br, .pointer pr]], .sub 0 [] [] (.int .i64 (if ((T.depth r : Nat) : Int) > ((T.depth l : Nat) : Int) then ((T.depth r : Nat) : Int) else ((T.depth l : Nat) : Int))), .sub 0 [] [] (.int .i64 (IntKind.wrap .i64 (((1 : Nat) : Int) + ((max (T.depth l) (T.depth r) : Nat) : Int)))), .look 0 [] [], .new, .look 0 [] [], .store 0 [.o 2, .o 2] [φ1 2, φ1 2]]), (fun φ38 xs38 => [.agg #[.bool bl, .pointer pl], .agg #[.bool br, .pointer pr], .agg #[.bool bl, .pointer pl], .int .i64 (T.depth l), .agg #[.bool br, .pointer pr], .int .i64 (T.depth r), .int .i64 ((max (T.depth l) (T.depth r) : Nat) : Int), .int .i64 ((1 + (max (T.depth l) (T.depth r)) : Nat) : Int), .agg #[.bool bl, .pointer pl, .bool br, .pointer pr, .int .i64 ((1 + (max (T.depth l) (T.depth r)) : Nat) : Int)], pB (φ38 9), .agg #[.bool false, pB (φ38 9)], undef]), (fun φ38 xs38 => [[(φ1 0, .cells #[.bool bl, .pointer pl] 27), (φ1 1, .cells #[.bool br, .pointer pr] 27), (φ1 2, .cells #[.bool false, .pointer none] 27)], [(φ1 0, .cells #[.bool bl, .pointer pl] 27), (φ1 1, .cells #[.bool br, .pointer pr] 27), (φ1 2, .cells #[.bool false, pB (φ38 9)] 27)]]), (fun φ38 xs38 => [[default, default, default, default, default, default, default, default, default, .cells #[.bool bl, .pointer pl, .bool br, .pointer pr, .int .i64 ((1 + (max (T.depth l) (T.depth r)) : Nat) : Int)] 152, default, default], [default, default, default, default, default, default, default, default, default, .cells #[.bool bl, .pointer pl, .bool br, .pointer pr, .int .i64 ((1 + (max (T.depth l) (T.depth r)) : Nat) : Int)] 152, default, default]]), [11], [1, 1, 1, 3, 1, 3, 5, 5, 1, 2, 1, 4]⟩ (fun j => ([MP.any] : List MP).getD j MP.any) [3, 5] [6, 7] [] (fun φ38 xs38 => [[none, none, none, none, none, none, none, none, none, none, none, none]]) (fun φ38 xs38 => [(19, .agg #[.bool bl, .pointer pl]), (20, .agg #[.bool br, .pointer pr]), (21, .agg #[.bool bl, .pointer pl]), (22, .int .i64 (T.depth l)), (23, .agg #[.bool br, .pointer pr]), (24, .int .i64 (T.depth r)), (25, .int .i64 ((max (T.depth l) (T.depth r) : Nat) : Int)), (26, .int .i64 ((1 + (max (T.depth l) (T.depth r)) : Nat) : Int)), (27, .agg #[.bool bl, .pointer pl, .bool br, .pointer pr, .int .i64 ((1 + (max (T.depth l) (T.depth r)) : Nat) : Int)]), (28, pB (φ38 9)), (29, .agg #[.bool false, pB (φ38 9)])]) (fun φ38 xs38 => [(φ1 0, .cells #[.bool bl, .pointer pl] 27), (φ1 1, .cells #[.bool br, .pointer pr] 27), (φ1 2, .cells #[.bool false, pB (φ38 9)] 27), (φ38 9, .cells #[.bool bl, .pointer pl, .bool br, .pointer pr, .int .i64 ((1 + (max (T.depth l) (T.depth r)) : Nat) : Int)] 152)]) s trivial (by kernel_rfl) (by kernel_rfl) (fun _ _ => by kernel_rfl) (fun _ _ => by kernel_rfl) ⟨fun _ _ => by kernel_rfl, fun _ _ => by kernel_rfl, fun _ _ => by kernel_rfl, fun _ _ => by kernel_rfl⟩ (fun _ _ _ => by kernel_rfl) (fun _ _ => by kernel_rfl) (fun _ _ => by kernel_rfl) (fun _ _ => by kernel_rfl) (fun _ _ => by kernel_rfl) (fun _ _ => by kernel_rfl) ⟨kcast (A := ∀ (φ38 : Nat → Nat) (xs38 : Xs), (.int .i64 (if ((T.depth r : Nat) : Int) > ((T.depth l : Nat) : Int) then ((T.depth r : Nat) : Int) else ((T.depth l : Nat) : Int)) : Value) = .int .i64 ((max (T.depth l) (T.depth r) : Nat) : Int)) (by kernel_rfl) (fun φ38 xs38 => congrArg (Value.int .i64) ((nat_max (a := (T.depth l)) (b := (T.depth r))))), ⟨kcast (A := ∀ (φ38 : Nat → Nat) (xs38 : Xs), (.int .i64 (IntKind.wrap .i64 (((1 : Nat) : Int) + ((max (T.depth l) (T.depth r) : Nat) : Int))) : Value) = .int .i64 ((1 + (max (T.depth l) (T.depth r)) : Nat) : Int)) (by kernel_rfl) (fun φ38 xs38 => congrArg (Value.int .i64) ((nat_addI (a := 1) (b := (max (T.depth l) (T.depth r))) (by omega)))), trivial⟩⟩ trivial (by kernel_rfl) ⟨?c38_3, ?c38_5, trivial⟩ ?k38
    case c38_3 =>
     refine kcast (A := ∀ (φ38 : Nat → Nat) (xs38 : Xs) (J3_38 : IM), I33.Le J3_38 → Fun Tryd.prog 102 #[.agg #[.bool bl, .pointer pl]] J3_38 (fun v J' => ∃ x : UX, v = .int .i64 (T.depth l) ∧ (True))) (by kernel_rfl) ?_
     intro φ38 xs38 J3_38 leJ
     have hl := TRep.mono leJ hl
     exact Fun.mono (tdepth_c hl) (fun v J' _ h => ⟨UX.d, h, trivial⟩)
    case c38_5 =>
     refine kcast (A := ∀ (φ38 : Nat → Nat) (xs38 : Xs) (J5_38 : IM), I33.Le J5_38 → (True) → Fun Tryd.prog 102 #[.agg #[.bool br, .pointer pr]] J5_38 (fun v J' => ∃ x : UX, v = .int .i64 (T.depth r) ∧ (True))) (by kernel_rfl) ?_
     intro φ38 xs38 J5_38 leJ
     rintro _
     have hr := TRep.mono leJ hr
     exact Fun.mono (tdepth_c hr) (fun v J' _ h => ⟨UX.d, h, trivial⟩)
    case k38 =>
     rintro φ38 xs38 I38 w38 le38 s _ _
     replace hl := TRep.mono le38 hl
     replace hr := TRep.mono le38 hr
     refine wp_ret ?_
     refine ret_rule (C := []) [(φ1 0, .cells #[.bool bl, .pointer pl] 27), (φ1 1, .cells #[.bool br, .pointer pr] 27), (φ1 2, .cells #[.bool false, pB (φ38 9)] 27), (φ38 9, .cells #[.bool bl, .pointer pl, .bool br, .pointer pr, .int .i64 ((1 + (max (T.depth l) (T.depth r)) : Nat) : Int)] 152)] [] (.agg #[.bool false, pB (φ38 9)]) [.o 2, .o 2] [φ1 2, φ1 2] s trivial (by kernel_rfl) ?_
     obtain ⟨I39, le39, hk39, s⟩ := s.freezeAt 3 (φ38 9) (.cells #[.bool bl, .pointer pl, .bool br, .pointer pr, .int .i64 ((1 + (max (T.depth l) (T.depth r)) : Nat) : Int)] 152) [((φ1 0), .cells #[.bool bl, .pointer pl] 27), ((φ1 1), .cells #[.bool br, .pointer pr] 27), ((φ1 2), .cells #[.bool false, .pointer (some ⟨(φ38 9), 0, none⟩)] 27)] (by kernel_rfl) (by kernel_rfl)
     replace hl := TRep.mono le39 hl
     replace hr := TRep.mono le39 hr
     exact ⟨_, _, _, rfl, s, ⟨_, _, rfl, by rw [mk_node (.inl hc5) (.inr hc35)]; exact ⟨rfl, _, _, _, _, _, rfl, hk39, hl, hr⟩⟩⟩
  ·
   rw [hc31]
   refine oKD _ [] 3 [] 0 (fun φ40 => [(17, .bool false), (16, undef), (15, undef)]) (fun φ40 => []) s (fun φ40 => by kernel_rfl) (by kernel_rfl) ?_
   intro φ40 w40 s
   refine cond_false_rule (b := false) (by kernel_rfl) rfl ?_
   refine wp_skip ?_
   refine wp_seq ?_
   refine draw_rule (C := []) ⟨(fun φ41 xs41 => [.look 0 [.o 0, .o 0] [φ1 0, φ1 0], .look 0 [.o 1, .o 1] [φ1 1, φ1 1], .look 0 [.o 0, .o 0] [φ1 0, φ1 0], .call 102 #[.agg #[.bool bl, .pointer pl]], .look 0 [.o 1, .o 1] [φ1 1, φ1 1], .call 102 #[.agg #[.bool br, .pointer pr]], .sub 0 [] [] (.int .i64 (if ((T.depth r : Nat) : Int) > ((T.depth l : Nat) : Int) then ((T.depth r : Nat) : Int) else ((T.depth l : Nat) : Int))), .sub 0 [] [] (.int .i64 (IntKind.wrap .i64 (((1 : Nat) : Int) + ((max (T.depth l) (T.depth r) : Nat) : Int)))), .look 0 [] [], .new, .look 0 [] [], .store 0 [.o 2, .o 2] [φ1 2, φ1 2]]), (fun φ41 xs41 => [.agg #[.bool bl, .pointer pl], .agg #[.bool br, .pointer pr], .agg #[.bool bl, .pointer pl], .int .i64 (T.depth l), .agg #[.bool br, .pointer pr], .int .i64 (T.depth r), .int .i64 ((max (T.depth l) (T.depth r) : Nat) : Int), .int .i64 ((1 + (max (T.depth l) (T.depth r)) : Nat) : Int), .agg #[.bool bl, .pointer pl, .bool br, .pointer pr, .int .i64 ((1 + (max (T.depth l) (T.depth r)) : Nat) : Int)], pB (φ41 9), .agg #[.bool false, pB (φ41 9)], undef]), (fun φ41 xs41 => [[(φ1 0, .cells #[.bool bl, .pointer pl] 27), (φ1 1, .cells #[.bool br, .pointer pr] 27), (φ1 2, .cells #[.bool false, .pointer none] 27)], [(φ1 0, .cells #[.bool bl, .pointer pl] 27), (φ1 1, .cells #[.bool br, .pointer pr] 27), (φ1 2, .cells #[.bool false, pB (φ41 9)] 27)]]), (fun φ41 xs41 => [[default, default, default, default, default, default, default, default, default, .cells #[.bool bl, .pointer pl, .bool br, .pointer pr, .int .i64 ((1 + (max (T.depth l) (T.depth r)) : Nat) : Int)] 152, default, default], [default, default, default, default, default, default, default, default, default, .cells #[.bool bl, .pointer pl, .bool br, .pointer pr, .int .i64 ((1 + (max (T.depth l) (T.depth r)) : Nat) : Int)] 152, default, default]]), [11], [1, 1, 1, 3, 1, 3, 5, 5, 1, 2, 1, 4]⟩ (fun j => ([MP.any] : List MP).getD j MP.any) [3, 5] [6, 7] [] (fun φ41 xs41 => [[none, none, none, none, none, none, none, none, none, none, none, none]]) (fun φ41 xs41 => [(19, .agg #[.bool bl, .pointer pl]), (20, .agg #[.bool br, .pointer pr]), (21, .agg #[.bool bl, .pointer pl]), (22, .int .i64 (T.depth l)), (23, .agg #[.bool br, .pointer pr]), (24, .int .i64 (T.depth r)), (25, .int .i64 ((max (T.depth l) (T.depth r) : Nat) : Int)), (26, .int .i64 ((1 + (max (T.depth l) (T.depth r)) : Nat) : Int)), (27, .agg #[.bool bl, .pointer pl, .bool br, .pointer pr, .int .i64 ((1 + (max (T.depth l) (T.depth r)) : Nat) : Int)]), (28, pB (φ41 9)), (29, .agg #[.bool false, pB (φ41 9)])]) (fun φ41 xs41 => [(φ1 0, .cells #[.bool bl, .pointer pl] 27), (φ1 1, .cells #[.bool br, .pointer pr] 27), (φ1 2, .cells #[.bool false, pB (φ41 9)] 27), (φ41 9, .cells #[.bool bl, .pointer pl, .bool br, .pointer pr, .int .i64 ((1 + (max (T.depth l) (T.depth r)) : Nat) : Int)] 152)]) s trivial (by kernel_rfl) (by kernel_rfl) (fun _ _ => by kernel_rfl) (fun _ _ => by kernel_rfl) ⟨fun _ _ => by kernel_rfl, fun _ _ => by kernel_rfl, fun _ _ => by kernel_rfl, fun _ _ => by kernel_rfl⟩ (fun _ _ _ => by kernel_rfl) (fun _ _ => by kernel_rfl) (fun _ _ => by kernel_rfl) (fun _ _ => by kernel_rfl) (fun _ _ => by kernel_rfl) (fun _ _ => by kernel_rfl) ⟨kcast (A := ∀ (φ41 : Nat → Nat) (xs41 : Xs), (.int .i64 (if ((T.depth r : Nat) : Int) > ((T.depth l : Nat) : Int) then ((T.depth r : Nat) : Int) else ((T.depth l : Nat) : Int)) : Value) = .int .i64 ((max (T.depth l) (T.depth r) : Nat) : Int)) (by kernel_rfl) (fun φ41 xs41 => congrArg (Value.int .i64) ((nat_max (a := (T.depth l)) (b := (T.depth r))))), ⟨kcast (A := ∀ (φ41 : Nat → Nat) (xs41 : Xs), (.int .i64 (IntKind.wrap .i64 (((1 : Nat) : Int) + ((max (T.depth l) (T.depth r) : Nat) : Int))) : Value) = .int .i64 ((1 + (max (T.depth l) (T.depth r)) : Nat) : Int)) (by kernel_rfl) (fun φ41 xs41 => congrArg (Value.int .i64) ((nat_addI (a := 1) (b := (max (T.depth l) (T.depth r))) (by omega)))), trivial⟩⟩ trivial (by kernel_rfl) ⟨?c41_3, ?c41_5, trivial⟩ ?k41
   case c41_3 =>
    refine kcast (A := ∀ (φ41 : Nat → Nat) (xs41 : Xs) (J3_41 : IM), I29.Le J3_41 → Fun Tryd.prog 102 #[.agg #[.bool bl, .pointer pl]] J3_41 (fun v J' => ∃ x : UX, v = .int .i64 (T.depth l) ∧ (True))) (by kernel_rfl) ?_
    intro φ41 xs41 J3_41 leJ
    have hl := TRep.mono leJ hl
    exact Fun.mono (tdepth_c hl) (fun v J' _ h => ⟨UX.d, h, trivial⟩)
   case c41_5 =>
    refine kcast (A := ∀ (φ41 : Nat → Nat) (xs41 : Xs) (J5_41 : IM), I29.Le J5_41 → (True) → Fun Tryd.prog 102 #[.agg #[.bool br, .pointer pr]] J5_41 (fun v J' => ∃ x : UX, v = .int .i64 (T.depth r) ∧ (True))) (by kernel_rfl) ?_
    intro φ41 xs41 J5_41 leJ
    rintro _
    have hr := TRep.mono leJ hr
    exact Fun.mono (tdepth_c hr) (fun v J' _ h => ⟨UX.d, h, trivial⟩)
   case k41 =>
    rintro φ41 xs41 I41 w41 le41 s _ _
    replace hl := TRep.mono le41 hl
    replace hr := TRep.mono le41 hr
    refine wp_ret ?_
    refine ret_rule (C := []) [(φ1 0, .cells #[.bool bl, .pointer pl] 27), (φ1 1, .cells #[.bool br, .pointer pr] 27), (φ1 2, .cells #[.bool false, pB (φ41 9)] 27), (φ41 9, .cells #[.bool bl, .pointer pl, .bool br, .pointer pr, .int .i64 ((1 + (max (T.depth l) (T.depth r)) : Nat) : Int)] 152)] [] (.agg #[.bool false, pB (φ41 9)]) [.o 2, .o 2] [φ1 2, φ1 2] s trivial (by kernel_rfl) ?_
    obtain ⟨I42, le42, hk42, s⟩ := s.freezeAt 3 (φ41 9) (.cells #[.bool bl, .pointer pl, .bool br, .pointer pr, .int .i64 ((1 + (max (T.depth l) (T.depth r)) : Nat) : Int)] 152) [((φ1 0), .cells #[.bool bl, .pointer pl] 27), ((φ1 1), .cells #[.bool br, .pointer pr] 27), ((φ1 2), .cells #[.bool false, .pointer (some ⟨(φ41 9), 0, none⟩)] 27)] (by kernel_rfl) (by kernel_rfl)
    replace hl := TRep.mono le42 hl
    replace hr := TRep.mono le42 hr
    exact ⟨_, _, _, rfl, s, ⟨_, _, rfl, by rw [mk_node (.inl hc5) (.inl hc31)]; exact ⟨rfl, _, _, _, _, _, rfl, hk42, hl, hr⟩⟩⟩

end Go.Proofs.YtgmigcmhnmmdkaaDoor.Ev

/- The program's ids: cut, Split, Covers, Same, Disjoint, union, Sum, Text. -/
set_option linter.all false
set_option maxRecDepth 100000
namespace Go.Proofs.YtgmigcmhnmmdkaaDoor.Ev
open Go.RowKit Go.Sep

theorem T.mk_depth (l r : T) : (T.mk l r).depth ≤ 1 + max l.depth r.depth := by
  cases l <;> cases r <;> simp [T.mk, T.depth]
def cutT : T → T × T
  | .zero => (.zero, .zero)
  | .one => (T.mk .one .zero, T.mk .zero .one)
  | .node l r => if l.isZero = true then (T.mk .zero (cutT r).1, T.mk .zero (cutT r).2) else if r.isZero = true then (T.mk (cutT l).1 .zero, T.mk (cutT l).2 .zero) else (T.mk l .zero, T.mk .zero r)
def textT : T → List UInt8
  | .zero => [48]
  | .one => [49]
  | .node l r => [40] ++ textT l ++ [44] ++ textT r ++ [41]

end Go.Proofs.YtgmigcmhnmmdkaaDoor.Ev

/- The program's ids: union, Sum, Pair, Text. -/
set_option linter.all false
set_option maxRecDepth 100000
namespace Go.Proofs.YtgmigcmhnmmdkaaDoor.Ev
open Go.RowKit Go.Sep

def pairT (l r : T) : T × Nat := if 16 < (T.mk l r).depth then (.zero, 3) else (T.mk l r, 0)

set_option maxHeartbeats 1000000 in
theorem pair_c {I : IM} {l r : T} {bl br : Bool} {pl pr : Option Addr} (hl : TRep I l bl pl) (hr : TRep I r br pr) (hdl : l.depth ≤ 1000) (hdr : r.depth ≤ 1000) : Fun Tryd.prog 74 #[idv bl pl, idv br pr] I (fun v J => ∃ b p, v = .tuple #[idv b p, .int .i64 (((pairT l r).2 : Nat) : Int)] ∧ TRep J (pairT l r).1 b p) := by
 refine enter_rule 15 [(0, .agg #[.bool bl, .pointer pl]), (1, .agg #[.bool br, .pointer pr])] Tryd.func74 rfl (by kernel_rfl) ?_
 intro w s
 refine seqR ?_
 refine oAD [] [] 4 [] 3 (fun φ1 => [(5, .int .i64 0), (4, pB (φ1 2)), (3, pB (φ1 1)), (2, pB (φ1 0))]) (fun φ1 => [(φ1 0, .cells #[.bool bl, .pointer pl] 27), (φ1 1, .cells #[.bool br, .pointer pr] 27), (φ1 2, .cells #[.bool false, .pointer none] 27)]) (fun φ1 => []) s (fun φ1 => by kernel_rfl) (by kernel_rfl) ?_
 intro φ1 w1 s
 refine seqR ?_
 refine oK _ [] 2 [.o 0, .o 0, .o 1, .o 1] 0 (fun φ2 => [(8, .agg #[.bool br, .pointer pr]), (7, .agg #[.bool bl, .pointer pl])]) (fun φ2 => [φ1 0, φ1 0, φ1 1, φ1 1]) s (fun φ2 => by kernel_rfl) ?_
 intro φ2 w2 s
 refine call_rule (some 9) s (merge_c hl hr (by omega) (by omega)) (by kernel_rfl) ?_
 intro v3 I3 w3 le3 h3 s
 obtain ⟨b3, p3, rfl, h3_0⟩ := h3
 refine oAD _ [] 2 [.o 3, .o 3] 1 (fun φ4 => [(6, pB (φ4 0))]) (fun φ4 => [(φ1 0, .cells #[.bool bl, .pointer pl] 27), (φ1 1, .cells #[.bool br, .pointer pr] 27), (φ1 2, .cells #[.bool false, .pointer none] 27), (φ4 0, .cells #[.bool b3, .pointer p3] 27)]) (fun φ4 => [φ4 0, φ4 0]) s (fun φ4 => by kernel_rfl) (by kernel_rfl) ?_
 intro φ4 w4 s
 refine wp_seq ?_
 refine seqR ?_
 refine oK _ [] 1 [.o 3, .o 3] 0 (fun φ5 => [(10, .agg #[.bool b3, .pointer p3])]) (fun φ5 => [φ4 0, φ4 0]) s (fun φ5 => by kernel_rfl) ?_
 intro φ5 w5 s
 refine call_rule (some 11) s (tdepth_c h3_0) (by kernel_rfl) ?_
 intro v6 I6 w6 le6 h6 s
 replace h3_0 := TRep.mono le6 h3_0
 obtain rfl := h6
 refine oK _ [] 1 [] 0 (fun φ7 => [(12, .bool (decide (((T.depth (T.mk l r) : Nat) : Int) > ((16 : Nat) : Int))))]) (fun φ7 => []) s (fun φ7 => by kernel_rfl) ?_
 intro φ7 w7 s
 rw [nat_gtr (a := (T.depth (T.mk l r))) (b := 16)]
 refine ops_done (by kernel_rfl) ?_
 rcases Bool.eq_false_or_eq_true (decide (16 < (T.depth (T.mk l r)))) with hc8 | hc8
 ·
  rw [hc8]
  refine cond_true_rule (b := true) (by kernel_rfl) rfl ?_
  refine seqR ?_
  refine call_rule (some 13) s (tzero_c) (by kernel_rfl) ?_
  intro v9 I9 w9 le9 h9 s
  replace h3_0 := TRep.mono le9 h3_0
  obtain rfl := h9
  refine oKD _ [] 2 [.o 2, .o 2] 0 (fun φ10 => [(5, .int .i64 3)]) (fun φ10 => [φ1 2, φ1 2]) s (fun φ10 => by kernel_rfl) (by kernel_rfl) ?_
  intro φ10 w10 s
  refine wp_ret ?_
  refine ret_rule (C := []) _ [] (.tuple #[.agg #[.bool false, .pointer none], .int .i64 3]) [.o 2, .o 2] [φ1 2, φ1 2] s trivial (by kernel_rfl) ?_
  exact ⟨_, _, _, rfl, s, (by rw [pairT, if_pos (of_decide_eq_true hc8)]; exact ⟨_, _, rfl, rfl, rfl⟩)⟩
 ·
  rw [hc8]
  refine cond_false_rule (b := false) (by kernel_rfl) rfl ?_
  refine wp_skip ?_
  refine seqR ?_
  refine oAD _ [] 3 [.o 3, .o 3, .o 2, .o 2] 0 (fun φ11 => [(5, .int .i64 0), (14, .agg #[.bool b3, .pointer p3])]) (fun φ11 => [(φ1 0, .cells #[.bool bl, .pointer pl] 27), (φ1 1, .cells #[.bool br, .pointer pr] 27), (φ1 2, .cells #[.bool b3, .pointer p3] 27), (φ4 0, .cells #[.bool b3, .pointer p3] 27)]) (fun φ11 => [φ4 0, φ4 0, φ1 2, φ1 2]) s (fun φ11 => by kernel_rfl) (by kernel_rfl) ?_
  intro φ11 w11 s
  refine wp_ret ?_
  refine ret_rule (C := []) _ [] (.tuple #[.agg #[.bool b3, .pointer p3], .int .i64 0]) [.o 2, .o 2] [φ1 2, φ1 2] s trivial (by kernel_rfl) ?_
  exact ⟨_, _, _, rfl, s, (by rw [pairT, if_neg (of_decide_eq_false hc8)]; exact ⟨_, _, rfl, h3_0⟩)⟩

set_option maxHeartbeats 1000000 in
theorem idText_zero {I : IM} {b : Bool} {n : Nat} {p : Option Addr} {v : Value} {xs : List Value} {F : List OB} (h : TRep I .zero b p) (hrow : RowH 5 1 v n xs F) (hlim : n + (textT .zero).length + 20 ≤ 140737488355328) : FunM Tryd.prog 50 #[idv b p, v] I F (fun v' J F' => RowH 5 1 v' (n + (textT .zero).length) (xs ++ bcs (textT .zero)) F') := by
 obtain ⟨rfl, rfl⟩ := h
 have hlim1 : n + 1 + 20 ≤ 140737488355328 := hlim
 refine enterM_rule 32 [(0, .agg #[.bool false, .pointer none]), (1, v)] Tryd.func50 rfl (by kernel_rfl) ?_
 intro w s
 refine seqR ?_
 refine oAD [] F 2 [] 1 (fun φ1 => [(4, .slice none 0 0), (2, pB (φ1 0))]) (fun φ1 => [(φ1 0, .cells #[.bool false, .pointer none] 27)]) (fun φ1 => []) s (fun φ1 => by kernel_rfl) (by kernel_rfl) ?_
 intro φ1 w1 s
 refine wp_seq ?_
 refine seqR ?_
 refine oK _ F 1 [.o 0, .o 0] 0 (fun φ2 => [(5, .agg #[.bool false, .pointer none])]) (fun φ2 => [φ1 0, φ1 0]) s (fun φ2 => by kernel_rfl) ?_
 intro φ2 w2 s
 refine call_rule (some 6) s (isZero_c (TRep.z _)) (by kernel_rfl) ?_
 intro v3 I3 w3 le3 h3 s
 obtain rfl := h3
 refine ops_done (by kernel_rfl) ?_
 refine cond_true_rule (b := true) (by kernel_rfl) rfl ?_
 refine seqR ?_
 refine oA _ F 2 [] 1 (fun φ4 => [(8, .slice (some ⟨(φ4 0), 0, none⟩) 1 1), (7, v)]) (fun φ4 => [(φ1 0, .cells #[.bool false, .pointer none] 27), (φ4 0, .cells #[.int .u8 48] 5)]) (fun φ4 => []) s (fun φ4 => by kernel_rfl) ?_
 intro φ4 w4 s
 refine append_rule (H := [(φ1 0, .cells #[.bool false, .pointer none] 27), (φ4 0, .cells #[.int .u8 48] 5)]) (F := F) 22 22 5 Tryd.t5 (.int .u8 0) 1 1 (some 9) s Tryd.underlying22 (by kernel_rfl) (by kernel_rfl) (by kernel_rfl) (by kernel_rfl) (by kernel_rfl) (by decide) hrow (src_own s 1 (φ4 0) #[.int .u8 48] 5 22 5 1 1 1 [.int .u8 48] (by kernel_rfl) Tryd.underlying22 (by kernel_rfl) (by kernel_rfl) (by kernel_rfl)) (by simp only [maxLen]; omega) (by omega) (by kernel_rfl) ?_
 intro v5 w5 F5 s h5
 refine oKD _ F5 1 [] 0 (fun φ6 => [(4, v5)]) (fun φ6 => []) s (fun φ6 => by kernel_rfl) (by kernel_rfl) ?_
 intro φ6 w6 s
 refine wp_ret ?_
 refine ret_rule (C := []) _ F5 (v5) [] [] s trivial (by kernel_rfl) ?_
 replace s := s.drop (List.sublist_append_right [((φ1 0), .cells #[.bool false, .pointer none] 27), ((φ4 0), .cells #[.int .u8 48] 5)] F5)
 exact ⟨_, _, _, rfl, s, (by have e := h5; simp only [textT, Lib.byteCells_append, List.append_assoc, List.length_append, Nat.add_assoc, List.length_cons, List.length_nil, Nat.zero_add] at e ⊢; exact e)⟩

set_option maxHeartbeats 1000000 in
theorem idText_one {I : IM} {b : Bool} {n : Nat} {p : Option Addr} {v : Value} {xs : List Value} {F : List OB} (h : TRep I .one b p) (hrow : RowH 5 1 v n xs F) (hlim : n + (textT .one).length + 20 ≤ 140737488355328) : FunM Tryd.prog 50 #[idv b p, v] I F (fun v' J F' => RowH 5 1 v' (n + (textT .one).length) (xs ++ bcs (textT .one)) F') := by
 obtain ⟨rfl, rfl⟩ := h
 have hlim1 : n + 1 + 20 ≤ 140737488355328 := hlim
 refine enterM_rule 32 [(0, .agg #[.bool true, .pointer none]), (1, v)] Tryd.func50 rfl (by kernel_rfl) ?_
 intro w s
 refine seqR ?_
 refine oAD [] F 2 [] 1 (fun φ1 => [(4, .slice none 0 0), (2, pB (φ1 0))]) (fun φ1 => [(φ1 0, .cells #[.bool true, .pointer none] 27)]) (fun φ1 => []) s (fun φ1 => by kernel_rfl) (by kernel_rfl) ?_
 intro φ1 w1 s
 refine wp_seq ?_
 refine seqR ?_
 refine oK _ F 1 [.o 0, .o 0] 0 (fun φ2 => [(5, .agg #[.bool true, .pointer none])]) (fun φ2 => [φ1 0, φ1 0]) s (fun φ2 => by kernel_rfl) ?_
 intro φ2 w2 s
 refine call_rule (some 6) s (isZero_c (TRep.o _)) (by kernel_rfl) ?_
 intro v3 I3 w3 le3 h3 s
 obtain rfl := h3
 refine ops_done (by kernel_rfl) ?_
 refine cond_false_rule (b := false) (by kernel_rfl) rfl ?_
 refine wp_skip ?_
 refine wp_seq ?_
 refine seqR ?_
 refine oK _ F 1 [.o 0, .o 0] 0 (fun φ4 => [(10, .agg #[.bool true, .pointer none])]) (fun φ4 => [φ1 0, φ1 0]) s (fun φ4 => by kernel_rfl) ?_
 intro φ4 w4 s
 refine call_rule (some 11) s (isOne_c (TRep.o _)) (by kernel_rfl) ?_
 intro v5 I5 w5 le5 h5 s
 obtain rfl := h5
 refine ops_done (by kernel_rfl) ?_
 refine cond_true_rule (b := true) (by kernel_rfl) rfl ?_
 refine seqR ?_
 refine oA _ F 2 [] 1 (fun φ6 => [(13, .slice (some ⟨(φ6 0), 0, none⟩) 1 1), (12, v)]) (fun φ6 => [(φ1 0, .cells #[.bool true, .pointer none] 27), (φ6 0, .cells #[.int .u8 49] 5)]) (fun φ6 => []) s (fun φ6 => by kernel_rfl) ?_
 intro φ6 w6 s
 refine append_rule (H := [(φ1 0, .cells #[.bool true, .pointer none] 27), (φ6 0, .cells #[.int .u8 49] 5)]) (F := F) 22 22 5 Tryd.t5 (.int .u8 0) 1 1 (some 14) s Tryd.underlying22 (by kernel_rfl) (by kernel_rfl) (by kernel_rfl) (by kernel_rfl) (by kernel_rfl) (by decide) hrow (src_own s 1 (φ6 0) #[.int .u8 49] 5 22 5 1 1 1 [.int .u8 49] (by kernel_rfl) Tryd.underlying22 (by kernel_rfl) (by kernel_rfl) (by kernel_rfl)) (by simp only [maxLen]; omega) (by omega) (by kernel_rfl) ?_
 intro v7 w7 F7 s h7
 refine oKD _ F7 1 [] 0 (fun φ8 => [(4, v7)]) (fun φ8 => []) s (fun φ8 => by kernel_rfl) (by kernel_rfl) ?_
 intro φ8 w8 s
 refine wp_ret ?_
 refine ret_rule (C := []) _ F7 (v7) [] [] s trivial (by kernel_rfl) ?_
 replace s := s.drop (List.sublist_append_right [((φ1 0), .cells #[.bool true, .pointer none] 27), ((φ6 0), .cells #[.int .u8 49] 5)] F7)
 exact ⟨_, _, _, rfl, s, (by have e := h7; simp only [textT, Lib.byteCells_append, List.append_assoc, List.length_append, Nat.add_assoc, List.length_cons, List.length_nil, Nat.zero_add] at e ⊢; exact e)⟩

set_option maxHeartbeats 2000000 in
theorem idText_node {l r : T} {I : IM} {b : Bool} {n : Nat} {p : Option Addr} {v : Value} {xs : List Value} {F : List OB} (h : TRep I (.node l r) b p) (hrow : RowH 5 1 v n xs F) (hlim : n + (textT (.node l r)).length + 20 ≤ 140737488355328) (ihl : ∀ {I : IM} {b : Bool} {n : Nat} {p : Option Addr} {v : Value} {xs : List Value} {F : List OB}, TRep I l b p → RowH 5 1 v n xs F → n + (textT l).length + 20 ≤ 140737488355328 → FunM Tryd.prog 50 #[idv b p, v] I F (fun v' J F' => RowH 5 1 v' (n + (textT l).length) (xs ++ bcs (textT l)) F')) (ihr : ∀ {I : IM} {b : Bool} {n : Nat} {p : Option Addr} {v : Value} {xs : List Value} {F : List OB}, TRep I r b p → RowH 5 1 v n xs F → n + (textT r).length + 20 ≤ 140737488355328 → FunM Tryd.prog 50 #[idv b p, v] I F (fun v' J F' => RowH 5 1 v' (n + (textT r).length) (xs ++ bcs (textT r)) F')) : FunM Tryd.prog 50 #[idv b p, v] I F (fun v' J F' => RowH 5 1 v' (n + (textT (.node l r)).length) (xs ++ bcs (textT (.node l r))) F') := by
 have hn := h
 obtain ⟨rfl, k, bl, pl, br, pr, rfl, hk, hl, hr⟩ := h
 have hlim1 : n + (textT l).length + (textT r).length + 3 + 20 ≤ 140737488355328 := by simp only [textT, List.length_append, List.length_cons, List.length_nil] at hlim; omega
 refine enterM_rule 32 [(0, .agg #[.bool false, pB k]), (1, v)] Tryd.func50 rfl (by kernel_rfl) ?_
 intro w s
 refine seqR ?_
 refine oAD [] F 2 [] 1 (fun φ1 => [(4, .slice none 0 0), (2, pB (φ1 0))]) (fun φ1 => [(φ1 0, .cells #[.bool false, pB k] 27)]) (fun φ1 => []) s (fun φ1 => by kernel_rfl) (by kernel_rfl) ?_
 intro φ1 w1 s
 refine wp_seq ?_
 refine seqR ?_
 refine oK _ F 1 [.o 0, .o 0] 0 (fun φ2 => [(5, .agg #[.bool false, pB k])]) (fun φ2 => [φ1 0, φ1 0]) s (fun φ2 => by kernel_rfl) ?_
 intro φ2 w2 s
 refine call_rule (some 6) s (isZero_c hn) (by kernel_rfl) ?_
 intro v3 I3 w3 le3 h3 s
 replace hn := TRep.mono le3 hn
 obtain rfl := h3
 refine ops_done (by kernel_rfl) ?_
 refine cond_false_rule (b := false) (by kernel_rfl) rfl ?_
 refine wp_skip ?_
 refine wp_seq ?_
 refine seqR ?_
 refine oK _ F 1 [.o 0, .o 0] 0 (fun φ4 => [(10, .agg #[.bool false, pB k])]) (fun φ4 => [φ1 0, φ1 0]) s (fun φ4 => by kernel_rfl) ?_
 intro φ4 w4 s
 refine call_rule (some 11) s (isOne_c hn) (by kernel_rfl) ?_
 intro v5 I5 w5 le5 h5 s
 replace hn := TRep.mono le5 hn
 obtain rfl := h5
 refine ops_done (by kernel_rfl) ?_
 refine cond_false_rule (b := false) (by kernel_rfl) rfl ?_
 refine wp_skip ?_
 refine seqR ?_
 refine oA _ F 2 [] 1 (fun φ6 => [(16, .slice (some ⟨(φ6 0), 0, none⟩) 1 1), (15, v)]) (fun φ6 => [(φ1 0, .cells #[.bool false, pB k] 27), (φ6 0, .cells #[.int .u8 40] 5)]) (fun φ6 => []) s (fun φ6 => by kernel_rfl) ?_
 intro φ6 w6 s
 refine append_rule (H := [(φ1 0, .cells #[.bool false, pB k] 27), (φ6 0, .cells #[.int .u8 40] 5)]) (F := F) 22 22 5 Tryd.t5 (.int .u8 0) 1 1 (some 17) s Tryd.underlying22 (by kernel_rfl) (by kernel_rfl) (by kernel_rfl) (by kernel_rfl) (by kernel_rfl) (by decide) hrow (src_own s 1 (φ6 0) #[.int .u8 40] 5 22 5 1 1 1 [.int .u8 40] (by kernel_rfl) Tryd.underlying22 (by kernel_rfl) (by kernel_rfl) (by kernel_rfl)) (by simp only [maxLen]; omega) (by omega) (by kernel_rfl) ?_
 intro v7 w7 F7 s h7
 refine oKD _ F7 1 [] 0 (fun φ8 => [(1, v7)]) (fun φ8 => []) s (fun φ8 => by kernel_rfl) (by kernel_rfl) ?_
 intro φ8 w8 s
 refine seqR ?_
 refine oK _ F7 1 [.o 0, .o 0] 0 (fun φ9 => [(18, .agg #[.bool false, pB k])]) (fun φ9 => [φ1 0, φ1 0]) s (fun φ9 => by kernel_rfl) ?_
 intro φ9 w9 s
 refine call_rule (some 19) s (tleft_c hn) (by kernel_rfl) ?_
 intro v10 I10 w10 le10 h10 s
 replace hn := TRep.mono le10 hn
 obtain ⟨b10, p10, rfl, h10_0⟩ := h10
 refine oK _ F7 1 [] 0 (fun φ11 => [(20, v7)]) (fun φ11 => []) s (fun φ11 => by kernel_rfl) ?_
 intro φ11 w11 s
 refine callF_rule (F := F7) (some 21) s (ihl h10_0 h7 (by omega)) (by kernel_rfl) ?_
 intro v12 I12 w12 F12 le12 h12 s
 replace hn := TRep.mono le12 hn
 refine oKD _ F12 1 [] 0 (fun φ13 => [(1, v12)]) (fun φ13 => []) s (fun φ13 => by kernel_rfl) (by kernel_rfl) ?_
 intro φ13 w13 s
 refine seqR ?_
 refine oA _ F12 2 [] 1 (fun φ14 => [(23, .slice (some ⟨(φ14 0), 0, none⟩) 1 1), (22, v12)]) (fun φ14 => [(φ1 0, .cells #[.bool false, pB k] 27), (φ6 0, .cells #[.int .u8 40] 5), (φ14 0, .cells #[.int .u8 44] 5)]) (fun φ14 => []) s (fun φ14 => by kernel_rfl) ?_
 intro φ14 w14 s
 refine append_rule (H := [(φ1 0, .cells #[.bool false, pB k] 27), (φ6 0, .cells #[.int .u8 40] 5), (φ14 0, .cells #[.int .u8 44] 5)]) (F := F12) 22 22 5 Tryd.t5 (.int .u8 0) 1 1 (some 24) s Tryd.underlying22 (by kernel_rfl) (by kernel_rfl) (by kernel_rfl) (by kernel_rfl) (by kernel_rfl) (by decide) h12 (src_own s 2 (φ14 0) #[.int .u8 44] 5 22 5 1 1 1 [.int .u8 44] (by kernel_rfl) Tryd.underlying22 (by kernel_rfl) (by kernel_rfl) (by kernel_rfl)) (by simp only [maxLen]; omega) (by omega) (by kernel_rfl) ?_
 intro v15 w15 F15 s h15
 refine oKD _ F15 1 [] 0 (fun φ16 => [(1, v15)]) (fun φ16 => []) s (fun φ16 => by kernel_rfl) (by kernel_rfl) ?_
 intro φ16 w16 s
 refine seqR ?_
 refine oK _ F15 1 [.o 0, .o 0] 0 (fun φ17 => [(25, .agg #[.bool false, pB k])]) (fun φ17 => [φ1 0, φ1 0]) s (fun φ17 => by kernel_rfl) ?_
 intro φ17 w17 s
 refine call_rule (some 26) s (tright_c hn) (by kernel_rfl) ?_
 intro v18 I18 w18 le18 h18 s
 obtain ⟨b18, p18, rfl, h18_0⟩ := h18
 refine oK _ F15 1 [] 0 (fun φ19 => [(27, v15)]) (fun φ19 => []) s (fun φ19 => by kernel_rfl) ?_
 intro φ19 w19 s
 refine callF_rule (F := F15) (some 28) s (ihr h18_0 h15 (by omega)) (by kernel_rfl) ?_
 intro v20 I20 w20 F20 le20 h20 s
 refine oKD _ F20 1 [] 0 (fun φ21 => [(1, v20)]) (fun φ21 => []) s (fun φ21 => by kernel_rfl) (by kernel_rfl) ?_
 intro φ21 w21 s
 refine seqR ?_
 refine oA _ F20 2 [] 1 (fun φ22 => [(30, .slice (some ⟨(φ22 0), 0, none⟩) 1 1), (29, v20)]) (fun φ22 => [(φ1 0, .cells #[.bool false, pB k] 27), (φ6 0, .cells #[.int .u8 40] 5), (φ14 0, .cells #[.int .u8 44] 5), (φ22 0, .cells #[.int .u8 41] 5)]) (fun φ22 => []) s (fun φ22 => by kernel_rfl) ?_
 intro φ22 w22 s
 refine append_rule (H := [(φ1 0, .cells #[.bool false, pB k] 27), (φ6 0, .cells #[.int .u8 40] 5), (φ14 0, .cells #[.int .u8 44] 5), (φ22 0, .cells #[.int .u8 41] 5)]) (F := F20) 22 22 5 Tryd.t5 (.int .u8 0) 1 1 (some 31) s Tryd.underlying22 (by kernel_rfl) (by kernel_rfl) (by kernel_rfl) (by kernel_rfl) (by kernel_rfl) (by decide) h20 (src_own s 3 (φ22 0) #[.int .u8 41] 5 22 5 1 1 1 [.int .u8 41] (by kernel_rfl) Tryd.underlying22 (by kernel_rfl) (by kernel_rfl) (by kernel_rfl)) (by simp only [maxLen]; omega) (by omega) (by kernel_rfl) ?_
 intro v23 w23 F23 s h23
 refine oKD _ F23 1 [] 0 (fun φ24 => [(4, v23)]) (fun φ24 => []) s (fun φ24 => by kernel_rfl) (by kernel_rfl) ?_
 intro φ24 w24 s
 refine wp_ret ?_
 refine ret_rule (C := []) _ F23 (v23) [] [] s trivial (by kernel_rfl) ?_
 replace s := s.drop (List.sublist_append_right [((φ1 0), .cells #[.bool false, .pointer (some ⟨k, 0, none⟩)] 27), ((φ6 0), .cells #[.int .u8 40] 5), ((φ14 0), .cells #[.int .u8 44] 5), ((φ22 0), .cells #[.int .u8 41] 5)] F23)
 exact ⟨_, _, _, rfl, s, (by have e := h23; simp only [textT, Lib.byteCells_append, List.append_assoc, List.length_append, Nat.add_assoc, List.length_cons, List.length_nil, Nat.zero_add] at e ⊢; exact e)⟩

theorem idText_c : ∀ (t : T) {I : IM} {b : Bool} {n : Nat} {p : Option Addr} {v : Value} {xs : List Value} {F : List OB}, TRep I t b p → RowH 5 1 v n xs F → n + (textT t).length + 20 ≤ 140737488355328 →
    FunM Tryd.prog 50 #[idv b p, v] I F (fun v' J F' => RowH 5 1 v' (n + (textT t).length) (xs ++ bcs (textT t)) F')
  | .zero, _, _, _, _, _, _, _, h, hrow, hlim => idText_zero h hrow hlim
  | .one, _, _, _, _, _, _, _, h, hrow, hlim => idText_one h hrow hlim
  | .node l r, _, _, _, _, _, _, _, h, hrow, hlim => idText_node h hrow hlim (idText_c l) (idText_c r)

set_option maxHeartbeats 1000000 in
theorem idtext_c {I : IM} {t : T} {b : Bool} {p : Option Addr} (h : TRep I t b p) (hlim : (textT t).length ≤ 1000000000) : Fun Tryd.prog 17 #[idv b p] I (fun v J => v = .string ⟨(textT t).toArray⟩) := by
 refine enter_rule 6 [(0, .agg #[.bool b, .pointer p])] Tryd.func17 rfl (by kernel_rfl) ?_
 intro w s
 refine seqR ?_
 refine oAD [] [] 2 [] 1 (fun φ1 => [(2, .string ⟨#[]⟩), (1, pB (φ1 0))]) (fun φ1 => [(φ1 0, .cells #[.bool b, .pointer p] 27)]) (fun φ1 => []) s (fun φ1 => by kernel_rfl) (by kernel_rfl) ?_
 intro φ1 w1 s
 refine seqR ?_
 refine oK _ [] 1 [.o 0, .o 0] 0 (fun φ2 => [(3, .agg #[.bool b, .pointer p])]) (fun φ2 => [φ1 0, φ1 0]) s (fun φ2 => by kernel_rfl) ?_
 intro φ2 w2 s
 refine callF_rule (F := []) (some 4) s (idText_c t h (RowH.nil 5 1) (by omega)) (by kernel_rfl) ?_
 intro v3 I3 w3 F3 le3 h3 s
 simp only [List.nil_append] at h3
 refine sem_rule (convert 22 9 v3) (some 5) (.string ⟨(textT t).toArray⟩) (by kernel_rfl) (run_rowString s h3) ?_
 refine oKD _ F3 1 [] 0 (fun φ4 => [(2, .string ⟨(textT t).toArray⟩)]) (fun φ4 => []) s (fun φ4 => by kernel_rfl) (by kernel_rfl) ?_
 intro φ4 w4 s
 refine wp_ret ?_
 refine ret_rule (C := []) _ F3 (.string ⟨(textT t).toArray⟩) [] [] s trivial (by kernel_rfl) ?_
 exact ⟨_, _, _, rfl, s, rfl⟩

end Go.Proofs.YtgmigcmhnmmdkaaDoor.Ev

/- The program's stamps: Grow, Tick, Fork, Join. -/
set_option linter.all false
set_option maxRecDepth 100000
namespace Go.Proofs.YtgmigcmhnmmdkaaDoor.Ev
open Go.RowKit Go.Sep

abbrev stv (ib : Bool) (ip : Option Addr) (eb : Nat) (ep : Option Addr) : Value := .agg #[.bool ib, .pointer ip, .int .u64 ((eb : Nat) : Int), .pointer ep]
set_option maxHeartbeats 400000 in
theorem seed_c {I : IM} : Fun Tryd.prog 35 #[] I (fun v J => v = stv true none 0 none) := by
 refine enter_rule 3 [] Tryd.func35 rfl (by kernel_rfl) ?_
 intro w s
 refine seqR ?_
 refine oAD [] [] 1 [] 1 (fun φ1 => [(0, pB (φ1 0))]) (fun φ1 => [(φ1 0, .cells #[.bool false, .pointer none, .int .u64 0, .pointer none] 67)]) (fun φ1 => []) s (fun φ1 => by kernel_rfl) (by kernel_rfl) ?_
 intro φ1 w1 s
 refine seqR ?_
 refine call_rule (some 1) s (tone_c) (by kernel_rfl) ?_
 intro v2 I2 w2 le2 h2 s
 obtain rfl := h2
 refine oAD _ [] 2 [.o 0, .o 0, .o 0, .o 0] 0 (fun φ3 => [(2, .agg #[.bool true, .pointer none, .int .u64 0, .pointer none])]) (fun φ3 => [(φ1 0, .cells #[.bool true, .pointer none, .int .u64 0, .pointer none] 67)]) (fun φ3 => [φ1 0, φ1 0, φ1 0, φ1 0]) s (fun φ3 => by kernel_rfl) (by kernel_rfl) ?_
 intro φ3 w3 s
 refine wp_ret ?_
 refine ret_rule (C := []) _ [] (.agg #[.bool true, .pointer none, .int .u64 0, .pointer none]) [.o 0, .o 0, .o 0, .o 0] [φ1 0, φ1 0, φ1 0, φ1 0] s trivial (by kernel_rfl) ?_
 exact ⟨_, _, _, rfl, s, rfl⟩

end Go.Proofs.YtgmigcmhnmmdkaaDoor.Ev

/- The limits of stamps. -/
set_option linter.all false
set_option maxRecDepth 100000
namespace Go.Proofs.YtgmigcmhnmmdkaaDoor.Ev
open Go.RowKit Go.Sep

/-- An id with one part alone, so deep. -/
def Spine : Nat → T → Prop
  | 0, i => i = .one
  | k + 1, i => ∃ s, Spine k s ∧ (i = .node s .zero ∨ i = .node .zero s)
theorem Spine.nz : ∀ {k : Nat} {i : T}, Spine k i → i.isZero = false
  | 0, _, h => by rw [show _ = _ from h]; rfl
  | k + 1, _, ⟨s, hs, h⟩ => by rcases h with rfl | rfl <;> rfl
theorem Spine.depth : ∀ {k : Nat} {i : T}, Spine k i → i.depth = k
  | 0, _, h => by rw [show _ = _ from h]; rfl
  | k + 1, _, ⟨s, hs, h⟩ => by
    have := hs.depth
    rcases h with rfl | rfl
    · show 1 + max s.depth 0 = k + 1; omega
    · show 1 + max 0 s.depth = k + 1; omega
theorem mk_left {s : T} (h : s.isZero = false) : T.mk s .zero = .node s .zero := by cases s <;> simp_all [T.isZero, T.mk]
theorem mk_right {s : T} (h : s.isZero = false) : T.mk .zero s = .node .zero s := by cases s <;> simp_all [T.isZero, T.mk]
theorem Spine.cut : ∀ {k : Nat} {i : T}, Spine k i → Spine (k + 1) (cutT i).1 ∧ Spine (k + 1) (cutT i).2
  | 0, _, h => by
    rw [show _ = _ from h]
    exact ⟨⟨.one, rfl, .inl rfl⟩, ⟨.one, rfl, .inr rfl⟩⟩
  | k + 1, _, ⟨s, hs, h⟩ => by
    have ih := hs.cut
    have hz := hs.nz
    rcases h with rfl | rfl
    · have : cutT (.node s .zero) = (T.mk (cutT s).1 .zero, T.mk (cutT s).2 .zero) := by
        rw [cutT, if_neg (by rw [hz]; simp), if_pos (show T.zero.isZero = true from rfl)]
      rw [this, mk_left ih.1.nz, mk_left ih.2.nz]
      exact ⟨⟨_, ih.1, .inl rfl⟩, ⟨_, ih.2, .inl rfl⟩⟩
    · have : cutT (.node .zero s) = (T.mk .zero (cutT s).1, T.mk .zero (cutT s).2) := by
        rw [cutT, if_pos (show T.zero.isZero = true from rfl)]
      rw [this, mk_right ih.1.nz, mk_right ih.2.nz]
      exact ⟨⟨_, ih.1, .inr rfl⟩, ⟨_, ih.2, .inr rfl⟩⟩
end Go.Proofs.YtgmigcmhnmmdkaaDoor.Ev

/- The document's trees, and their texts. -/
set_option linter.all false
set_option maxRecDepth 100000
namespace Go.Proofs.YtgmigcmhnmmdkaaDoor.Ev
open Go.RowKit Go.Sep

def RT (I : IM) : T → Nat → Prop
  | .zero, k => I k = some (.cells #[.int .i64 0, .pointer none, .pointer none] 77)
  | .one, k => I k = some (.cells #[.int .i64 1, .pointer none, .pointer none] 77)
  | .node l r, k => ∃ kl kr, I k = some (.cells #[.int .i64 2, .pointer (some ⟨kl, 0, none⟩), .pointer (some ⟨kr, 0, none⟩)] 77) ∧ RT I l kl ∧ RT I r kr
def RE (I : IM) : E → Nat → Prop
  | .leaf n, k => I k = some (.cells #[.int .u64 ((n : Nat) : Int), .pointer none, .pointer none] 85)
  | .node n l r, k => ∃ kl kr, I k = some (.cells #[.int .u64 ((n : Nat) : Int), .pointer (some ⟨kl, 0, none⟩), .pointer (some ⟨kr, 0, none⟩)] 85) ∧ RE I l kl ∧ RE I r kr
theorem RT.mono {I J : IM} (le : I.Le J) : ∀ {t : T} {k : Nat}, RT I t k → RT J t k
  | .zero, _, h => le _ _ h
  | .one, _, h => le _ _ h
  | .node _ _, _, ⟨kl, kr, h, hl, hr⟩ => ⟨kl, kr, le _ _ h, hl.mono le, hr.mono le⟩
theorem RE.mono {I J : IM} (le : I.Le J) : ∀ {e : E} {k : Nat}, RE I e k → RE J e k
  | .leaf _, _, h => le _ _ h
  | .node _ _ _, _, ⟨kl, kr, h, hl, hr⟩ => ⟨kl, kr, le _ _ h, hl.mono le, hr.mono le⟩
theorem digit_at {i : Nat} (h : i < 10) : (⟨#[48, 49, 50, 51, 52, 53, 54, 55, 56, 57]⟩ : ByteArray).extract i (i + 1) = ⟨[UInt8.ofNat (48 + i)].toArray⟩ := by
  have : ∀ i, i < 10 → (⟨#[48, 49, 50, 51, 52, 53, 54, 55, 56, 57]⟩ : ByteArray).extract i (i + 1) = ⟨[UInt8.ofNat (48 + i)].toArray⟩ := by decide
  exact this i h
theorem decDigits_small {n : Nat} (h : n < 10) : Lib.decDigits n = [UInt8.ofNat (48 + n % 10)] := by
  rw [Lib.decDigits, dif_pos h, Nat.mod_eq_of_lt h]
theorem decDigits_big {n : Nat} (h : ¬ n < 10) : Lib.decDigits n = Lib.decDigits (n / 10) ++ [UInt8.ofNat (48 + n % 10)] := by
  rw [Lib.decDigits, dif_neg h]

theorem digits_le (n : Nat) (h : n < 18446744073709551616) : (Lib.decDigits n).length ≤ 1000 := by
  have : ∀ (f n : Nat), n < 10 ^ f → (Lib.decDigits n).length ≤ f + 1 := by
    intro f
    induction f with
    | zero => intro n h; rw [decDigits_small (by omega)]; simp
    | succ f ih =>
      intro n h
      by_cases hn : n < 10
      · rw [decDigits_small hn]; simp
      · rw [decDigits_big hn]
        have := ih (n / 10) (by rw [Nat.pow_succ] at h; omega)
        simp only [List.length_append, List.length_cons, List.length_nil]; omega
  have := this 20 n (by omega)
  omega

set_option maxHeartbeats 1000000 in
theorem dec_step {I : IM} {n : Nat} (hn : n < 18446744073709551616) (ih : ¬ n < 10 → ∀ {J : IM}, Fun Tryd.prog 52 #[.int .u64 ((n / 10 : Nat) : Int)] J (fun v _ => v = .string ⟨(Lib.decDigits (n / 10)).toArray⟩)) : Fun Tryd.prog 52 #[.int .u64 ((n : Nat) : Int)] I (fun v J => v = .string ⟨(Lib.decDigits n).toArray⟩) := by
 refine enter_rule 18 [(0, .int .u64 n)] Tryd.func52 rfl (by kernel_rfl) ?_
 intro w s
 refine seqR ?_
 refine oKD [] [] 1 [] 0 (fun φ1 => [(2, .string ⟨#[]⟩)]) (fun φ1 => []) s (fun φ1 => by kernel_rfl) (by kernel_rfl) ?_
 intro φ1 w1 s
 refine seqR ?_
 refine oK [] [] 5 [] 0 (fun φ2 => [(8, .int .u64 (IntKind.wrap .u64 ((Int.tmod ((n : Nat) : Int) ((10 : Nat) : Int)) + ((1 : Nat) : Int)))), (7, .int .u64 (Int.tmod ((n : Nat) : Int) ((10 : Nat) : Int))), (6, .int .u64 n), (5, .int .u64 (Int.tmod ((n : Nat) : Int) ((10 : Nat) : Int))), (4, .int .u64 n)]) (fun φ2 => []) s (fun φ2 => by kernel_rfl) ?_
 intro φ2 w2 s
 rw [nat_rem (a := n) (b := 10)]
 rw [nat_addU (a := (n % 10)) (b := 1) (by omega)]
 refine sem_rule (Instr.sliceAt 9 (.string ⟨#[48, 49, 50, 51, 52, 53, 54, 55, 56, 57]⟩) (some (.int .u64 ((n % 10 : Nat) : Int))) (some (.int .u64 (((n % 10) + 1 : Nat) : Int))) none) (some 9) (.string ⟨([UInt8.ofNat (48 + n % 10)]).toArray⟩) (by kernel_rfl) (by rw [← digit_at (show n % 10 < 10 by omega)]; exact run_sliceStrK (by kernel_rfl) (by omega) (by show n % 10 + 1 ≤ 10; omega)) ?_
 refine oKD [] [] 1 [] 0 (fun φ3 => [(3, .string ⟨([UInt8.ofNat (48 + n % 10)]).toArray⟩)]) (fun φ3 => []) s (fun φ3 => by kernel_rfl) (by kernel_rfl) ?_
 intro φ3 w3 s
 refine wp_seq ?_
 refine seqR ?_
 refine oK [] [] 2 [] 0 (fun φ4 => [(11, .bool (decide (((n : Nat) : Int) < ((10 : Nat) : Int)))), (10, .int .u64 n)]) (fun φ4 => []) s (fun φ4 => by kernel_rfl) ?_
 intro φ4 w4 s
 rw [nat_lss (a := n) (b := 10)]
 refine ops_done (by kernel_rfl) ?_
 rcases Bool.eq_false_or_eq_true (decide (n < 10)) with hc5 | hc5
 ·
  rw [hc5]
  refine cond_true_rule (b := true) (by kernel_rfl) rfl ?_
  refine seqR ?_
  refine oKD [] [] 2 [] 0 (fun φ6 => [(2, .string ⟨([UInt8.ofNat (48 + n % 10)]).toArray⟩), (12, .string ⟨([UInt8.ofNat (48 + n % 10)]).toArray⟩)]) (fun φ6 => []) s (fun φ6 => by kernel_rfl) (by kernel_rfl) ?_
  intro φ6 w6 s
  refine wp_ret ?_
  refine ret_rule (C := []) [] [] (.string ⟨([UInt8.ofNat (48 + n % 10)]).toArray⟩) [] [] s trivial (by kernel_rfl) ?_
  exact ⟨_, _, _, rfl, s, (by rw [decDigits_small (of_decide_eq_true hc5)])⟩
 ·
  rw [hc5]
  refine cond_false_rule (b := false) (by kernel_rfl) rfl ?_
  refine wp_skip ?_
  refine seqR ?_
  refine oK [] [] 2 [] 0 (fun φ7 => [(14, .int .u64 (IntKind.wrap .u64 (Int.tdiv ((n : Nat) : Int) ((10 : Nat) : Int)))), (13, .int .u64 n)]) (fun φ7 => []) s (fun φ7 => by kernel_rfl) ?_
  intro φ7 w7 s
  rw [nat_quoU (a := n) (b := 10) (by omega)]
  refine call_rule (some 15) s (ih (of_decide_eq_false hc5)) (by kernel_rfl) ?_
  intro v8 I8 w8 le8 h8 s
  obtain rfl := h8
  refine oK [] [] 1 [] 0 (fun φ9 => [(16, .string ⟨([UInt8.ofNat (48 + n % 10)]).toArray⟩)]) (fun φ9 => []) s (fun φ9 => by kernel_rfl) ?_
  intro φ9 w9 s
  refine sem_rule (binOp .add 9 (.string ⟨(Lib.decDigits (n / 10)).toArray⟩) (.string ⟨([UInt8.ofNat (48 + n % 10)]).toArray⟩)) (some 17) (.string ⟨(Lib.decDigits (n / 10) ++ [UInt8.ofNat (48 + n % 10)]).toArray⟩) (by kernel_rfl) (run_cat (x := Lib.decDigits (n / 10)) (y := [UInt8.ofNat (48 + n % 10)]) (by have hq := Nat.div_le_self n 10; have := digits_le (n / 10) (by omega); simp only [List.length_append, List.length_cons, List.length_nil]; omega)) ?_
  refine oKD [] [] 1 [] 0 (fun φ10 => [(2, .string ⟨(Lib.decDigits (n / 10) ++ [UInt8.ofNat (48 + n % 10)]).toArray⟩)]) (fun φ10 => []) s (fun φ10 => by kernel_rfl) (by kernel_rfl) ?_
  intro φ10 w10 s
  refine wp_ret ?_
  refine ret_rule (C := []) [] [] (.string ⟨(Lib.decDigits (n / 10) ++ [UInt8.ofNat (48 + n % 10)]).toArray⟩) [] [] s trivial (by kernel_rfl) ?_
  exact ⟨_, _, _, rfl, s, (by rw [decDigits_big (of_decide_eq_false hc5)])⟩

theorem dec_c {I : IM} (n : Nat) (hn : n < 18446744073709551616) : Fun Tryd.prog 52 #[.int .u64 ((n : Nat) : Int)] I (fun v _ => v = .string ⟨(Lib.decDigits n).toArray⟩) := by
  induction n using Nat.strongRecOn generalizing I with
  | ind n ih => exact dec_step hn fun h {J} => ih (n / 10) (by omega) (by omega)

end Go.Proofs.YtgmigcmhnmmdkaaDoor.Ev

/- The document's ids. -/
set_option linter.all false
set_option maxRecDepth 100000
namespace Go.Proofs.YtgmigcmhnmmdkaaDoor.Ev
open Go.RowKit Go.Sep

def kindT : T → Nat
  | .zero => 0
  | .one => 1
  | .node _ _ => 2
theorem RT.peek {I : IM} {t : T} {k : Nat} (h : RT I t k) : ∃ pl pr, I k = some (.cells #[.int .i64 ((kindT t : Nat) : Int), .pointer pl, .pointer pr] 77) := by
  cases t with
  | zero => exact ⟨_, _, h⟩
  | one => exact ⟨_, _, h⟩
  | node l r => obtain ⟨kl, kr, h, _, _⟩ := h; exact ⟨_, _, h⟩
set_option maxHeartbeats 1000000 in
theorem rtext_step {I : IM} {t : T} {k : Nat} (h : RT I t k) (hlim : (textT t).length ≤ 1000000000) (ih : ∀ l r, t = .node l r → (∀ {J : IM} {k : Nat}, RT J l k → (textT l).length ≤ 1000000000 → Fun Tryd.prog 18 #[.pointer (some ⟨k, 0, none⟩)] J (fun v _ => v = .string ⟨(textT l).toArray⟩)) ∧ (∀ {J : IM} {k : Nat}, RT J r k → (textT r).length ≤ 1000000000 → Fun Tryd.prog 18 #[.pointer (some ⟨k, 0, none⟩)] J (fun v _ => v = .string ⟨(textT r).toArray⟩))) : Fun Tryd.prog 18 #[.pointer (some ⟨k, 0, none⟩)] I (fun v J => v = .string ⟨(textT t).toArray⟩) := by
 cases t with
 | zero =>
  have hz : RT _ T.zero k := h
  refine enter_rule 27 [(0, pB k)] Tryd.func18 rfl (by kernel_rfl) ?_
  intro w s
  refine seqR ?_
  refine oKD [] [] 1 [] 0 (fun φ1 => [(2, .string ⟨#[]⟩)]) (fun φ1 => []) s (fun φ1 => by kernel_rfl) (by kernel_rfl) ?_
  intro φ1 w1 s
  refine wp_seq ?_
  refine seqR ?_
  refine ops_rule (C := [(k, .cells #[.int .i64 0, .pointer none, .pointer none] 77)]) [] [] 5 [.c 0] 0 (fun φ2 => [(7, .bool true), (6, .int .i64 0), (5, pB k), (4, pB k), (3, pB k)]) (fun φ2 => []) (fun φ2 => [k]) s ⟨h, trivial⟩ (fun φ2 => by kernel_rfl) ?_
  intro φ2 w2 s
  refine ops_done (by kernel_rfl) ?_
  refine cond_true_rule (b := true) (by kernel_rfl) rfl ?_
  refine seqR ?_
  refine oKD [] [] 1 [] 0 (fun φ3 => [(2, .string ⟨#[48]⟩)]) (fun φ3 => []) s (fun φ3 => by kernel_rfl) (by kernel_rfl) ?_
  intro φ3 w3 s
  refine wp_ret ?_
  refine ret_rule (C := []) [] [] (.string ⟨#[48]⟩) [] [] s trivial (by kernel_rfl) ?_
  exact ⟨_, _, _, rfl, s, rfl⟩
 | one =>
  have hz : RT _ T.one k := h
  refine enter_rule 27 [(0, pB k)] Tryd.func18 rfl (by kernel_rfl) ?_
  intro w s
  refine seqR ?_
  refine oKD [] [] 1 [] 0 (fun φ1 => [(2, .string ⟨#[]⟩)]) (fun φ1 => []) s (fun φ1 => by kernel_rfl) (by kernel_rfl) ?_
  intro φ1 w1 s
  refine wp_seq ?_
  refine seqR ?_
  refine ops_rule (C := [(k, .cells #[.int .i64 1, .pointer none, .pointer none] 77)]) [] [] 5 [.c 0] 0 (fun φ2 => [(7, .bool false), (6, .int .i64 1), (5, pB k), (4, pB k), (3, pB k)]) (fun φ2 => []) (fun φ2 => [k]) s ⟨h, trivial⟩ (fun φ2 => by kernel_rfl) ?_
  intro φ2 w2 s
  refine ops_done (by kernel_rfl) ?_
  refine cond_false_rule (b := false) (by kernel_rfl) rfl ?_
  refine wp_skip ?_
  refine wp_seq ?_
  refine seqR ?_
  refine ops_rule (C := [(k, .cells #[.int .i64 1, .pointer none, .pointer none] 77)]) [] [] 5 [.c 0] 0 (fun φ3 => [(12, .bool true), (11, .int .i64 1), (10, pB k), (9, pB k), (8, pB k)]) (fun φ3 => []) (fun φ3 => [k]) s ⟨h, trivial⟩ (fun φ3 => by kernel_rfl) ?_
  intro φ3 w3 s
  refine ops_done (by kernel_rfl) ?_
  refine cond_true_rule (b := true) (by kernel_rfl) rfl ?_
  refine seqR ?_
  refine oKD [] [] 1 [] 0 (fun φ4 => [(2, .string ⟨#[49]⟩)]) (fun φ4 => []) s (fun φ4 => by kernel_rfl) (by kernel_rfl) ?_
  intro φ4 w4 s
  refine wp_ret ?_
  refine ret_rule (C := []) [] [] (.string ⟨#[49]⟩) [] [] s trivial (by kernel_rfl) ?_
  exact ⟨_, _, _, rfl, s, rfl⟩
 | node l r =>
  obtain ⟨kl, kr, hk, hl, hr⟩ := h
  have hlim1 : (textT l).length + (textT r).length + 3 ≤ 1000000000 := by simp only [textT, List.length_append, List.length_cons, List.length_nil] at hlim; omega
  obtain ⟨ihl, ihr⟩ := ih l r rfl
  clear ih
  refine enter_rule 27 [(0, pB k)] Tryd.func18 rfl (by kernel_rfl) ?_
  intro w s
  refine seqR ?_
  refine oKD [] [] 1 [] 0 (fun φ1 => [(2, .string ⟨#[]⟩)]) (fun φ1 => []) s (fun φ1 => by kernel_rfl) (by kernel_rfl) ?_
  intro φ1 w1 s
  refine wp_seq ?_
  refine seqR ?_
  refine ops_rule (C := [(k, .cells #[.int .i64 2, pB kl, pB kr] 77)]) [] [] 5 [.c 0] 0 (fun φ2 => [(7, .bool false), (6, .int .i64 2), (5, pB k), (4, pB k), (3, pB k)]) (fun φ2 => []) (fun φ2 => [k]) s ⟨hk, trivial⟩ (fun φ2 => by kernel_rfl) ?_
  intro φ2 w2 s
  refine ops_done (by kernel_rfl) ?_
  refine cond_false_rule (b := false) (by kernel_rfl) rfl ?_
  refine wp_skip ?_
  refine wp_seq ?_
  refine seqR ?_
  refine ops_rule (C := [(k, .cells #[.int .i64 2, pB kl, pB kr] 77)]) [] [] 5 [.c 0] 0 (fun φ3 => [(12, .bool false), (11, .int .i64 2), (10, pB k), (9, pB k), (8, pB k)]) (fun φ3 => []) (fun φ3 => [k]) s ⟨hk, trivial⟩ (fun φ3 => by kernel_rfl) ?_
  intro φ3 w3 s
  refine ops_done (by kernel_rfl) ?_
  refine cond_false_rule (b := false) (by kernel_rfl) rfl ?_
  refine wp_skip ?_
  refine wp_seq ?_
  refine draw_rule (C := [(k, .cells #[.int .i64 2, pB kl, pB kr] 77)]) ⟨(fun φ4 xs4 => [.look 0 [] [], .look 0 [] [], .look 0 [] [], .look 0 [.c 0] [k], .call 18 #[pB kl], .ran (binOp .add 9 (.string ⟨#[40]⟩) (.string ⟨(textT l).toArray⟩)), .ran (binOp .add 9 (.string ⟨([40] ++ (textT l)).toArray⟩) (.string ⟨#[44]⟩)), .look 0 [] [], .look 0 [] [], .look 0 [] [], .look 0 [.c 0] [k], .call 18 #[pB kr], .ran (binOp .add 9 (.string ⟨([40] ++ (textT l) ++ [44]).toArray⟩) (.string ⟨(textT r).toArray⟩)), .ran (binOp .add 9 (.string ⟨([40] ++ (textT l) ++ [44] ++ (textT r)).toArray⟩) (.string ⟨#[41]⟩)), .look 0 [] []]), (fun φ4 xs4 => [pB k, pB k, .pointer (some ⟨k, 1, none⟩), pB kl, .string ⟨(textT l).toArray⟩, .string ⟨([40] ++ (textT l)).toArray⟩, .string ⟨([40] ++ (textT l) ++ [44]).toArray⟩, pB k, pB k, .pointer (some ⟨k, 2, none⟩), pB kr, .string ⟨(textT r).toArray⟩, .string ⟨([40] ++ (textT l) ++ [44] ++ (textT r)).toArray⟩, .string ⟨([40] ++ (textT l) ++ [44] ++ (textT r) ++ [41]).toArray⟩, .string ⟨([40] ++ (textT l) ++ [44] ++ (textT r) ++ [41]).toArray⟩]), (fun φ4 xs4 => [[]]), (fun φ4 xs4 => [[default, default, default, default, default, default, default, default, default, default, default, default, default, default, default]]), [], [1, 1, 1, 1, 3, 6, 6, 1, 1, 1, 1, 3, 6, 6, 1]⟩ (fun j => ([MP.any] : List MP).getD j MP.any) [4, 11] [] [5, 6, 12, 13] (fun φ4 xs4 => []) (fun φ4 xs4 => [(13, pB k), (14, pB k), (15, .pointer (some ⟨k, 1, none⟩)), (16, pB kl), (17, .string ⟨(textT l).toArray⟩), (18, .string ⟨([40] ++ (textT l)).toArray⟩), (19, .string ⟨([40] ++ (textT l) ++ [44]).toArray⟩), (20, pB k), (21, pB k), (22, .pointer (some ⟨k, 2, none⟩)), (23, pB kr), (24, .string ⟨(textT r).toArray⟩), (25, .string ⟨([40] ++ (textT l) ++ [44] ++ (textT r)).toArray⟩), (26, .string ⟨([40] ++ (textT l) ++ [44] ++ (textT r) ++ [41]).toArray⟩), (2, .string ⟨([40] ++ (textT l) ++ [44] ++ (textT r) ++ [41]).toArray⟩)]) (fun φ4 xs4 => []) s ⟨hk, trivial⟩ (by kernel_rfl) (by kernel_rfl) (fun _ _ => by kernel_rfl) (fun _ _ => by kernel_rfl) ⟨fun _ _ => by kernel_rfl, fun _ _ => by kernel_rfl, fun _ _ => by kernel_rfl, fun _ _ => by kernel_rfl⟩ (fun _ _ _ => by kernel_rfl) (fun _ _ => by kernel_rfl) (fun _ _ => by kernel_rfl) (fun _ _ => by kernel_rfl) (fun _ _ => by kernel_rfl) (fun _ _ => by kernel_rfl) trivial ⟨kcast (A := ∀ (φ4 : Nat → Nat) (xs4 : Xs) (J : IM) (w : World), I.Le J → J.Sub w → ((binOp .add 9 (.string ⟨#[40]⟩) (.string ⟨(textT l).toArray⟩)) : Sem Value).run Tryd.prog w = .ok (.string ⟨([40] ++ (textT l)).toArray⟩) w) (by kernel_rfl) (fun φ4 xs4 J w hJ hS => run_cat (x := [40]) (y := textT l) (by simp only [List.length_append, List.length_cons, List.length_nil]; omega)), ⟨kcast (A := ∀ (φ4 : Nat → Nat) (xs4 : Xs) (J : IM) (w : World), I.Le J → J.Sub w → ((binOp .add 9 (.string ⟨([40] ++ (textT l)).toArray⟩) (.string ⟨#[44]⟩)) : Sem Value).run Tryd.prog w = .ok (.string ⟨([40] ++ (textT l) ++ [44]).toArray⟩) w) (by kernel_rfl) (fun φ4 xs4 J w hJ hS => run_cat (x := [40] ++ (textT l)) (y := [44]) (by simp only [List.length_append, List.length_cons, List.length_nil]; omega)), ⟨kcast (A := ∀ (φ4 : Nat → Nat) (xs4 : Xs) (J : IM) (w : World), I.Le J → J.Sub w → ((binOp .add 9 (.string ⟨([40] ++ (textT l) ++ [44]).toArray⟩) (.string ⟨(textT r).toArray⟩)) : Sem Value).run Tryd.prog w = .ok (.string ⟨([40] ++ (textT l) ++ [44] ++ (textT r)).toArray⟩) w) (by kernel_rfl) (fun φ4 xs4 J w hJ hS => run_cat (x := [40] ++ (textT l) ++ [44]) (y := textT r) (by simp only [List.length_append, List.length_cons, List.length_nil]; omega)), ⟨kcast (A := ∀ (φ4 : Nat → Nat) (xs4 : Xs) (J : IM) (w : World), I.Le J → J.Sub w → ((binOp .add 9 (.string ⟨([40] ++ (textT l) ++ [44] ++ (textT r)).toArray⟩) (.string ⟨#[41]⟩)) : Sem Value).run Tryd.prog w = .ok (.string ⟨([40] ++ (textT l) ++ [44] ++ (textT r) ++ [41]).toArray⟩) w) (by kernel_rfl) (fun φ4 xs4 J w hJ hS => run_cat (x := [40] ++ (textT l) ++ [44] ++ (textT r)) (y := [41]) (by simp only [List.length_append, List.length_cons, List.length_nil]; omega)), trivial⟩⟩⟩⟩ (by kernel_rfl) ⟨?c4_4, ?c4_11, trivial⟩ ?k4
  case c4_4 =>
   refine kcast (A := ∀ (φ4 : Nat → Nat) (xs4 : Xs) (J4_4 : IM), I.Le J4_4 → Fun Tryd.prog 18 #[pB kl] J4_4 (fun v J' => ∃ x : UX, v = .string ⟨(textT l).toArray⟩ ∧ (True))) (by kernel_rfl) ?_
   intro φ4 xs4 J4_4 leJ
   have hl := RT.mono leJ hl
   exact Fun.mono (ihl hl (by omega)) (fun v J' _ h => ⟨UX.d, h, trivial⟩)
  case c4_11 =>
   refine kcast (A := ∀ (φ4 : Nat → Nat) (xs4 : Xs) (J11_4 : IM), I.Le J11_4 → (True) → Fun Tryd.prog 18 #[pB kr] J11_4 (fun v J' => ∃ x : UX, v = .string ⟨(textT r).toArray⟩ ∧ (True))) (by kernel_rfl) ?_
   intro φ4 xs4 J11_4 leJ
   rintro _
   have hr := RT.mono leJ hr
   exact Fun.mono (ihr hr (by omega)) (fun v J' _ h => ⟨UX.d, h, trivial⟩)
  case k4 =>
   rintro φ4 xs4 I4 w4 le4 s _ _
   refine wp_ret ?_
   refine ret_rule (C := []) [] [] (.string ⟨([40] ++ (textT l) ++ [44] ++ (textT r) ++ [41]).toArray⟩) [] [] s trivial (by kernel_rfl) ?_
   exact ⟨_, _, _, rfl, s, rfl⟩

theorem rtext_c : ∀ (t : T) {I : IM} {k : Nat}, RT I t k → (textT t).length ≤ 1000000000 → Fun Tryd.prog 18 #[.pointer (some ⟨k, 0, none⟩)] I (fun v _ => v = .string ⟨(textT t).toArray⟩)
  | .zero, _, _, h, hl => rtext_step h hl (fun l r h => by cases h)
  | .one, _, _, h, hl => rtext_step h hl (fun l r h => by cases h)
  | .node l r, _, _, h, hl => rtext_step h hl (fun l' r' e => by
      cases e
      exact ⟨fun {J} {k} a b => rtext_c l a b, fun {J} {k} a b => rtext_c r a b⟩)

set_option maxHeartbeats 400000 in
theorem rzero_c {I : IM} : Fun Tryd.prog 40 #[] I (fun v J => ∃ k, v = .pointer (some ⟨k, 0, none⟩) ∧ RT J T.zero k) := by
 refine enter_rule 3 [] Tryd.func40 rfl (by kernel_rfl) ?_
 intro w s
 refine seqR ?_
 refine oKD [] [] 1 [] 0 (fun φ1 => [(0, .pointer none)]) (fun φ1 => []) s (fun φ1 => by kernel_rfl) (by kernel_rfl) ?_
 intro φ1 w1 s
 refine seqR ?_
 refine oAD [] [] 3 [] 1 (fun φ2 => [(0, pB (φ2 0)), (2, pB (φ2 0)), (1, .agg #[.int .i64 0, .pointer none, .pointer none])]) (fun φ2 => [(φ2 0, .cells #[.int .i64 0, .pointer none, .pointer none] 77)]) (fun φ2 => []) s (fun φ2 => by kernel_rfl) (by kernel_rfl) ?_
 intro φ2 w2 s
 refine wp_ret ?_
 refine ret_rule (C := []) _ [] (pB (φ2 0)) [] [] s trivial (by kernel_rfl) ?_
 obtain ⟨I3, le3, hk3, s⟩ := s.freezeAt 0 (φ2 0) (.cells #[.int .i64 0, .pointer none, .pointer none] 77) [] (by kernel_rfl) (by kernel_rfl)
 exact ⟨_, _, _, rfl, s, ⟨_, rfl, hk3⟩⟩

end Go.Proofs.YtgmigcmhnmmdkaaDoor.Ev

/- The document's events; to the program's own. -/
set_option linter.all false
set_option maxRecDepth 100000
namespace Go.Proofs.YtgmigcmhnmmdkaaDoor.Ev
open Go.RowKit Go.Sep

def T.nf : T → Prop
  | .node l r => l.nf ∧ r.nf ∧ T.mk l r = .node l r
  | _ => True
theorem T.nf_mk {l r : T} (hl : l.nf) (hr : r.nf) : (T.mk l r).nf := by
  have hn : ∀ {a b : T}, T.mk a b = .node a b → a.nf → b.nf → (T.mk a b).nf := fun {a b} h ha hb => by rw [h]; exact ⟨ha, hb, h⟩
  cases l with
  | zero => cases r with
    | zero => trivial
    | one => exact hn rfl hl hr
    | node _ _ => exact hn rfl hl hr
  | one => cases r with
    | zero => exact hn rfl hl hr
    | one => trivial
    | node _ _ => exact hn rfl hl hr
  | node _ _ => exact hn rfl hl hr
def E.nf : E → Prop
  | .node n l r => l.nf ∧ r.nf ∧ E.mk n l r = .node n l r
  | _ => True
theorem E.mk_iff {n : Nat} {l r : E} : E.mk n l r = .node n l r ↔ ¬ (l.isLeaf = true ∧ r.isLeaf = true ∧ l.base = r.base) ∧ min l.base r.base = 0 := by
  unfold E.mk
  constructor
  · intro h
    split at h
    · cases h
    · rename_i hc
      refine ⟨hc, ?_⟩
      have : n + min l.base r.base = n := congrArg E.base h
      omega
  · rintro ⟨hc, hm⟩
    have hdn : ∀ e : E, E.dn 0 e = e := fun e => by cases e <;> rfl
    rw [if_neg hc, hm, hdn, hdn]; rfl
theorem E.dn_nf {m : Nat} {e : E} (h : e.nf) : (E.dn m e).nf := by
  cases e with
  | leaf n => trivial
  | node n l r => exact ⟨h.1, h.2.1, E.mk_iff.2 (E.mk_iff.1 h.2.2)⟩
theorem E.dn_base (m : Nat) (e : E) : (E.dn m e).base = e.base - m := by cases e <;> rfl
theorem E.dn_leaf (m : Nat) (e : E) : (E.dn m e).isLeaf = e.isLeaf := by cases e <;> rfl
theorem E.nf_mk {n : Nat} {l r : E} (hl : l.nf) (hr : r.nf) : (E.mk n l r).nf := by
  have e : E.mk n l r = if l.isLeaf = true ∧ r.isLeaf = true ∧ l.base = r.base then .leaf (n + l.base) else .node (n + min l.base r.base) (E.dn (min l.base r.base) l) (E.dn (min l.base r.base) r) := rfl
  rw [e]
  split
  · trivial
  · rename_i hc
    refine ⟨E.dn_nf hl, E.dn_nf hr, E.mk_iff.2 ⟨?_, ?_⟩⟩
    · rintro ⟨h1, h2, h3⟩
      rw [E.dn_leaf] at h1 h2
      rw [E.dn_base, E.dn_base] at h3
      exact hc ⟨h1, h2, by omega⟩
    · rw [E.dn_base, E.dn_base]; omega

set_option maxHeartbeats 2000000 in
theorem etext_step {I : IM} {e : E} {k : Nat} (h : RE I e k) (ht : e.top < 18446744073709551616) (hlim : (textE e).length ≤ 1000000000) (ih : ∀ n l r, e = .node n l r → (∀ {J : IM} {k : Nat}, RE J l k → l.top < 18446744073709551616 → (textE l).length ≤ 1000000000 → Fun Tryd.prog 20 #[.pointer (some ⟨k, 0, none⟩)] J (fun v J => v = .string ⟨(textE l).toArray⟩)) ∧ (∀ {J : IM} {k : Nat}, RE J r k → r.top < 18446744073709551616 → (textE r).length ≤ 1000000000 → Fun Tryd.prog 20 #[.pointer (some ⟨k, 0, none⟩)] J (fun v J => v = .string ⟨(textE r).toArray⟩))) : Fun Tryd.prog 20 #[.pointer (some ⟨k, 0, none⟩)] I (fun v J => v = .string ⟨(textE e).toArray⟩) := by
 cases e with
 | leaf n =>
  have h0 : RE _ (E.leaf n) k := h
  refine enter_rule 34 [(0, pB k)] Tryd.func20 rfl (by kernel_rfl) ?_
  intro w s
  refine seqR ?_
  refine oKD [] [] 1 [] 0 (fun φ1 => [(2, .string ⟨#[]⟩)]) (fun φ1 => []) s (fun φ1 => by kernel_rfl) (by kernel_rfl) ?_
  intro φ1 w1 s
  refine wp_seq ?_
  refine seqR ?_
  refine ops_rule (C := [(k, .cells #[.int .u64 n, .pointer none, .pointer none] 85)]) [] [] 5 [.c 0] 0 (fun φ2 => [(7, .bool true), (6, .pointer none), (5, .pointer (some ⟨k, 1, none⟩)), (4, pB k), (3, pB k)]) (fun φ2 => []) (fun φ2 => [k]) s ⟨h, trivial⟩ (fun φ2 => by kernel_rfl) ?_
  intro φ2 w2 s
  refine ops_done (by kernel_rfl) ?_
  refine cond_true_rule (b := true) (by kernel_rfl) rfl ?_
  refine seqR ?_
  refine ops_rule (C := [(k, .cells #[.int .u64 n, .pointer none, .pointer none] 85)]) [] [] 4 [.c 0] 0 (fun φ3 => [(11, .int .u64 n), (10, pB k), (9, pB k), (8, pB k)]) (fun φ3 => []) (fun φ3 => [k]) s ⟨h, trivial⟩ (fun φ3 => by kernel_rfl) ?_
  intro φ3 w3 s
  refine call_rule (some 12) s (dec_c n (by first | exact ht | omega)) (by kernel_rfl) ?_
  intro v4 I4 w4 le4 h4 s
  replace h0 := RE.mono le4 h0
  replace h := le4 _ _ h
  obtain rfl := h4
  refine oKD [] [] 1 [] 0 (fun φ5 => [(2, .string ⟨(Lib.decDigits n).toArray⟩)]) (fun φ5 => []) s (fun φ5 => by kernel_rfl) (by kernel_rfl) ?_
  intro φ5 w5 s
  refine wp_ret ?_
  refine ret_rule (C := []) [] [] (.string ⟨(Lib.decDigits n).toArray⟩) [] [] s trivial (by kernel_rfl) ?_
  exact ⟨_, _, _, rfl, s, rfl⟩
 | node n l r =>
  have h0 : RE _ (E.node n l r) k := h
  obtain ⟨kl, kr, hk, hl, hr⟩ := h
  obtain ⟨ihl, ihr⟩ := ih n l r rfl
  clear ih
  have ht1 : n + max l.top r.top < 18446744073709551616 := ht
  have hlim1 : (Lib.decDigits n).length + (textE l).length + (textE r).length + 4 ≤ 1000000000 := by simp only [textE, List.length_append, List.length_cons, List.length_nil] at hlim; omega
  refine enter_rule 34 [(0, pB k)] Tryd.func20 rfl (by kernel_rfl) ?_
  intro w s
  refine seqR ?_
  refine oKD [] [] 1 [] 0 (fun φ1 => [(2, .string ⟨#[]⟩)]) (fun φ1 => []) s (fun φ1 => by kernel_rfl) (by kernel_rfl) ?_
  intro φ1 w1 s
  refine wp_seq ?_
  refine seqR ?_
  refine ops_rule (C := [(k, .cells #[.int .u64 n, pB kl, pB kr] 85)]) [] [] 5 [.c 0] 0 (fun φ2 => [(7, .bool false), (6, pB kl), (5, .pointer (some ⟨k, 1, none⟩)), (4, pB k), (3, pB k)]) (fun φ2 => []) (fun φ2 => [k]) s ⟨hk, trivial⟩ (fun φ2 => by kernel_rfl) ?_
  intro φ2 w2 s
  refine ops_done (by kernel_rfl) ?_
  refine cond_false_rule (b := false) (by kernel_rfl) rfl ?_
  refine wp_skip ?_
  refine wp_seq ?_
  refine draw_rule (C := [(k, .cells #[.int .u64 n, pB kl, pB kr] 85)]) ⟨(fun φ3 xs3 => [.look 0 [] [], .look 0 [] [], .look 0 [] [], .look 0 [.c 0] [k], .call 52 #[.int .u64 n], .ran (binOp .add 9 (.string ⟨#[40]⟩) (.string ⟨(Lib.decDigits n).toArray⟩)), .ran (binOp .add 9 (.string ⟨([40] ++ (Lib.decDigits n)).toArray⟩) (.string ⟨#[44]⟩)), .look 0 [] [], .look 0 [] [], .look 0 [] [], .look 0 [.c 0] [k], .call 20 #[pB kl], .ran (binOp .add 9 (.string ⟨([40] ++ (Lib.decDigits n) ++ [44]).toArray⟩) (.string ⟨(textE l).toArray⟩)), .ran (binOp .add 9 (.string ⟨([40] ++ (Lib.decDigits n) ++ [44] ++ (textE l)).toArray⟩) (.string ⟨#[44]⟩)), .look 0 [] [], .look 0 [] [], .look 0 [] [], .look 0 [.c 0] [k], .call 20 #[pB kr], .ran (binOp .add 9 (.string ⟨([40] ++ (Lib.decDigits n) ++ [44] ++ (textE l) ++ [44]).toArray⟩) (.string ⟨(textE r).toArray⟩)), .ran (binOp .add 9 (.string ⟨([40] ++ (Lib.decDigits n) ++ [44] ++ (textE l) ++ [44] ++ (textE r)).toArray⟩) (.string ⟨#[41]⟩)), .look 0 [] []]), (fun φ3 xs3 => [pB k, pB k, pB k, .int .u64 n, .string ⟨(Lib.decDigits n).toArray⟩, .string ⟨([40] ++ (Lib.decDigits n)).toArray⟩, .string ⟨([40] ++ (Lib.decDigits n) ++ [44]).toArray⟩, pB k, pB k, .pointer (some ⟨k, 1, none⟩), pB kl, .string ⟨(textE l).toArray⟩, .string ⟨([40] ++ (Lib.decDigits n) ++ [44] ++ (textE l)).toArray⟩, .string ⟨([40] ++ (Lib.decDigits n) ++ [44] ++ (textE l) ++ [44]).toArray⟩, pB k, pB k, .pointer (some ⟨k, 2, none⟩), pB kr, .string ⟨(textE r).toArray⟩, .string ⟨([40] ++ (Lib.decDigits n) ++ [44] ++ (textE l) ++ [44] ++ (textE r)).toArray⟩, .string ⟨([40] ++ (Lib.decDigits n) ++ [44] ++ (textE l) ++ [44] ++ (textE r) ++ [41]).toArray⟩, .string ⟨([40] ++ (Lib.decDigits n) ++ [44] ++ (textE l) ++ [44] ++ (textE r) ++ [41]).toArray⟩]), (fun φ3 xs3 => [[]]), (fun φ3 xs3 => [[default, default, default, default, default, default, default, default, default, default, default, default, default, default, default, default, default, default, default, default, default, default]]), [], [1, 1, 1, 1, 3, 6, 6, 1, 1, 1, 1, 3, 6, 6, 1, 1, 1, 1, 3, 6, 6, 1]⟩ (fun j => ([MP.any] : List MP).getD j MP.any) [4, 11, 18] [] [5, 6, 12, 13, 19, 20] (fun φ3 xs3 => []) (fun φ3 xs3 => [(13, pB k), (14, pB k), (15, pB k), (16, .int .u64 n), (17, .string ⟨(Lib.decDigits n).toArray⟩), (18, .string ⟨([40] ++ (Lib.decDigits n)).toArray⟩), (19, .string ⟨([40] ++ (Lib.decDigits n) ++ [44]).toArray⟩), (20, pB k), (21, pB k), (22, .pointer (some ⟨k, 1, none⟩)), (23, pB kl), (24, .string ⟨(textE l).toArray⟩), (25, .string ⟨([40] ++ (Lib.decDigits n) ++ [44] ++ (textE l)).toArray⟩), (26, .string ⟨([40] ++ (Lib.decDigits n) ++ [44] ++ (textE l) ++ [44]).toArray⟩), (27, pB k), (28, pB k), (29, .pointer (some ⟨k, 2, none⟩)), (30, pB kr), (31, .string ⟨(textE r).toArray⟩), (32, .string ⟨([40] ++ (Lib.decDigits n) ++ [44] ++ (textE l) ++ [44] ++ (textE r)).toArray⟩), (33, .string ⟨([40] ++ (Lib.decDigits n) ++ [44] ++ (textE l) ++ [44] ++ (textE r) ++ [41]).toArray⟩), (2, .string ⟨([40] ++ (Lib.decDigits n) ++ [44] ++ (textE l) ++ [44] ++ (textE r) ++ [41]).toArray⟩)]) (fun φ3 xs3 => []) s ⟨hk, trivial⟩ (by kernel_rfl) (by kernel_rfl) (fun _ _ => by kernel_rfl) (fun _ _ => by kernel_rfl) ⟨fun _ _ => by kernel_rfl, fun _ _ => by kernel_rfl, fun _ _ => by kernel_rfl, fun _ _ => by kernel_rfl⟩ (fun _ _ _ => by kernel_rfl) (fun _ _ => by kernel_rfl) (fun _ _ => by kernel_rfl) (fun _ _ => by kernel_rfl) (fun _ _ => by kernel_rfl) (fun _ _ => by kernel_rfl) trivial ⟨kcast (A := ∀ (φ3 : Nat → Nat) (xs3 : Xs) (J : IM) (w : World), I.Le J → J.Sub w → ((binOp .add 9 (.string ⟨#[40]⟩) (.string ⟨(Lib.decDigits n).toArray⟩)) : Sem Value).run Tryd.prog w = .ok (.string ⟨([40] ++ (Lib.decDigits n)).toArray⟩) w) (by kernel_rfl) (fun φ3 xs3 J w hJ hS => run_cat (x := [40]) (y := Lib.decDigits n) (by simp only [List.length_append, List.length_cons, List.length_nil]; omega)), ⟨kcast (A := ∀ (φ3 : Nat → Nat) (xs3 : Xs) (J : IM) (w : World), I.Le J → J.Sub w → ((binOp .add 9 (.string ⟨([40] ++ (Lib.decDigits n)).toArray⟩) (.string ⟨#[44]⟩)) : Sem Value).run Tryd.prog w = .ok (.string ⟨([40] ++ (Lib.decDigits n) ++ [44]).toArray⟩) w) (by kernel_rfl) (fun φ3 xs3 J w hJ hS => run_cat (x := [40] ++ (Lib.decDigits n)) (y := [44]) (by simp only [List.length_append, List.length_cons, List.length_nil]; omega)), ⟨kcast (A := ∀ (φ3 : Nat → Nat) (xs3 : Xs) (J : IM) (w : World), I.Le J → J.Sub w → ((binOp .add 9 (.string ⟨([40] ++ (Lib.decDigits n) ++ [44]).toArray⟩) (.string ⟨(textE l).toArray⟩)) : Sem Value).run Tryd.prog w = .ok (.string ⟨([40] ++ (Lib.decDigits n) ++ [44] ++ (textE l)).toArray⟩) w) (by kernel_rfl) (fun φ3 xs3 J w hJ hS => run_cat (x := [40] ++ (Lib.decDigits n) ++ [44]) (y := textE l) (by simp only [List.length_append, List.length_cons, List.length_nil]; omega)), ⟨kcast (A := ∀ (φ3 : Nat → Nat) (xs3 : Xs) (J : IM) (w : World), I.Le J → J.Sub w → ((binOp .add 9 (.string ⟨([40] ++ (Lib.decDigits n) ++ [44] ++ (textE l)).toArray⟩) (.string ⟨#[44]⟩)) : Sem Value).run Tryd.prog w = .ok (.string ⟨([40] ++ (Lib.decDigits n) ++ [44] ++ (textE l) ++ [44]).toArray⟩) w) (by kernel_rfl) (fun φ3 xs3 J w hJ hS => run_cat (x := [40] ++ (Lib.decDigits n) ++ [44] ++ (textE l)) (y := [44]) (by simp only [List.length_append, List.length_cons, List.length_nil]; omega)), ⟨kcast (A := ∀ (φ3 : Nat → Nat) (xs3 : Xs) (J : IM) (w : World), I.Le J → J.Sub w → ((binOp .add 9 (.string ⟨([40] ++ (Lib.decDigits n) ++ [44] ++ (textE l) ++ [44]).toArray⟩) (.string ⟨(textE r).toArray⟩)) : Sem Value).run Tryd.prog w = .ok (.string ⟨([40] ++ (Lib.decDigits n) ++ [44] ++ (textE l) ++ [44] ++ (textE r)).toArray⟩) w) (by kernel_rfl) (fun φ3 xs3 J w hJ hS => run_cat (x := [40] ++ (Lib.decDigits n) ++ [44] ++ (textE l) ++ [44]) (y := textE r) (by simp only [List.length_append, List.length_cons, List.length_nil]; omega)), ⟨kcast (A := ∀ (φ3 : Nat → Nat) (xs3 : Xs) (J : IM) (w : World), I.Le J → J.Sub w → ((binOp .add 9 (.string ⟨([40] ++ (Lib.decDigits n) ++ [44] ++ (textE l) ++ [44] ++ (textE r)).toArray⟩) (.string ⟨#[41]⟩)) : Sem Value).run Tryd.prog w = .ok (.string ⟨([40] ++ (Lib.decDigits n) ++ [44] ++ (textE l) ++ [44] ++ (textE r) ++ [41]).toArray⟩) w) (by kernel_rfl) (fun φ3 xs3 J w hJ hS => run_cat (x := [40] ++ (Lib.decDigits n) ++ [44] ++ (textE l) ++ [44] ++ (textE r)) (y := [41]) (by simp only [List.length_append, List.length_cons, List.length_nil]; omega)), trivial⟩⟩⟩⟩⟩⟩ (by kernel_rfl) ⟨?c3_4, ?c3_11, ?c3_18, trivial⟩ ?k3
  case c3_4 =>
   refine kcast (A := ∀ (φ3 : Nat → Nat) (xs3 : Xs) (J4_3 : IM), I.Le J4_3 → Fun Tryd.prog 52 #[.int .u64 n] J4_3 (fun v J' => ∃ x : UX, v = .string ⟨(Lib.decDigits n).toArray⟩ ∧ (True))) (by kernel_rfl) ?_
   intro φ3 xs3 J4_3 leJ
   exact Fun.mono (dec_c n (by first | exact ht | omega)) (fun v J' _ h => ⟨UX.d, h, trivial⟩)
  case c3_11 =>
   refine kcast (A := ∀ (φ3 : Nat → Nat) (xs3 : Xs) (J11_3 : IM), I.Le J11_3 → (True) → Fun Tryd.prog 20 #[pB kl] J11_3 (fun v J' => ∃ x : UX, v = .string ⟨(textE l).toArray⟩ ∧ (True))) (by kernel_rfl) ?_
   intro φ3 xs3 J11_3 leJ
   rintro _
   have hl := RE.mono leJ hl
   exact Fun.mono (ihl hl (by omega) (by omega)) (fun v J' _ h => ⟨UX.d, h, trivial⟩)
  case c3_18 =>
   refine kcast (A := ∀ (φ3 : Nat → Nat) (xs3 : Xs) (J18_3 : IM), I.Le J18_3 → (True) → (True) → Fun Tryd.prog 20 #[pB kr] J18_3 (fun v J' => ∃ x : UX, v = .string ⟨(textE r).toArray⟩ ∧ (True))) (by kernel_rfl) ?_
   intro φ3 xs3 J18_3 leJ
   rintro _ _
   have hr := RE.mono leJ hr
   exact Fun.mono (ihr hr (by omega) (by omega)) (fun v J' _ h => ⟨UX.d, h, trivial⟩)
  case k3 =>
   rintro φ3 xs3 I3 w3 le3 s _ _ _
   refine wp_ret ?_
   refine ret_rule (C := []) [] [] (.string ⟨([40] ++ (Lib.decDigits n) ++ [44] ++ (textE l) ++ [44] ++ (textE r) ++ [41]).toArray⟩) [] [] s trivial (by kernel_rfl) ?_
   exact ⟨_, _, _, rfl, s, rfl⟩

theorem etext_c : ∀ (e : E) {I : IM} {k : Nat}, RE I e k → e.top < 18446744073709551616 → (textE e).length ≤ 1000000000 → Fun Tryd.prog 20 #[.pointer (some ⟨k, 0, none⟩)] I (fun v _ => v = .string ⟨(textE e).toArray⟩)
  | .leaf n, _, _, h, ht, hl => etext_step h ht hl (fun n l r h => by cases h)
  | .node n l r, _, _, h, ht, hl => etext_step h ht hl (fun n' l' r' e => by
      cases e
      exact ⟨fun {J} {k} a b c => etext_c l a b c, fun {J} {k} a b c => etext_c r a b c⟩)

end Go.Proofs.YtgmigcmhnmmdkaaDoor.Ev

/- Trees as bits: no tree's bits are the beginning of another one's. -/
set_option linter.all false
namespace Go.Proofs.YtgmigcmhnmmdkaaDoor

def idK (t : Ev.T) : Nat := if (t.isZero || t.isOne) = true then 0 else if t.left.isZero = true then 1 else if t.right.isZero = true then 2 else 3
def lbT (t : Ev.T) : Nat := if t.isOne = true then 1 else 0
def idB : Ev.T → List Bool
  | .zero => putBits 0 2 ++ putBits 0 1
  | .one => putBits 0 2 ++ putBits 1 1
  | .node l r => putBits (idK (.node l r)) 2 ++ ((if idK (.node l r) = 1 then [] else idB l) ++ (if idK (.node l r) = 2 then [] else idB r))
theorem pb12 : putBits 1 2 = [false, true] := by decide
theorem pb22 : putBits 2 2 = [true, false] := by decide
theorem pb32 : putBits 3 2 = [true, true] := by decide
theorem T_zero : ∀ {t : Ev.T}, t.isZero = true → t = .zero
  | .zero, _ => rfl
  | .one, h => by simp [Ev.T.isZero] at h
  | .node _ _, h => by simp [Ev.T.isZero] at h
theorem idB_node (l r : Ev.T) : (l = .zero ∧ idB (.node l r) = false :: true :: idB r) ∨ (r = .zero ∧ idB (.node l r) = true :: false :: idB l) ∨ (idB (.node l r) = true :: true :: (idB l ++ idB r)) := by
  have e0 : (Ev.T.node l r).isZero = false := rfl
  have e1 : (Ev.T.node l r).isOne = false := rfl
  have e2 : (Ev.T.node l r).left = l := rfl
  have e3 : (Ev.T.node l r).right = r := rfl
  by_cases h1 : l.isZero = true
  · have hk : idK (.node l r) = 1 := by unfold idK; simp [e0, e1, e2, h1]
    exact .inl ⟨T_zero h1, by simp [idB, hk, pb12]⟩
  · by_cases h2 : r.isZero = true
    · have hk : idK (.node l r) = 2 := by unfold idK; simp [e0, e1, e2, e3, h1, h2]
      exact .inr (.inl ⟨T_zero h2, by simp [idB, hk, pb22]⟩)
    · have hk : idK (.node l r) = 3 := by unfold idK; simp [e0, e1, e2, e3, h1, h2]
      exact .inr (.inr (by simp [idB, hk, pb32]))
theorem idB_pos : ∀ (t : Ev.T), 3 ≤ (idB t).length
  | .zero => by simp [idB, putBits_len]
  | .one => by simp [idB, putBits_len]
  | .node l r => by
    have h1 := idB_pos l
    have h2 := idB_pos r
    rcases idB_node l r with ⟨a, e⟩ | ⟨a, e⟩ | e <;> rw [e] <;> simp <;> omega
theorem idB_len : ∀ (t : Ev.T) (n : Nat), t.depth ≤ n → (idB t).length + 2 ≤ 5 * 2 ^ n
  | .zero, n, _ => by have := Nat.one_le_two_pow (n := n); simp [idB, putBits_len]; omega
  | .one, n, _ => by have := Nat.one_le_two_pow (n := n); simp [idB, putBits_len]; omega
  | .node l r, 0, h => by simp [Ev.T.depth] at h
  | .node l r, n + 1, h => by
    have hd : l.depth ≤ n ∧ r.depth ≤ n := by simp only [Ev.T.depth] at h; omega
    have h1 := idB_len l n hd.1
    have h2 := idB_len r n hd.2
    rw [Nat.pow_succ]
    rcases idB_node l r with ⟨a, e⟩ | ⟨a, e⟩ | e <;> rw [e] <;> simp <;> omega
/- the steps of the writer -/
theorem idB_leaf {t : Ev.T} (h : idK t = 0) : idB t = putBits (idK t) 2 ++ putBits (lbT t) 1 := by
  cases t with
  | zero => rfl
  | one => rfl
  | node l r =>
    exfalso; revert h; unfold idK
    have e0 : (Ev.T.node l r).isZero = false := rfl
    have e1 : (Ev.T.node l r).isOne = false := rfl
    simp only [e0, e1, Bool.or_self, Bool.false_eq_true, if_false]
    split
    · simp
    · split <;> simp
theorem idB_pair {t : Ev.T} (h : idK t ≠ 0) : idB t = putBits (idK t) 2 ++ ((if idK t = 1 then [] else idB t.left) ++ (if idK t = 2 then [] else idB t.right)) := by
  cases t with
  | zero => exact absurd rfl h
  | one => exact absurd rfl h
  | node l r => rfl
theorem idK_lt (t : Ev.T) : idK t < 4 := by unfold idK; split; · omega
                                            split; · omega
                                            split <;> omega
/- events -/
def kindE (l r : Ev.E) : Nat := if l.top = 0 then 0 else if r.top = 0 then 1 else 2
theorem kindE_lt (l r : Ev.E) : kindE l r < 3 := by unfold kindE; split; · omega
                                                    split <;> omega
def headB (n k : Nat) : List Bool := if n = 0 then putBits k 2 else if k = 2 then putBits 3 2 ++ putBits 1 1 ++ numW 62 2 n else putBits 3 2 ++ putBits 0 1 ++ putBits k 1 ++ numW 62 2 n
def evB : Ev.E → List Bool
  | .leaf n => putBits 1 1 ++ numW 62 2 n
  | .node n l r => putBits 0 1 ++ headB n (kindE l r) ++ ((if kindE l r = 0 then [] else evB l) ++ (if kindE l r = 1 then [] else evB r))
theorem E_zero : ∀ {e : Ev.E}, e.nf → e.top = 0 → e = .leaf 0
  | .leaf n, _, h => by have : n = 0 := h; rw [this]
  | .node n l r, h, ht => by
    have h1 : n + max l.top r.top = 0 := ht
    have el := E_zero h.1 (by omega)
    have er := E_zero h.2.1 (by omega)
    have hm := h.2.2
    rw [el, er] at hm
    simp [Ev.E.mk, Ev.E.isLeaf, Ev.E.base] at hm
theorem headB_len (n k : Nat) : (headB n k).length ≤ 131 := by
  have := numW_len 62 2 n
  unfold headB; split
  · rw [putBits_len]; omega
  · split <;> simp [putBits_len] <;> omega
theorem evB_len : ∀ (t : Ev.E) (n : Nat), t.depth ≤ n → (evB t).length + 132 ≤ 270 * 2 ^ n
  | .leaf m, n, _ => by have := Nat.one_le_two_pow (n := n); have := numW_len 62 2 m; simp [evB, putBits_len]; omega
  | .node m l r, 0, h => by simp [Ev.E.depth] at h
  | .node m l r, n + 1, h => by
    have hd : l.depth ≤ n ∧ r.depth ≤ n := by simp only [Ev.E.depth] at h; omega
    have h1 := evB_len l n hd.1
    have h2 := evB_len r n hd.2
    have h3 := headB_len m (kindE l r)
    rw [Nat.pow_succ]
    unfold evB
    simp only [List.length_append, putBits_len]
    split <;> split <;> (try simp only [List.length_nil]) <;> omega
theorem evB_leaf {t : Ev.E} (h : t.isLeaf = true) : evB t = putBits 1 1 ++ numW 62 2 t.base := by
  cases t with
  | leaf n => rfl
  | node n l r => simp [Ev.E.isLeaf] at h
theorem evB_nd {t : Ev.E} (h : t.isLeaf = false) : evB t = putBits 0 1 ++ headB t.base (kindE t.left t.right) ++ ((if kindE t.left t.right = 0 then [] else evB t.left) ++ (if kindE t.left t.right = 1 then [] else evB t.right)) := by
  cases t with
  | leaf n => simp [Ev.E.isLeaf] at h
  | node n l r => rfl
theorem nd_top {n : Nat} {l r : Ev.E} (h : (Ev.E.node n l r).nf) : n < (Ev.E.node n l r).top := by
  show n < n + max l.top r.top
  rcases Nat.eq_zero_or_pos (max l.top r.top) with q | q
  · have hm := (Ev.E.mk_iff.1 h.2.2).1
    rw [E_zero h.1 (by omega), E_zero h.2.1 (by omega)] at hm
    exact absurd ⟨rfl, rfl, rfl⟩ hm
  · omega
end Go.Proofs.YtgmigcmhnmmdkaaDoor

/- Ids are written. -/
set_option linter.all false
set_option maxRecDepth 100000
namespace Go.Proofs.YtgmigcmhnmmdkaaDoor
open Go.RowKit Go.Sep
attribute [local irreducible] Go.wpList Go.Code.wp

set_option maxHeartbeats 400000 in
theorem idKind_c {I : IM} {t : Ev.T} {bi : Bool} {pi : Option Addr} (ht : Ev.TRep I t bi pi) : Fun Tryd.prog 75 #[.agg #[.bool bi, .pointer pi]] I (fun v J => v = .int .u64 ((idK t : Nat) : Int)) := by
 refine enter_rule 18 [(0, .agg #[.bool bi, .pointer pi])] Tryd.func75 rfl (by kernel_rfl) ?_
 intro w s
 refine seqR ?_
 refine oAD [] [] 2 [] 1 (fun φ1 => [(2, .int .u64 0), (1, pB (φ1 0))]) (fun φ1 => [(φ1 0, .cells #[.bool bi, .pointer pi] 27)]) (fun φ1 => []) s (fun φ1 => by kernel_rfl) (by kernel_rfl) ?_
 intro φ1 w1 s
 refine wp_seq ?_
 refine wp_block ?_
 refine seqR ?_
 refine oK _ [] 1 [.o 0, .o 0] 0 (fun φ2 => [(4, .agg #[.bool bi, .pointer pi])]) (fun φ2 => [φ1 0, φ1 0]) s (fun φ2 => by kernel_rfl) ?_
 intro φ2 w2 s
 refine call_rule (some 5) s (Ev.isZero_c ht) (by kernel_rfl) ?_
 intro v3 I3 w3 le3 h3 s
 replace ht := Ev.TRep.mono le3 ht
 obtain rfl := h3
 refine oK _ [] 1 [] 0 (fun φ4 => [(6, .bool t.isZero)]) (fun φ4 => []) s (fun φ4 => by kernel_rfl) ?_
 intro φ4 w4 s
 rcases Bool.eq_false_or_eq_true (t.isZero) with hc5 | hc5
 ·
  rw [hc5]
  refine oKD _ [] 4 [] 0 (fun φ6 => [(3, .bool true), (9, .bool true), (8, undef), (7, undef)]) (fun φ6 => []) s (fun φ6 => by kernel_rfl) (by kernel_rfl) ?_
  intro φ6 w6 s
  refine cond_true_rule (b := true) (by kernel_rfl) rfl ?_
  refine seqR ?_
  refine oKD _ [] 1 [] 0 (fun φ7 => [(2, .int .u64 0)]) (fun φ7 => []) s (fun φ7 => by kernel_rfl) (by kernel_rfl) ?_
  intro φ7 w7 s
  refine wp_ret ?_
  refine ret_rule (C := []) _ [] (.int .u64 0) [] [] s trivial (by kernel_rfl) ?_
  exact ⟨_, _, _, rfl, s, (by unfold idK; simp [hc5])⟩
 ·
  rw [hc5]
  refine oK _ [] 1 [.o 0, .o 0] 0 (fun φ8 => [(7, .agg #[.bool bi, .pointer pi])]) (fun φ8 => [φ1 0, φ1 0]) s (fun φ8 => by kernel_rfl) ?_
  intro φ8 w8 s
  refine call_rule (some 8) s (Ev.isOne_c ht) (by kernel_rfl) ?_
  intro v9 I9 w9 le9 h9 s
  replace ht := Ev.TRep.mono le9 ht
  obtain rfl := h9
  refine oKD _ [] 2 [] 0 (fun φ10 => [(3, .bool t.isOne), (9, .bool t.isOne)]) (fun φ10 => []) s (fun φ10 => by kernel_rfl) (by kernel_rfl) ?_
  intro φ10 w10 s
  rcases Bool.eq_false_or_eq_true (t.isOne) with hc11 | hc11
  ·
   rw [hc11]
   refine cond_true_rule (b := true) (by kernel_rfl) rfl ?_
   refine seqR ?_
   refine oKD _ [] 1 [] 0 (fun φ12 => [(2, .int .u64 0)]) (fun φ12 => []) s (fun φ12 => by kernel_rfl) (by kernel_rfl) ?_
   intro φ12 w12 s
   refine wp_ret ?_
   refine ret_rule (C := []) _ [] (.int .u64 0) [] [] s trivial (by kernel_rfl) ?_
   exact ⟨_, _, _, rfl, s, (by unfold idK; simp [hc5, hc11])⟩
  ·
   rw [hc11]
   refine cond_false_rule (b := false) (by kernel_rfl) rfl ?_
   refine seqR ?_
   refine oK _ [] 1 [.o 0, .o 0] 0 (fun φ13 => [(11, .agg #[.bool bi, .pointer pi])]) (fun φ13 => [φ1 0, φ1 0]) s (fun φ13 => by kernel_rfl) ?_
   intro φ13 w13 s
   refine call_rule (some 12) s (Ev.tleft_c ht) (by kernel_rfl) ?_
   intro v14 I14 w14 le14 h14 s
   replace ht := Ev.TRep.mono le14 ht
   obtain ⟨b14, p14, rfl, h14_0⟩ := h14
   refine call_rule (some 13) s (Ev.isZero_c h14_0) (by kernel_rfl) ?_
   intro v15 I15 w15 le15 h15 s
   replace ht := Ev.TRep.mono le15 ht
   obtain rfl := h15
   refine oKD _ [] 1 [] 0 (fun φ16 => [(10, .bool t.left.isZero)]) (fun φ16 => []) s (fun φ16 => by kernel_rfl) (by kernel_rfl) ?_
   intro φ16 w16 s
   rcases Bool.eq_false_or_eq_true (t.left.isZero) with hc17 | hc17
   ·
    rw [hc17]
    refine cond_true_rule (b := true) (by kernel_rfl) rfl ?_
    refine seqR ?_
    refine oKD _ [] 1 [] 0 (fun φ18 => [(2, .int .u64 1)]) (fun φ18 => []) s (fun φ18 => by kernel_rfl) (by kernel_rfl) ?_
    intro φ18 w18 s
    refine wp_ret ?_
    refine ret_rule (C := []) _ [] (.int .u64 1) [] [] s trivial (by kernel_rfl) ?_
    exact ⟨_, _, _, rfl, s, (by unfold idK; simp [hc5, hc11, hc17])⟩
   ·
    rw [hc17]
    refine cond_false_rule (b := false) (by kernel_rfl) rfl ?_
    refine seqR ?_
    refine oK _ [] 1 [.o 0, .o 0] 0 (fun φ19 => [(15, .agg #[.bool bi, .pointer pi])]) (fun φ19 => [φ1 0, φ1 0]) s (fun φ19 => by kernel_rfl) ?_
    intro φ19 w19 s
    refine call_rule (some 16) s (Ev.tright_c ht) (by kernel_rfl) ?_
    intro v20 I20 w20 le20 h20 s
    obtain ⟨b20, p20, rfl, h20_0⟩ := h20
    refine call_rule (some 17) s (Ev.isZero_c h20_0) (by kernel_rfl) ?_
    intro v21 I21 w21 le21 h21 s
    obtain rfl := h21
    refine oKD _ [] 1 [] 0 (fun φ22 => [(14, .bool t.right.isZero)]) (fun φ22 => []) s (fun φ22 => by kernel_rfl) (by kernel_rfl) ?_
    intro φ22 w22 s
    rcases Bool.eq_false_or_eq_true (t.right.isZero) with hc23 | hc23
    ·
     rw [hc23]
     refine cond_true_rule (b := true) (by kernel_rfl) rfl ?_
     refine seqR ?_
     refine oKD _ [] 1 [] 0 (fun φ24 => [(2, .int .u64 2)]) (fun φ24 => []) s (fun φ24 => by kernel_rfl) (by kernel_rfl) ?_
     intro φ24 w24 s
     refine wp_ret ?_
     refine ret_rule (C := []) _ [] (.int .u64 2) [] [] s trivial (by kernel_rfl) ?_
     exact ⟨_, _, _, rfl, s, (by unfold idK; simp [hc5, hc11, hc17, hc23])⟩
    ·
     rw [hc23]
     refine cond_false_rule (b := false) (by kernel_rfl) rfl ?_
     refine wp_skip ?_
     refine seqR ?_
     refine oKD _ [] 1 [] 0 (fun φ25 => [(2, .int .u64 3)]) (fun φ25 => []) s (fun φ25 => by kernel_rfl) (by kernel_rfl) ?_
     intro φ25 w25 s
     refine wp_ret ?_
     refine ret_rule (C := []) _ [] (.int .u64 3) [] [] s trivial (by kernel_rfl) ?_
     exact ⟨_, _, _, rfl, s, (by unfold idK; simp [hc5, hc11, hc17, hc23])⟩

set_option maxHeartbeats 400000 in
theorem leafBit_c {I : IM} {t : Ev.T} {bi : Bool} {pi : Option Addr} (ht : Ev.TRep I t bi pi) : Fun Tryd.prog 96 #[.agg #[.bool bi, .pointer pi]] I (fun v J => v = .int .u64 ((lbT t : Nat) : Int)) := by
 refine enter_rule 5 [(0, .agg #[.bool bi, .pointer pi])] Tryd.func96 rfl (by kernel_rfl) ?_
 intro w s
 refine seqR ?_
 refine oAD [] [] 2 [] 1 (fun φ1 => [(2, .int .u64 0), (1, pB (φ1 0))]) (fun φ1 => [(φ1 0, .cells #[.bool bi, .pointer pi] 27)]) (fun φ1 => []) s (fun φ1 => by kernel_rfl) (by kernel_rfl) ?_
 intro φ1 w1 s
 refine wp_seq ?_
 refine seqR ?_
 refine oK _ [] 1 [.o 0, .o 0] 0 (fun φ2 => [(3, .agg #[.bool bi, .pointer pi])]) (fun φ2 => [φ1 0, φ1 0]) s (fun φ2 => by kernel_rfl) ?_
 intro φ2 w2 s
 refine call_rule (some 4) s (Ev.isOne_c ht) (by kernel_rfl) ?_
 intro v3 I3 w3 le3 h3 s
 obtain rfl := h3
 refine ops_done (by kernel_rfl) ?_
 rcases Bool.eq_false_or_eq_true (t.isOne) with hc4 | hc4
 ·
  rw [hc4]
  refine cond_true_rule (b := true) (by kernel_rfl) rfl ?_
  refine seqR ?_
  refine oKD _ [] 1 [] 0 (fun φ5 => [(2, .int .u64 1)]) (fun φ5 => []) s (fun φ5 => by kernel_rfl) (by kernel_rfl) ?_
  intro φ5 w5 s
  refine wp_ret ?_
  refine ret_rule (C := []) _ [] (.int .u64 1) [] [] s trivial (by kernel_rfl) ?_
  exact ⟨_, _, _, rfl, s, (by unfold lbT; simp [hc4])⟩
 ·
  rw [hc4]
  refine cond_false_rule (b := false) (by kernel_rfl) rfl ?_
  refine wp_skip ?_
  refine seqR ?_
  refine oKD _ [] 1 [] 0 (fun φ6 => [(2, .int .u64 0)]) (fun φ6 => []) s (fun φ6 => by kernel_rfl) (by kernel_rfl) ?_
  intro φ6 w6 s
  refine wp_ret ?_
  refine ret_rule (C := []) _ [] (.int .u64 0) [] [] s trivial (by kernel_rfl) ?_
  exact ⟨_, _, _, rfl, s, (by unfold lbT; simp [hc4])⟩

theorem lbT_lt (t : Ev.T) : lbT t < 2 := by unfold lbT; split <;> omega

set_option maxHeartbeats 2000000 in
theorem putID_step {I : IM} {t : Ev.T} {bi : Bool} {pi : Option Addr} (ht : Ev.TRep I t bi pi) {b cnt : Nat} {bs : List Bool} {v0 : Value} {F : List OB} (hc : cnt = bs.length) (hlen : bs.length + (idB t).length ≤ 700000) (h : RowH 5 1 v0 (pk bs).length ((pk bs).map bV) F) (ihl : (idK t ≠ 0 → idK t ≠ 1 → ∀ {J : IM} {b1 : Bool} {p1 : Option Addr} {cnt : Nat} {bs : List Bool} {v0 : Value} {F : List OB}, Ev.TRep J t.left b1 p1 → cnt = bs.length → bs.length + (idB t.left).length ≤ 700000 → RowH 5 1 v0 (pk bs).length ((pk bs).map bV) F → FunM Tryd.prog 66 #[.pointer (some ⟨b, 0, none⟩), .agg #[.bool b1, .pointer p1]] J ((b, .cells #[v0, .int .i64 ((cnt : Nat) : Int)] 138) :: F) (fun v J H' => ∃ (b' : OB) (F' : List OB), H' = b' :: F' ∧ b'.1 = b ∧ ∃ v', v = .tuple #[] ∧ b' = (b, .cells #[v', .int .i64 ((cnt + (idB t.left).length : Nat) : Int)] 138) ∧ RowH 5 1 v' (pk (bs ++ idB t.left)).length ((pk (bs ++ idB t.left)).map bV) F'))) (ihr : (idK t ≠ 0 → idK t ≠ 2 → ∀ {J : IM} {b1 : Bool} {p1 : Option Addr} {cnt : Nat} {bs : List Bool} {v0 : Value} {F : List OB}, Ev.TRep J t.right b1 p1 → cnt = bs.length → bs.length + (idB t.right).length ≤ 700000 → RowH 5 1 v0 (pk bs).length ((pk bs).map bV) F → FunM Tryd.prog 66 #[.pointer (some ⟨b, 0, none⟩), .agg #[.bool b1, .pointer p1]] J ((b, .cells #[v0, .int .i64 ((cnt : Nat) : Int)] 138) :: F) (fun v J H' => ∃ (b' : OB) (F' : List OB), H' = b' :: F' ∧ b'.1 = b ∧ ∃ v', v = .tuple #[] ∧ b' = (b, .cells #[v', .int .i64 ((cnt + (idB t.right).length : Nat) : Int)] 138) ∧ RowH 5 1 v' (pk (bs ++ idB t.right)).length ((pk (bs ++ idB t.right)).map bV) F'))) : FunM Tryd.prog 66 #[.pointer (some ⟨b, 0, none⟩), .agg #[.bool bi, .pointer pi]] I ((b, .cells #[v0, .int .i64 ((cnt : Nat) : Int)] 138) :: F) (fun v J H' => ∃ (b' : OB) (F' : List OB), H' = b' :: F' ∧ b'.1 = b ∧ ∃ v', v = .tuple #[] ∧ b' = (b, .cells #[v', .int .i64 ((cnt + (idB t).length : Nat) : Int)] 138) ∧ RowH 5 1 v' (pk (bs ++ idB t)).length ((pk (bs ++ idB t)).map bV) F') := by
 refine enterM_rule 28 [(0, pB b), (1, .agg #[.bool bi, .pointer pi])] Tryd.func66 rfl (by kernel_rfl) ?_
 intro w s
 refine seqR ?_
 refine oAD [(b, .cells #[v0, .int .i64 cnt] 138)] F 1 [] 1 (fun φ1 => [(3, pB (φ1 0))]) (fun φ1 => [(b, .cells #[v0, .int .i64 cnt] 138), (φ1 0, .cells #[.bool bi, .pointer pi] 27)]) (fun φ1 => []) s (fun φ1 => by kernel_rfl) (by kernel_rfl) ?_
 intro φ1 w1 s
 refine seqR ?_
 refine oK _ F 1 [.o 1, .o 1] 0 (fun φ2 => [(5, .agg #[.bool bi, .pointer pi])]) (fun φ2 => [φ1 0, φ1 0]) s (fun φ2 => by kernel_rfl) ?_
 intro φ2 w2 s
 refine call_rule (some 6) s (idKind_c ht) (by kernel_rfl) ?_
 intro v3 I3 w3 le3 h3 s
 replace ht := Ev.TRep.mono le3 ht
 obtain rfl := h3
 refine oKD _ F 1 [] 0 (fun φ4 => [(4, .int .u64 (idK t))]) (fun φ4 => []) s (fun φ4 => by kernel_rfl) (by kernel_rfl) ?_
 intro φ4 w4 s
 refine seqR ?_
 refine oK _ F 2 [] 0 (fun φ5 => [(8, .int .u64 (idK t)), (7, pB b)]) (fun φ5 => []) s (fun φ5 => by kernel_rfl) ?_
 intro φ5 w5 s
 refine callH_rule (b := (b, .cells #[v0, .int .i64 cnt] 138)) (F := F) (Hr := [(φ1 0, .cells #[.bool bi, .pointer pi] 27)]) (some 9) 0 s (by kernel_rfl) (by kernel_rfl) (put_c (b := b) (cnt := cnt) (bs := bs) (v0 := v0) (n := idK t) (k := 2) (by (try simp only [List.length_append, putBits_len]);  omega) (by have h7 := hlen; have h5 := idB_pos t; (try simp only [List.length_append, putBits_len]); omega) h (by have hk4 := idK_lt t; have hk5 : lbT t < 2 := lbT_lt t;  omega) (by have hk4 := idK_lt t; have hk5 : lbT t < 2 := lbT_lt t;  omega)) (by kernel_rfl) ?_
 rintro v6 I6 w6 b6 F6 le6 - h6 s
 replace ht := Ev.TRep.mono le6 ht
 obtain ⟨v6, rfl, rfl, hr6⟩ := h6
 refine ops_done (by kernel_rfl) ?_
 refine wp_seq ?_
 refine seqR ?_
 refine oK _ F6 2 [] 0 (fun φ7 => [(11, .bool (((idK t : Nat) : Int) == ((0 : Nat) : Int))), (10, .int .u64 (idK t))]) (fun φ7 => []) s (fun φ7 => by kernel_rfl) ?_
 intro φ7 w7 s
 rw [nat_eql (a := (idK t)) (b := 0)]
 refine ops_done (by kernel_rfl) ?_
 rcases Bool.eq_false_or_eq_true (decide ((idK t) = 0)) with hc8 | hc8
 ·
  rw [hc8]
  refine cond_true_rule (b := true) (by kernel_rfl) rfl ?_
  refine seqR ?_
  refine oK _ F6 2 [.o 1, .o 1] 0 (fun φ9 => [(13, .agg #[.bool bi, .pointer pi]), (12, pB b)]) (fun φ9 => [φ1 0, φ1 0]) s (fun φ9 => by kernel_rfl) ?_
  intro φ9 w9 s
  refine call_rule (some 14) s (leafBit_c ht) (by kernel_rfl) ?_
  intro v10 I10 w10 le10 h10 s
  replace ht := Ev.TRep.mono le10 ht
  obtain rfl := h10
  refine callH_rule (b := (b, .cells #[v6, .int .i64 ((cnt + 2 : Nat) : Int)] 138)) (F := F6) (Hr := [(φ1 0, .cells #[.bool bi, .pointer pi] 27)]) (some 15) 0 s (by kernel_rfl) (by kernel_rfl) (put_c (b := b) (cnt := cnt + 2) (bs := (bs ++ putBits (idK t) 2)) (v0 := v6) (n := lbT t) (k := 1) (by (try simp only [List.length_append, putBits_len]);  omega) (by have h7 := hlen; have h6 := congrArg List.length (idB_leaf (of_decide_eq_true hc8)); simp only [List.length_append, putBits_len] at h6; (try simp only [List.length_append, putBits_len]); omega) hr6 (by have hk4 := idK_lt t; have hk5 : lbT t < 2 := lbT_lt t; have hq0 := of_decide_eq_true hc8; omega) (by have hk4 := idK_lt t; have hk5 : lbT t < 2 := lbT_lt t; have hq0 := of_decide_eq_true hc8; omega)) (by kernel_rfl) ?_
  rintro v11 I11 w11 b11 F11 le11 - h11 s
  replace ht := Ev.TRep.mono le11 ht
  obtain ⟨v11, rfl, rfl, hr11⟩ := h11
  refine ops_done (by kernel_rfl) ?_
  refine wp_ret ?_
  refine ret_rule (C := []) _ F11 (.tuple #[]) [] [] s trivial (by kernel_rfl) ?_
  replace s := s.drop (List.Sublist.append (List.Sublist.cons₂ _ (List.Sublist.cons _ List.Sublist.slnil)) (List.Sublist.refl F11))
  have hz9 : ((bs ++ putBits (idK t) 2) ++ putBits (lbT t) 1) = bs ++ idB t := by
   rw [idB_leaf (of_decide_eq_true hc8), List.append_assoc]
  have hL9 := congrArg List.length hz9
  simp only [List.length_append, putBits_len] at hL9
  have hc9 : cnt + 2 + 1 = cnt + (idB t).length := (by omega)
  exact ⟨_, _, _, rfl, s, ⟨_, _, rfl, rfl, _, rfl, by rw [hc9], row_cast hr11 (congrArg pk hz9)⟩⟩
 ·
  rw [hc8]
  refine cond_false_rule (b := false) (by kernel_rfl) rfl ?_
  refine wp_skip ?_
  refine wp_seq ?_
  refine seqR ?_
  refine oK _ F6 2 [] 0 (fun φ12 => [(17, .bool (((idK t : Nat) : Int) != ((1 : Nat) : Int))), (16, .int .u64 (idK t))]) (fun φ12 => []) s (fun φ12 => by kernel_rfl) ?_
  intro φ12 w12 s
  rw [nat_neq (a := (idK t)) (b := 1)]
  refine ops_done (by kernel_rfl) ?_
  rcases Bool.eq_false_or_eq_true (decide ((idK t) ≠ 1)) with hc13 | hc13
  ·
   rw [hc13]
   refine cond_true_rule (b := true) (by kernel_rfl) rfl ?_
   refine region_rule ?_
   refine oK _ F6 2 [.o 1, .o 1] 0 (fun φ14 => [(19, .agg #[.bool bi, .pointer pi]), (18, pB b)]) (fun φ14 => [φ1 0, φ1 0]) s (fun φ14 => by kernel_rfl) ?_
   intro φ14 w14 s
   refine call_rule (some 20) s (Ev.tleft_c ht) (by kernel_rfl) ?_
   intro v15 I15 w15 le15 h15 s
   replace ht := Ev.TRep.mono le15 ht
   obtain ⟨b15, p15, rfl, h15_0⟩ := h15
   refine callH_rule (b := (b, .cells #[v6, .int .i64 ((cnt + 2 : Nat) : Int)] 138)) (F := F6) (Hr := [(φ1 0, .cells #[.bool bi, .pointer pi] 27)]) (some 21) 0 s (by kernel_rfl) (by kernel_rfl) (ihl (of_decide_eq_false hc8) (of_decide_eq_true hc13) (cnt := cnt + 2) (bs := (bs ++ putBits (idK t) 2)) (v0 := v6) h15_0 (by (try simp only [List.length_append, putBits_len]);  omega) (by have h7 := hlen; have h6 := congrArg List.length (idB_pair (of_decide_eq_false hc8)); rw [if_neg (of_decide_eq_true hc13)] at h6; simp only [List.length_append, putBits_len] at h6; (try simp only [List.length_append, putBits_len]); omega) hr6) (by kernel_rfl) ?_
   rintro v16 I16 w16 b16 F16 le16 - h16 s
   replace ht := Ev.TRep.mono le16 ht
   obtain ⟨v16, rfl, rfl, hr16⟩ := h16
   refine ops_done (by kernel_rfl) ?_
   refine seqR ?_
   refine oK _ F16 2 [] 0 (fun φ17 => [(23, .bool (((idK t : Nat) : Int) != ((2 : Nat) : Int))), (22, .int .u64 (idK t))]) (fun φ17 => []) s (fun φ17 => by kernel_rfl) ?_
   intro φ17 w17 s
   rw [nat_neq (a := (idK t)) (b := 2)]
   refine ops_done (by kernel_rfl) ?_
   rcases Bool.eq_false_or_eq_true (decide ((idK t) ≠ 2)) with hc18 | hc18
   ·
    rw [hc18]
    refine cond_true_rule (b := true) (by kernel_rfl) rfl ?_
    refine region_rule ?_
    refine oK _ F16 2 [.o 1, .o 1] 0 (fun φ19 => [(25, .agg #[.bool bi, .pointer pi]), (24, pB b)]) (fun φ19 => [φ1 0, φ1 0]) s (fun φ19 => by kernel_rfl) ?_
    intro φ19 w19 s
    refine call_rule (some 26) s (Ev.tright_c ht) (by kernel_rfl) ?_
    intro v20 I20 w20 le20 h20 s
    replace ht := Ev.TRep.mono le20 ht
    obtain ⟨b20, p20, rfl, h20_0⟩ := h20
    refine callH_rule (b := (b, .cells #[v16, .int .i64 ((cnt + 2 + (idB t.left).length : Nat) : Int)] 138)) (F := F16) (Hr := [(φ1 0, .cells #[.bool bi, .pointer pi] 27)]) (some 27) 0 s (by kernel_rfl) (by kernel_rfl) (ihr (of_decide_eq_false hc8) (of_decide_eq_true hc18) (cnt := cnt + 2 + (idB t.left).length) (bs := ((bs ++ putBits (idK t) 2) ++ idB t.left)) (v0 := v16) h20_0 (by (try simp only [List.length_append, putBits_len]);  omega) (by have h7 := hlen; have h6 := congrArg List.length (idB_pair (of_decide_eq_false hc8)); rw [if_neg (of_decide_eq_true hc13)] at h6; rw [if_neg (of_decide_eq_true hc18)] at h6; simp only [List.length_append, putBits_len] at h6; (try simp only [List.length_append, putBits_len]); omega) hr16) (by kernel_rfl) ?_
    rintro v21 I21 w21 b21 F21 le21 - h21 s
    replace ht := Ev.TRep.mono le21 ht
    obtain ⟨v21, rfl, rfl, hr21⟩ := h21
    refine ops_done (by kernel_rfl) ?_
    refine end_rule (C := []) _ F21 (.tuple #[]) [] [] s trivial (by kernel_rfl) ?_
    replace s := s.drop (List.Sublist.append (List.Sublist.cons₂ _ (List.Sublist.cons _ List.Sublist.slnil)) (List.Sublist.refl F21))
    have hz9 : (((bs ++ putBits (idK t) 2) ++ idB t.left) ++ idB t.right) = bs ++ idB t := by
     rw [idB_pair (of_decide_eq_false hc8), if_neg (of_decide_eq_true hc13), if_neg (of_decide_eq_true hc18)]
     simp
    have hL9 := congrArg List.length hz9
    simp only [List.length_append, putBits_len] at hL9
    have hc9 : cnt + 2 + (idB t.left).length + (idB t.right).length = cnt + (idB t).length := (by omega)
    exact ⟨_, _, _, rfl, s, ⟨_, _, rfl, rfl, _, rfl, by rw [hc9], row_cast hr21 (congrArg pk hz9)⟩⟩
   ·
    rw [hc18]
    refine cond_false_rule (b := false) (by kernel_rfl) rfl ?_
    refine wp_skip ?_
    refine end_rule (C := []) _ F16 (.tuple #[]) [] [] s trivial (by kernel_rfl) ?_
    replace s := s.drop (List.Sublist.append (List.Sublist.cons₂ _ (List.Sublist.cons _ List.Sublist.slnil)) (List.Sublist.refl F16))
    have hz9 : ((bs ++ putBits (idK t) 2) ++ idB t.left) = bs ++ idB t := by
     rw [idB_pair (of_decide_eq_false hc8), if_neg (of_decide_eq_true hc13), if_pos (Decidable.not_not.1 (of_decide_eq_false hc18))]
     simp
    have hL9 := congrArg List.length hz9
    simp only [List.length_append, putBits_len] at hL9
    have hc9 : cnt + 2 + (idB t.left).length = cnt + (idB t).length := (by omega)
    exact ⟨_, _, _, rfl, s, ⟨_, _, rfl, rfl, _, rfl, by rw [hc9], row_cast hr16 (congrArg pk hz9)⟩⟩
  ·
   rw [hc13]
   refine cond_false_rule (b := false) (by kernel_rfl) rfl ?_
   refine wp_skip ?_
   refine seqR ?_
   refine oK _ F6 2 [] 0 (fun φ22 => [(23, .bool (((idK t : Nat) : Int) != ((2 : Nat) : Int))), (22, .int .u64 (idK t))]) (fun φ22 => []) s (fun φ22 => by kernel_rfl) ?_
   intro φ22 w22 s
   rw [nat_neq (a := (idK t)) (b := 2)]
   refine ops_done (by kernel_rfl) ?_
   rcases Bool.eq_false_or_eq_true (decide ((idK t) ≠ 2)) with hc23 | hc23
   ·
    rw [hc23]
    refine cond_true_rule (b := true) (by kernel_rfl) rfl ?_
    refine region_rule ?_
    refine oK _ F6 2 [.o 1, .o 1] 0 (fun φ24 => [(25, .agg #[.bool bi, .pointer pi]), (24, pB b)]) (fun φ24 => [φ1 0, φ1 0]) s (fun φ24 => by kernel_rfl) ?_
    intro φ24 w24 s
    refine call_rule (some 26) s (Ev.tright_c ht) (by kernel_rfl) ?_
    intro v25 I25 w25 le25 h25 s
    obtain ⟨b25, p25, rfl, h25_0⟩ := h25
    refine callH_rule (b := (b, .cells #[v6, .int .i64 ((cnt + 2 : Nat) : Int)] 138)) (F := F6) (Hr := [(φ1 0, .cells #[.bool bi, .pointer pi] 27)]) (some 27) 0 s (by kernel_rfl) (by kernel_rfl) (ihr (of_decide_eq_false hc8) (of_decide_eq_true hc23) (cnt := cnt + 2) (bs := (bs ++ putBits (idK t) 2)) (v0 := v6) h25_0 (by (try simp only [List.length_append, putBits_len]);  omega) (by have h7 := hlen; have h6 := congrArg List.length (idB_pair (of_decide_eq_false hc8)); rw [if_pos (Decidable.not_not.1 (of_decide_eq_false hc13))] at h6; rw [if_neg (of_decide_eq_true hc23)] at h6; simp only [List.length_append, putBits_len] at h6; (try simp only [List.length_append, putBits_len]); omega) hr6) (by kernel_rfl) ?_
    rintro v26 I26 w26 b26 F26 le26 - h26 s
    obtain ⟨v26, rfl, rfl, hr26⟩ := h26
    refine ops_done (by kernel_rfl) ?_
    refine end_rule (C := []) _ F26 (.tuple #[]) [] [] s trivial (by kernel_rfl) ?_
    replace s := s.drop (List.Sublist.append (List.Sublist.cons₂ _ (List.Sublist.cons _ List.Sublist.slnil)) (List.Sublist.refl F26))
    have hz9 : ((bs ++ putBits (idK t) 2) ++ idB t.right) = bs ++ idB t := by
     rw [idB_pair (of_decide_eq_false hc8), if_pos (Decidable.not_not.1 (of_decide_eq_false hc13)), if_neg (of_decide_eq_true hc23)]
     simp
    have hL9 := congrArg List.length hz9
    simp only [List.length_append, putBits_len] at hL9
    have hc9 : cnt + 2 + (idB t.right).length = cnt + (idB t).length := (by omega)
    exact ⟨_, _, _, rfl, s, ⟨_, _, rfl, rfl, _, rfl, by rw [hc9], row_cast hr26 (congrArg pk hz9)⟩⟩
   ·
    rw [hc23]
    refine cond_false_rule (b := false) (by kernel_rfl) rfl ?_
    refine wp_skip ?_
    refine end_rule (C := []) _ F6 (.tuple #[]) [] [] s trivial (by kernel_rfl) ?_
    replace s := s.drop (List.Sublist.append (List.Sublist.cons₂ _ (List.Sublist.cons _ List.Sublist.slnil)) (List.Sublist.refl F6))
    have hz9 : (bs ++ putBits (idK t) 2) = bs ++ idB t := by
     rw [idB_pair (of_decide_eq_false hc8), if_pos (Decidable.not_not.1 (of_decide_eq_false hc13)), if_pos (Decidable.not_not.1 (of_decide_eq_false hc23))]
     simp
    have hL9 := congrArg List.length hz9
    simp only [List.length_append, putBits_len] at hL9
    have hc9 : cnt + 2 = cnt + (idB t).length := (by omega)
    exact ⟨_, _, _, rfl, s, ⟨_, _, rfl, rfl, _, rfl, by rw [hc9], row_cast hr6 (congrArg pk hz9)⟩⟩

end Go.Proofs.YtgmigcmhnmmdkaaDoor

