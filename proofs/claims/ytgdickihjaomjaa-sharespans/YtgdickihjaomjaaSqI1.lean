/- The program's ids. -/
import Derived.Test.YtgdickihjaomjaaProg
import Derived.Test.YtgdickihjaomjaaSqM17
set_option linter.all false
set_option maxRecDepth 100000
namespace Go.Proofs.Ytgdickihjaomjaa.Ev
open Go.RowKit Go.Sep

inductive T where
  | zero | one | node (l r : T)
  deriving DecidableEq
def T.depth : T → Nat
  | .node l r => 1 + max l.depth r.depth
  | _ => 0
def T.isZero : T → Bool
  | .zero => true
  | _ => false
def T.isOne : T → Bool
  | .one => true
  | _ => false
def T.left : T → T
  | .node l _ => l
  | t => t
def T.right : T → T
  | .node _ r => r
  | t => t
def T.mk : T → T → T
  | .zero, .zero => .zero
  | .one, .one => .one
  | l, r => .node l r
def TRep (I : IM) : T → Bool → Option Addr → Prop
  | .zero, b, p => b = false ∧ p = none
  | .one, b, p => b = true ∧ p = none
  | .node l r, b, p => b = false ∧ ∃ k bl pl br pr, p = some ⟨k, 0, none⟩ ∧
      I k = some (.cells #[.bool bl, .pointer pl, .bool br, .pointer pr, .int .i64 (((T.node l r).depth : Nat) : Int)] 98) ∧ TRep I l bl pl ∧ TRep I r br pr
theorem TRep.mono {I J : IM} (le : I.Le J) : ∀ {t : T} {b : Bool} {p : Option Addr}, TRep I t b p → TRep J t b p
  | .zero, _, _, h => h
  | .one, _, _, h => h
  | .node _ _, _, _, ⟨hb, k, bl, pl, br, pr, hp, hk, hl, hr⟩ => ⟨hb, k, bl, pl, br, pr, hp, le _ _ hk, hl.mono le, hr.mono le⟩
abbrev idv (b : Bool) (p : Option Addr) : Value := .agg #[.bool b, .pointer p]
theorem TRep.z (I : IM) : TRep I .zero false none := ⟨rfl, rfl⟩
theorem TRep.o (I : IM) : TRep I .one true none := ⟨rfl, rfl⟩

set_option maxHeartbeats 400000 in
theorem isZero_c {I : IM} {t : T} {b : Bool} {p : Option Addr} (h : TRep I t b p) : Fun Try.prog 40 #[idv b p] I (fun v J => v = .bool t.isZero) := by
  cases t with
  | zero =>
    obtain ⟨rfl, rfl⟩ := h
    refine enter_rule 11 [(0, .agg #[.bool false, .pointer none])] Try.func40 rfl (by kernel_rfl) ?_
    intro w s
    refine wp_seq ?_
    refine region_rule ?_
    refine ops_rule (C := []) [] [] 2 [] 1 (fun φ1 => [(2, .bool false), (1, .pointer (some ⟨(φ1 0), 0, none⟩))]) (fun φ1 => [((φ1 0), .cells #[.bool false, .pointer none] 26)]) (fun φ1 => []) s trivial (fun φ1 => by kernel_rfl) ?_
    intro φ1 w1 s
    refine ops_done (by kernel_rfl) ?_
    refine wp_seq ?_
    refine region_rule ?_
    refine ops_rule (C := []) [((φ1 0), .cells #[.bool false, .pointer none] 26)] [] 9 [.o 0, .o 0] 0 (fun φ2 => [(2, .bool true), (10, .bool true), (9, .bool true), (8, .pointer none), (7, .pointer (some ⟨(φ1 0), 1, none⟩)), (6, .bool true), (5, .bool true), (4, .bool false), (3, .pointer (some ⟨(φ1 0), 0, none⟩))]) (fun φ2 => [((φ1 0), .cells #[.bool false, .pointer none] 26)]) (fun φ2 => [(φ1 0), (φ1 0)]) s trivial (fun φ2 => by kernel_rfl) ?_
    intro φ2 w2 s
    refine ops_done (by kernel_rfl) ?_
    refine wp_ret ?_
    refine ret_rule (C := []) [((φ1 0), .cells #[.bool false, .pointer none] 26)] [] (.bool true) [] [] s trivial (by kernel_rfl) ?_
    exact ⟨_, _, _, rfl, s, rfl⟩
  | one =>
    obtain ⟨rfl, rfl⟩ := h
    refine enter_rule 11 [(0, .agg #[.bool true, .pointer none])] Try.func40 rfl (by kernel_rfl) ?_
    intro w s
    refine wp_seq ?_
    refine region_rule ?_
    refine ops_rule (C := []) [] [] 2 [] 1 (fun φ1 => [(2, .bool false), (1, .pointer (some ⟨(φ1 0), 0, none⟩))]) (fun φ1 => [((φ1 0), .cells #[.bool true, .pointer none] 26)]) (fun φ1 => []) s trivial (fun φ1 => by kernel_rfl) ?_
    intro φ1 w1 s
    refine ops_done (by kernel_rfl) ?_
    refine wp_seq ?_
    refine region_rule ?_
    refine ops_rule (C := []) [((φ1 0), .cells #[.bool true, .pointer none] 26)] [] 9 [.o 0] 0 (fun φ2 => [(2, .bool false), (10, .bool false), (9, undef), (8, undef), (7, undef), (6, .bool false), (5, .bool false), (4, .bool true), (3, .pointer (some ⟨(φ1 0), 0, none⟩))]) (fun φ2 => [((φ1 0), .cells #[.bool true, .pointer none] 26)]) (fun φ2 => [(φ1 0)]) s trivial (fun φ2 => by kernel_rfl) ?_
    intro φ2 w2 s
    refine ops_done (by kernel_rfl) ?_
    refine wp_ret ?_
    refine ret_rule (C := []) [((φ1 0), .cells #[.bool true, .pointer none] 26)] [] (.bool false) [] [] s trivial (by kernel_rfl) ?_
    exact ⟨_, _, _, rfl, s, rfl⟩
  | node l r =>
    have hn := h
    obtain ⟨rfl, k, bl, pl, br, pr, rfl, hk, hl, hr⟩ := h
    refine enter_rule 11 [(0, .agg #[.bool false, .pointer (some ⟨k, 0, none⟩)])] Try.func40 rfl (by kernel_rfl) ?_
    intro w s
    refine wp_seq ?_
    refine region_rule ?_
    refine ops_rule (C := []) [] [] 2 [] 1 (fun φ1 => [(2, .bool false), (1, .pointer (some ⟨(φ1 0), 0, none⟩))]) (fun φ1 => [((φ1 0), .cells #[.bool false, .pointer (some ⟨k, 0, none⟩)] 26)]) (fun φ1 => []) s trivial (fun φ1 => by kernel_rfl) ?_
    intro φ1 w1 s
    refine ops_done (by kernel_rfl) ?_
    refine wp_seq ?_
    refine region_rule ?_
    refine ops_rule (C := []) [((φ1 0), .cells #[.bool false, .pointer (some ⟨k, 0, none⟩)] 26)] [] 9 [.o 0, .o 0] 0 (fun φ2 => [(2, .bool false), (10, .bool false), (9, .bool false), (8, .pointer (some ⟨k, 0, none⟩)), (7, .pointer (some ⟨(φ1 0), 1, none⟩)), (6, .bool true), (5, .bool true), (4, .bool false), (3, .pointer (some ⟨(φ1 0), 0, none⟩))]) (fun φ2 => [((φ1 0), .cells #[.bool false, .pointer (some ⟨k, 0, none⟩)] 26)]) (fun φ2 => [(φ1 0), (φ1 0)]) s trivial (fun φ2 => by kernel_rfl) ?_
    intro φ2 w2 s
    refine ops_done (by kernel_rfl) ?_
    refine wp_ret ?_
    refine ret_rule (C := []) [((φ1 0), .cells #[.bool false, .pointer (some ⟨k, 0, none⟩)] 26)] [] (.bool false) [] [] s trivial (by kernel_rfl) ?_
    exact ⟨_, _, _, rfl, s, rfl⟩

set_option maxHeartbeats 400000 in
theorem isOne_c {I : IM} {t : T} {b : Bool} {p : Option Addr} (h : TRep I t b p) : Fun Try.prog 41 #[idv b p] I (fun v J => v = .bool t.isOne) := by
  cases t with
  | zero =>
    obtain ⟨rfl, rfl⟩ := h
    refine enter_rule 5 [(0, .agg #[.bool false, .pointer none])] Try.func41 rfl (by kernel_rfl) ?_
    intro w s
    refine wp_seq ?_
    refine region_rule ?_
    refine ops_rule (C := []) [] [] 2 [] 1 (fun φ1 => [(2, .bool false), (1, .pointer (some ⟨(φ1 0), 0, none⟩))]) (fun φ1 => [((φ1 0), .cells #[.bool false, .pointer none] 26)]) (fun φ1 => []) s trivial (fun φ1 => by kernel_rfl) ?_
    intro φ1 w1 s
    refine ops_done (by kernel_rfl) ?_
    refine wp_seq ?_
    refine region_rule ?_
    refine ops_rule (C := []) [((φ1 0), .cells #[.bool false, .pointer none] 26)] [] 3 [.o 0] 0 (fun φ2 => [(2, .bool false), (4, .bool false), (3, .pointer (some ⟨(φ1 0), 0, none⟩))]) (fun φ2 => [((φ1 0), .cells #[.bool false, .pointer none] 26)]) (fun φ2 => [(φ1 0)]) s trivial (fun φ2 => by kernel_rfl) ?_
    intro φ2 w2 s
    refine ops_done (by kernel_rfl) ?_
    refine wp_ret ?_
    refine ret_rule (C := []) [((φ1 0), .cells #[.bool false, .pointer none] 26)] [] (.bool false) [] [] s trivial (by kernel_rfl) ?_
    exact ⟨_, _, _, rfl, s, rfl⟩
  | one =>
    obtain ⟨rfl, rfl⟩ := h
    refine enter_rule 5 [(0, .agg #[.bool true, .pointer none])] Try.func41 rfl (by kernel_rfl) ?_
    intro w s
    refine wp_seq ?_
    refine region_rule ?_
    refine ops_rule (C := []) [] [] 2 [] 1 (fun φ1 => [(2, .bool false), (1, .pointer (some ⟨(φ1 0), 0, none⟩))]) (fun φ1 => [((φ1 0), .cells #[.bool true, .pointer none] 26)]) (fun φ1 => []) s trivial (fun φ1 => by kernel_rfl) ?_
    intro φ1 w1 s
    refine ops_done (by kernel_rfl) ?_
    refine wp_seq ?_
    refine region_rule ?_
    refine ops_rule (C := []) [((φ1 0), .cells #[.bool true, .pointer none] 26)] [] 3 [.o 0] 0 (fun φ2 => [(2, .bool true), (4, .bool true), (3, .pointer (some ⟨(φ1 0), 0, none⟩))]) (fun φ2 => [((φ1 0), .cells #[.bool true, .pointer none] 26)]) (fun φ2 => [(φ1 0)]) s trivial (fun φ2 => by kernel_rfl) ?_
    intro φ2 w2 s
    refine ops_done (by kernel_rfl) ?_
    refine wp_ret ?_
    refine ret_rule (C := []) [((φ1 0), .cells #[.bool true, .pointer none] 26)] [] (.bool true) [] [] s trivial (by kernel_rfl) ?_
    exact ⟨_, _, _, rfl, s, rfl⟩
  | node l r =>
    have hn := h
    obtain ⟨rfl, k, bl, pl, br, pr, rfl, hk, hl, hr⟩ := h
    refine enter_rule 5 [(0, .agg #[.bool false, .pointer (some ⟨k, 0, none⟩)])] Try.func41 rfl (by kernel_rfl) ?_
    intro w s
    refine wp_seq ?_
    refine region_rule ?_
    refine ops_rule (C := []) [] [] 2 [] 1 (fun φ1 => [(2, .bool false), (1, .pointer (some ⟨(φ1 0), 0, none⟩))]) (fun φ1 => [((φ1 0), .cells #[.bool false, .pointer (some ⟨k, 0, none⟩)] 26)]) (fun φ1 => []) s trivial (fun φ1 => by kernel_rfl) ?_
    intro φ1 w1 s
    refine ops_done (by kernel_rfl) ?_
    refine wp_seq ?_
    refine region_rule ?_
    refine ops_rule (C := []) [((φ1 0), .cells #[.bool false, .pointer (some ⟨k, 0, none⟩)] 26)] [] 3 [.o 0] 0 (fun φ2 => [(2, .bool false), (4, .bool false), (3, .pointer (some ⟨(φ1 0), 0, none⟩))]) (fun φ2 => [((φ1 0), .cells #[.bool false, .pointer (some ⟨k, 0, none⟩)] 26)]) (fun φ2 => [(φ1 0)]) s trivial (fun φ2 => by kernel_rfl) ?_
    intro φ2 w2 s
    refine ops_done (by kernel_rfl) ?_
    refine wp_ret ?_
    refine ret_rule (C := []) [((φ1 0), .cells #[.bool false, .pointer (some ⟨k, 0, none⟩)] 26)] [] (.bool false) [] [] s trivial (by kernel_rfl) ?_
    exact ⟨_, _, _, rfl, s, rfl⟩

set_option maxHeartbeats 400000 in
theorem tleft_c {I : IM} {t : T} {b : Bool} {p : Option Addr} (h : TRep I t b p) : Fun Try.prog 42 #[idv b p] I (fun v J => ∃ b' p', v = idv b' p' ∧ TRep J t.left b' p') := by
  cases t with
  | zero =>
    obtain ⟨rfl, rfl⟩ := h
    refine enter_rule 12 [(0, .agg #[.bool false, .pointer none])] Try.func42 rfl (by kernel_rfl) ?_
    intro w s
    refine wp_seq ?_
    refine region_rule ?_
    refine ops_rule (C := []) [] [] 2 [] 2 (fun φ1 => [(2, .pointer (some ⟨(φ1 1), 0, none⟩)), (1, .pointer (some ⟨(φ1 0), 0, none⟩))]) (fun φ1 => [((φ1 0), .cells #[.bool false, .pointer none] 26), ((φ1 1), .cells #[.bool false, .pointer none] 26)]) (fun φ1 => []) s trivial (fun φ1 => by kernel_rfl) ?_
    intro φ1 w1 s
    refine ops_done (by kernel_rfl) ?_
    refine wp_seq ?_
    refine wp_seq ?_
    refine region_rule ?_
    refine ops_rule (C := []) [((φ1 0), .cells #[.bool false, .pointer none] 26), ((φ1 1), .cells #[.bool false, .pointer none] 26)] [] 3 [.o 0] 0 (fun φ2 => [(5, .bool true), (4, .pointer none), (3, .pointer (some ⟨(φ1 0), 1, none⟩))]) (fun φ2 => [((φ1 0), .cells #[.bool false, .pointer none] 26), ((φ1 1), .cells #[.bool false, .pointer none] 26)]) (fun φ2 => [(φ1 0)]) s trivial (fun φ2 => by kernel_rfl) ?_
    intro φ2 w2 s
    refine ops_done (by kernel_rfl) ?_
    refine cond_true_rule (b := true) (by kernel_rfl) rfl ?_
    refine wp_seq ?_
    refine region_rule ?_
    refine ops_rule (C := []) [((φ1 0), .cells #[.bool false, .pointer none] 26), ((φ1 1), .cells #[.bool false, .pointer none] 26)] [] 2 [.o 0, .o 0, .o 1, .o 1] 0 (fun φ3 => [(6, .agg #[.bool false, .pointer none])]) (fun φ3 => [((φ1 0), .cells #[.bool false, .pointer none] 26), ((φ1 1), .cells #[.bool false, .pointer none] 26)]) (fun φ3 => [(φ1 0), (φ1 0), (φ1 1), (φ1 1)]) s trivial (fun φ3 => by kernel_rfl) ?_
    intro φ3 w3 s
    refine ops_done (by kernel_rfl) ?_
    refine wp_ret ?_
    refine ret_rule (C := []) [((φ1 0), .cells #[.bool false, .pointer none] 26), ((φ1 1), .cells #[.bool false, .pointer none] 26)] [] (.agg #[.bool false, .pointer none]) [.o 1, .o 1] [(φ1 1), (φ1 1)] s trivial (by kernel_rfl) ?_
    exact ⟨_, _, _, rfl, s, ⟨_, _, rfl, rfl, rfl⟩⟩
  | one =>
    obtain ⟨rfl, rfl⟩ := h
    refine enter_rule 12 [(0, .agg #[.bool true, .pointer none])] Try.func42 rfl (by kernel_rfl) ?_
    intro w s
    refine wp_seq ?_
    refine region_rule ?_
    refine ops_rule (C := []) [] [] 2 [] 2 (fun φ1 => [(2, .pointer (some ⟨(φ1 1), 0, none⟩)), (1, .pointer (some ⟨(φ1 0), 0, none⟩))]) (fun φ1 => [((φ1 0), .cells #[.bool true, .pointer none] 26), ((φ1 1), .cells #[.bool false, .pointer none] 26)]) (fun φ1 => []) s trivial (fun φ1 => by kernel_rfl) ?_
    intro φ1 w1 s
    refine ops_done (by kernel_rfl) ?_
    refine wp_seq ?_
    refine wp_seq ?_
    refine region_rule ?_
    refine ops_rule (C := []) [((φ1 0), .cells #[.bool true, .pointer none] 26), ((φ1 1), .cells #[.bool false, .pointer none] 26)] [] 3 [.o 0] 0 (fun φ2 => [(5, .bool true), (4, .pointer none), (3, .pointer (some ⟨(φ1 0), 1, none⟩))]) (fun φ2 => [((φ1 0), .cells #[.bool true, .pointer none] 26), ((φ1 1), .cells #[.bool false, .pointer none] 26)]) (fun φ2 => [(φ1 0)]) s trivial (fun φ2 => by kernel_rfl) ?_
    intro φ2 w2 s
    refine ops_done (by kernel_rfl) ?_
    refine cond_true_rule (b := true) (by kernel_rfl) rfl ?_
    refine wp_seq ?_
    refine region_rule ?_
    refine ops_rule (C := []) [((φ1 0), .cells #[.bool true, .pointer none] 26), ((φ1 1), .cells #[.bool false, .pointer none] 26)] [] 2 [.o 0, .o 0, .o 1, .o 1] 0 (fun φ3 => [(6, .agg #[.bool true, .pointer none])]) (fun φ3 => [((φ1 0), .cells #[.bool true, .pointer none] 26), ((φ1 1), .cells #[.bool true, .pointer none] 26)]) (fun φ3 => [(φ1 0), (φ1 0), (φ1 1), (φ1 1)]) s trivial (fun φ3 => by kernel_rfl) ?_
    intro φ3 w3 s
    refine ops_done (by kernel_rfl) ?_
    refine wp_ret ?_
    refine ret_rule (C := []) [((φ1 0), .cells #[.bool true, .pointer none] 26), ((φ1 1), .cells #[.bool true, .pointer none] 26)] [] (.agg #[.bool true, .pointer none]) [.o 1, .o 1] [(φ1 1), (φ1 1)] s trivial (by kernel_rfl) ?_
    exact ⟨_, _, _, rfl, s, ⟨_, _, rfl, rfl, rfl⟩⟩
  | node l r =>
    have hn := h
    obtain ⟨rfl, k, bl, pl, br, pr, rfl, hk, hl, hr⟩ := h
    refine enter_rule 12 [(0, .agg #[.bool false, .pointer (some ⟨k, 0, none⟩)])] Try.func42 rfl (by kernel_rfl) ?_
    intro w s
    refine wp_seq ?_
    refine region_rule ?_
    refine ops_rule (C := []) [] [] 2 [] 2 (fun φ1 => [(2, .pointer (some ⟨(φ1 1), 0, none⟩)), (1, .pointer (some ⟨(φ1 0), 0, none⟩))]) (fun φ1 => [((φ1 0), .cells #[.bool false, .pointer (some ⟨k, 0, none⟩)] 26), ((φ1 1), .cells #[.bool false, .pointer none] 26)]) (fun φ1 => []) s trivial (fun φ1 => by kernel_rfl) ?_
    intro φ1 w1 s
    refine ops_done (by kernel_rfl) ?_
    refine wp_seq ?_
    refine wp_seq ?_
    refine region_rule ?_
    refine ops_rule (C := []) [((φ1 0), .cells #[.bool false, .pointer (some ⟨k, 0, none⟩)] 26), ((φ1 1), .cells #[.bool false, .pointer none] 26)] [] 3 [.o 0] 0 (fun φ2 => [(5, .bool false), (4, .pointer (some ⟨k, 0, none⟩)), (3, .pointer (some ⟨(φ1 0), 1, none⟩))]) (fun φ2 => [((φ1 0), .cells #[.bool false, .pointer (some ⟨k, 0, none⟩)] 26), ((φ1 1), .cells #[.bool false, .pointer none] 26)]) (fun φ2 => [(φ1 0)]) s trivial (fun φ2 => by kernel_rfl) ?_
    intro φ2 w2 s
    refine ops_done (by kernel_rfl) ?_
    refine cond_false_rule (b := false) (by kernel_rfl) rfl ?_
    refine wp_skip ?_
    refine wp_seq ?_
    refine region_rule ?_
    refine ops_rule (C := [(k, .cells #[.bool bl, .pointer pl, .bool br, .pointer pr, .int .i64 ((T.depth (T.node l r) : Nat) : Int)] 98)]) [((φ1 0), .cells #[.bool false, .pointer (some ⟨k, 0, none⟩)] 26), ((φ1 1), .cells #[.bool false, .pointer none] 26)] [] 6 [.o 0, .c 0, .c 0, .o 1, .o 1] 0 (fun φ3 => [(11, .agg #[.bool bl, .pointer pl]), (10, .pointer (some ⟨k, 0, none⟩)), (9, .pointer (some ⟨k, 0, none⟩)), (8, .pointer (some ⟨k, 0, none⟩)), (7, .pointer (some ⟨(φ1 0), 1, none⟩))]) (fun φ3 => [((φ1 0), .cells #[.bool false, .pointer (some ⟨k, 0, none⟩)] 26), ((φ1 1), .cells #[.bool bl, .pointer pl] 26)]) (fun φ3 => [(φ1 0), k, k, (φ1 1), (φ1 1)]) s ⟨hk, trivial⟩ (fun φ3 => by kernel_rfl) ?_
    intro φ3 w3 s
    refine ops_done (by kernel_rfl) ?_
    refine wp_ret ?_
    refine ret_rule (C := []) [((φ1 0), .cells #[.bool false, .pointer (some ⟨k, 0, none⟩)] 26), ((φ1 1), .cells #[.bool bl, .pointer pl] 26)] [] (.agg #[.bool bl, .pointer pl]) [.o 1, .o 1] [(φ1 1), (φ1 1)] s trivial (by kernel_rfl) ?_
    exact ⟨_, _, _, rfl, s, ⟨_, _, rfl, hl⟩⟩

set_option maxHeartbeats 400000 in
theorem tright_c {I : IM} {t : T} {b : Bool} {p : Option Addr} (h : TRep I t b p) : Fun Try.prog 43 #[idv b p] I (fun v J => ∃ b' p', v = idv b' p' ∧ TRep J t.right b' p') := by
  cases t with
  | zero =>
    obtain ⟨rfl, rfl⟩ := h
    refine enter_rule 12 [(0, .agg #[.bool false, .pointer none])] Try.func43 rfl (by kernel_rfl) ?_
    intro w s
    refine wp_seq ?_
    refine region_rule ?_
    refine ops_rule (C := []) [] [] 2 [] 2 (fun φ1 => [(2, .pointer (some ⟨(φ1 1), 0, none⟩)), (1, .pointer (some ⟨(φ1 0), 0, none⟩))]) (fun φ1 => [((φ1 0), .cells #[.bool false, .pointer none] 26), ((φ1 1), .cells #[.bool false, .pointer none] 26)]) (fun φ1 => []) s trivial (fun φ1 => by kernel_rfl) ?_
    intro φ1 w1 s
    refine ops_done (by kernel_rfl) ?_
    refine wp_seq ?_
    refine wp_seq ?_
    refine region_rule ?_
    refine ops_rule (C := []) [((φ1 0), .cells #[.bool false, .pointer none] 26), ((φ1 1), .cells #[.bool false, .pointer none] 26)] [] 3 [.o 0] 0 (fun φ2 => [(5, .bool true), (4, .pointer none), (3, .pointer (some ⟨(φ1 0), 1, none⟩))]) (fun φ2 => [((φ1 0), .cells #[.bool false, .pointer none] 26), ((φ1 1), .cells #[.bool false, .pointer none] 26)]) (fun φ2 => [(φ1 0)]) s trivial (fun φ2 => by kernel_rfl) ?_
    intro φ2 w2 s
    refine ops_done (by kernel_rfl) ?_
    refine cond_true_rule (b := true) (by kernel_rfl) rfl ?_
    refine wp_seq ?_
    refine region_rule ?_
    refine ops_rule (C := []) [((φ1 0), .cells #[.bool false, .pointer none] 26), ((φ1 1), .cells #[.bool false, .pointer none] 26)] [] 2 [.o 0, .o 0, .o 1, .o 1] 0 (fun φ3 => [(6, .agg #[.bool false, .pointer none])]) (fun φ3 => [((φ1 0), .cells #[.bool false, .pointer none] 26), ((φ1 1), .cells #[.bool false, .pointer none] 26)]) (fun φ3 => [(φ1 0), (φ1 0), (φ1 1), (φ1 1)]) s trivial (fun φ3 => by kernel_rfl) ?_
    intro φ3 w3 s
    refine ops_done (by kernel_rfl) ?_
    refine wp_ret ?_
    refine ret_rule (C := []) [((φ1 0), .cells #[.bool false, .pointer none] 26), ((φ1 1), .cells #[.bool false, .pointer none] 26)] [] (.agg #[.bool false, .pointer none]) [.o 1, .o 1] [(φ1 1), (φ1 1)] s trivial (by kernel_rfl) ?_
    exact ⟨_, _, _, rfl, s, ⟨_, _, rfl, rfl, rfl⟩⟩
  | one =>
    obtain ⟨rfl, rfl⟩ := h
    refine enter_rule 12 [(0, .agg #[.bool true, .pointer none])] Try.func43 rfl (by kernel_rfl) ?_
    intro w s
    refine wp_seq ?_
    refine region_rule ?_
    refine ops_rule (C := []) [] [] 2 [] 2 (fun φ1 => [(2, .pointer (some ⟨(φ1 1), 0, none⟩)), (1, .pointer (some ⟨(φ1 0), 0, none⟩))]) (fun φ1 => [((φ1 0), .cells #[.bool true, .pointer none] 26), ((φ1 1), .cells #[.bool false, .pointer none] 26)]) (fun φ1 => []) s trivial (fun φ1 => by kernel_rfl) ?_
    intro φ1 w1 s
    refine ops_done (by kernel_rfl) ?_
    refine wp_seq ?_
    refine wp_seq ?_
    refine region_rule ?_
    refine ops_rule (C := []) [((φ1 0), .cells #[.bool true, .pointer none] 26), ((φ1 1), .cells #[.bool false, .pointer none] 26)] [] 3 [.o 0] 0 (fun φ2 => [(5, .bool true), (4, .pointer none), (3, .pointer (some ⟨(φ1 0), 1, none⟩))]) (fun φ2 => [((φ1 0), .cells #[.bool true, .pointer none] 26), ((φ1 1), .cells #[.bool false, .pointer none] 26)]) (fun φ2 => [(φ1 0)]) s trivial (fun φ2 => by kernel_rfl) ?_
    intro φ2 w2 s
    refine ops_done (by kernel_rfl) ?_
    refine cond_true_rule (b := true) (by kernel_rfl) rfl ?_
    refine wp_seq ?_
    refine region_rule ?_
    refine ops_rule (C := []) [((φ1 0), .cells #[.bool true, .pointer none] 26), ((φ1 1), .cells #[.bool false, .pointer none] 26)] [] 2 [.o 0, .o 0, .o 1, .o 1] 0 (fun φ3 => [(6, .agg #[.bool true, .pointer none])]) (fun φ3 => [((φ1 0), .cells #[.bool true, .pointer none] 26), ((φ1 1), .cells #[.bool true, .pointer none] 26)]) (fun φ3 => [(φ1 0), (φ1 0), (φ1 1), (φ1 1)]) s trivial (fun φ3 => by kernel_rfl) ?_
    intro φ3 w3 s
    refine ops_done (by kernel_rfl) ?_
    refine wp_ret ?_
    refine ret_rule (C := []) [((φ1 0), .cells #[.bool true, .pointer none] 26), ((φ1 1), .cells #[.bool true, .pointer none] 26)] [] (.agg #[.bool true, .pointer none]) [.o 1, .o 1] [(φ1 1), (φ1 1)] s trivial (by kernel_rfl) ?_
    exact ⟨_, _, _, rfl, s, ⟨_, _, rfl, rfl, rfl⟩⟩
  | node l r =>
    have hn := h
    obtain ⟨rfl, k, bl, pl, br, pr, rfl, hk, hl, hr⟩ := h
    refine enter_rule 12 [(0, .agg #[.bool false, .pointer (some ⟨k, 0, none⟩)])] Try.func43 rfl (by kernel_rfl) ?_
    intro w s
    refine wp_seq ?_
    refine region_rule ?_
    refine ops_rule (C := []) [] [] 2 [] 2 (fun φ1 => [(2, .pointer (some ⟨(φ1 1), 0, none⟩)), (1, .pointer (some ⟨(φ1 0), 0, none⟩))]) (fun φ1 => [((φ1 0), .cells #[.bool false, .pointer (some ⟨k, 0, none⟩)] 26), ((φ1 1), .cells #[.bool false, .pointer none] 26)]) (fun φ1 => []) s trivial (fun φ1 => by kernel_rfl) ?_
    intro φ1 w1 s
    refine ops_done (by kernel_rfl) ?_
    refine wp_seq ?_
    refine wp_seq ?_
    refine region_rule ?_
    refine ops_rule (C := []) [((φ1 0), .cells #[.bool false, .pointer (some ⟨k, 0, none⟩)] 26), ((φ1 1), .cells #[.bool false, .pointer none] 26)] [] 3 [.o 0] 0 (fun φ2 => [(5, .bool false), (4, .pointer (some ⟨k, 0, none⟩)), (3, .pointer (some ⟨(φ1 0), 1, none⟩))]) (fun φ2 => [((φ1 0), .cells #[.bool false, .pointer (some ⟨k, 0, none⟩)] 26), ((φ1 1), .cells #[.bool false, .pointer none] 26)]) (fun φ2 => [(φ1 0)]) s trivial (fun φ2 => by kernel_rfl) ?_
    intro φ2 w2 s
    refine ops_done (by kernel_rfl) ?_
    refine cond_false_rule (b := false) (by kernel_rfl) rfl ?_
    refine wp_skip ?_
    refine wp_seq ?_
    refine region_rule ?_
    refine ops_rule (C := [(k, .cells #[.bool bl, .pointer pl, .bool br, .pointer pr, .int .i64 ((T.depth (T.node l r) : Nat) : Int)] 98)]) [((φ1 0), .cells #[.bool false, .pointer (some ⟨k, 0, none⟩)] 26), ((φ1 1), .cells #[.bool false, .pointer none] 26)] [] 6 [.o 0, .c 0, .c 0, .o 1, .o 1] 0 (fun φ3 => [(11, .agg #[.bool br, .pointer pr]), (10, .pointer (some ⟨k, 2, none⟩)), (9, .pointer (some ⟨k, 0, none⟩)), (8, .pointer (some ⟨k, 0, none⟩)), (7, .pointer (some ⟨(φ1 0), 1, none⟩))]) (fun φ3 => [((φ1 0), .cells #[.bool false, .pointer (some ⟨k, 0, none⟩)] 26), ((φ1 1), .cells #[.bool br, .pointer pr] 26)]) (fun φ3 => [(φ1 0), k, k, (φ1 1), (φ1 1)]) s ⟨hk, trivial⟩ (fun φ3 => by kernel_rfl) ?_
    intro φ3 w3 s
    refine ops_done (by kernel_rfl) ?_
    refine wp_ret ?_
    refine ret_rule (C := []) [((φ1 0), .cells #[.bool false, .pointer (some ⟨k, 0, none⟩)] 26), ((φ1 1), .cells #[.bool br, .pointer pr] 26)] [] (.agg #[.bool br, .pointer pr]) [.o 1, .o 1] [(φ1 1), (φ1 1)] s trivial (by kernel_rfl) ?_
    exact ⟨_, _, _, rfl, s, ⟨_, _, rfl, hr⟩⟩

set_option maxHeartbeats 400000 in
theorem tdepth_c {I : IM} {t : T} {b : Bool} {p : Option Addr} (h : TRep I t b p) : Fun Try.prog 45 #[idv b p] I (fun v J => v = .int .i64 ((t.depth : Nat) : Int)) := by
  cases t with
  | zero =>
    obtain ⟨rfl, rfl⟩ := h
    refine enter_rule 11 [(0, .agg #[.bool false, .pointer none])] Try.func45 rfl (by kernel_rfl) ?_
    intro w s
    refine wp_seq ?_
    refine region_rule ?_
    refine ops_rule (C := []) [] [] 2 [] 1 (fun φ1 => [(2, .int .i64 0), (1, .pointer (some ⟨(φ1 0), 0, none⟩))]) (fun φ1 => [((φ1 0), .cells #[.bool false, .pointer none] 26)]) (fun φ1 => []) s trivial (fun φ1 => by kernel_rfl) ?_
    intro φ1 w1 s
    refine ops_done (by kernel_rfl) ?_
    refine wp_seq ?_
    refine wp_seq ?_
    refine region_rule ?_
    refine ops_rule (C := []) [((φ1 0), .cells #[.bool false, .pointer none] 26)] [] 3 [.o 0] 0 (fun φ2 => [(5, .bool true), (4, .pointer none), (3, .pointer (some ⟨(φ1 0), 1, none⟩))]) (fun φ2 => [((φ1 0), .cells #[.bool false, .pointer none] 26)]) (fun φ2 => [(φ1 0)]) s trivial (fun φ2 => by kernel_rfl) ?_
    intro φ2 w2 s
    refine ops_done (by kernel_rfl) ?_
    refine cond_true_rule (b := true) (by kernel_rfl) rfl ?_
    refine wp_seq ?_
    refine region_rule ?_
    refine ops_rule (C := []) [((φ1 0), .cells #[.bool false, .pointer none] 26)] [] 1 [] 0 (fun φ3 => [(2, .int .i64 0)]) (fun φ3 => [((φ1 0), .cells #[.bool false, .pointer none] 26)]) (fun φ3 => []) s trivial (fun φ3 => by kernel_rfl) ?_
    intro φ3 w3 s
    refine ops_done (by kernel_rfl) ?_
    refine wp_ret ?_
    refine ret_rule (C := []) [((φ1 0), .cells #[.bool false, .pointer none] 26)] [] (.int .i64 0) [] [] s trivial (by kernel_rfl) ?_
    exact ⟨_, _, _, rfl, s, rfl⟩
  | one =>
    obtain ⟨rfl, rfl⟩ := h
    refine enter_rule 11 [(0, .agg #[.bool true, .pointer none])] Try.func45 rfl (by kernel_rfl) ?_
    intro w s
    refine wp_seq ?_
    refine region_rule ?_
    refine ops_rule (C := []) [] [] 2 [] 1 (fun φ1 => [(2, .int .i64 0), (1, .pointer (some ⟨(φ1 0), 0, none⟩))]) (fun φ1 => [((φ1 0), .cells #[.bool true, .pointer none] 26)]) (fun φ1 => []) s trivial (fun φ1 => by kernel_rfl) ?_
    intro φ1 w1 s
    refine ops_done (by kernel_rfl) ?_
    refine wp_seq ?_
    refine wp_seq ?_
    refine region_rule ?_
    refine ops_rule (C := []) [((φ1 0), .cells #[.bool true, .pointer none] 26)] [] 3 [.o 0] 0 (fun φ2 => [(5, .bool true), (4, .pointer none), (3, .pointer (some ⟨(φ1 0), 1, none⟩))]) (fun φ2 => [((φ1 0), .cells #[.bool true, .pointer none] 26)]) (fun φ2 => [(φ1 0)]) s trivial (fun φ2 => by kernel_rfl) ?_
    intro φ2 w2 s
    refine ops_done (by kernel_rfl) ?_
    refine cond_true_rule (b := true) (by kernel_rfl) rfl ?_
    refine wp_seq ?_
    refine region_rule ?_
    refine ops_rule (C := []) [((φ1 0), .cells #[.bool true, .pointer none] 26)] [] 1 [] 0 (fun φ3 => [(2, .int .i64 0)]) (fun φ3 => [((φ1 0), .cells #[.bool true, .pointer none] 26)]) (fun φ3 => []) s trivial (fun φ3 => by kernel_rfl) ?_
    intro φ3 w3 s
    refine ops_done (by kernel_rfl) ?_
    refine wp_ret ?_
    refine ret_rule (C := []) [((φ1 0), .cells #[.bool true, .pointer none] 26)] [] (.int .i64 0) [] [] s trivial (by kernel_rfl) ?_
    exact ⟨_, _, _, rfl, s, rfl⟩
  | node l r =>
    have hn := h
    obtain ⟨rfl, k, bl, pl, br, pr, rfl, hk, hl, hr⟩ := h
    refine enter_rule 11 [(0, .agg #[.bool false, .pointer (some ⟨k, 0, none⟩)])] Try.func45 rfl (by kernel_rfl) ?_
    intro w s
    refine wp_seq ?_
    refine region_rule ?_
    refine ops_rule (C := []) [] [] 2 [] 1 (fun φ1 => [(2, .int .i64 0), (1, .pointer (some ⟨(φ1 0), 0, none⟩))]) (fun φ1 => [((φ1 0), .cells #[.bool false, .pointer (some ⟨k, 0, none⟩)] 26)]) (fun φ1 => []) s trivial (fun φ1 => by kernel_rfl) ?_
    intro φ1 w1 s
    refine ops_done (by kernel_rfl) ?_
    refine wp_seq ?_
    refine wp_seq ?_
    refine region_rule ?_
    refine ops_rule (C := []) [((φ1 0), .cells #[.bool false, .pointer (some ⟨k, 0, none⟩)] 26)] [] 3 [.o 0] 0 (fun φ2 => [(5, .bool false), (4, .pointer (some ⟨k, 0, none⟩)), (3, .pointer (some ⟨(φ1 0), 1, none⟩))]) (fun φ2 => [((φ1 0), .cells #[.bool false, .pointer (some ⟨k, 0, none⟩)] 26)]) (fun φ2 => [(φ1 0)]) s trivial (fun φ2 => by kernel_rfl) ?_
    intro φ2 w2 s
    refine ops_done (by kernel_rfl) ?_
    refine cond_false_rule (b := false) (by kernel_rfl) rfl ?_
    refine wp_skip ?_
    refine wp_seq ?_
    refine region_rule ?_
    refine ops_rule (C := [(k, .cells #[.bool bl, .pointer pl, .bool br, .pointer pr, .int .i64 ((T.depth (T.node l r) : Nat) : Int)] 98)]) [((φ1 0), .cells #[.bool false, .pointer (some ⟨k, 0, none⟩)] 26)] [] 6 [.o 0, .c 0] 0 (fun φ3 => [(2, .int .i64 ((T.depth (T.node l r) : Nat) : Int)), (10, .int .i64 ((T.depth (T.node l r) : Nat) : Int)), (9, .pointer (some ⟨k, 4, none⟩)), (8, .pointer (some ⟨k, 0, none⟩)), (7, .pointer (some ⟨k, 0, none⟩)), (6, .pointer (some ⟨(φ1 0), 1, none⟩))]) (fun φ3 => [((φ1 0), .cells #[.bool false, .pointer (some ⟨k, 0, none⟩)] 26)]) (fun φ3 => [(φ1 0), k]) s ⟨hk, trivial⟩ (fun φ3 => by kernel_rfl) ?_
    intro φ3 w3 s
    refine ops_done (by kernel_rfl) ?_
    refine wp_ret ?_
    refine ret_rule (C := []) [((φ1 0), .cells #[.bool false, .pointer (some ⟨k, 0, none⟩)] 26)] [] (.int .i64 ((T.depth (T.node l r) : Nat) : Int)) [] [] s trivial (by kernel_rfl) ?_
    exact ⟨_, _, _, rfl, s, rfl⟩

set_option maxHeartbeats 400000 in
theorem tzero_c {I : IM} : Fun Try.prog 28 #[] I (fun v J => v = idv false none) := by
  refine enter_rule 2 [] Try.func28 rfl (by kernel_rfl) ?_
  intro w s
  refine wp_seq ?_
  refine region_rule ?_
  refine ops_rule (C := []) [] [] 1 [] 1 (fun φ1 => [(0, .pointer (some ⟨(φ1 0), 0, none⟩))]) (fun φ1 => [((φ1 0), .cells #[.bool false, .pointer none] 26)]) (fun φ1 => []) s trivial (fun φ1 => by kernel_rfl) ?_
  intro φ1 w1 s
  refine ops_done (by kernel_rfl) ?_
  refine wp_seq ?_
  refine region_rule ?_
  refine ops_rule (C := []) [((φ1 0), .cells #[.bool false, .pointer none] 26)] [] 2 [.o 0, .o 0] 0 (fun φ2 => [(1, .agg #[.bool false, .pointer none])]) (fun φ2 => [((φ1 0), .cells #[.bool false, .pointer none] 26)]) (fun φ2 => [(φ1 0), (φ1 0)]) s trivial (fun φ2 => by kernel_rfl) ?_
  intro φ2 w2 s
  refine ops_done (by kernel_rfl) ?_
  refine wp_ret ?_
  refine ret_rule (C := []) [((φ1 0), .cells #[.bool false, .pointer none] 26)] [] (.agg #[.bool false, .pointer none]) [.o 0, .o 0] [(φ1 0), (φ1 0)] s trivial (by kernel_rfl) ?_
  exact ⟨_, _, _, rfl, s, rfl⟩

set_option maxHeartbeats 400000 in
theorem tone_c {I : IM} : Fun Try.prog 27 #[] I (fun v J => v = idv true none) := by
  refine enter_rule 2 [] Try.func27 rfl (by kernel_rfl) ?_
  intro w s
  refine wp_seq ?_
  refine region_rule ?_
  refine ops_rule (C := []) [] [] 1 [] 1 (fun φ1 => [(0, .pointer (some ⟨(φ1 0), 0, none⟩))]) (fun φ1 => [((φ1 0), .cells #[.bool false, .pointer none] 26)]) (fun φ1 => []) s trivial (fun φ1 => by kernel_rfl) ?_
  intro φ1 w1 s
  refine ops_done (by kernel_rfl) ?_
  refine wp_seq ?_
  refine region_rule ?_
  refine ops_rule (C := []) [((φ1 0), .cells #[.bool false, .pointer none] 26)] [] 2 [.o 0, .o 0] 0 (fun φ2 => [(1, .agg #[.bool true, .pointer none])]) (fun φ2 => [((φ1 0), .cells #[.bool true, .pointer none] 26)]) (fun φ2 => [(φ1 0), (φ1 0)]) s trivial (fun φ2 => by kernel_rfl) ?_
  intro φ2 w2 s
  refine ops_done (by kernel_rfl) ?_
  refine wp_ret ?_
  refine ret_rule (C := []) [((φ1 0), .cells #[.bool true, .pointer none] 26)] [] (.agg #[.bool true, .pointer none]) [.o 0, .o 0] [(φ1 0), (φ1 0)] s trivial (by kernel_rfl) ?_
  exact ⟨_, _, _, rfl, s, rfl⟩

theorem mk_zero {l r : T} (h1 : l.isZero = true) (h2 : r.isZero = true) : T.mk l r = .zero := by cases l <;> cases r <;> simp_all [T.isZero, T.mk]
theorem mk_one {l r : T} (h1 : l.isOne = true) (h2 : r.isOne = true) : T.mk l r = .one := by cases l <;> cases r <;> simp_all [T.isOne, T.mk]
theorem mk_node {l r : T} (h1 : l.isZero = false ∨ r.isZero = false) (h2 : l.isOne = false ∨ r.isOne = false) : T.mk l r = .node l r := by cases l <;> cases r <;> simp_all [T.isOne, T.isZero, T.mk]

set_option maxHeartbeats 1000000 in
theorem merge_c {I : IM} {l r : T} {bl br : Bool} {pl pr : Option Addr} (hl : TRep I l bl pl) (hr : TRep I r br pr) (hdl : l.depth ≤ 1000) (hdr : r.depth ≤ 1000) : Fun Try.prog 59 #[idv bl pl, idv br pr] I (fun v J => ∃ b p, v = idv b p ∧ TRep J (T.mk l r) b p) := by
  refine enter_rule 30 [(0, .agg #[.bool bl, .pointer pl]), (1, .agg #[.bool br, .pointer pr])] Try.func59 rfl (by kernel_rfl) ?_
  intro w s
  refine wp_seq ?_
  refine region_rule ?_
  refine ops_rule (C := []) [] [] 3 [] 3 (fun φ1 => [(4, .pointer (some ⟨(φ1 2), 0, none⟩)), (3, .pointer (some ⟨(φ1 1), 0, none⟩)), (2, .pointer (some ⟨(φ1 0), 0, none⟩))]) (fun φ1 => [((φ1 0), .cells #[.bool bl, .pointer pl] 26), ((φ1 1), .cells #[.bool br, .pointer pr] 26), ((φ1 2), .cells #[.bool false, .pointer none] 26)]) (fun φ1 => []) s trivial (fun φ1 => by kernel_rfl) ?_
  intro φ1 w1 s
  refine ops_done (by kernel_rfl) ?_
  refine wp_seq ?_
  refine wp_seq ?_
  refine region_rule ?_
  refine ops_rule (C := []) [((φ1 0), .cells #[.bool bl, .pointer pl] 26), ((φ1 1), .cells #[.bool br, .pointer pr] 26), ((φ1 2), .cells #[.bool false, .pointer none] 26)] [] 1 [.o 0, .o 0] 0 (fun φ2 => [(5, .agg #[.bool bl, .pointer pl])]) (fun φ2 => [((φ1 0), .cells #[.bool bl, .pointer pl] 26), ((φ1 1), .cells #[.bool br, .pointer pr] 26), ((φ1 2), .cells #[.bool false, .pointer none] 26)]) (fun φ2 => [(φ1 0), (φ1 0)]) s trivial (fun φ2 => by kernel_rfl) ?_
  intro φ2 w2 s
  refine call_rule (some 6) s (isZero_c hl) (by kernel_rfl) ?_
  intro v3 I3 w3 le3 h3 s
  replace hl := TRep.mono le3 hl
  replace hr := TRep.mono le3 hr
  obtain rfl := h3
  refine ops_rule (C := []) [((φ1 0), .cells #[.bool bl, .pointer pl] 26), ((φ1 1), .cells #[.bool br, .pointer pr] 26), ((φ1 2), .cells #[.bool false, .pointer none] 26)] [] 1 [] 0 (fun φ4 => [(7, .bool (T.isZero l))]) (fun φ4 => [((φ1 0), .cells #[.bool bl, .pointer pl] 26), ((φ1 1), .cells #[.bool br, .pointer pr] 26), ((φ1 2), .cells #[.bool false, .pointer none] 26)]) (fun φ4 => []) s trivial (fun φ4 => by kernel_rfl) ?_
  intro φ4 w4 s
  rcases Bool.eq_false_or_eq_true (T.isZero l) with hc5 | hc5
  ·
    rw [hc5]
    refine ops_rule (C := []) [((φ1 0), .cells #[.bool bl, .pointer pl] 26), ((φ1 1), .cells #[.bool br, .pointer pr] 26), ((φ1 2), .cells #[.bool false, .pointer none] 26)] [] 1 [.o 1, .o 1] 0 (fun φ6 => [(8, .agg #[.bool br, .pointer pr])]) (fun φ6 => [((φ1 0), .cells #[.bool bl, .pointer pl] 26), ((φ1 1), .cells #[.bool br, .pointer pr] 26), ((φ1 2), .cells #[.bool false, .pointer none] 26)]) (fun φ6 => [(φ1 1), (φ1 1)]) s trivial (fun φ6 => by kernel_rfl) ?_
    intro φ6 w6 s
    refine call_rule (some 9) s (isZero_c hr) (by kernel_rfl) ?_
    intro v7 I7 w7 le7 h7 s
    replace hl := TRep.mono le7 hl
    replace hr := TRep.mono le7 hr
    obtain rfl := h7
    refine ops_rule (C := []) [((φ1 0), .cells #[.bool bl, .pointer pl] 26), ((φ1 1), .cells #[.bool br, .pointer pr] 26), ((φ1 2), .cells #[.bool false, .pointer none] 26)] [] 1 [] 0 (fun φ8 => [(10, .bool (T.isZero r))]) (fun φ8 => [((φ1 0), .cells #[.bool bl, .pointer pl] 26), ((φ1 1), .cells #[.bool br, .pointer pr] 26), ((φ1 2), .cells #[.bool false, .pointer none] 26)]) (fun φ8 => []) s trivial (fun φ8 => by kernel_rfl) ?_
    intro φ8 w8 s
    refine ops_done (by kernel_rfl) ?_
    rcases Bool.eq_false_or_eq_true (T.isZero r) with hc9 | hc9
    ·
      rw [hc9]
      refine cond_true_rule (b := true) (by kernel_rfl) rfl ?_
      refine wp_seq ?_
      refine region_rule ?_
      refine call_rule (some 11) s (tzero_c) (by kernel_rfl) ?_
      intro v10 I10 w10 le10 h10 s
      replace hl := TRep.mono le10 hl
      replace hr := TRep.mono le10 hr
      obtain rfl := h10
      refine ops_rule (C := []) [((φ1 0), .cells #[.bool bl, .pointer pl] 26), ((φ1 1), .cells #[.bool br, .pointer pr] 26), ((φ1 2), .cells #[.bool false, .pointer none] 26)] [] 1 [.o 2, .o 2] 0 (fun φ11 => []) (fun φ11 => [((φ1 0), .cells #[.bool bl, .pointer pl] 26), ((φ1 1), .cells #[.bool br, .pointer pr] 26), ((φ1 2), .cells #[.bool false, .pointer none] 26)]) (fun φ11 => [(φ1 2), (φ1 2)]) s trivial (fun φ11 => by kernel_rfl) ?_
      intro φ11 w11 s
      refine ops_done (by kernel_rfl) ?_
      refine wp_ret ?_
      refine ret_rule (C := []) [((φ1 0), .cells #[.bool bl, .pointer pl] 26), ((φ1 1), .cells #[.bool br, .pointer pr] 26), ((φ1 2), .cells #[.bool false, .pointer none] 26)] [] (.agg #[.bool false, .pointer none]) [.o 2, .o 2] [(φ1 2), (φ1 2)] s trivial (by kernel_rfl) ?_
      exact ⟨_, _, _, rfl, s, ⟨_, _, rfl, by rw [mk_zero hc5 hc9]; exact ⟨rfl, rfl⟩⟩⟩
    ·
      rw [hc9]
      refine cond_false_rule (b := false) (by kernel_rfl) rfl ?_
      refine wp_skip ?_
      refine wp_seq ?_
      refine wp_seq ?_
      refine region_rule ?_
      refine ops_rule (C := []) [((φ1 0), .cells #[.bool bl, .pointer pl] 26), ((φ1 1), .cells #[.bool br, .pointer pr] 26), ((φ1 2), .cells #[.bool false, .pointer none] 26)] [] 1 [.o 0, .o 0] 0 (fun φ12 => [(12, .agg #[.bool bl, .pointer pl])]) (fun φ12 => [((φ1 0), .cells #[.bool bl, .pointer pl] 26), ((φ1 1), .cells #[.bool br, .pointer pr] 26), ((φ1 2), .cells #[.bool false, .pointer none] 26)]) (fun φ12 => [(φ1 0), (φ1 0)]) s trivial (fun φ12 => by kernel_rfl) ?_
      intro φ12 w12 s
      refine call_rule (some 13) s (isOne_c hl) (by kernel_rfl) ?_
      intro v13 I13 w13 le13 h13 s
      replace hl := TRep.mono le13 hl
      replace hr := TRep.mono le13 hr
      obtain rfl := h13
      refine ops_rule (C := []) [((φ1 0), .cells #[.bool bl, .pointer pl] 26), ((φ1 1), .cells #[.bool br, .pointer pr] 26), ((φ1 2), .cells #[.bool false, .pointer none] 26)] [] 1 [] 0 (fun φ14 => [(14, .bool (T.isOne l))]) (fun φ14 => [((φ1 0), .cells #[.bool bl, .pointer pl] 26), ((φ1 1), .cells #[.bool br, .pointer pr] 26), ((φ1 2), .cells #[.bool false, .pointer none] 26)]) (fun φ14 => []) s trivial (fun φ14 => by kernel_rfl) ?_
      intro φ14 w14 s
      rcases Bool.eq_false_or_eq_true (T.isOne l) with hc15 | hc15
      ·
        rw [hc15]
        refine ops_rule (C := []) [((φ1 0), .cells #[.bool bl, .pointer pl] 26), ((φ1 1), .cells #[.bool br, .pointer pr] 26), ((φ1 2), .cells #[.bool false, .pointer none] 26)] [] 1 [.o 1, .o 1] 0 (fun φ16 => [(15, .agg #[.bool br, .pointer pr])]) (fun φ16 => [((φ1 0), .cells #[.bool bl, .pointer pl] 26), ((φ1 1), .cells #[.bool br, .pointer pr] 26), ((φ1 2), .cells #[.bool false, .pointer none] 26)]) (fun φ16 => [(φ1 1), (φ1 1)]) s trivial (fun φ16 => by kernel_rfl) ?_
        intro φ16 w16 s
        refine call_rule (some 16) s (isOne_c hr) (by kernel_rfl) ?_
        intro v17 I17 w17 le17 h17 s
        replace hl := TRep.mono le17 hl
        replace hr := TRep.mono le17 hr
        obtain rfl := h17
        refine ops_rule (C := []) [((φ1 0), .cells #[.bool bl, .pointer pl] 26), ((φ1 1), .cells #[.bool br, .pointer pr] 26), ((φ1 2), .cells #[.bool false, .pointer none] 26)] [] 1 [] 0 (fun φ18 => [(17, .bool (T.isOne r))]) (fun φ18 => [((φ1 0), .cells #[.bool bl, .pointer pl] 26), ((φ1 1), .cells #[.bool br, .pointer pr] 26), ((φ1 2), .cells #[.bool false, .pointer none] 26)]) (fun φ18 => []) s trivial (fun φ18 => by kernel_rfl) ?_
        intro φ18 w18 s
        refine ops_done (by kernel_rfl) ?_
        rcases Bool.eq_false_or_eq_true (T.isOne r) with hc19 | hc19
        ·
          rw [hc19]
          refine cond_true_rule (b := true) (by kernel_rfl) rfl ?_
          refine wp_seq ?_
          refine region_rule ?_
          refine call_rule (some 18) s (tone_c) (by kernel_rfl) ?_
          intro v20 I20 w20 le20 h20 s
          replace hl := TRep.mono le20 hl
          replace hr := TRep.mono le20 hr
          obtain rfl := h20
          refine ops_rule (C := []) [((φ1 0), .cells #[.bool bl, .pointer pl] 26), ((φ1 1), .cells #[.bool br, .pointer pr] 26), ((φ1 2), .cells #[.bool false, .pointer none] 26)] [] 1 [.o 2, .o 2] 0 (fun φ21 => []) (fun φ21 => [((φ1 0), .cells #[.bool bl, .pointer pl] 26), ((φ1 1), .cells #[.bool br, .pointer pr] 26), ((φ1 2), .cells #[.bool true, .pointer none] 26)]) (fun φ21 => [(φ1 2), (φ1 2)]) s trivial (fun φ21 => by kernel_rfl) ?_
          intro φ21 w21 s
          refine ops_done (by kernel_rfl) ?_
          refine wp_ret ?_
          refine ret_rule (C := []) [((φ1 0), .cells #[.bool bl, .pointer pl] 26), ((φ1 1), .cells #[.bool br, .pointer pr] 26), ((φ1 2), .cells #[.bool true, .pointer none] 26)] [] (.agg #[.bool true, .pointer none]) [.o 2, .o 2] [(φ1 2), (φ1 2)] s trivial (by kernel_rfl) ?_
          exact ⟨_, _, _, rfl, s, ⟨_, _, rfl, by rw [mk_one hc15 hc19]; exact ⟨rfl, rfl⟩⟩⟩
        ·
          rw [hc19]
          refine cond_false_rule (b := false) (by kernel_rfl) rfl ?_
          refine wp_skip ?_
          refine wp_seq ?_
          refine draw_rule (C := []) ⟨(fun φ22 xs22 => [.look 0 [.o 0, .o 0] [(φ1 0), (φ1 0)], .look 0 [.o 1, .o 1] [(φ1 1), (φ1 1)], .look 0 [.o 0, .o 0] [(φ1 0), (φ1 0)], .call 45 #[.agg #[.bool bl, .pointer pl]], .look 0 [.o 1, .o 1] [(φ1 1), (φ1 1)], .call 45 #[.agg #[.bool br, .pointer pr]], .sub 0 [] [] (.int .i64 (if ((T.depth r : Nat) : Int) > ((T.depth l : Nat) : Int) then ((T.depth r : Nat) : Int) else ((T.depth l : Nat) : Int))), .sub 0 [] [] (.int .i64 (IntKind.wrap .i64 (((1 : Nat) : Int) + ((max (T.depth l) (T.depth r) : Nat) : Int)))), .look 0 [] [], .new, .look 0 [] [], .store 0 [.o 2, .o 2] [(φ1 2), (φ1 2)]]), (fun φ22 xs22 => [.agg #[.bool bl, .pointer pl], .agg #[.bool br, .pointer pr], .agg #[.bool bl, .pointer pl], .int .i64 ((T.depth l : Nat) : Int), .agg #[.bool br, .pointer pr], .int .i64 ((T.depth r : Nat) : Int), .int .i64 ((max (T.depth l) (T.depth r) : Nat) : Int), .int .i64 ((1 + (max (T.depth l) (T.depth r)) : Nat) : Int), .agg #[.bool bl, .pointer pl, .bool br, .pointer pr, .int .i64 ((1 + (max (T.depth l) (T.depth r)) : Nat) : Int)], .pointer (some ⟨(φ22 9), 0, none⟩), .agg #[.bool false, .pointer (some ⟨(φ22 9), 0, none⟩)], undef]), (fun φ22 xs22 => [[((φ1 0), .cells #[.bool bl, .pointer pl] 26), ((φ1 1), .cells #[.bool br, .pointer pr] 26), ((φ1 2), .cells #[.bool false, .pointer none] 26)], [((φ1 0), .cells #[.bool bl, .pointer pl] 26), ((φ1 1), .cells #[.bool br, .pointer pr] 26), ((φ1 2), .cells #[.bool false, .pointer (some ⟨(φ22 9), 0, none⟩)] 26)]]), (fun φ22 xs22 => [[default, default, default, default, default, default, default, default, default, .cells #[.bool bl, .pointer pl, .bool br, .pointer pr, .int .i64 ((1 + (max (T.depth l) (T.depth r)) : Nat) : Int)] 98, default, default], [default, default, default, default, default, default, default, default, default, .cells #[.bool bl, .pointer pl, .bool br, .pointer pr, .int .i64 ((1 + (max (T.depth l) (T.depth r)) : Nat) : Int)] 98, default, default]]), [11], [1, 1, 1, 3, 1, 3, 5, 5, 1, 2, 1, 4]⟩ (fun j => ([MP.any, MP.any, MP.any, MP.any, MP.any, MP.any, MP.any, MP.any, MP.any, MP.any, MP.any, MP.any] : List MP).getD j MP.any) [3, 5] [6, 7] [] (fun φ22 xs22 => [[none, none, none, none, none, none, none, none, none, none, none, none]]) (fun φ22 xs22 => [(19, .agg #[.bool bl, .pointer pl]), (20, .agg #[.bool br, .pointer pr]), (21, .agg #[.bool bl, .pointer pl]), (22, .int .i64 ((T.depth l : Nat) : Int)), (23, .agg #[.bool br, .pointer pr]), (24, .int .i64 ((T.depth r : Nat) : Int)), (25, .int .i64 ((max (T.depth l) (T.depth r) : Nat) : Int)), (26, .int .i64 ((1 + (max (T.depth l) (T.depth r)) : Nat) : Int)), (27, .agg #[.bool bl, .pointer pl, .bool br, .pointer pr, .int .i64 ((1 + (max (T.depth l) (T.depth r)) : Nat) : Int)]), (28, .pointer (some ⟨(φ22 9), 0, none⟩)), (29, .agg #[.bool false, .pointer (some ⟨(φ22 9), 0, none⟩)])]) (fun φ22 xs22 => [((φ1 0), .cells #[.bool bl, .pointer pl] 26), ((φ1 1), .cells #[.bool br, .pointer pr] 26), ((φ1 2), .cells #[.bool false, .pointer (some ⟨(φ22 9), 0, none⟩)] 26), ((φ22 9), .cells #[.bool bl, .pointer pl, .bool br, .pointer pr, .int .i64 ((1 + (max (T.depth l) (T.depth r)) : Nat) : Int)] 98)]) s trivial (by kernel_rfl) (by kernel_rfl) (fun _ _ => by kernel_rfl) (fun _ _ => by kernel_rfl) ⟨fun _ _ => by kernel_rfl, fun _ _ => by kernel_rfl, fun _ _ => by kernel_rfl, fun _ _ => by kernel_rfl⟩ (fun _ _ _ => by kernel_rfl) (fun _ _ => by kernel_rfl) (fun _ _ => by kernel_rfl) (fun _ _ => by kernel_rfl) (fun _ _ => by kernel_rfl) (fun _ _ => by kernel_rfl) ⟨kcast (A := ∀ (φ22 : Nat → Nat) (xs22 : Xs), (.int .i64 (if ((T.depth r : Nat) : Int) > ((T.depth l : Nat) : Int) then ((T.depth r : Nat) : Int) else ((T.depth l : Nat) : Int)) : Value) = .int .i64 ((max (T.depth l) (T.depth r) : Nat) : Int)) (by kernel_rfl) (fun φ22 xs22 => congrArg (Value.int .i64) ((nat_max (a := (T.depth l)) (b := (T.depth r))))), ⟨kcast (A := ∀ (φ22 : Nat → Nat) (xs22 : Xs), (.int .i64 (IntKind.wrap .i64 (((1 : Nat) : Int) + ((max (T.depth l) (T.depth r) : Nat) : Int))) : Value) = .int .i64 ((1 + (max (T.depth l) (T.depth r)) : Nat) : Int)) (by kernel_rfl) (fun φ22 xs22 => congrArg (Value.int .i64) ((nat_addI (a := 1) (b := (max (T.depth l) (T.depth r))) (by omega)))), trivial⟩⟩ trivial (by kernel_rfl) ⟨?c22_3, ?c22_5, trivial⟩ ?k22
          case c22_3 =>
            refine kcast (A := ∀ (φ22 : Nat → Nat) (xs22 : Xs) (J3_22 : IM), I17.Le J3_22 → Fun Try.prog 45 #[.agg #[.bool bl, .pointer pl]] J3_22 (fun v J' => ∃ x : UX, v = .int .i64 ((T.depth l : Nat) : Int) ∧ (True))) (by kernel_rfl) ?_
            intro φ22 xs22 J3_22 leJ
            have hl := TRep.mono leJ hl
            exact Fun.mono (tdepth_c hl) (fun v J' _ h => ⟨UX.d, h, trivial⟩)
          case c22_5 =>
            refine kcast (A := ∀ (φ22 : Nat → Nat) (xs22 : Xs) (J5_22 : IM), I17.Le J5_22 → (True) → Fun Try.prog 45 #[.agg #[.bool br, .pointer pr]] J5_22 (fun v J' => ∃ x : UX, v = .int .i64 ((T.depth r : Nat) : Int) ∧ (True))) (by kernel_rfl) ?_
            intro φ22 xs22 J5_22 leJ
            rintro _
            have hr := TRep.mono leJ hr
            exact Fun.mono (tdepth_c hr) (fun v J' _ h => ⟨UX.d, h, trivial⟩)
          case k22 =>
            rintro φ22 xs22 I22 w22 le22 s _ _
            replace hl := TRep.mono le22 hl
            replace hr := TRep.mono le22 hr
            refine wp_ret ?_
            refine ret_rule (C := []) [((φ1 0), .cells #[.bool bl, .pointer pl] 26), ((φ1 1), .cells #[.bool br, .pointer pr] 26), ((φ1 2), .cells #[.bool false, .pointer (some ⟨(φ22 9), 0, none⟩)] 26), ((φ22 9), .cells #[.bool bl, .pointer pl, .bool br, .pointer pr, .int .i64 ((1 + (max (T.depth l) (T.depth r)) : Nat) : Int)] 98)] [] (.agg #[.bool false, .pointer (some ⟨(φ22 9), 0, none⟩)]) [.o 2, .o 2] [(φ1 2), (φ1 2)] s trivial (by kernel_rfl) ?_
            obtain ⟨I23, le23, hk23, s⟩ := s.freezeAt 3 (φ22 9) (.cells #[.bool bl, .pointer pl, .bool br, .pointer pr, .int .i64 ((1 + (max (T.depth l) (T.depth r)) : Nat) : Int)] 98) [((φ1 0), .cells #[.bool bl, .pointer pl] 26), ((φ1 1), .cells #[.bool br, .pointer pr] 26), ((φ1 2), .cells #[.bool false, .pointer (some ⟨(φ22 9), 0, none⟩)] 26)] (by kernel_rfl) (by kernel_rfl)
            replace hl := TRep.mono le23 hl
            replace hr := TRep.mono le23 hr
            exact ⟨_, _, _, rfl, s, ⟨_, _, rfl, by rw [mk_node (.inr hc9) (.inr hc19)]; exact ⟨rfl, _, _, _, _, _, rfl, hk23, hl, hr⟩⟩⟩
      ·
        rw [hc15]
        refine ops_rule (C := []) [((φ1 0), .cells #[.bool bl, .pointer pl] 26), ((φ1 1), .cells #[.bool br, .pointer pr] 26), ((φ1 2), .cells #[.bool false, .pointer none] 26)] [] 3 [] 0 (fun φ24 => [(17, .bool false), (16, undef), (15, undef)]) (fun φ24 => [((φ1 0), .cells #[.bool bl, .pointer pl] 26), ((φ1 1), .cells #[.bool br, .pointer pr] 26), ((φ1 2), .cells #[.bool false, .pointer none] 26)]) (fun φ24 => []) s trivial (fun φ24 => by kernel_rfl) ?_
        intro φ24 w24 s
        refine ops_done (by kernel_rfl) ?_
        refine cond_false_rule (b := false) (by kernel_rfl) rfl ?_
        refine wp_skip ?_
        refine wp_seq ?_
        refine draw_rule (C := []) ⟨(fun φ25 xs25 => [.look 0 [.o 0, .o 0] [(φ1 0), (φ1 0)], .look 0 [.o 1, .o 1] [(φ1 1), (φ1 1)], .look 0 [.o 0, .o 0] [(φ1 0), (φ1 0)], .call 45 #[.agg #[.bool bl, .pointer pl]], .look 0 [.o 1, .o 1] [(φ1 1), (φ1 1)], .call 45 #[.agg #[.bool br, .pointer pr]], .sub 0 [] [] (.int .i64 (if ((T.depth r : Nat) : Int) > ((T.depth l : Nat) : Int) then ((T.depth r : Nat) : Int) else ((T.depth l : Nat) : Int))), .sub 0 [] [] (.int .i64 (IntKind.wrap .i64 (((1 : Nat) : Int) + ((max (T.depth l) (T.depth r) : Nat) : Int)))), .look 0 [] [], .new, .look 0 [] [], .store 0 [.o 2, .o 2] [(φ1 2), (φ1 2)]]), (fun φ25 xs25 => [.agg #[.bool bl, .pointer pl], .agg #[.bool br, .pointer pr], .agg #[.bool bl, .pointer pl], .int .i64 ((T.depth l : Nat) : Int), .agg #[.bool br, .pointer pr], .int .i64 ((T.depth r : Nat) : Int), .int .i64 ((max (T.depth l) (T.depth r) : Nat) : Int), .int .i64 ((1 + (max (T.depth l) (T.depth r)) : Nat) : Int), .agg #[.bool bl, .pointer pl, .bool br, .pointer pr, .int .i64 ((1 + (max (T.depth l) (T.depth r)) : Nat) : Int)], .pointer (some ⟨(φ25 9), 0, none⟩), .agg #[.bool false, .pointer (some ⟨(φ25 9), 0, none⟩)], undef]), (fun φ25 xs25 => [[((φ1 0), .cells #[.bool bl, .pointer pl] 26), ((φ1 1), .cells #[.bool br, .pointer pr] 26), ((φ1 2), .cells #[.bool false, .pointer none] 26)], [((φ1 0), .cells #[.bool bl, .pointer pl] 26), ((φ1 1), .cells #[.bool br, .pointer pr] 26), ((φ1 2), .cells #[.bool false, .pointer (some ⟨(φ25 9), 0, none⟩)] 26)]]), (fun φ25 xs25 => [[default, default, default, default, default, default, default, default, default, .cells #[.bool bl, .pointer pl, .bool br, .pointer pr, .int .i64 ((1 + (max (T.depth l) (T.depth r)) : Nat) : Int)] 98, default, default], [default, default, default, default, default, default, default, default, default, .cells #[.bool bl, .pointer pl, .bool br, .pointer pr, .int .i64 ((1 + (max (T.depth l) (T.depth r)) : Nat) : Int)] 98, default, default]]), [11], [1, 1, 1, 3, 1, 3, 5, 5, 1, 2, 1, 4]⟩ (fun j => ([MP.any, MP.any, MP.any, MP.any, MP.any, MP.any, MP.any, MP.any, MP.any, MP.any, MP.any, MP.any] : List MP).getD j MP.any) [3, 5] [6, 7] [] (fun φ25 xs25 => [[none, none, none, none, none, none, none, none, none, none, none, none]]) (fun φ25 xs25 => [(19, .agg #[.bool bl, .pointer pl]), (20, .agg #[.bool br, .pointer pr]), (21, .agg #[.bool bl, .pointer pl]), (22, .int .i64 ((T.depth l : Nat) : Int)), (23, .agg #[.bool br, .pointer pr]), (24, .int .i64 ((T.depth r : Nat) : Int)), (25, .int .i64 ((max (T.depth l) (T.depth r) : Nat) : Int)), (26, .int .i64 ((1 + (max (T.depth l) (T.depth r)) : Nat) : Int)), (27, .agg #[.bool bl, .pointer pl, .bool br, .pointer pr, .int .i64 ((1 + (max (T.depth l) (T.depth r)) : Nat) : Int)]), (28, .pointer (some ⟨(φ25 9), 0, none⟩)), (29, .agg #[.bool false, .pointer (some ⟨(φ25 9), 0, none⟩)])]) (fun φ25 xs25 => [((φ1 0), .cells #[.bool bl, .pointer pl] 26), ((φ1 1), .cells #[.bool br, .pointer pr] 26), ((φ1 2), .cells #[.bool false, .pointer (some ⟨(φ25 9), 0, none⟩)] 26), ((φ25 9), .cells #[.bool bl, .pointer pl, .bool br, .pointer pr, .int .i64 ((1 + (max (T.depth l) (T.depth r)) : Nat) : Int)] 98)]) s trivial (by kernel_rfl) (by kernel_rfl) (fun _ _ => by kernel_rfl) (fun _ _ => by kernel_rfl) ⟨fun _ _ => by kernel_rfl, fun _ _ => by kernel_rfl, fun _ _ => by kernel_rfl, fun _ _ => by kernel_rfl⟩ (fun _ _ _ => by kernel_rfl) (fun _ _ => by kernel_rfl) (fun _ _ => by kernel_rfl) (fun _ _ => by kernel_rfl) (fun _ _ => by kernel_rfl) (fun _ _ => by kernel_rfl) ⟨kcast (A := ∀ (φ25 : Nat → Nat) (xs25 : Xs), (.int .i64 (if ((T.depth r : Nat) : Int) > ((T.depth l : Nat) : Int) then ((T.depth r : Nat) : Int) else ((T.depth l : Nat) : Int)) : Value) = .int .i64 ((max (T.depth l) (T.depth r) : Nat) : Int)) (by kernel_rfl) (fun φ25 xs25 => congrArg (Value.int .i64) ((nat_max (a := (T.depth l)) (b := (T.depth r))))), ⟨kcast (A := ∀ (φ25 : Nat → Nat) (xs25 : Xs), (.int .i64 (IntKind.wrap .i64 (((1 : Nat) : Int) + ((max (T.depth l) (T.depth r) : Nat) : Int))) : Value) = .int .i64 ((1 + (max (T.depth l) (T.depth r)) : Nat) : Int)) (by kernel_rfl) (fun φ25 xs25 => congrArg (Value.int .i64) ((nat_addI (a := 1) (b := (max (T.depth l) (T.depth r))) (by omega)))), trivial⟩⟩ trivial (by kernel_rfl) ⟨?c25_3, ?c25_5, trivial⟩ ?k25
        case c25_3 =>
          refine kcast (A := ∀ (φ25 : Nat → Nat) (xs25 : Xs) (J3_25 : IM), I13.Le J3_25 → Fun Try.prog 45 #[.agg #[.bool bl, .pointer pl]] J3_25 (fun v J' => ∃ x : UX, v = .int .i64 ((T.depth l : Nat) : Int) ∧ (True))) (by kernel_rfl) ?_
          intro φ25 xs25 J3_25 leJ
          have hl := TRep.mono leJ hl
          exact Fun.mono (tdepth_c hl) (fun v J' _ h => ⟨UX.d, h, trivial⟩)
        case c25_5 =>
          refine kcast (A := ∀ (φ25 : Nat → Nat) (xs25 : Xs) (J5_25 : IM), I13.Le J5_25 → (True) → Fun Try.prog 45 #[.agg #[.bool br, .pointer pr]] J5_25 (fun v J' => ∃ x : UX, v = .int .i64 ((T.depth r : Nat) : Int) ∧ (True))) (by kernel_rfl) ?_
          intro φ25 xs25 J5_25 leJ
          rintro _
          have hr := TRep.mono leJ hr
          exact Fun.mono (tdepth_c hr) (fun v J' _ h => ⟨UX.d, h, trivial⟩)
        case k25 =>
          rintro φ25 xs25 I25 w25 le25 s _ _
          replace hl := TRep.mono le25 hl
          replace hr := TRep.mono le25 hr
          refine wp_ret ?_
          refine ret_rule (C := []) [((φ1 0), .cells #[.bool bl, .pointer pl] 26), ((φ1 1), .cells #[.bool br, .pointer pr] 26), ((φ1 2), .cells #[.bool false, .pointer (some ⟨(φ25 9), 0, none⟩)] 26), ((φ25 9), .cells #[.bool bl, .pointer pl, .bool br, .pointer pr, .int .i64 ((1 + (max (T.depth l) (T.depth r)) : Nat) : Int)] 98)] [] (.agg #[.bool false, .pointer (some ⟨(φ25 9), 0, none⟩)]) [.o 2, .o 2] [(φ1 2), (φ1 2)] s trivial (by kernel_rfl) ?_
          obtain ⟨I26, le26, hk26, s⟩ := s.freezeAt 3 (φ25 9) (.cells #[.bool bl, .pointer pl, .bool br, .pointer pr, .int .i64 ((1 + (max (T.depth l) (T.depth r)) : Nat) : Int)] 98) [((φ1 0), .cells #[.bool bl, .pointer pl] 26), ((φ1 1), .cells #[.bool br, .pointer pr] 26), ((φ1 2), .cells #[.bool false, .pointer (some ⟨(φ25 9), 0, none⟩)] 26)] (by kernel_rfl) (by kernel_rfl)
          replace hl := TRep.mono le26 hl
          replace hr := TRep.mono le26 hr
          exact ⟨_, _, _, rfl, s, ⟨_, _, rfl, by rw [mk_node (.inr hc9) (.inl hc15)]; exact ⟨rfl, _, _, _, _, _, rfl, hk26, hl, hr⟩⟩⟩
  ·
    rw [hc5]
    refine ops_rule (C := []) [((φ1 0), .cells #[.bool bl, .pointer pl] 26), ((φ1 1), .cells #[.bool br, .pointer pr] 26), ((φ1 2), .cells #[.bool false, .pointer none] 26)] [] 3 [] 0 (fun φ27 => [(10, .bool false), (9, undef), (8, undef)]) (fun φ27 => [((φ1 0), .cells #[.bool bl, .pointer pl] 26), ((φ1 1), .cells #[.bool br, .pointer pr] 26), ((φ1 2), .cells #[.bool false, .pointer none] 26)]) (fun φ27 => []) s trivial (fun φ27 => by kernel_rfl) ?_
    intro φ27 w27 s
    refine ops_done (by kernel_rfl) ?_
    refine cond_false_rule (b := false) (by kernel_rfl) rfl ?_
    refine wp_skip ?_
    refine wp_seq ?_
    refine wp_seq ?_
    refine region_rule ?_
    refine ops_rule (C := []) [((φ1 0), .cells #[.bool bl, .pointer pl] 26), ((φ1 1), .cells #[.bool br, .pointer pr] 26), ((φ1 2), .cells #[.bool false, .pointer none] 26)] [] 1 [.o 0, .o 0] 0 (fun φ28 => [(12, .agg #[.bool bl, .pointer pl])]) (fun φ28 => [((φ1 0), .cells #[.bool bl, .pointer pl] 26), ((φ1 1), .cells #[.bool br, .pointer pr] 26), ((φ1 2), .cells #[.bool false, .pointer none] 26)]) (fun φ28 => [(φ1 0), (φ1 0)]) s trivial (fun φ28 => by kernel_rfl) ?_
    intro φ28 w28 s
    refine call_rule (some 13) s (isOne_c hl) (by kernel_rfl) ?_
    intro v29 I29 w29 le29 h29 s
    replace hl := TRep.mono le29 hl
    replace hr := TRep.mono le29 hr
    obtain rfl := h29
    refine ops_rule (C := []) [((φ1 0), .cells #[.bool bl, .pointer pl] 26), ((φ1 1), .cells #[.bool br, .pointer pr] 26), ((φ1 2), .cells #[.bool false, .pointer none] 26)] [] 1 [] 0 (fun φ30 => [(14, .bool (T.isOne l))]) (fun φ30 => [((φ1 0), .cells #[.bool bl, .pointer pl] 26), ((φ1 1), .cells #[.bool br, .pointer pr] 26), ((φ1 2), .cells #[.bool false, .pointer none] 26)]) (fun φ30 => []) s trivial (fun φ30 => by kernel_rfl) ?_
    intro φ30 w30 s
    rcases Bool.eq_false_or_eq_true (T.isOne l) with hc31 | hc31
    ·
      rw [hc31]
      refine ops_rule (C := []) [((φ1 0), .cells #[.bool bl, .pointer pl] 26), ((φ1 1), .cells #[.bool br, .pointer pr] 26), ((φ1 2), .cells #[.bool false, .pointer none] 26)] [] 1 [.o 1, .o 1] 0 (fun φ32 => [(15, .agg #[.bool br, .pointer pr])]) (fun φ32 => [((φ1 0), .cells #[.bool bl, .pointer pl] 26), ((φ1 1), .cells #[.bool br, .pointer pr] 26), ((φ1 2), .cells #[.bool false, .pointer none] 26)]) (fun φ32 => [(φ1 1), (φ1 1)]) s trivial (fun φ32 => by kernel_rfl) ?_
      intro φ32 w32 s
      refine call_rule (some 16) s (isOne_c hr) (by kernel_rfl) ?_
      intro v33 I33 w33 le33 h33 s
      replace hl := TRep.mono le33 hl
      replace hr := TRep.mono le33 hr
      obtain rfl := h33
      refine ops_rule (C := []) [((φ1 0), .cells #[.bool bl, .pointer pl] 26), ((φ1 1), .cells #[.bool br, .pointer pr] 26), ((φ1 2), .cells #[.bool false, .pointer none] 26)] [] 1 [] 0 (fun φ34 => [(17, .bool (T.isOne r))]) (fun φ34 => [((φ1 0), .cells #[.bool bl, .pointer pl] 26), ((φ1 1), .cells #[.bool br, .pointer pr] 26), ((φ1 2), .cells #[.bool false, .pointer none] 26)]) (fun φ34 => []) s trivial (fun φ34 => by kernel_rfl) ?_
      intro φ34 w34 s
      refine ops_done (by kernel_rfl) ?_
      rcases Bool.eq_false_or_eq_true (T.isOne r) with hc35 | hc35
      ·
        rw [hc35]
        refine cond_true_rule (b := true) (by kernel_rfl) rfl ?_
        refine wp_seq ?_
        refine region_rule ?_
        refine call_rule (some 18) s (tone_c) (by kernel_rfl) ?_
        intro v36 I36 w36 le36 h36 s
        replace hl := TRep.mono le36 hl
        replace hr := TRep.mono le36 hr
        obtain rfl := h36
        refine ops_rule (C := []) [((φ1 0), .cells #[.bool bl, .pointer pl] 26), ((φ1 1), .cells #[.bool br, .pointer pr] 26), ((φ1 2), .cells #[.bool false, .pointer none] 26)] [] 1 [.o 2, .o 2] 0 (fun φ37 => []) (fun φ37 => [((φ1 0), .cells #[.bool bl, .pointer pl] 26), ((φ1 1), .cells #[.bool br, .pointer pr] 26), ((φ1 2), .cells #[.bool true, .pointer none] 26)]) (fun φ37 => [(φ1 2), (φ1 2)]) s trivial (fun φ37 => by kernel_rfl) ?_
        intro φ37 w37 s
        refine ops_done (by kernel_rfl) ?_
        refine wp_ret ?_
        refine ret_rule (C := []) [((φ1 0), .cells #[.bool bl, .pointer pl] 26), ((φ1 1), .cells #[.bool br, .pointer pr] 26), ((φ1 2), .cells #[.bool true, .pointer none] 26)] [] (.agg #[.bool true, .pointer none]) [.o 2, .o 2] [(φ1 2), (φ1 2)] s trivial (by kernel_rfl) ?_
        exact ⟨_, _, _, rfl, s, ⟨_, _, rfl, by rw [mk_one hc31 hc35]; exact ⟨rfl, rfl⟩⟩⟩
      ·
        rw [hc35]
        refine cond_false_rule (b := false) (by kernel_rfl) rfl ?_
        refine wp_skip ?_
        refine wp_seq ?_
        refine draw_rule (C := []) ⟨(fun φ38 xs38 => [.look 0 [.o 0, .o 0] [(φ1 0), (φ1 0)], .look 0 [.o 1, .o 1] [(φ1 1), (φ1 1)], .look 0 [.o 0, .o 0] [(φ1 0), (φ1 0)], .call 45 #[.agg #[.bool bl, .pointer pl]], .look 0 [.o 1, .o 1] [(φ1 1), (φ1 1)], .call 45 #[.agg #[.bool br, .pointer pr]], .sub 0 [] [] (.int .i64 (if ((T.depth r : Nat) : Int) > ((T.depth l : Nat) : Int) then ((T.depth r : Nat) : Int) else ((T.depth l : Nat) : Int))), .sub 0 [] [] (.int .i64 (IntKind.wrap .i64 (((1 : Nat) : Int) + ((max (T.depth l) (T.depth r) : Nat) : Int)))), .look 0 [] [], .new, .look 0 [] [], .store 0 [.o 2, .o 2] [(φ1 2), (φ1 2)]]), (fun φ38 xs38 => [.agg #[.bool bl, .pointer pl], .agg #[.bool br, .pointer pr], .agg #[.bool bl, .pointer pl], .int .i64 ((T.depth l : Nat) : Int), .agg #[.bool br, .pointer pr], .int .i64 ((T.depth r : Nat) : Int), .int .i64 ((max (T.depth l) (T.depth r) : Nat) : Int), .int .i64 ((1 + (max (T.depth l) (T.depth r)) : Nat) : Int), .agg #[.bool bl, .pointer pl, .bool br, .pointer pr, .int .i64 ((1 + (max (T.depth l) (T.depth r)) : Nat) : Int)], .pointer (some ⟨(φ38 9), 0, none⟩), .agg #[.bool false, .pointer (some ⟨(φ38 9), 0, none⟩)], undef]), (fun φ38 xs38 => [[((φ1 0), .cells #[.bool bl, .pointer pl] 26), ((φ1 1), .cells #[.bool br, .pointer pr] 26), ((φ1 2), .cells #[.bool false, .pointer none] 26)], [((φ1 0), .cells #[.bool bl, .pointer pl] 26), ((φ1 1), .cells #[.bool br, .pointer pr] 26), ((φ1 2), .cells #[.bool false, .pointer (some ⟨(φ38 9), 0, none⟩)] 26)]]), (fun φ38 xs38 => [[default, default, default, default, default, default, default, default, default, .cells #[.bool bl, .pointer pl, .bool br, .pointer pr, .int .i64 ((1 + (max (T.depth l) (T.depth r)) : Nat) : Int)] 98, default, default], [default, default, default, default, default, default, default, default, default, .cells #[.bool bl, .pointer pl, .bool br, .pointer pr, .int .i64 ((1 + (max (T.depth l) (T.depth r)) : Nat) : Int)] 98, default, default]]), [11], [1, 1, 1, 3, 1, 3, 5, 5, 1, 2, 1, 4]⟩ (fun j => ([MP.any, MP.any, MP.any, MP.any, MP.any, MP.any, MP.any, MP.any, MP.any, MP.any, MP.any, MP.any] : List MP).getD j MP.any) [3, 5] [6, 7] [] (fun φ38 xs38 => [[none, none, none, none, none, none, none, none, none, none, none, none]]) (fun φ38 xs38 => [(19, .agg #[.bool bl, .pointer pl]), (20, .agg #[.bool br, .pointer pr]), (21, .agg #[.bool bl, .pointer pl]), (22, .int .i64 ((T.depth l : Nat) : Int)), (23, .agg #[.bool br, .pointer pr]), (24, .int .i64 ((T.depth r : Nat) : Int)), (25, .int .i64 ((max (T.depth l) (T.depth r) : Nat) : Int)), (26, .int .i64 ((1 + (max (T.depth l) (T.depth r)) : Nat) : Int)), (27, .agg #[.bool bl, .pointer pl, .bool br, .pointer pr, .int .i64 ((1 + (max (T.depth l) (T.depth r)) : Nat) : Int)]), (28, .pointer (some ⟨(φ38 9), 0, none⟩)), (29, .agg #[.bool false, .pointer (some ⟨(φ38 9), 0, none⟩)])]) (fun φ38 xs38 => [((φ1 0), .cells #[.bool bl, .pointer pl] 26), ((φ1 1), .cells #[.bool br, .pointer pr] 26), ((φ1 2), .cells #[.bool false, .pointer (some ⟨(φ38 9), 0, none⟩)] 26), ((φ38 9), .cells #[.bool bl, .pointer pl, .bool br, .pointer pr, .int .i64 ((1 + (max (T.depth l) (T.depth r)) : Nat) : Int)] 98)]) s trivial (by kernel_rfl) (by kernel_rfl) (fun _ _ => by kernel_rfl) (fun _ _ => by kernel_rfl) ⟨fun _ _ => by kernel_rfl, fun _ _ => by kernel_rfl, fun _ _ => by kernel_rfl, fun _ _ => by kernel_rfl⟩ (fun _ _ _ => by kernel_rfl) (fun _ _ => by kernel_rfl) (fun _ _ => by kernel_rfl) (fun _ _ => by kernel_rfl) (fun _ _ => by kernel_rfl) (fun _ _ => by kernel_rfl) ⟨kcast (A := ∀ (φ38 : Nat → Nat) (xs38 : Xs), (.int .i64 (if ((T.depth r : Nat) : Int) > ((T.depth l : Nat) : Int) then ((T.depth r : Nat) : Int) else ((T.depth l : Nat) : Int)) : Value) = .int .i64 ((max (T.depth l) (T.depth r) : Nat) : Int)) (by kernel_rfl) (fun φ38 xs38 => congrArg (Value.int .i64) ((nat_max (a := (T.depth l)) (b := (T.depth r))))), ⟨kcast (A := ∀ (φ38 : Nat → Nat) (xs38 : Xs), (.int .i64 (IntKind.wrap .i64 (((1 : Nat) : Int) + ((max (T.depth l) (T.depth r) : Nat) : Int))) : Value) = .int .i64 ((1 + (max (T.depth l) (T.depth r)) : Nat) : Int)) (by kernel_rfl) (fun φ38 xs38 => congrArg (Value.int .i64) ((nat_addI (a := 1) (b := (max (T.depth l) (T.depth r))) (by omega)))), trivial⟩⟩ trivial (by kernel_rfl) ⟨?c38_3, ?c38_5, trivial⟩ ?k38
        case c38_3 =>
          refine kcast (A := ∀ (φ38 : Nat → Nat) (xs38 : Xs) (J3_38 : IM), I33.Le J3_38 → Fun Try.prog 45 #[.agg #[.bool bl, .pointer pl]] J3_38 (fun v J' => ∃ x : UX, v = .int .i64 ((T.depth l : Nat) : Int) ∧ (True))) (by kernel_rfl) ?_
          intro φ38 xs38 J3_38 leJ
          have hl := TRep.mono leJ hl
          exact Fun.mono (tdepth_c hl) (fun v J' _ h => ⟨UX.d, h, trivial⟩)
        case c38_5 =>
          refine kcast (A := ∀ (φ38 : Nat → Nat) (xs38 : Xs) (J5_38 : IM), I33.Le J5_38 → (True) → Fun Try.prog 45 #[.agg #[.bool br, .pointer pr]] J5_38 (fun v J' => ∃ x : UX, v = .int .i64 ((T.depth r : Nat) : Int) ∧ (True))) (by kernel_rfl) ?_
          intro φ38 xs38 J5_38 leJ
          rintro _
          have hr := TRep.mono leJ hr
          exact Fun.mono (tdepth_c hr) (fun v J' _ h => ⟨UX.d, h, trivial⟩)
        case k38 =>
          rintro φ38 xs38 I38 w38 le38 s _ _
          replace hl := TRep.mono le38 hl
          replace hr := TRep.mono le38 hr
          refine wp_ret ?_
          refine ret_rule (C := []) [((φ1 0), .cells #[.bool bl, .pointer pl] 26), ((φ1 1), .cells #[.bool br, .pointer pr] 26), ((φ1 2), .cells #[.bool false, .pointer (some ⟨(φ38 9), 0, none⟩)] 26), ((φ38 9), .cells #[.bool bl, .pointer pl, .bool br, .pointer pr, .int .i64 ((1 + (max (T.depth l) (T.depth r)) : Nat) : Int)] 98)] [] (.agg #[.bool false, .pointer (some ⟨(φ38 9), 0, none⟩)]) [.o 2, .o 2] [(φ1 2), (φ1 2)] s trivial (by kernel_rfl) ?_
          obtain ⟨I39, le39, hk39, s⟩ := s.freezeAt 3 (φ38 9) (.cells #[.bool bl, .pointer pl, .bool br, .pointer pr, .int .i64 ((1 + (max (T.depth l) (T.depth r)) : Nat) : Int)] 98) [((φ1 0), .cells #[.bool bl, .pointer pl] 26), ((φ1 1), .cells #[.bool br, .pointer pr] 26), ((φ1 2), .cells #[.bool false, .pointer (some ⟨(φ38 9), 0, none⟩)] 26)] (by kernel_rfl) (by kernel_rfl)
          replace hl := TRep.mono le39 hl
          replace hr := TRep.mono le39 hr
          exact ⟨_, _, _, rfl, s, ⟨_, _, rfl, by rw [mk_node (.inl hc5) (.inr hc35)]; exact ⟨rfl, _, _, _, _, _, rfl, hk39, hl, hr⟩⟩⟩
    ·
      rw [hc31]
      refine ops_rule (C := []) [((φ1 0), .cells #[.bool bl, .pointer pl] 26), ((φ1 1), .cells #[.bool br, .pointer pr] 26), ((φ1 2), .cells #[.bool false, .pointer none] 26)] [] 3 [] 0 (fun φ40 => [(17, .bool false), (16, undef), (15, undef)]) (fun φ40 => [((φ1 0), .cells #[.bool bl, .pointer pl] 26), ((φ1 1), .cells #[.bool br, .pointer pr] 26), ((φ1 2), .cells #[.bool false, .pointer none] 26)]) (fun φ40 => []) s trivial (fun φ40 => by kernel_rfl) ?_
      intro φ40 w40 s
      refine ops_done (by kernel_rfl) ?_
      refine cond_false_rule (b := false) (by kernel_rfl) rfl ?_
      refine wp_skip ?_
      refine wp_seq ?_
      refine draw_rule (C := []) ⟨(fun φ41 xs41 => [.look 0 [.o 0, .o 0] [(φ1 0), (φ1 0)], .look 0 [.o 1, .o 1] [(φ1 1), (φ1 1)], .look 0 [.o 0, .o 0] [(φ1 0), (φ1 0)], .call 45 #[.agg #[.bool bl, .pointer pl]], .look 0 [.o 1, .o 1] [(φ1 1), (φ1 1)], .call 45 #[.agg #[.bool br, .pointer pr]], .sub 0 [] [] (.int .i64 (if ((T.depth r : Nat) : Int) > ((T.depth l : Nat) : Int) then ((T.depth r : Nat) : Int) else ((T.depth l : Nat) : Int))), .sub 0 [] [] (.int .i64 (IntKind.wrap .i64 (((1 : Nat) : Int) + ((max (T.depth l) (T.depth r) : Nat) : Int)))), .look 0 [] [], .new, .look 0 [] [], .store 0 [.o 2, .o 2] [(φ1 2), (φ1 2)]]), (fun φ41 xs41 => [.agg #[.bool bl, .pointer pl], .agg #[.bool br, .pointer pr], .agg #[.bool bl, .pointer pl], .int .i64 ((T.depth l : Nat) : Int), .agg #[.bool br, .pointer pr], .int .i64 ((T.depth r : Nat) : Int), .int .i64 ((max (T.depth l) (T.depth r) : Nat) : Int), .int .i64 ((1 + (max (T.depth l) (T.depth r)) : Nat) : Int), .agg #[.bool bl, .pointer pl, .bool br, .pointer pr, .int .i64 ((1 + (max (T.depth l) (T.depth r)) : Nat) : Int)], .pointer (some ⟨(φ41 9), 0, none⟩), .agg #[.bool false, .pointer (some ⟨(φ41 9), 0, none⟩)], undef]), (fun φ41 xs41 => [[((φ1 0), .cells #[.bool bl, .pointer pl] 26), ((φ1 1), .cells #[.bool br, .pointer pr] 26), ((φ1 2), .cells #[.bool false, .pointer none] 26)], [((φ1 0), .cells #[.bool bl, .pointer pl] 26), ((φ1 1), .cells #[.bool br, .pointer pr] 26), ((φ1 2), .cells #[.bool false, .pointer (some ⟨(φ41 9), 0, none⟩)] 26)]]), (fun φ41 xs41 => [[default, default, default, default, default, default, default, default, default, .cells #[.bool bl, .pointer pl, .bool br, .pointer pr, .int .i64 ((1 + (max (T.depth l) (T.depth r)) : Nat) : Int)] 98, default, default], [default, default, default, default, default, default, default, default, default, .cells #[.bool bl, .pointer pl, .bool br, .pointer pr, .int .i64 ((1 + (max (T.depth l) (T.depth r)) : Nat) : Int)] 98, default, default]]), [11], [1, 1, 1, 3, 1, 3, 5, 5, 1, 2, 1, 4]⟩ (fun j => ([MP.any, MP.any, MP.any, MP.any, MP.any, MP.any, MP.any, MP.any, MP.any, MP.any, MP.any, MP.any] : List MP).getD j MP.any) [3, 5] [6, 7] [] (fun φ41 xs41 => [[none, none, none, none, none, none, none, none, none, none, none, none]]) (fun φ41 xs41 => [(19, .agg #[.bool bl, .pointer pl]), (20, .agg #[.bool br, .pointer pr]), (21, .agg #[.bool bl, .pointer pl]), (22, .int .i64 ((T.depth l : Nat) : Int)), (23, .agg #[.bool br, .pointer pr]), (24, .int .i64 ((T.depth r : Nat) : Int)), (25, .int .i64 ((max (T.depth l) (T.depth r) : Nat) : Int)), (26, .int .i64 ((1 + (max (T.depth l) (T.depth r)) : Nat) : Int)), (27, .agg #[.bool bl, .pointer pl, .bool br, .pointer pr, .int .i64 ((1 + (max (T.depth l) (T.depth r)) : Nat) : Int)]), (28, .pointer (some ⟨(φ41 9), 0, none⟩)), (29, .agg #[.bool false, .pointer (some ⟨(φ41 9), 0, none⟩)])]) (fun φ41 xs41 => [((φ1 0), .cells #[.bool bl, .pointer pl] 26), ((φ1 1), .cells #[.bool br, .pointer pr] 26), ((φ1 2), .cells #[.bool false, .pointer (some ⟨(φ41 9), 0, none⟩)] 26), ((φ41 9), .cells #[.bool bl, .pointer pl, .bool br, .pointer pr, .int .i64 ((1 + (max (T.depth l) (T.depth r)) : Nat) : Int)] 98)]) s trivial (by kernel_rfl) (by kernel_rfl) (fun _ _ => by kernel_rfl) (fun _ _ => by kernel_rfl) ⟨fun _ _ => by kernel_rfl, fun _ _ => by kernel_rfl, fun _ _ => by kernel_rfl, fun _ _ => by kernel_rfl⟩ (fun _ _ _ => by kernel_rfl) (fun _ _ => by kernel_rfl) (fun _ _ => by kernel_rfl) (fun _ _ => by kernel_rfl) (fun _ _ => by kernel_rfl) (fun _ _ => by kernel_rfl) ⟨kcast (A := ∀ (φ41 : Nat → Nat) (xs41 : Xs), (.int .i64 (if ((T.depth r : Nat) : Int) > ((T.depth l : Nat) : Int) then ((T.depth r : Nat) : Int) else ((T.depth l : Nat) : Int)) : Value) = .int .i64 ((max (T.depth l) (T.depth r) : Nat) : Int)) (by kernel_rfl) (fun φ41 xs41 => congrArg (Value.int .i64) ((nat_max (a := (T.depth l)) (b := (T.depth r))))), ⟨kcast (A := ∀ (φ41 : Nat → Nat) (xs41 : Xs), (.int .i64 (IntKind.wrap .i64 (((1 : Nat) : Int) + ((max (T.depth l) (T.depth r) : Nat) : Int))) : Value) = .int .i64 ((1 + (max (T.depth l) (T.depth r)) : Nat) : Int)) (by kernel_rfl) (fun φ41 xs41 => congrArg (Value.int .i64) ((nat_addI (a := 1) (b := (max (T.depth l) (T.depth r))) (by omega)))), trivial⟩⟩ trivial (by kernel_rfl) ⟨?c41_3, ?c41_5, trivial⟩ ?k41
      case c41_3 =>
        refine kcast (A := ∀ (φ41 : Nat → Nat) (xs41 : Xs) (J3_41 : IM), I29.Le J3_41 → Fun Try.prog 45 #[.agg #[.bool bl, .pointer pl]] J3_41 (fun v J' => ∃ x : UX, v = .int .i64 ((T.depth l : Nat) : Int) ∧ (True))) (by kernel_rfl) ?_
        intro φ41 xs41 J3_41 leJ
        have hl := TRep.mono leJ hl
        exact Fun.mono (tdepth_c hl) (fun v J' _ h => ⟨UX.d, h, trivial⟩)
      case c41_5 =>
        refine kcast (A := ∀ (φ41 : Nat → Nat) (xs41 : Xs) (J5_41 : IM), I29.Le J5_41 → (True) → Fun Try.prog 45 #[.agg #[.bool br, .pointer pr]] J5_41 (fun v J' => ∃ x : UX, v = .int .i64 ((T.depth r : Nat) : Int) ∧ (True))) (by kernel_rfl) ?_
        intro φ41 xs41 J5_41 leJ
        rintro _
        have hr := TRep.mono leJ hr
        exact Fun.mono (tdepth_c hr) (fun v J' _ h => ⟨UX.d, h, trivial⟩)
      case k41 =>
        rintro φ41 xs41 I41 w41 le41 s _ _
        replace hl := TRep.mono le41 hl
        replace hr := TRep.mono le41 hr
        refine wp_ret ?_
        refine ret_rule (C := []) [((φ1 0), .cells #[.bool bl, .pointer pl] 26), ((φ1 1), .cells #[.bool br, .pointer pr] 26), ((φ1 2), .cells #[.bool false, .pointer (some ⟨(φ41 9), 0, none⟩)] 26), ((φ41 9), .cells #[.bool bl, .pointer pl, .bool br, .pointer pr, .int .i64 ((1 + (max (T.depth l) (T.depth r)) : Nat) : Int)] 98)] [] (.agg #[.bool false, .pointer (some ⟨(φ41 9), 0, none⟩)]) [.o 2, .o 2] [(φ1 2), (φ1 2)] s trivial (by kernel_rfl) ?_
        obtain ⟨I42, le42, hk42, s⟩ := s.freezeAt 3 (φ41 9) (.cells #[.bool bl, .pointer pl, .bool br, .pointer pr, .int .i64 ((1 + (max (T.depth l) (T.depth r)) : Nat) : Int)] 98) [((φ1 0), .cells #[.bool bl, .pointer pl] 26), ((φ1 1), .cells #[.bool br, .pointer pr] 26), ((φ1 2), .cells #[.bool false, .pointer (some ⟨(φ41 9), 0, none⟩)] 26)] (by kernel_rfl) (by kernel_rfl)
        replace hl := TRep.mono le42 hl
        replace hr := TRep.mono le42 hr
        exact ⟨_, _, _, rfl, s, ⟨_, _, rfl, by rw [mk_node (.inl hc5) (.inl hc31)]; exact ⟨rfl, _, _, _, _, _, rfl, hk42, hl, hr⟩⟩⟩

end Go.Proofs.Ytgdickihjaomjaa.Ev

