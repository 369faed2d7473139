/- The program's event trees. -/
import Derived.Test.YtgdickihjaomjaaDoorProg
import Derived.Test.YtgdickihjaomjaaDoorEtS6
set_option linter.all false
set_option maxRecDepth 100000
namespace Go.Proofs.YtgdickihjaomjaaDoor
open Go.RowKit Go.Sep

inductive E where
  | leaf (n : Nat)
  | node (n : Nat) (l r : E)
  deriving DecidableEq
def E.base : E → Nat
  | .leaf n => n
  | .node n _ _ => n
def E.top : E → Nat
  | .leaf n => n
  | .node n l r => n + max l.top r.top
def E.depth : E → Nat
  | .leaf _ => 0
  | .node _ l r => 1 + max l.depth r.depth
def E.isLeaf : E → Bool
  | .leaf _ => true
  | .node _ _ _ => false
def E.left : E → E
  | .leaf _ => .leaf 0
  | .node _ l _ => l
def E.right : E → E
  | .leaf _ => .leaf 0
  | .node _ _ r => r

def ERep (I : IM) : E → Nat → Option Addr → Prop
  | .leaf n, b, p => b = n ∧ p = none
  | .node n l r, b, p => b = n ∧ ∃ k bl pl br pr, p = some ⟨k, 0, none⟩ ∧
      I k = some (.cells #[.int .u64 ((bl : Nat) : Int), .pointer pl, .int .u64 ((br : Nat) : Int), .pointer pr, .int .u64 ((max l.top r.top : Nat) : Int), .int .i64 (((E.node n l r).depth : Nat) : Int)] 124) ∧ ERep I l bl pl ∧ ERep I r br pr
theorem ERep.mono {I J : IM} (le : I.Le J) : ∀ {t : E} {b : Nat} {p : Option Addr}, ERep I t b p → ERep J t b p
  | .leaf _, _, _, h => h
  | .node _ _ _, _, _, ⟨hb, k, bl, pl, br, pr, hp, hk, hl, hr⟩ => ⟨hb, k, bl, pl, br, pr, hp, le _ _ hk, hl.mono le, hr.mono le⟩
theorem ERep.base {I : IM} : ∀ {t : E} {b : Nat} {p : Option Addr}, ERep I t b p → b = t.base
  | .leaf _, _, _, h => h.1
  | .node _ _ _, _, _, h => h.1
theorem ERep.lf (I : IM) (b : Nat) : ERep I (.leaf b) b none := ⟨rfl, rfl⟩
abbrev evv (b : Nat) (p : Option Addr) : Value := .agg #[.int .u64 ((b : Nat) : Int), .pointer p]

set_option maxHeartbeats 400000 in
theorem isLeaf_c {I : IM} {t : E} {b : Nat} {p : Option Addr} (h : ERep I t b p) : Fun Tryd.prog 38 #[evv b p] I (fun v J => v = .bool t.isLeaf) := by
  cases t with
  | leaf n =>
    obtain ⟨rfl, rfl⟩ := h
    refine enter_rule 6 [(0, .agg #[.int .u64 ((b : Nat) : Int), .pointer none])] Tryd.func38 rfl (by kernel_rfl) ?_
    intro w s
    refine wp_seq ?_
    refine region_rule ?_
    refine ops_rule (C := []) [] [] 2 [] 1 (fun φ1 => [(2, .bool false), (1, .pointer (some ⟨(φ1 0), 0, none⟩))]) (fun φ1 => [((φ1 0), .cells #[.int .u64 ((b : Nat) : Int), .pointer none] 27)]) (fun φ1 => []) s trivial (fun φ1 => by kernel_rfl) ?_
    intro φ1 w1 s
    refine ops_done (by kernel_rfl) ?_
    refine wp_seq ?_
    refine region_rule ?_
    refine ops_rule (C := []) [((φ1 0), .cells #[.int .u64 ((b : Nat) : Int), .pointer none] 27)] [] 4 [.o 0] 0 (fun φ2 => [(2, .bool true), (5, .bool true), (4, .pointer none), (3, .pointer (some ⟨(φ1 0), 1, none⟩))]) (fun φ2 => [((φ1 0), .cells #[.int .u64 ((b : Nat) : Int), .pointer none] 27)]) (fun φ2 => [(φ1 0)]) s trivial (fun φ2 => by kernel_rfl) ?_
    intro φ2 w2 s
    refine ops_done (by kernel_rfl) ?_
    refine wp_ret ?_
    refine ret_rule (C := []) [((φ1 0), .cells #[.int .u64 ((b : Nat) : Int), .pointer none] 27)] [] (.bool true) [] [] s trivial (by kernel_rfl) ?_
    exact ⟨_, _, _, rfl, s, rfl⟩
  | node n l r =>
    have hn := h
    obtain ⟨rfl, k, bl, pl, br, pr, rfl, hk, hl, hr⟩ := h
    refine enter_rule 6 [(0, .agg #[.int .u64 ((b : Nat) : Int), .pointer (some ⟨k, 0, none⟩)])] Tryd.func38 rfl (by kernel_rfl) ?_
    intro w s
    refine wp_seq ?_
    refine region_rule ?_
    refine ops_rule (C := []) [] [] 2 [] 1 (fun φ1 => [(2, .bool false), (1, .pointer (some ⟨(φ1 0), 0, none⟩))]) (fun φ1 => [((φ1 0), .cells #[.int .u64 ((b : Nat) : Int), .pointer (some ⟨k, 0, none⟩)] 27)]) (fun φ1 => []) s trivial (fun φ1 => by kernel_rfl) ?_
    intro φ1 w1 s
    refine ops_done (by kernel_rfl) ?_
    refine wp_seq ?_
    refine region_rule ?_
    refine ops_rule (C := []) [((φ1 0), .cells #[.int .u64 ((b : Nat) : Int), .pointer (some ⟨k, 0, none⟩)] 27)] [] 4 [.o 0] 0 (fun φ2 => [(2, .bool false), (5, .bool false), (4, .pointer (some ⟨k, 0, none⟩)), (3, .pointer (some ⟨(φ1 0), 1, none⟩))]) (fun φ2 => [((φ1 0), .cells #[.int .u64 ((b : Nat) : Int), .pointer (some ⟨k, 0, none⟩)] 27)]) (fun φ2 => [(φ1 0)]) s trivial (fun φ2 => by kernel_rfl) ?_
    intro φ2 w2 s
    refine ops_done (by kernel_rfl) ?_
    refine wp_ret ?_
    refine ret_rule (C := []) [((φ1 0), .cells #[.int .u64 ((b : Nat) : Int), .pointer (some ⟨k, 0, none⟩)] 27)] [] (.bool false) [] [] s trivial (by kernel_rfl) ?_
    exact ⟨_, _, _, rfl, s, rfl⟩

set_option maxHeartbeats 400000 in
theorem base_c {I : IM} {t : E} {b : Nat} {p : Option Addr} (h : ERep I t b p) : Fun Tryd.prog 37 #[evv b p] I (fun v J => v = .int .u64 ((b : Nat) : Int)) := by
  cases t with
  | leaf n =>
    obtain ⟨rfl, rfl⟩ := h
    refine enter_rule 5 [(0, .agg #[.int .u64 ((b : Nat) : Int), .pointer none])] Tryd.func37 rfl (by kernel_rfl) ?_
    intro w s
    refine wp_seq ?_
    refine region_rule ?_
    refine ops_rule (C := []) [] [] 2 [] 1 (fun φ1 => [(2, .int .u64 0), (1, .pointer (some ⟨(φ1 0), 0, none⟩))]) (fun φ1 => [((φ1 0), .cells #[.int .u64 ((b : Nat) : Int), .pointer none] 27)]) (fun φ1 => []) s trivial (fun φ1 => by kernel_rfl) ?_
    intro φ1 w1 s
    refine ops_done (by kernel_rfl) ?_
    refine wp_seq ?_
    refine region_rule ?_
    refine ops_rule (C := []) [((φ1 0), .cells #[.int .u64 ((b : Nat) : Int), .pointer none] 27)] [] 3 [.o 0] 0 (fun φ2 => [(2, .int .u64 ((b : Nat) : Int)), (4, .int .u64 ((b : Nat) : Int)), (3, .pointer (some ⟨(φ1 0), 0, none⟩))]) (fun φ2 => [((φ1 0), .cells #[.int .u64 ((b : Nat) : Int), .pointer none] 27)]) (fun φ2 => [(φ1 0)]) s trivial (fun φ2 => by kernel_rfl) ?_
    intro φ2 w2 s
    refine ops_done (by kernel_rfl) ?_
    refine wp_ret ?_
    refine ret_rule (C := []) [((φ1 0), .cells #[.int .u64 ((b : Nat) : Int), .pointer none] 27)] [] (.int .u64 ((b : Nat) : Int)) [] [] s trivial (by kernel_rfl) ?_
    exact ⟨_, _, _, rfl, s, rfl⟩
  | node n l r =>
    have hn := h
    obtain ⟨rfl, k, bl, pl, br, pr, rfl, hk, hl, hr⟩ := h
    refine enter_rule 5 [(0, .agg #[.int .u64 ((b : Nat) : Int), .pointer (some ⟨k, 0, none⟩)])] Tryd.func37 rfl (by kernel_rfl) ?_
    intro w s
    refine wp_seq ?_
    refine region_rule ?_
    refine ops_rule (C := []) [] [] 2 [] 1 (fun φ1 => [(2, .int .u64 0), (1, .pointer (some ⟨(φ1 0), 0, none⟩))]) (fun φ1 => [((φ1 0), .cells #[.int .u64 ((b : Nat) : Int), .pointer (some ⟨k, 0, none⟩)] 27)]) (fun φ1 => []) s trivial (fun φ1 => by kernel_rfl) ?_
    intro φ1 w1 s
    refine ops_done (by kernel_rfl) ?_
    refine wp_seq ?_
    refine region_rule ?_
    refine ops_rule (C := []) [((φ1 0), .cells #[.int .u64 ((b : Nat) : Int), .pointer (some ⟨k, 0, none⟩)] 27)] [] 3 [.o 0] 0 (fun φ2 => [(2, .int .u64 ((b : Nat) : Int)), (4, .int .u64 ((b : Nat) : Int)), (3, .pointer (some ⟨(φ1 0), 0, none⟩))]) (fun φ2 => [((φ1 0), .cells #[.int .u64 ((b : Nat) : Int), .pointer (some ⟨k, 0, none⟩)] 27)]) (fun φ2 => [(φ1 0)]) s trivial (fun φ2 => by kernel_rfl) ?_
    intro φ2 w2 s
    refine ops_done (by kernel_rfl) ?_
    refine wp_ret ?_
    refine ret_rule (C := []) [((φ1 0), .cells #[.int .u64 ((b : Nat) : Int), .pointer (some ⟨k, 0, none⟩)] 27)] [] (.int .u64 ((b : Nat) : Int)) [] [] s trivial (by kernel_rfl) ?_
    exact ⟨_, _, _, rfl, s, rfl⟩

set_option maxHeartbeats 400000 in
theorem left_c {I : IM} {t : E} {b : Nat} {p : Option Addr} (h : ERep I t b p) : Fun Tryd.prog 39 #[evv b p] I (fun v J => ∃ b' p', v = evv b' p' ∧ ERep J t.left b' p') := by
  cases t with
  | leaf n =>
    obtain ⟨rfl, rfl⟩ := h
    refine enter_rule 11 [(0, .agg #[.int .u64 ((b : Nat) : Int), .pointer none])] Tryd.func39 rfl (by kernel_rfl) ?_
    intro w s
    refine wp_seq ?_
    refine region_rule ?_
    refine ops_rule (C := []) [] [] 2 [] 2 (fun φ1 => [(2, .pointer (some ⟨(φ1 1), 0, none⟩)), (1, .pointer (some ⟨(φ1 0), 0, none⟩))]) (fun φ1 => [((φ1 0), .cells #[.int .u64 ((b : Nat) : Int), .pointer none] 27), ((φ1 1), .cells #[.int .u64 0, .pointer none] 27)]) (fun φ1 => []) s trivial (fun φ1 => by kernel_rfl) ?_
    intro φ1 w1 s
    refine ops_done (by kernel_rfl) ?_
    refine wp_seq ?_
    refine wp_seq ?_
    refine region_rule ?_
    refine ops_rule (C := []) [((φ1 0), .cells #[.int .u64 ((b : Nat) : Int), .pointer none] 27), ((φ1 1), .cells #[.int .u64 0, .pointer none] 27)] [] 1 [.o 0, .o 0] 0 (fun φ2 => [(3, .agg #[.int .u64 ((b : Nat) : Int), .pointer none])]) (fun φ2 => [((φ1 0), .cells #[.int .u64 ((b : Nat) : Int), .pointer none] 27), ((φ1 1), .cells #[.int .u64 0, .pointer none] 27)]) (fun φ2 => [(φ1 0), (φ1 0)]) s trivial (fun φ2 => by kernel_rfl) ?_
    intro φ2 w2 s
    refine call_rule (some 4) s (isLeaf_c (ERep.lf _ b)) (by kernel_rfl) ?_
    intro v3 I3 w3 le3 h3 s
    obtain rfl := h3
    refine ops_done (by kernel_rfl) ?_
    refine cond_true_rule (b := true) (by kernel_rfl) rfl ?_
    refine wp_seq ?_
    refine region_rule ?_
    refine ops_rule (C := []) [((φ1 0), .cells #[.int .u64 ((b : Nat) : Int), .pointer none] 27), ((φ1 1), .cells #[.int .u64 0, .pointer none] 27)] [] 2 [.o 1, .o 1] 0 (fun φ4 => [(5, .agg #[.int .u64 0, .pointer none])]) (fun φ4 => [((φ1 0), .cells #[.int .u64 ((b : Nat) : Int), .pointer none] 27), ((φ1 1), .cells #[.int .u64 0, .pointer none] 27)]) (fun φ4 => [(φ1 1), (φ1 1)]) s trivial (fun φ4 => by kernel_rfl) ?_
    intro φ4 w4 s
    refine ops_done (by kernel_rfl) ?_
    refine wp_ret ?_
    refine ret_rule (C := []) [((φ1 0), .cells #[.int .u64 ((b : Nat) : Int), .pointer none] 27), ((φ1 1), .cells #[.int .u64 0, .pointer none] 27)] [] (.agg #[.int .u64 0, .pointer none]) [.o 1, .o 1] [(φ1 1), (φ1 1)] s trivial (by kernel_rfl) ?_
    exact ⟨_, _, _, rfl, s, ⟨0, none, rfl, rfl, rfl⟩⟩
  | node n l r =>
    have hn := h
    obtain ⟨rfl, k, bl, pl, br, pr, rfl, hk, hl, hr⟩ := h
    refine enter_rule 11 [(0, .agg #[.int .u64 ((b : Nat) : Int), .pointer (some ⟨k, 0, none⟩)])] Tryd.func39 rfl (by kernel_rfl) ?_
    intro w s
    refine wp_seq ?_
    refine region_rule ?_
    refine ops_rule (C := []) [] [] 2 [] 2 (fun φ1 => [(2, .pointer (some ⟨(φ1 1), 0, none⟩)), (1, .pointer (some ⟨(φ1 0), 0, none⟩))]) (fun φ1 => [((φ1 0), .cells #[.int .u64 ((b : Nat) : Int), .pointer (some ⟨k, 0, none⟩)] 27), ((φ1 1), .cells #[.int .u64 0, .pointer none] 27)]) (fun φ1 => []) s trivial (fun φ1 => by kernel_rfl) ?_
    intro φ1 w1 s
    refine ops_done (by kernel_rfl) ?_
    refine wp_seq ?_
    refine wp_seq ?_
    refine region_rule ?_
    refine ops_rule (C := []) [((φ1 0), .cells #[.int .u64 ((b : Nat) : Int), .pointer (some ⟨k, 0, none⟩)] 27), ((φ1 1), .cells #[.int .u64 0, .pointer none] 27)] [] 1 [.o 0, .o 0] 0 (fun φ2 => [(3, .agg #[.int .u64 ((b : Nat) : Int), .pointer (some ⟨k, 0, none⟩)])]) (fun φ2 => [((φ1 0), .cells #[.int .u64 ((b : Nat) : Int), .pointer (some ⟨k, 0, none⟩)] 27), ((φ1 1), .cells #[.int .u64 0, .pointer none] 27)]) (fun φ2 => [(φ1 0), (φ1 0)]) s trivial (fun φ2 => by kernel_rfl) ?_
    intro φ2 w2 s
    refine call_rule (some 4) s (isLeaf_c hn) (by kernel_rfl) ?_
    intro v3 I3 w3 le3 h3 s
    replace hl := ERep.mono le3 hl
    replace hr := ERep.mono le3 hr
    replace hn := ERep.mono le3 hn
    replace hk := le3 _ _ hk
    obtain rfl := h3
    refine ops_done (by kernel_rfl) ?_
    refine cond_false_rule (b := false) (by kernel_rfl) rfl ?_
    refine wp_skip ?_
    refine wp_seq ?_
    refine region_rule ?_
    refine ops_rule (C := [(k, .cells #[.int .u64 ((bl : Nat) : Int), .pointer pl, .int .u64 ((br : Nat) : Int), .pointer pr, .int .u64 ((max (E.top l) (E.top r) : Nat) : Int), .int .i64 ((E.depth (E.node b l r) : Nat) : Int)] 124)]) [((φ1 0), .cells #[.int .u64 ((b : Nat) : Int), .pointer (some ⟨k, 0, none⟩)] 27), ((φ1 1), .cells #[.int .u64 0, .pointer none] 27)] [] 6 [.o 0, .c 0, .c 0, .o 1, .o 1] 0 (fun φ4 => [(10, .agg #[.int .u64 ((bl : Nat) : Int), .pointer pl]), (9, .pointer (some ⟨k, 0, none⟩)), (8, .pointer (some ⟨k, 0, none⟩)), (7, .pointer (some ⟨k, 0, none⟩)), (6, .pointer (some ⟨(φ1 0), 1, none⟩))]) (fun φ4 => [((φ1 0), .cells #[.int .u64 ((b : Nat) : Int), .pointer (some ⟨k, 0, none⟩)] 27), ((φ1 1), .cells #[.int .u64 ((bl : Nat) : Int), .pointer pl] 27)]) (fun φ4 => [(φ1 0), k, k, (φ1 1), (φ1 1)]) s ⟨hk, trivial⟩ (fun φ4 => by kernel_rfl) ?_
    intro φ4 w4 s
    refine ops_done (by kernel_rfl) ?_
    refine wp_ret ?_
    refine ret_rule (C := []) [((φ1 0), .cells #[.int .u64 ((b : Nat) : Int), .pointer (some ⟨k, 0, none⟩)] 27), ((φ1 1), .cells #[.int .u64 ((bl : Nat) : Int), .pointer pl] 27)] [] (.agg #[.int .u64 ((bl : Nat) : Int), .pointer pl]) [.o 1, .o 1] [(φ1 1), (φ1 1)] s trivial (by kernel_rfl) ?_
    exact ⟨_, _, _, rfl, s, ⟨_, _, rfl, hl⟩⟩

set_option maxHeartbeats 400000 in
theorem right_c {I : IM} {t : E} {b : Nat} {p : Option Addr} (h : ERep I t b p) : Fun Tryd.prog 40 #[evv b p] I (fun v J => ∃ b' p', v = evv b' p' ∧ ERep J t.right b' p') := by
  cases t with
  | leaf n =>
    obtain ⟨rfl, rfl⟩ := h
    refine enter_rule 11 [(0, .agg #[.int .u64 ((b : Nat) : Int), .pointer none])] Tryd.func40 rfl (by kernel_rfl) ?_
    intro w s
    refine wp_seq ?_
    refine region_rule ?_
    refine ops_rule (C := []) [] [] 2 [] 2 (fun φ1 => [(2, .pointer (some ⟨(φ1 1), 0, none⟩)), (1, .pointer (some ⟨(φ1 0), 0, none⟩))]) (fun φ1 => [((φ1 0), .cells #[.int .u64 ((b : Nat) : Int), .pointer none] 27), ((φ1 1), .cells #[.int .u64 0, .pointer none] 27)]) (fun φ1 => []) s trivial (fun φ1 => by kernel_rfl) ?_
    intro φ1 w1 s
    refine ops_done (by kernel_rfl) ?_
    refine wp_seq ?_
    refine wp_seq ?_
    refine region_rule ?_
    refine ops_rule (C := []) [((φ1 0), .cells #[.int .u64 ((b : Nat) : Int), .pointer none] 27), ((φ1 1), .cells #[.int .u64 0, .pointer none] 27)] [] 1 [.o 0, .o 0] 0 (fun φ2 => [(3, .agg #[.int .u64 ((b : Nat) : Int), .pointer none])]) (fun φ2 => [((φ1 0), .cells #[.int .u64 ((b : Nat) : Int), .pointer none] 27), ((φ1 1), .cells #[.int .u64 0, .pointer none] 27)]) (fun φ2 => [(φ1 0), (φ1 0)]) s trivial (fun φ2 => by kernel_rfl) ?_
    intro φ2 w2 s
    refine call_rule (some 4) s (isLeaf_c (ERep.lf _ b)) (by kernel_rfl) ?_
    intro v3 I3 w3 le3 h3 s
    obtain rfl := h3
    refine ops_done (by kernel_rfl) ?_
    refine cond_true_rule (b := true) (by kernel_rfl) rfl ?_
    refine wp_seq ?_
    refine region_rule ?_
    refine ops_rule (C := []) [((φ1 0), .cells #[.int .u64 ((b : Nat) : Int), .pointer none] 27), ((φ1 1), .cells #[.int .u64 0, .pointer none] 27)] [] 2 [.o 1, .o 1] 0 (fun φ4 => [(5, .agg #[.int .u64 0, .pointer none])]) (fun φ4 => [((φ1 0), .cells #[.int .u64 ((b : Nat) : Int), .pointer none] 27), ((φ1 1), .cells #[.int .u64 0, .pointer none] 27)]) (fun φ4 => [(φ1 1), (φ1 1)]) s trivial (fun φ4 => by kernel_rfl) ?_
    intro φ4 w4 s
    refine ops_done (by kernel_rfl) ?_
    refine wp_ret ?_
    refine ret_rule (C := []) [((φ1 0), .cells #[.int .u64 ((b : Nat) : Int), .pointer none] 27), ((φ1 1), .cells #[.int .u64 0, .pointer none] 27)] [] (.agg #[.int .u64 0, .pointer none]) [.o 1, .o 1] [(φ1 1), (φ1 1)] s trivial (by kernel_rfl) ?_
    exact ⟨_, _, _, rfl, s, ⟨0, none, rfl, rfl, rfl⟩⟩
  | node n l r =>
    have hn := h
    obtain ⟨rfl, k, bl, pl, br, pr, rfl, hk, hl, hr⟩ := h
    refine enter_rule 11 [(0, .agg #[.int .u64 ((b : Nat) : Int), .pointer (some ⟨k, 0, none⟩)])] Tryd.func40 rfl (by kernel_rfl) ?_
    intro w s
    refine wp_seq ?_
    refine region_rule ?_
    refine ops_rule (C := []) [] [] 2 [] 2 (fun φ1 => [(2, .pointer (some ⟨(φ1 1), 0, none⟩)), (1, .pointer (some ⟨(φ1 0), 0, none⟩))]) (fun φ1 => [((φ1 0), .cells #[.int .u64 ((b : Nat) : Int), .pointer (some ⟨k, 0, none⟩)] 27), ((φ1 1), .cells #[.int .u64 0, .pointer none] 27)]) (fun φ1 => []) s trivial (fun φ1 => by kernel_rfl) ?_
    intro φ1 w1 s
    refine ops_done (by kernel_rfl) ?_
    refine wp_seq ?_
    refine wp_seq ?_
    refine region_rule ?_
    refine ops_rule (C := []) [((φ1 0), .cells #[.int .u64 ((b : Nat) : Int), .pointer (some ⟨k, 0, none⟩)] 27), ((φ1 1), .cells #[.int .u64 0, .pointer none] 27)] [] 1 [.o 0, .o 0] 0 (fun φ2 => [(3, .agg #[.int .u64 ((b : Nat) : Int), .pointer (some ⟨k, 0, none⟩)])]) (fun φ2 => [((φ1 0), .cells #[.int .u64 ((b : Nat) : Int), .pointer (some ⟨k, 0, none⟩)] 27), ((φ1 1), .cells #[.int .u64 0, .pointer none] 27)]) (fun φ2 => [(φ1 0), (φ1 0)]) s trivial (fun φ2 => by kernel_rfl) ?_
    intro φ2 w2 s
    refine call_rule (some 4) s (isLeaf_c hn) (by kernel_rfl) ?_
    intro v3 I3 w3 le3 h3 s
    replace hl := ERep.mono le3 hl
    replace hr := ERep.mono le3 hr
    replace hn := ERep.mono le3 hn
    replace hk := le3 _ _ hk
    obtain rfl := h3
    refine ops_done (by kernel_rfl) ?_
    refine cond_false_rule (b := false) (by kernel_rfl) rfl ?_
    refine wp_skip ?_
    refine wp_seq ?_
    refine region_rule ?_
    refine ops_rule (C := [(k, .cells #[.int .u64 ((bl : Nat) : Int), .pointer pl, .int .u64 ((br : Nat) : Int), .pointer pr, .int .u64 ((max (E.top l) (E.top r) : Nat) : Int), .int .i64 ((E.depth (E.node b l r) : Nat) : Int)] 124)]) [((φ1 0), .cells #[.int .u64 ((b : Nat) : Int), .pointer (some ⟨k, 0, none⟩)] 27), ((φ1 1), .cells #[.int .u64 0, .pointer none] 27)] [] 6 [.o 0, .c 0, .c 0, .o 1, .o 1] 0 (fun φ4 => [(10, .agg #[.int .u64 ((br : Nat) : Int), .pointer pr]), (9, .pointer (some ⟨k, 2, none⟩)), (8, .pointer (some ⟨k, 0, none⟩)), (7, .pointer (some ⟨k, 0, none⟩)), (6, .pointer (some ⟨(φ1 0), 1, none⟩))]) (fun φ4 => [((φ1 0), .cells #[.int .u64 ((b : Nat) : Int), .pointer (some ⟨k, 0, none⟩)] 27), ((φ1 1), .cells #[.int .u64 ((br : Nat) : Int), .pointer pr] 27)]) (fun φ4 => [(φ1 0), k, k, (φ1 1), (φ1 1)]) s ⟨hk, trivial⟩ (fun φ4 => by kernel_rfl) ?_
    intro φ4 w4 s
    refine ops_done (by kernel_rfl) ?_
    refine wp_ret ?_
    refine ret_rule (C := []) [((φ1 0), .cells #[.int .u64 ((b : Nat) : Int), .pointer (some ⟨k, 0, none⟩)] 27), ((φ1 1), .cells #[.int .u64 ((br : Nat) : Int), .pointer pr] 27)] [] (.agg #[.int .u64 ((br : Nat) : Int), .pointer pr]) [.o 1, .o 1] [(φ1 1), (φ1 1)] s trivial (by kernel_rfl) ?_
    exact ⟨_, _, _, rfl, s, ⟨_, _, rfl, hr⟩⟩

set_option maxHeartbeats 400000 in
theorem depth_c {I : IM} {t : E} {b : Nat} {p : Option Addr} (h : ERep I t b p) : Fun Tryd.prog 35 #[evv b p] I (fun v J => v = .int .i64 ((t.depth : Nat) : Int)) := by
  cases t with
  | leaf n =>
    obtain ⟨rfl, rfl⟩ := h
    refine enter_rule 10 [(0, .agg #[.int .u64 ((b : Nat) : Int), .pointer none])] Tryd.func35 rfl (by kernel_rfl) ?_
    intro w s
    refine wp_seq ?_
    refine region_rule ?_
    refine ops_rule (C := []) [] [] 2 [] 1 (fun φ1 => [(2, .int .i64 0), (1, .pointer (some ⟨(φ1 0), 0, none⟩))]) (fun φ1 => [((φ1 0), .cells #[.int .u64 ((b : Nat) : Int), .pointer none] 27)]) (fun φ1 => []) s trivial (fun φ1 => by kernel_rfl) ?_
    intro φ1 w1 s
    refine ops_done (by kernel_rfl) ?_
    refine wp_seq ?_
    refine wp_seq ?_
    refine region_rule ?_
    refine ops_rule (C := []) [((φ1 0), .cells #[.int .u64 ((b : Nat) : Int), .pointer none] 27)] [] 1 [.o 0, .o 0] 0 (fun φ2 => [(3, .agg #[.int .u64 ((b : Nat) : Int), .pointer none])]) (fun φ2 => [((φ1 0), .cells #[.int .u64 ((b : Nat) : Int), .pointer none] 27)]) (fun φ2 => [(φ1 0), (φ1 0)]) s trivial (fun φ2 => by kernel_rfl) ?_
    intro φ2 w2 s
    refine call_rule (some 4) s (isLeaf_c (ERep.lf _ b)) (by kernel_rfl) ?_
    intro v3 I3 w3 le3 h3 s
    obtain rfl := h3
    refine ops_done (by kernel_rfl) ?_
    refine cond_true_rule (b := true) (by kernel_rfl) rfl ?_
    refine wp_seq ?_
    refine region_rule ?_
    refine ops_rule (C := []) [((φ1 0), .cells #[.int .u64 ((b : Nat) : Int), .pointer none] 27)] [] 1 [] 0 (fun φ4 => [(2, .int .i64 0)]) (fun φ4 => [((φ1 0), .cells #[.int .u64 ((b : Nat) : Int), .pointer none] 27)]) (fun φ4 => []) s trivial (fun φ4 => by kernel_rfl) ?_
    intro φ4 w4 s
    refine ops_done (by kernel_rfl) ?_
    refine wp_ret ?_
    refine ret_rule (C := []) [((φ1 0), .cells #[.int .u64 ((b : Nat) : Int), .pointer none] 27)] [] (.int .i64 0) [] [] s trivial (by kernel_rfl) ?_
    exact ⟨_, _, _, rfl, s, rfl⟩
  | node n l r =>
    have hn := h
    obtain ⟨rfl, k, bl, pl, br, pr, rfl, hk, hl, hr⟩ := h
    refine enter_rule 10 [(0, .agg #[.int .u64 ((b : Nat) : Int), .pointer (some ⟨k, 0, none⟩)])] Tryd.func35 rfl (by kernel_rfl) ?_
    intro w s
    refine wp_seq ?_
    refine region_rule ?_
    refine ops_rule (C := []) [] [] 2 [] 1 (fun φ1 => [(2, .int .i64 0), (1, .pointer (some ⟨(φ1 0), 0, none⟩))]) (fun φ1 => [((φ1 0), .cells #[.int .u64 ((b : Nat) : Int), .pointer (some ⟨k, 0, none⟩)] 27)]) (fun φ1 => []) s trivial (fun φ1 => by kernel_rfl) ?_
    intro φ1 w1 s
    refine ops_done (by kernel_rfl) ?_
    refine wp_seq ?_
    refine wp_seq ?_
    refine region_rule ?_
    refine ops_rule (C := []) [((φ1 0), .cells #[.int .u64 ((b : Nat) : Int), .pointer (some ⟨k, 0, none⟩)] 27)] [] 1 [.o 0, .o 0] 0 (fun φ2 => [(3, .agg #[.int .u64 ((b : Nat) : Int), .pointer (some ⟨k, 0, none⟩)])]) (fun φ2 => [((φ1 0), .cells #[.int .u64 ((b : Nat) : Int), .pointer (some ⟨k, 0, none⟩)] 27)]) (fun φ2 => [(φ1 0), (φ1 0)]) s trivial (fun φ2 => by kernel_rfl) ?_
    intro φ2 w2 s
    refine call_rule (some 4) s (isLeaf_c hn) (by kernel_rfl) ?_
    intro v3 I3 w3 le3 h3 s
    replace hl := ERep.mono le3 hl
    replace hr := ERep.mono le3 hr
    replace hn := ERep.mono le3 hn
    replace hk := le3 _ _ hk
    obtain rfl := h3
    refine ops_done (by kernel_rfl) ?_
    refine cond_false_rule (b := false) (by kernel_rfl) rfl ?_
    refine wp_skip ?_
    refine wp_seq ?_
    refine region_rule ?_
    refine ops_rule (C := [(k, .cells #[.int .u64 ((bl : Nat) : Int), .pointer pl, .int .u64 ((br : Nat) : Int), .pointer pr, .int .u64 ((max (E.top l) (E.top r) : Nat) : Int), .int .i64 ((E.depth (E.node b l r) : Nat) : Int)] 124)]) [((φ1 0), .cells #[.int .u64 ((b : Nat) : Int), .pointer (some ⟨k, 0, none⟩)] 27)] [] 6 [.o 0, .c 0] 0 (fun φ4 => [(2, .int .i64 ((E.depth (E.node b l r) : Nat) : Int)), (9, .int .i64 ((E.depth (E.node b l r) : Nat) : Int)), (8, .pointer (some ⟨k, 5, none⟩)), (7, .pointer (some ⟨k, 0, none⟩)), (6, .pointer (some ⟨k, 0, none⟩)), (5, .pointer (some ⟨(φ1 0), 1, none⟩))]) (fun φ4 => [((φ1 0), .cells #[.int .u64 ((b : Nat) : Int), .pointer (some ⟨k, 0, none⟩)] 27)]) (fun φ4 => [(φ1 0), k]) s ⟨hk, trivial⟩ (fun φ4 => by kernel_rfl) ?_
    intro φ4 w4 s
    refine ops_done (by kernel_rfl) ?_
    refine wp_ret ?_
    refine ret_rule (C := []) [((φ1 0), .cells #[.int .u64 ((b : Nat) : Int), .pointer (some ⟨k, 0, none⟩)] 27)] [] (.int .i64 ((E.depth (E.node b l r) : Nat) : Int)) [] [] s trivial (by kernel_rfl) ?_
    exact ⟨_, _, _, rfl, s, rfl⟩

set_option maxHeartbeats 400000 in
theorem min_c {I : IM} {t : E} {b : Nat} {p : Option Addr} (h : ERep I t b p) : Fun Tryd.prog 72 #[evv b p] I (fun v J => v = .int .u64 ((b : Nat) : Int)) := by
  cases t with
  | leaf n =>
    obtain ⟨rfl, rfl⟩ := h
    refine enter_rule 5 [(0, .agg #[.int .u64 ((b : Nat) : Int), .pointer none])] Tryd.func72 rfl (by kernel_rfl) ?_
    intro w s
    refine wp_seq ?_
    refine region_rule ?_
    refine ops_rule (C := []) [] [] 2 [] 1 (fun φ1 => [(2, .int .u64 0), (1, .pointer (some ⟨(φ1 0), 0, none⟩))]) (fun φ1 => [((φ1 0), .cells #[.int .u64 ((b : Nat) : Int), .pointer none] 27)]) (fun φ1 => []) s trivial (fun φ1 => by kernel_rfl) ?_
    intro φ1 w1 s
    refine ops_done (by kernel_rfl) ?_
    refine wp_seq ?_
    refine region_rule ?_
    refine ops_rule (C := []) [((φ1 0), .cells #[.int .u64 ((b : Nat) : Int), .pointer none] 27)] [] 3 [.o 0] 0 (fun φ2 => [(2, .int .u64 ((b : Nat) : Int)), (4, .int .u64 ((b : Nat) : Int)), (3, .pointer (some ⟨(φ1 0), 0, none⟩))]) (fun φ2 => [((φ1 0), .cells #[.int .u64 ((b : Nat) : Int), .pointer none] 27)]) (fun φ2 => [(φ1 0)]) s trivial (fun φ2 => by kernel_rfl) ?_
    intro φ2 w2 s
    refine ops_done (by kernel_rfl) ?_
    refine wp_ret ?_
    refine ret_rule (C := []) [((φ1 0), .cells #[.int .u64 ((b : Nat) : Int), .pointer none] 27)] [] (.int .u64 ((b : Nat) : Int)) [] [] s trivial (by kernel_rfl) ?_
    exact ⟨_, _, _, rfl, s, rfl⟩
  | node n l r =>
    have hn := h
    obtain ⟨rfl, k, bl, pl, br, pr, rfl, hk, hl, hr⟩ := h
    refine enter_rule 5 [(0, .agg #[.int .u64 ((b : Nat) : Int), .pointer (some ⟨k, 0, none⟩)])] Tryd.func72 rfl (by kernel_rfl) ?_
    intro w s
    refine wp_seq ?_
    refine region_rule ?_
    refine ops_rule (C := []) [] [] 2 [] 1 (fun φ1 => [(2, .int .u64 0), (1, .pointer (some ⟨(φ1 0), 0, none⟩))]) (fun φ1 => [((φ1 0), .cells #[.int .u64 ((b : Nat) : Int), .pointer (some ⟨k, 0, none⟩)] 27)]) (fun φ1 => []) s trivial (fun φ1 => by kernel_rfl) ?_
    intro φ1 w1 s
    refine ops_done (by kernel_rfl) ?_
    refine wp_seq ?_
    refine region_rule ?_
    refine ops_rule (C := []) [((φ1 0), .cells #[.int .u64 ((b : Nat) : Int), .pointer (some ⟨k, 0, none⟩)] 27)] [] 3 [.o 0] 0 (fun φ2 => [(2, .int .u64 ((b : Nat) : Int)), (4, .int .u64 ((b : Nat) : Int)), (3, .pointer (some ⟨(φ1 0), 0, none⟩))]) (fun φ2 => [((φ1 0), .cells #[.int .u64 ((b : Nat) : Int), .pointer (some ⟨k, 0, none⟩)] 27)]) (fun φ2 => [(φ1 0)]) s trivial (fun φ2 => by kernel_rfl) ?_
    intro φ2 w2 s
    refine ops_done (by kernel_rfl) ?_
    refine wp_ret ?_
    refine ret_rule (C := []) [((φ1 0), .cells #[.int .u64 ((b : Nat) : Int), .pointer (some ⟨k, 0, none⟩)] 27)] [] (.int .u64 ((b : Nat) : Int)) [] [] s trivial (by kernel_rfl) ?_
    exact ⟨_, _, _, rfl, s, rfl⟩

set_option maxHeartbeats 400000 in
theorem max_c {I : IM} {t : E} {b : Nat} {p : Option Addr} (h : ERep I t b p) (ht : t.top < 18446744073709551616) : Fun Tryd.prog 34 #[evv b p] I (fun v J => v = .int .u64 ((t.top : Nat) : Int)) := by
  cases t with
  | leaf n =>
    obtain ⟨rfl, rfl⟩ := h
    refine enter_rule 15 [(0, .agg #[.int .u64 ((b : Nat) : Int), .pointer none])] Tryd.func34 rfl (by kernel_rfl) ?_
    intro w s
    refine wp_seq ?_
    refine region_rule ?_
    refine ops_rule (C := []) [] [] 2 [] 1 (fun φ1 => [(2, .int .u64 0), (1, .pointer (some ⟨(φ1 0), 0, none⟩))]) (fun φ1 => [((φ1 0), .cells #[.int .u64 ((b : Nat) : Int), .pointer none] 27)]) (fun φ1 => []) s trivial (fun φ1 => by kernel_rfl) ?_
    intro φ1 w1 s
    refine ops_done (by kernel_rfl) ?_
    refine wp_seq ?_
    refine wp_seq ?_
    refine region_rule ?_
    refine ops_rule (C := []) [((φ1 0), .cells #[.int .u64 ((b : Nat) : Int), .pointer none] 27)] [] 1 [.o 0, .o 0] 0 (fun φ2 => [(3, .agg #[.int .u64 ((b : Nat) : Int), .pointer none])]) (fun φ2 => [((φ1 0), .cells #[.int .u64 ((b : Nat) : Int), .pointer none] 27)]) (fun φ2 => [(φ1 0), (φ1 0)]) s trivial (fun φ2 => by kernel_rfl) ?_
    intro φ2 w2 s
    refine call_rule (some 4) s (isLeaf_c (ERep.lf _ b)) (by kernel_rfl) ?_
    intro v3 I3 w3 le3 h3 s
    obtain rfl := h3
    refine ops_done (by kernel_rfl) ?_
    refine cond_true_rule (b := true) (by kernel_rfl) rfl ?_
    refine wp_seq ?_
    refine region_rule ?_
    refine ops_rule (C := []) [((φ1 0), .cells #[.int .u64 ((b : Nat) : Int), .pointer none] 27)] [] 3 [.o 0] 0 (fun φ4 => [(2, .int .u64 ((b : Nat) : Int)), (6, .int .u64 ((b : Nat) : Int)), (5, .pointer (some ⟨(φ1 0), 0, none⟩))]) (fun φ4 => [((φ1 0), .cells #[.int .u64 ((b : Nat) : Int), .pointer none] 27)]) (fun φ4 => [(φ1 0)]) s trivial (fun φ4 => by kernel_rfl) ?_
    intro φ4 w4 s
    refine ops_done (by kernel_rfl) ?_
    refine wp_ret ?_
    refine ret_rule (C := []) [((φ1 0), .cells #[.int .u64 ((b : Nat) : Int), .pointer none] 27)] [] (.int .u64 ((b : Nat) : Int)) [] [] s trivial (by kernel_rfl) ?_
    exact ⟨_, _, _, rfl, s, rfl⟩
  | node n l r =>
    have hn := h
    obtain ⟨rfl, k, bl, pl, br, pr, rfl, hk, hl, hr⟩ := h
    refine enter_rule 15 [(0, .agg #[.int .u64 ((b : Nat) : Int), .pointer (some ⟨k, 0, none⟩)])] Tryd.func34 rfl (by kernel_rfl) ?_
    intro w s
    refine wp_seq ?_
    refine region_rule ?_
    refine ops_rule (C := []) [] [] 2 [] 1 (fun φ1 => [(2, .int .u64 0), (1, .pointer (some ⟨(φ1 0), 0, none⟩))]) (fun φ1 => [((φ1 0), .cells #[.int .u64 ((b : Nat) : Int), .pointer (some ⟨k, 0, none⟩)] 27)]) (fun φ1 => []) s trivial (fun φ1 => by kernel_rfl) ?_
    intro φ1 w1 s
    refine ops_done (by kernel_rfl) ?_
    refine wp_seq ?_
    refine wp_seq ?_
    refine region_rule ?_
    refine ops_rule (C := []) [((φ1 0), .cells #[.int .u64 ((b : Nat) : Int), .pointer (some ⟨k, 0, none⟩)] 27)] [] 1 [.o 0, .o 0] 0 (fun φ2 => [(3, .agg #[.int .u64 ((b : Nat) : Int), .pointer (some ⟨k, 0, none⟩)])]) (fun φ2 => [((φ1 0), .cells #[.int .u64 ((b : Nat) : Int), .pointer (some ⟨k, 0, none⟩)] 27)]) (fun φ2 => [(φ1 0), (φ1 0)]) s trivial (fun φ2 => by kernel_rfl) ?_
    intro φ2 w2 s
    refine call_rule (some 4) s (isLeaf_c hn) (by kernel_rfl) ?_
    intro v3 I3 w3 le3 h3 s
    replace hl := ERep.mono le3 hl
    replace hr := ERep.mono le3 hr
    replace hn := ERep.mono le3 hn
    replace hk := le3 _ _ hk
    obtain rfl := h3
    refine ops_done (by kernel_rfl) ?_
    refine cond_false_rule (b := false) (by kernel_rfl) rfl ?_
    refine wp_skip ?_
    refine wp_seq ?_
    refine draw_rule (C := [(k, .cells #[.int .u64 ((bl : Nat) : Int), .pointer pl, .int .u64 ((br : Nat) : Int), .pointer pr, .int .u64 ((max (E.top l) (E.top r) : Nat) : Int), .int .i64 ((E.depth (E.node b l r) : Nat) : Int)] 124)]) ⟨(fun φ4 xs4 => [.look 0 [] [], .look 0 [.o 0] [(φ1 0)], .look 0 [] [], .look 0 [.o 0] [(φ1 0)], .look 0 [] [], .look 0 [] [], .look 0 [.c 0] [k], .sub 0 [] [] (.int .u64 (IntKind.wrap .u64 (((b : Nat) : Int) + ((max (E.top l) (E.top r) : Nat) : Int)))), .look 0 [] []]), (fun φ4 xs4 => [.pointer (some ⟨(φ1 0), 0, none⟩), .int .u64 ((b : Nat) : Int), .pointer (some ⟨(φ1 0), 1, none⟩), .pointer (some ⟨k, 0, none⟩), .pointer (some ⟨k, 0, none⟩), .pointer (some ⟨k, 4, none⟩), .int .u64 ((max (E.top l) (E.top r) : Nat) : Int), .int .u64 ((b + (max (E.top l) (E.top r)) : Nat) : Int), .int .u64 ((b + (max (E.top l) (E.top r)) : Nat) : Int)]), (fun φ4 xs4 => [[((φ1 0), .cells #[.int .u64 ((b : Nat) : Int), .pointer (some ⟨k, 0, none⟩)] 27)]]), (fun φ4 xs4 => [[default, default, default, default, default, default, default, default, default]]), [], [1, 1, 1, 1, 1, 1, 1, 5, 1]⟩ (fun j => ([MP.any, MP.any, MP.any, MP.any, MP.any, MP.any, MP.any, MP.any, MP.any] : List MP).getD j MP.any) [] [7] [] (fun φ4 xs4 => []) (fun φ4 xs4 => [(7, .pointer (some ⟨(φ1 0), 0, none⟩)), (8, .int .u64 ((b : Nat) : Int)), (9, .pointer (some ⟨(φ1 0), 1, none⟩)), (10, .pointer (some ⟨k, 0, none⟩)), (11, .pointer (some ⟨k, 0, none⟩)), (12, .pointer (some ⟨k, 4, none⟩)), (13, .int .u64 ((max (E.top l) (E.top r) : Nat) : Int)), (14, .int .u64 ((b + (max (E.top l) (E.top r)) : Nat) : Int)), (2, .int .u64 ((b + (max (E.top l) (E.top r)) : Nat) : Int))]) (fun φ4 xs4 => [((φ1 0), .cells #[.int .u64 ((b : Nat) : Int), .pointer (some ⟨k, 0, none⟩)] 27)]) s ⟨hk, trivial⟩ (by kernel_rfl) (by kernel_rfl) (fun _ _ => by kernel_rfl) (fun _ _ => by kernel_rfl) ⟨fun _ _ => by kernel_rfl, fun _ _ => by kernel_rfl, fun _ _ => by kernel_rfl, fun _ _ => by kernel_rfl⟩ (fun _ _ _ => by kernel_rfl) (fun _ _ => by kernel_rfl) (fun _ _ => by kernel_rfl) (fun _ _ => by kernel_rfl) (fun _ _ => by kernel_rfl) (fun _ _ => by kernel_rfl) ⟨kcast (A := ∀ (φ4 : Nat → Nat) (xs4 : Xs), (.int .u64 (IntKind.wrap .u64 (((b : Nat) : Int) + ((max (E.top l) (E.top r) : Nat) : Int))) : Value) = .int .u64 ((b + (max (E.top l) (E.top r)) : Nat) : Int)) (by kernel_rfl) (fun φ4 xs4 => congrArg (Value.int .u64) ((nat_addU (a := b) (b := (max (E.top l) (E.top r))) (by simpa [E.top] using ht)))), trivial⟩ trivial (by kernel_rfl) trivial ?k4
    case k4 =>
      rintro φ4 xs4 I4 w4 le4 s 
      replace hl := ERep.mono le4 hl
      replace hr := ERep.mono le4 hr
      replace hn := ERep.mono le4 hn
      replace hk := le4 _ _ hk
      refine wp_ret ?_
      refine ret_rule (C := []) [((φ1 0), .cells #[.int .u64 ((b : Nat) : Int), .pointer (some ⟨k, 0, none⟩)] 27)] [] (.int .u64 ((b + (max (E.top l) (E.top r)) : Nat) : Int)) [] [] s trivial (by kernel_rfl) ?_
      exact ⟨_, _, _, rfl, s, rfl⟩

end Go.Proofs.YtgdickihjaomjaaDoor
