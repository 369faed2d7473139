/- share: weights -/
import Derived.Test.YtgdickihjaomjaaSwM20
import Derived.Test.YtgdickihjaomjaaSwM21
set_option linter.all false
set_option maxRecDepth 100000
namespace Go.Proofs.Ytgdickihjaomjaa.Ev
open Go.RowKit Go.Sep
attribute [local irreducible] Go.wpList Go.Code.wp
theorem dW_sm {k : Nat} {e : E} {i : T} (hk : k ≤ 16) (ht : e.top ≤ 10000) : (dW k e i).1 ≤ 655360000 ∧ (dW k e i).2 ≤ 10000 := by
  have h := dW_le k e i
  have h2 : 2 ^ k ≤ 2 ^ 16 := Nat.pow_le_pow_right (by omega) hk
  have h3 : e.top * 2 ^ k ≤ 10000 * 2 ^ 16 := Nat.mul_le_mul ht h2
  omega
theorem up_zero (e : E) : E.up 0 e = e := by cases e <;> rfl
theorem w_node_eq {k low n : Nat} {l r : E} {i : T} : dW (k + 1) (E.up low (.node n l r)) i = ((dW k (E.up (low + n) l) i.left).1 + (dW k (E.up (low + n) r) i.right).1, max (dW k (E.up (low + n) l) i.left).2 (dW k (E.up (low + n) r) i.right).2) := by
  simp only [dW, E.up, E.base, E.left, E.right, Nat.add_comm n low]
theorem pow_le16 {k : Nat} (h : k ≤ 16) : 2 ^ k ≤ 65536 := Nat.pow_le_pow_right (n := 2) (by omega) h
theorem mul_sm {m k : Nat} (h : k ≤ 16) (hm : m ≤ 10000) : m * 2 ^ k ≤ 655360000 := by
  have := Nat.mul_le_mul hm (pow_le16 h); omega
theorem widk_sm {m k : Nat} {t : T} (h : k ≤ 16) (hd : t.depth ≤ k) (hm : m ≤ 10000) : m * widT t k ≤ 655360000 := by
  have h1 := Nat.mul_le_mul hm (wid_le k hd)
  have h2 := mul_sm h (Nat.le_refl 10000); omega
theorem depth_cnt {t : T} (h : t.depth ≤ 16) : cntT t ≤ 100000 := by
  have h1 := cntT_le t
  have h2 : 2 ^ t.depth ≤ 2 ^ 16 := Nat.pow_le_pow_right (by omega) h
  omega
theorem w_swap (low n k : Nat) : (low + n) * 65536 * 2 ^ k = (low + n) * 2 ^ k * 65536 := by rw [Nat.mul_assoc, Nat.mul_comm 65536, ← Nat.mul_assoc]
theorem max_parts (a b : Nat) : max (a * 65536) (b * 65536) = max a b * 65536 := by omega
theorem le_53 {a : Nat} (h : a ≤ 655360000) : a < 2 ^ 53 := by omega
theorem le_53b {a : Nat} (h : a ≤ 10000) : a * 65536 < 2 ^ 53 := by omega
theorem le_53s {a b : Nat} (h : a ≤ 655360000) (h2 : b ≤ 655360000) : a + b < 2 ^ 53 := by omega

set_option maxHeartbeats 1000000 in
theorem w_leaf {I : IM} {n low k : Nat} {i : T} {ib : Bool} {ip : Option Addr} (hi : TRep I i ib ip) (hn : i.nf) (hk16 : k ≤ 16) (hdi : i.depth ≤ k) (hl9 : low + n ≤ 10000) : Fun Try.prog 50 #[evv n none, idv ib ip, .int .u64 ((low : Nat) : Int), .float .f64 (dF (2 ^ k))] I (fun v J => v = .complex .f64 (dF (dW k (E.up low (.leaf n)) i).1) (dF ((dW k (E.up low (.leaf n)) i).2 * 65536))) := by
  refine enter_rule 58 [(0, .agg #[.int .u64 ((n : Nat) : Int), .pointer none]), (1, .agg #[.bool ib, .pointer ip]), (2, .int .u64 ((low : Nat) : Int)), (3, .float .f64 (dF (2 ^ k)))] Try.func50 rfl (by kernel_rfl) ?_
  intro w s
  refine wp_seq ?_
  refine region_rule ?_
  refine ops_rule (C := []) [] [] 3 [] 2 (fun φ1 => [(8, .complex .f64 0 0), (5, .pointer (some ⟨(φ1 1), 0, none⟩)), (4, .pointer (some ⟨(φ1 0), 0, none⟩))]) (fun φ1 => [((φ1 0), .cells #[.int .u64 ((n : Nat) : Int), .pointer none] 57), ((φ1 1), .cells #[.bool ib, .pointer ip] 26)]) (fun φ1 => []) s trivial (fun φ1 => by kernel_rfl) ?_
  intro φ1 w1 s
  refine ops_done (by kernel_rfl) ?_
  refine wp_seq ?_
  refine wp_seq ?_
  refine region_rule ?_
  refine ops_rule (C := []) [((φ1 0), .cells #[.int .u64 ((n : Nat) : Int), .pointer none] 57), ((φ1 1), .cells #[.bool ib, .pointer ip] 26)] [] 1 [.o 1, .o 1] 0 (fun φ2 => [(12, .agg #[.bool ib, .pointer ip])]) (fun φ2 => [((φ1 0), .cells #[.int .u64 ((n : Nat) : Int), .pointer none] 57), ((φ1 1), .cells #[.bool ib, .pointer ip] 26)]) (fun φ2 => [(φ1 1), (φ1 1)]) s trivial (fun φ2 => by kernel_rfl) ?_
  intro φ2 w2 s
  refine call_rule (some 13) s (isZero_c hi) (by kernel_rfl) ?_
  intro v3 I3 w3 le3 h3 s
  replace hi := TRep.mono le3 hi
  obtain rfl := h3
  refine ops_done (by kernel_rfl) ?_
  rcases Bool.eq_false_or_eq_true (T.isZero i) with hc4 | hc4
  ·
    rw [hc4]
    refine cond_true_rule (b := true) (by kernel_rfl) rfl ?_
    refine wp_seq ?_
    refine region_rule ?_
    refine ops_rule (C := []) [((φ1 0), .cells #[.int .u64 ((n : Nat) : Int), .pointer none] 57), ((φ1 1), .cells #[.bool ib, .pointer ip] 26)] [] 1 [] 0 (fun φ5 => [(8, .complex .f64 0 0)]) (fun φ5 => [((φ1 0), .cells #[.int .u64 ((n : Nat) : Int), .pointer none] 57), ((φ1 1), .cells #[.bool ib, .pointer ip] 26)]) (fun φ5 => []) s trivial (fun φ5 => by kernel_rfl) ?_
    intro φ5 w5 s
    refine ops_done (by kernel_rfl) ?_
    refine wp_ret ?_
    refine ret_rule (C := []) [((φ1 0), .cells #[.int .u64 ((n : Nat) : Int), .pointer none] 57), ((φ1 1), .cells #[.bool ib, .pointer ip] 26)] [] (.complex .f64 0 0) [] [] s trivial (by kernel_rfl) ?_
    exact ⟨_, _, _, rfl, s, (by rw [isZero_eq hc4, dW_zero]; simp only [Nat.zero_mul, dF_zero])⟩
  ·
    rw [hc4]
    refine cond_false_rule (b := false) (by kernel_rfl) rfl ?_
    refine wp_skip ?_
    refine wp_seq ?_
    refine region_rule ?_
    refine ops_rule (C := []) [((φ1 0), .cells #[.int .u64 ((n : Nat) : Int), .pointer none] 57), ((φ1 1), .cells #[.bool ib, .pointer ip] 26)] [] 2 [.o 0, .o 0] 0 (fun φ6 => [(15, .agg #[.int .u64 ((n : Nat) : Int), .pointer none]), (14, .int .u64 ((low : Nat) : Int))]) (fun φ6 => [((φ1 0), .cells #[.int .u64 ((n : Nat) : Int), .pointer none] 57), ((φ1 1), .cells #[.bool ib, .pointer ip] 26)]) (fun φ6 => [(φ1 0), (φ1 0)]) s trivial (fun φ6 => by kernel_rfl) ?_
    intro φ6 w6 s
    refine call_rule (some 16) s (base_c (ERep.lf _ n)) (by kernel_rfl) ?_
    intro v7 I7 w7 le7 h7 s
    replace hi := TRep.mono le7 hi
    obtain rfl := h7
    refine ops_rule (C := []) [((φ1 0), .cells #[.int .u64 ((n : Nat) : Int), .pointer none] 57), ((φ1 1), .cells #[.bool ib, .pointer ip] 26)] [] 2 [] 0 (fun φ8 => [(2, .int .u64 (IntKind.wrap .u64 (((low : Nat) : Int) + ((n : Nat) : Int)))), (17, .int .u64 (IntKind.wrap .u64 (((low : Nat) : Int) + ((n : Nat) : Int))))]) (fun φ8 => [((φ1 0), .cells #[.int .u64 ((n : Nat) : Int), .pointer none] 57), ((φ1 1), .cells #[.bool ib, .pointer ip] 26)]) (fun φ8 => []) s trivial (fun φ8 => by kernel_rfl) ?_
    intro φ8 w8 s
    rw [nat_addU (a := low) (b := n) (by omega)]
    refine ops_done (by kernel_rfl) ?_
    refine wp_seq ?_
    refine wp_seq ?_
    refine region_rule ?_
    refine ops_rule (C := []) [((φ1 0), .cells #[.int .u64 ((n : Nat) : Int), .pointer none] 57), ((φ1 1), .cells #[.bool ib, .pointer ip] 26)] [] 1 [.o 0, .o 0] 0 (fun φ9 => [(18, .agg #[.int .u64 ((n : Nat) : Int), .pointer none])]) (fun φ9 => [((φ1 0), .cells #[.int .u64 ((n : Nat) : Int), .pointer none] 57), ((φ1 1), .cells #[.bool ib, .pointer ip] 26)]) (fun φ9 => [(φ1 0), (φ1 0)]) s trivial (fun φ9 => by kernel_rfl) ?_
    intro φ9 w9 s
    refine call_rule (some 19) s (isLeaf_c (ERep.lf _ n)) (by kernel_rfl) ?_
    intro v10 I10 w10 le10 h10 s
    replace hi := TRep.mono le10 hi
    obtain rfl := h10
    refine ops_done (by kernel_rfl) ?_
    refine cond_true_rule (b := true) (by kernel_rfl) rfl ?_
    refine wp_seq ?_
    refine region_rule ?_
    refine ops_rule (C := []) [((φ1 0), .cells #[.int .u64 ((n : Nat) : Int), .pointer none] 57), ((φ1 1), .cells #[.bool ib, .pointer ip] 26)] [] 1 [] 0 (fun φ11 => [(20, .int .u64 ((low + n : Nat) : Int))]) (fun φ11 => [((φ1 0), .cells #[.int .u64 ((n : Nat) : Int), .pointer none] 57), ((φ1 1), .cells #[.bool ib, .pointer ip] 26)]) (fun φ11 => []) s trivial (fun φ11 => by kernel_rfl) ?_
    intro φ11 w11 s
    refine sem_rule (convert 34 37 (.int .u64 ((low + n : Nat) : Int))) (some 21) (.float .f64 (dF ((low + n) * 65536))) (by kernel_rfl) ((run_wholeF34 (le_53b hl9))) ?_
    refine ops_rule (C := []) [((φ1 0), .cells #[.int .u64 ((n : Nat) : Int), .pointer none] 57), ((φ1 1), .cells #[.bool ib, .pointer ip] 26)] [] 1 [] 0 (fun φ12 => [(9, .float .f64 (dF ((low + n) * 65536)))]) (fun φ12 => [((φ1 0), .cells #[.int .u64 ((n : Nat) : Int), .pointer none] 57), ((φ1 1), .cells #[.bool ib, .pointer ip] 26)]) (fun φ12 => []) s trivial (fun φ12 => by kernel_rfl) ?_
    intro φ12 w12 s
    refine ops_done (by kernel_rfl) ?_
    refine wp_seq ?_
    refine region_rule ?_
    refine ops_rule (C := []) [((φ1 0), .cells #[.int .u64 ((n : Nat) : Int), .pointer none] 57), ((φ1 1), .cells #[.bool ib, .pointer ip] 26)] [] 2 [] 0 (fun φ13 => [(23, .float .f64 (dF (2 ^ k))), (22, .float .f64 (dF ((low + n) * 65536)))]) (fun φ13 => [((φ1 0), .cells #[.int .u64 ((n : Nat) : Int), .pointer none] 57), ((φ1 1), .cells #[.bool ib, .pointer ip] 26)]) (fun φ13 => []) s trivial (fun φ13 => by kernel_rfl) ?_
    intro φ13 w13 s
    refine sem_rule (binOp .mul 37 (.float .f64 (dF ((low + n) * 65536))) (.float .f64 (dF (2 ^ k)))) (some 24) (.float .f64 (dF ((low + n) * 2 ^ k))) (by kernel_rfl) (run_mulF (le_53b hl9) (by have := pow_le16 hk16; omega) (le_53 (mul_sm hk16 hl9)) (w_swap low n k)) ?_
    refine ops_rule (C := []) [((φ1 0), .cells #[.int .u64 ((n : Nat) : Int), .pointer none] 57), ((φ1 1), .cells #[.bool ib, .pointer ip] 26)] [] 1 [.o 1, .o 1] 0 (fun φ14 => [(25, .agg #[.bool ib, .pointer ip])]) (fun φ14 => [((φ1 0), .cells #[.int .u64 ((n : Nat) : Int), .pointer none] 57), ((φ1 1), .cells #[.bool ib, .pointer ip] 26)]) (fun φ14 => [(φ1 1), (φ1 1)]) s trivial (fun φ14 => by kernel_rfl) ?_
    intro φ14 w14 s
    refine call_rule (some 26) s (measure_c hi (depth_cnt (by omega)) (by omega)) (by kernel_rfl) ?_
    intro v15 I15 w15 le15 h15 s
    replace hi := TRep.mono le15 hi
    obtain rfl := h15
    refine sem_rule (Builtin.real_ #[35] 37 #[.complex .f64 (dF (widT i 16)) (dF (cntT i * 65536))]) (some 27) (.float .f64 (dF (widT i 16))) (by kernel_rfl) ((by kernel_rfl : ((Builtin.real_ #[35] 37 #[.complex .f64 (dF (widT i 16)) (dF (cntT i * 65536))]) : Sem Value).run Try.prog w15 = .ok (.float .f64 (dF (widT i 16))) w15)) ?_
    refine sem_rule (binOp .mul 37 (.float .f64 (dF ((low + n) * 2 ^ k))) (.float .f64 (dF (widT i 16)))) (some 28) (.float .f64 (dF ((low + n) * widT i k))) (by kernel_rfl) (run_mulF (le_53 (mul_sm hk16 hl9)) (by have := wid_le 16 (t := i) (by omega); omega) (le_53 (widk_sm hk16 hdi hl9)) (wid_mul hk16 hdi)) ?_
    refine ops_rule (C := []) [((φ1 0), .cells #[.int .u64 ((n : Nat) : Int), .pointer none] 57), ((φ1 1), .cells #[.bool ib, .pointer ip] 26)] [] 1 [] 0 (fun φ16 => [(29, .float .f64 (dF ((low + n) * 65536)))]) (fun φ16 => [((φ1 0), .cells #[.int .u64 ((n : Nat) : Int), .pointer none] 57), ((φ1 1), .cells #[.bool ib, .pointer ip] 26)]) (fun φ16 => []) s trivial (fun φ16 => by kernel_rfl) ?_
    intro φ16 w16 s
    refine sem_rule (Builtin.complex_ #[37, 37] 35 #[.float .f64 (dF ((low + n) * widT i k)), .float .f64 (dF ((low + n) * 65536))]) (some 30) (.complex .f64 (dF ((low + n) * widT i k)) (dF ((low + n) * 65536))) (by kernel_rfl) ((by kernel_rfl : ((Builtin.complex_ #[37, 37] 35 #[.float .f64 (dF ((low + n) * widT i k)), .float .f64 (dF ((low + n) * 65536))]) : Sem Value).run Try.prog w16 = .ok (.complex .f64 (dF ((low + n) * widT i k)) (dF ((low + n) * 65536))) w16)) ?_
    refine ops_rule (C := []) [((φ1 0), .cells #[.int .u64 ((n : Nat) : Int), .pointer none] 57), ((φ1 1), .cells #[.bool ib, .pointer ip] 26)] [] 1 [] 0 (fun φ17 => [(8, .complex .f64 (dF ((low + n) * widT i k)) (dF ((low + n) * 65536)))]) (fun φ17 => [((φ1 0), .cells #[.int .u64 ((n : Nat) : Int), .pointer none] 57), ((φ1 1), .cells #[.bool ib, .pointer ip] 26)]) (fun φ17 => []) s trivial (fun φ17 => by kernel_rfl) ?_
    intro φ17 w17 s
    refine ops_done (by kernel_rfl) ?_
    refine wp_ret ?_
    refine ret_rule (C := []) [((φ1 0), .cells #[.int .u64 ((n : Nat) : Int), .pointer none] 57), ((φ1 1), .cells #[.bool ib, .pointer ip] 26)] [] (.complex .f64 (dF ((low + n) * widT i k)) (dF ((low + n) * 65536))) [] [] s trivial (by kernel_rfl) ?_
    exact ⟨_, _, _, rfl, s, (by rw [show E.up low (.leaf n) = .leaf (low + n) from congrArg E.leaf (Nat.add_comm n low), dW_leaf k (low + n) hdi hn hc4])⟩

set_option maxHeartbeats 1000000 in
theorem w_node {I : IM} {n low k : Nat} {l r : E} {ep : Option Addr} {i : T} {ib : Bool} {ip : Option Addr} (he : ERep I (.node n l r) n ep) (hi : TRep I i ib ip) (hn : i.nf) (hk16 : k ≤ 16) (hsl : (dW k (E.up (low + n) l) i.left).1 ≤ 655360000 ∧ (dW k (E.up (low + n) l) i.left).2 ≤ 10000) (hsr : (dW k (E.up (low + n) r) i.right).1 ≤ 655360000 ∧ (dW k (E.up (low + n) r) i.right).2 ≤ 10000) (hl9 : low + n ≤ 10000) (ihl : ∀ {J : IM} {b : Nat} {p : Option Addr} {jb : Bool} {jp : Option Addr}, ERep J l b p → TRep J i.left jb jp → Fun Try.prog 50 #[evv b p, idv jb jp, .int .u64 ((low + n : Nat) : Int), .float .f64 (dF (2 ^ k))] J (fun v J => v = .complex .f64 (dF (dW k (E.up (low + n) l) i.left).1) (dF ((dW k (E.up (low + n) l) i.left).2 * 65536)))) (ihr : ∀ {J : IM} {b : Nat} {p : Option Addr} {jb : Bool} {jp : Option Addr}, ERep J r b p → TRep J i.right jb jp → Fun Try.prog 50 #[evv b p, idv jb jp, .int .u64 ((low + n : Nat) : Int), .float .f64 (dF (2 ^ k))] J (fun v J => v = .complex .f64 (dF (dW k (E.up (low + n) r) i.right).1) (dF ((dW k (E.up (low + n) r) i.right).2 * 65536)))) : Fun Try.prog 50 #[evv n ep, idv ib ip, .int .u64 ((low : Nat) : Int), .float .f64 (dF (2 * 2 ^ k))] I (fun v J => v = .complex .f64 (dF (dW (k + 1) (E.up low (.node n l r)) i).1) (dF ((dW (k + 1) (E.up low (.node n l r)) i).2 * 65536))) := by
  have he9 := he
  obtain ⟨-, q, bl, pl, br, pr, rfl, hq, hl, hr⟩ := he9
  refine enter_rule 58 [(0, .agg #[.int .u64 ((n : Nat) : Int), .pointer (some ⟨q, 0, none⟩)]), (1, .agg #[.bool ib, .pointer ip]), (2, .int .u64 ((low : Nat) : Int)), (3, .float .f64 (dF (2 * 2 ^ k)))] Try.func50 rfl (by kernel_rfl) ?_
  intro w s
  refine wp_seq ?_
  refine region_rule ?_
  refine ops_rule (C := []) [] [] 3 [] 2 (fun φ1 => [(8, .complex .f64 0 0), (5, .pointer (some ⟨(φ1 1), 0, none⟩)), (4, .pointer (some ⟨(φ1 0), 0, none⟩))]) (fun φ1 => [((φ1 0), .cells #[.int .u64 ((n : Nat) : Int), .pointer (some ⟨q, 0, none⟩)] 57), ((φ1 1), .cells #[.bool ib, .pointer ip] 26)]) (fun φ1 => []) s trivial (fun φ1 => by kernel_rfl) ?_
  intro φ1 w1 s
  refine ops_done (by kernel_rfl) ?_
  refine wp_seq ?_
  refine wp_seq ?_
  refine region_rule ?_
  refine ops_rule (C := []) [((φ1 0), .cells #[.int .u64 ((n : Nat) : Int), .pointer (some ⟨q, 0, none⟩)] 57), ((φ1 1), .cells #[.bool ib, .pointer ip] 26)] [] 1 [.o 1, .o 1] 0 (fun φ2 => [(12, .agg #[.bool ib, .pointer ip])]) (fun φ2 => [((φ1 0), .cells #[.int .u64 ((n : Nat) : Int), .pointer (some ⟨q, 0, none⟩)] 57), ((φ1 1), .cells #[.bool ib, .pointer ip] 26)]) (fun φ2 => [(φ1 1), (φ1 1)]) s trivial (fun φ2 => by kernel_rfl) ?_
  intro φ2 w2 s
  refine call_rule (some 13) s (isZero_c hi) (by kernel_rfl) ?_
  intro v3 I3 w3 le3 h3 s
  replace hi := TRep.mono le3 hi
  replace hl := ERep.mono le3 hl
  replace hr := ERep.mono le3 hr
  replace he := ERep.mono le3 he
  replace hq := le3 _ _ hq
  obtain rfl := h3
  refine ops_done (by kernel_rfl) ?_
  rcases Bool.eq_false_or_eq_true (T.isZero i) with hc4 | hc4
  ·
    rw [hc4]
    refine cond_true_rule (b := true) (by kernel_rfl) rfl ?_
    refine wp_seq ?_
    refine region_rule ?_
    refine ops_rule (C := []) [((φ1 0), .cells #[.int .u64 ((n : Nat) : Int), .pointer (some ⟨q, 0, none⟩)] 57), ((φ1 1), .cells #[.bool ib, .pointer ip] 26)] [] 1 [] 0 (fun φ5 => [(8, .complex .f64 0 0)]) (fun φ5 => [((φ1 0), .cells #[.int .u64 ((n : Nat) : Int), .pointer (some ⟨q, 0, none⟩)] 57), ((φ1 1), .cells #[.bool ib, .pointer ip] 26)]) (fun φ5 => []) s trivial (fun φ5 => by kernel_rfl) ?_
    intro φ5 w5 s
    refine ops_done (by kernel_rfl) ?_
    refine wp_ret ?_
    refine ret_rule (C := []) [((φ1 0), .cells #[.int .u64 ((n : Nat) : Int), .pointer (some ⟨q, 0, none⟩)] 57), ((φ1 1), .cells #[.bool ib, .pointer ip] 26)] [] (.complex .f64 0 0) [] [] s trivial (by kernel_rfl) ?_
    exact ⟨_, _, _, rfl, s, (by rw [isZero_eq hc4, dW_zero]; simp only [Nat.zero_mul, dF_zero])⟩
  ·
    rw [hc4]
    refine cond_false_rule (b := false) (by kernel_rfl) rfl ?_
    refine wp_skip ?_
    refine wp_seq ?_
    refine region_rule ?_
    refine ops_rule (C := []) [((φ1 0), .cells #[.int .u64 ((n : Nat) : Int), .pointer (some ⟨q, 0, none⟩)] 57), ((φ1 1), .cells #[.bool ib, .pointer ip] 26)] [] 2 [.o 0, .o 0] 0 (fun φ6 => [(15, .agg #[.int .u64 ((n : Nat) : Int), .pointer (some ⟨q, 0, none⟩)]), (14, .int .u64 ((low : Nat) : Int))]) (fun φ6 => [((φ1 0), .cells #[.int .u64 ((n : Nat) : Int), .pointer (some ⟨q, 0, none⟩)] 57), ((φ1 1), .cells #[.bool ib, .pointer ip] 26)]) (fun φ6 => [(φ1 0), (φ1 0)]) s trivial (fun φ6 => by kernel_rfl) ?_
    intro φ6 w6 s
    refine call_rule (some 16) s (base_c he) (by kernel_rfl) ?_
    intro v7 I7 w7 le7 h7 s
    replace hi := TRep.mono le7 hi
    replace hl := ERep.mono le7 hl
    replace hr := ERep.mono le7 hr
    replace he := ERep.mono le7 he
    replace hq := le7 _ _ hq
    obtain rfl := h7
    refine ops_rule (C := []) [((φ1 0), .cells #[.int .u64 ((n : Nat) : Int), .pointer (some ⟨q, 0, none⟩)] 57), ((φ1 1), .cells #[.bool ib, .pointer ip] 26)] [] 2 [] 0 (fun φ8 => [(2, .int .u64 (IntKind.wrap .u64 (((low : Nat) : Int) + ((n : Nat) : Int)))), (17, .int .u64 (IntKind.wrap .u64 (((low : Nat) : Int) + ((n : Nat) : Int))))]) (fun φ8 => [((φ1 0), .cells #[.int .u64 ((n : Nat) : Int), .pointer (some ⟨q, 0, none⟩)] 57), ((φ1 1), .cells #[.bool ib, .pointer ip] 26)]) (fun φ8 => []) s trivial (fun φ8 => by kernel_rfl) ?_
    intro φ8 w8 s
    rw [nat_addU (a := low) (b := n) (by omega)]
    refine ops_done (by kernel_rfl) ?_
    refine wp_seq ?_
    refine wp_seq ?_
    refine region_rule ?_
    refine ops_rule (C := []) [((φ1 0), .cells #[.int .u64 ((n : Nat) : Int), .pointer (some ⟨q, 0, none⟩)] 57), ((φ1 1), .cells #[.bool ib, .pointer ip] 26)] [] 1 [.o 0, .o 0] 0 (fun φ9 => [(18, .agg #[.int .u64 ((n : Nat) : Int), .pointer (some ⟨q, 0, none⟩)])]) (fun φ9 => [((φ1 0), .cells #[.int .u64 ((n : Nat) : Int), .pointer (some ⟨q, 0, none⟩)] 57), ((φ1 1), .cells #[.bool ib, .pointer ip] 26)]) (fun φ9 => [(φ1 0), (φ1 0)]) s trivial (fun φ9 => by kernel_rfl) ?_
    intro φ9 w9 s
    refine call_rule (some 19) s (isLeaf_c he) (by kernel_rfl) ?_
    intro v10 I10 w10 le10 h10 s
    replace hi := TRep.mono le10 hi
    replace hl := ERep.mono le10 hl
    replace hr := ERep.mono le10 hr
    replace he := ERep.mono le10 he
    replace hq := le10 _ _ hq
    obtain rfl := h10
    refine ops_done (by kernel_rfl) ?_
    refine cond_false_rule (b := false) (by kernel_rfl) rfl ?_
    refine wp_skip ?_
    refine wp_seq ?_
    refine draw_rule (C := []) ⟨(fun φ11 xs11 => [.look 0 [.o 0, .o 0] [(φ1 0), (φ1 0)], .call 66 #[.agg #[.int .u64 ((n : Nat) : Int), .pointer (some ⟨q, 0, none⟩)]], .look 0 [.o 1, .o 1] [(φ1 1), (φ1 1)], .call 42 #[.agg #[.bool ib, .pointer ip]], .look 0 [] [], .look 0 [] [], .ran (binOp .quo 37 (.float .f64 (dF (2 * 2 ^ k))) (.float .f64 4611686018427387904)), .call 50 #[.agg #[.int .u64 (((xs11 1).n 0 : Nat) : Int), .pointer ((xs11 1).p 0)], .agg #[.bool ((xs11 3).b 0), .pointer ((xs11 3).p 0)], .int .u64 ((low + n : Nat) : Int), .float .f64 (dF (2 ^ k))], .look 0 [] []]), (fun φ11 xs11 => [.agg #[.int .u64 ((n : Nat) : Int), .pointer (some ⟨q, 0, none⟩)], .agg #[.int .u64 (((xs11 1).n 0 : Nat) : Int), .pointer ((xs11 1).p 0)], .agg #[.bool ib, .pointer ip], .agg #[.bool ((xs11 3).b 0), .pointer ((xs11 3).p 0)], .int .u64 ((low + n : Nat) : Int), .float .f64 (dF (2 * 2 ^ k)), .float .f64 (dF (2 ^ k)), .complex .f64 (dF ((dW k (E.up (low + n) l) (T.left i)).1)) (dF ((dW k (E.up (low + n) l) (T.left i)).2 * 65536)), .complex .f64 (dF ((dW k (E.up (low + n) l) (T.left i)).1)) (dF ((dW k (E.up (low + n) l) (T.left i)).2 * 65536))]), (fun φ11 xs11 => [[((φ1 0), .cells #[.int .u64 ((n : Nat) : Int), .pointer (some ⟨q, 0, none⟩)] 57), ((φ1 1), .cells #[.bool ib, .pointer ip] 26)]]), (fun φ11 xs11 => [[default, default, default, default, default, default, default, default, default]]), [], [1, 3, 1, 3, 1, 1, 6, 3, 1]⟩ (fun j => ([MP.any, ⟨fun x J => ERep J l (x.n 0) (x.p 0), fun le h => ERep.mono le h⟩, MP.any, ⟨fun x J => TRep J (T.left i) (x.b 0) (x.p 0), fun le h => TRep.mono le h⟩, MP.any, MP.any, MP.any, MP.any, MP.any] : List MP).getD j MP.any) [1, 3, 7] [] [6] (fun φ11 xs11 => []) (fun φ11 xs11 => [(31, .agg #[.int .u64 ((n : Nat) : Int), .pointer (some ⟨q, 0, none⟩)]), (32, .agg #[.int .u64 (((xs11 1).n 0 : Nat) : Int), .pointer ((xs11 1).p 0)]), (33, .agg #[.bool ib, .pointer ip]), (34, .agg #[.bool ((xs11 3).b 0), .pointer ((xs11 3).p 0)]), (35, .int .u64 ((low + n : Nat) : Int)), (36, .float .f64 (dF (2 * 2 ^ k))), (37, .float .f64 (dF (2 ^ k))), (38, .complex .f64 (dF ((dW k (E.up (low + n) l) (T.left i)).1)) (dF ((dW k (E.up (low + n) l) (T.left i)).2 * 65536))), (10, .complex .f64 (dF ((dW k (E.up (low + n) l) (T.left i)).1)) (dF ((dW k (E.up (low + n) l) (T.left i)).2 * 65536)))]) (fun φ11 xs11 => [((φ1 0), .cells #[.int .u64 ((n : Nat) : Int), .pointer (some ⟨q, 0, none⟩)] 57), ((φ1 1), .cells #[.bool ib, .pointer ip] 26)]) s trivial (by kernel_rfl) (by kernel_rfl) (fun _ _ => by kernel_rfl) (fun _ _ => by kernel_rfl) ⟨fun _ _ => by kernel_rfl, fun _ _ => by kernel_rfl, fun _ _ => by kernel_rfl, fun _ _ => by kernel_rfl⟩ (fun _ _ _ => by kernel_rfl) (fun _ _ => by kernel_rfl) (fun _ _ => by kernel_rfl) (fun _ _ => by kernel_rfl) (fun _ _ => by kernel_rfl) (fun _ _ => by kernel_rfl) trivial ⟨kcast (A := ∀ (φ11 : Nat → Nat) (xs11 : Xs) (J : IM) (w : World), I10.Le J → J.Sub w → ((binOp .quo 37 (.float .f64 (dF (2 * 2 ^ k))) (.float .f64 4611686018427387904)) : Sem Value).run Try.prog w = .ok (.float .f64 (dF (2 ^ k))) w) (by kernel_rfl) (fun φ11 xs11 J w hJ hS => run_halfF (by  have := pow_le16 hk16; omega)), trivial⟩ (by kernel_rfl) ⟨?c11_1, ?c11_3, ?c11_7, trivial⟩ ?k11
    case c11_1 =>
      refine kcast (A := ∀ (φ11 : Nat → Nat) (xs11 : Xs) (J1_11 : IM), I10.Le J1_11 → Fun Try.prog 66 #[.agg #[.int .u64 ((n : Nat) : Int), .pointer (some ⟨q, 0, none⟩)]] J1_11 (fun v J' => ∃ x : UX, v = .agg #[.int .u64 ((x.n 0 : Nat) : Int), .pointer (x.p 0)] ∧ (ERep J' l (x.n 0) (x.p 0)))) (by kernel_rfl) ?_
      intro φ11 xs11 J1_11 leJ
      have he := ERep.mono leJ he
      exact Fun.mono (left_c he) (fun v J' _ ⟨y0, y1, hv, g0⟩ => ⟨{ UX.d with n := fun j => y0, p := fun j => y1 }, hv, g0⟩)
    case c11_3 =>
      refine kcast (A := ∀ (φ11 : Nat → Nat) (xs11 : Xs) (J3_11 : IM), I10.Le J3_11 → (ERep J3_11 l ((xs11 1).n 0) ((xs11 1).p 0)) → Fun Try.prog 42 #[.agg #[.bool ib, .pointer ip]] J3_11 (fun v J' => ∃ x : UX, v = .agg #[.bool (x.b 0), .pointer (x.p 0)] ∧ (TRep J' (T.left i) (x.b 0) (x.p 0)))) (by kernel_rfl) ?_
      intro φ11 xs11 J3_11 leJ
      rintro h11_1_0
      have hi := TRep.mono leJ hi
      exact Fun.mono (tleft_c hi) (fun v J' _ ⟨y0, y1, hv, g0⟩ => ⟨{ UX.d with b := fun j => y0, p := fun j => y1 }, hv, g0⟩)
    case c11_7 =>
      refine kcast (A := ∀ (φ11 : Nat → Nat) (xs11 : Xs) (J7_11 : IM), I10.Le J7_11 → (ERep J7_11 l ((xs11 1).n 0) ((xs11 1).p 0)) → (TRep J7_11 (T.left i) ((xs11 3).b 0) ((xs11 3).p 0)) → Fun Try.prog 50 #[.agg #[.int .u64 (((xs11 1).n 0 : Nat) : Int), .pointer ((xs11 1).p 0)], .agg #[.bool ((xs11 3).b 0), .pointer ((xs11 3).p 0)], .int .u64 ((low + n : Nat) : Int), .float .f64 (dF (2 ^ k))] J7_11 (fun v J' => ∃ x : UX, v = .complex .f64 (dF ((dW k (E.up (low + n) l) (T.left i)).1)) (dF ((dW k (E.up (low + n) l) (T.left i)).2 * 65536)) ∧ (True))) (by kernel_rfl) ?_
      intro φ11 xs11 J7_11 leJ
      rintro h11_1_0 h11_3_0
      exact Fun.mono (ihl h11_1_0 h11_3_0) (fun v J' _ h => ⟨UX.d, h, trivial⟩)
    case k11 =>
      rintro φ11 xs11 I11 w11 le11 s h11_1_0 h11_3_0 _
      replace hi := TRep.mono le11 hi
      replace hl := ERep.mono le11 hl
      replace hr := ERep.mono le11 hr
      replace he := ERep.mono le11 he
      replace hq := le11 _ _ hq
      refine wp_seq ?_
      refine draw_rule (C := []) ⟨(fun φ12 xs12 => [.look 0 [.o 0, .o 0] [(φ1 0), (φ1 0)], .call 67 #[.agg #[.int .u64 ((n : Nat) : Int), .pointer (some ⟨q, 0, none⟩)]], .look 0 [.o 1, .o 1] [(φ1 1), (φ1 1)], .call 43 #[.agg #[.bool ib, .pointer ip]], .look 0 [] [], .look 0 [] [], .ran (binOp .quo 37 (.float .f64 (dF (2 * 2 ^ k))) (.float .f64 4611686018427387904)), .call 50 #[.agg #[.int .u64 (((xs12 1).n 0 : Nat) : Int), .pointer ((xs12 1).p 0)], .agg #[.bool ((xs12 3).b 0), .pointer ((xs12 3).p 0)], .int .u64 ((low + n : Nat) : Int), .float .f64 (dF (2 ^ k))], .look 0 [] []]), (fun φ12 xs12 => [.agg #[.int .u64 ((n : Nat) : Int), .pointer (some ⟨q, 0, none⟩)], .agg #[.int .u64 (((xs12 1).n 0 : Nat) : Int), .pointer ((xs12 1).p 0)], .agg #[.bool ib, .pointer ip], .agg #[.bool ((xs12 3).b 0), .pointer ((xs12 3).p 0)], .int .u64 ((low + n : Nat) : Int), .float .f64 (dF (2 * 2 ^ k)), .float .f64 (dF (2 ^ k)), .complex .f64 (dF ((dW k (E.up (low + n) r) (T.right i)).1)) (dF ((dW k (E.up (low + n) r) (T.right i)).2 * 65536)), .complex .f64 (dF ((dW k (E.up (low + n) r) (T.right i)).1)) (dF ((dW k (E.up (low + n) r) (T.right i)).2 * 65536))]), (fun φ12 xs12 => [[((φ1 0), .cells #[.int .u64 ((n : Nat) : Int), .pointer (some ⟨q, 0, none⟩)] 57), ((φ1 1), .cells #[.bool ib, .pointer ip] 26)]]), (fun φ12 xs12 => [[default, default, default, default, default, default, default, default, default]]), [], [1, 3, 1, 3, 1, 1, 6, 3, 1]⟩ (fun j => ([MP.any, ⟨fun x J => ERep J r (x.n 0) (x.p 0), fun le h => ERep.mono le h⟩, MP.any, ⟨fun x J => TRep J (T.right i) (x.b 0) (x.p 0), fun le h => TRep.mono le h⟩, MP.any, MP.any, MP.any, MP.any, MP.any] : List MP).getD j MP.any) [1, 3, 7] [] [6] (fun φ12 xs12 => []) (fun φ12 xs12 => [(39, .agg #[.int .u64 ((n : Nat) : Int), .pointer (some ⟨q, 0, none⟩)]), (40, .agg #[.int .u64 (((xs12 1).n 0 : Nat) : Int), .pointer ((xs12 1).p 0)]), (41, .agg #[.bool ib, .pointer ip]), (42, .agg #[.bool ((xs12 3).b 0), .pointer ((xs12 3).p 0)]), (43, .int .u64 ((low + n : Nat) : Int)), (44, .float .f64 (dF (2 * 2 ^ k))), (45, .float .f64 (dF (2 ^ k))), (46, .complex .f64 (dF ((dW k (E.up (low + n) r) (T.right i)).1)) (dF ((dW k (E.up (low + n) r) (T.right i)).2 * 65536))), (11, .complex .f64 (dF ((dW k (E.up (low + n) r) (T.right i)).1)) (dF ((dW k (E.up (low + n) r) (T.right i)).2 * 65536)))]) (fun φ12 xs12 => [((φ1 0), .cells #[.int .u64 ((n : Nat) : Int), .pointer (some ⟨q, 0, none⟩)] 57), ((φ1 1), .cells #[.bool ib, .pointer ip] 26)]) s trivial (by kernel_rfl) (by kernel_rfl) (fun _ _ => by kernel_rfl) (fun _ _ => by kernel_rfl) ⟨fun _ _ => by kernel_rfl, fun _ _ => by kernel_rfl, fun _ _ => by kernel_rfl, fun _ _ => by kernel_rfl⟩ (fun _ _ _ => by kernel_rfl) (fun _ _ => by kernel_rfl) (fun _ _ => by kernel_rfl) (fun _ _ => by kernel_rfl) (fun _ _ => by kernel_rfl) (fun _ _ => by kernel_rfl) trivial ⟨kcast (A := ∀ (φ12 : Nat → Nat) (xs12 : Xs) (J : IM) (w : World), I11.Le J → J.Sub w → ((binOp .quo 37 (.float .f64 (dF (2 * 2 ^ k))) (.float .f64 4611686018427387904)) : Sem Value).run Try.prog w = .ok (.float .f64 (dF (2 ^ k))) w) (by kernel_rfl) (fun φ12 xs12 J w hJ hS => run_halfF (by  have := pow_le16 hk16; omega)), trivial⟩ (by kernel_rfl) ⟨?c12_1, ?c12_3, ?c12_7, trivial⟩ ?k12
      case c12_1 =>
        refine kcast (A := ∀ (φ12 : Nat → Nat) (xs12 : Xs) (J1_12 : IM), I11.Le J1_12 → Fun Try.prog 67 #[.agg #[.int .u64 ((n : Nat) : Int), .pointer (some ⟨q, 0, none⟩)]] J1_12 (fun v J' => ∃ x : UX, v = .agg #[.int .u64 ((x.n 0 : Nat) : Int), .pointer (x.p 0)] ∧ (ERep J' r (x.n 0) (x.p 0)))) (by kernel_rfl) ?_
        intro φ12 xs12 J1_12 leJ
        have he := ERep.mono leJ he
        exact Fun.mono (right_c he) (fun v J' _ ⟨y0, y1, hv, g0⟩ => ⟨{ UX.d with n := fun j => y0, p := fun j => y1 }, hv, g0⟩)
      case c12_3 =>
        refine kcast (A := ∀ (φ12 : Nat → Nat) (xs12 : Xs) (J3_12 : IM), I11.Le J3_12 → (ERep J3_12 r ((xs12 1).n 0) ((xs12 1).p 0)) → Fun Try.prog 43 #[.agg #[.bool ib, .pointer ip]] J3_12 (fun v J' => ∃ x : UX, v = .agg #[.bool (x.b 0), .pointer (x.p 0)] ∧ (TRep J' (T.right i) (x.b 0) (x.p 0)))) (by kernel_rfl) ?_
        intro φ12 xs12 J3_12 leJ
        rintro h12_1_0
        have hi := TRep.mono leJ hi
        exact Fun.mono (tright_c hi) (fun v J' _ ⟨y0, y1, hv, g0⟩ => ⟨{ UX.d with b := fun j => y0, p := fun j => y1 }, hv, g0⟩)
      case c12_7 =>
        refine kcast (A := ∀ (φ12 : Nat → Nat) (xs12 : Xs) (J7_12 : IM), I11.Le J7_12 → (ERep J7_12 r ((xs12 1).n 0) ((xs12 1).p 0)) → (TRep J7_12 (T.right i) ((xs12 3).b 0) ((xs12 3).p 0)) → Fun Try.prog 50 #[.agg #[.int .u64 (((xs12 1).n 0 : Nat) : Int), .pointer ((xs12 1).p 0)], .agg #[.bool ((xs12 3).b 0), .pointer ((xs12 3).p 0)], .int .u64 ((low + n : Nat) : Int), .float .f64 (dF (2 ^ k))] J7_12 (fun v J' => ∃ x : UX, v = .complex .f64 (dF ((dW k (E.up (low + n) r) (T.right i)).1)) (dF ((dW k (E.up (low + n) r) (T.right i)).2 * 65536)) ∧ (True))) (by kernel_rfl) ?_
        intro φ12 xs12 J7_12 leJ
        rintro h12_1_0 h12_3_0
        exact Fun.mono (ihr h12_1_0 h12_3_0) (fun v J' _ h => ⟨UX.d, h, trivial⟩)
      case k12 =>
        rintro φ12 xs12 I12 w12 le12 s h12_1_0 h12_3_0 _
        replace hi := TRep.mono le12 hi
        replace hl := ERep.mono le12 hl
        replace hr := ERep.mono le12 hr
        replace he := ERep.mono le12 he
        replace h11_1_0 := ERep.mono le12 h11_1_0
        replace h11_3_0 := TRep.mono le12 h11_3_0
        replace hq := le12 _ _ hq
        refine wp_seq ?_
        refine region_rule ?_
        refine ops_rule (C := []) [((φ1 0), .cells #[.int .u64 ((n : Nat) : Int), .pointer (some ⟨q, 0, none⟩)] 57), ((φ1 1), .cells #[.bool ib, .pointer ip] 26)] [] 1 [] 0 (fun φ13 => [(47, .complex .f64 (dF ((dW k (E.up (low + n) l) (T.left i)).1)) (dF ((dW k (E.up (low + n) l) (T.left i)).2 * 65536)))]) (fun φ13 => [((φ1 0), .cells #[.int .u64 ((n : Nat) : Int), .pointer (some ⟨q, 0, none⟩)] 57), ((φ1 1), .cells #[.bool ib, .pointer ip] 26)]) (fun φ13 => []) s trivial (fun φ13 => by kernel_rfl) ?_
        intro φ13 w13 s
        refine sem_rule (Builtin.real_ #[35] 37 #[.complex .f64 (dF ((dW k (E.up (low + n) l) (T.left i)).1)) (dF ((dW k (E.up (low + n) l) (T.left i)).2 * 65536))]) (some 48) (.float .f64 (dF ((dW k (E.up (low + n) l) (T.left i)).1))) (by kernel_rfl) ((by kernel_rfl : ((Builtin.real_ #[35] 37 #[.complex .f64 (dF ((dW k (E.up (low + n) l) (T.left i)).1)) (dF ((dW k (E.up (low + n) l) (T.left i)).2 * 65536))]) : Sem Value).run Try.prog w13 = .ok (.float .f64 (dF ((dW k (E.up (low + n) l) (T.left i)).1))) w13)) ?_
        refine ops_rule (C := []) [((φ1 0), .cells #[.int .u64 ((n : Nat) : Int), .pointer (some ⟨q, 0, none⟩)] 57), ((φ1 1), .cells #[.bool ib, .pointer ip] 26)] [] 1 [] 0 (fun φ14 => [(49, .complex .f64 (dF ((dW k (E.up (low + n) r) (T.right i)).1)) (dF ((dW k (E.up (low + n) r) (T.right i)).2 * 65536)))]) (fun φ14 => [((φ1 0), .cells #[.int .u64 ((n : Nat) : Int), .pointer (some ⟨q, 0, none⟩)] 57), ((φ1 1), .cells #[.bool ib, .pointer ip] 26)]) (fun φ14 => []) s trivial (fun φ14 => by kernel_rfl) ?_
        intro φ14 w14 s
        refine sem_rule (Builtin.real_ #[35] 37 #[.complex .f64 (dF ((dW k (E.up (low + n) r) (T.right i)).1)) (dF ((dW k (E.up (low + n) r) (T.right i)).2 * 65536))]) (some 50) (.float .f64 (dF ((dW k (E.up (low + n) r) (T.right i)).1))) (by kernel_rfl) ((by kernel_rfl : ((Builtin.real_ #[35] 37 #[.complex .f64 (dF ((dW k (E.up (low + n) r) (T.right i)).1)) (dF ((dW k (E.up (low + n) r) (T.right i)).2 * 65536))]) : Sem Value).run Try.prog w14 = .ok (.float .f64 (dF ((dW k (E.up (low + n) r) (T.right i)).1))) w14)) ?_
        refine sem_rule (binOp .add 37 (.float .f64 (dF ((dW k (E.up (low + n) l) (T.left i)).1))) (.float .f64 (dF ((dW k (E.up (low + n) r) (T.right i)).1)))) (some 51) (.float .f64 (dF (((dW k (E.up (low + n) l) (T.left i)).1) + ((dW k (E.up (low + n) r) (T.right i)).1)))) (by kernel_rfl) (run_addF (le_53s hsl.1 hsr.1)) ?_
        refine ops_rule (C := []) [((φ1 0), .cells #[.int .u64 ((n : Nat) : Int), .pointer (some ⟨q, 0, none⟩)] 57), ((φ1 1), .cells #[.bool ib, .pointer ip] 26)] [] 1 [] 0 (fun φ15 => [(52, .complex .f64 (dF ((dW k (E.up (low + n) l) (T.left i)).1)) (dF ((dW k (E.up (low + n) l) (T.left i)).2 * 65536)))]) (fun φ15 => [((φ1 0), .cells #[.int .u64 ((n : Nat) : Int), .pointer (some ⟨q, 0, none⟩)] 57), ((φ1 1), .cells #[.bool ib, .pointer ip] 26)]) (fun φ15 => []) s trivial (fun φ15 => by kernel_rfl) ?_
        intro φ15 w15 s
        refine sem_rule (Builtin.imag_ #[35] 37 #[.complex .f64 (dF ((dW k (E.up (low + n) l) (T.left i)).1)) (dF ((dW k (E.up (low + n) l) (T.left i)).2 * 65536))]) (some 53) (.float .f64 (dF ((dW k (E.up (low + n) l) (T.left i)).2 * 65536))) (by kernel_rfl) ((by kernel_rfl : ((Builtin.imag_ #[35] 37 #[.complex .f64 (dF ((dW k (E.up (low + n) l) (T.left i)).1)) (dF ((dW k (E.up (low + n) l) (T.left i)).2 * 65536))]) : Sem Value).run Try.prog w15 = .ok (.float .f64 (dF ((dW k (E.up (low + n) l) (T.left i)).2 * 65536))) w15)) ?_
        refine ops_rule (C := []) [((φ1 0), .cells #[.int .u64 ((n : Nat) : Int), .pointer (some ⟨q, 0, none⟩)] 57), ((φ1 1), .cells #[.bool ib, .pointer ip] 26)] [] 1 [] 0 (fun φ16 => [(54, .complex .f64 (dF ((dW k (E.up (low + n) r) (T.right i)).1)) (dF ((dW k (E.up (low + n) r) (T.right i)).2 * 65536)))]) (fun φ16 => [((φ1 0), .cells #[.int .u64 ((n : Nat) : Int), .pointer (some ⟨q, 0, none⟩)] 57), ((φ1 1), .cells #[.bool ib, .pointer ip] 26)]) (fun φ16 => []) s trivial (fun φ16 => by kernel_rfl) ?_
        intro φ16 w16 s
        refine sem_rule (Builtin.imag_ #[35] 37 #[.complex .f64 (dF ((dW k (E.up (low + n) r) (T.right i)).1)) (dF ((dW k (E.up (low + n) r) (T.right i)).2 * 65536))]) (some 55) (.float .f64 (dF ((dW k (E.up (low + n) r) (T.right i)).2 * 65536))) (by kernel_rfl) ((by kernel_rfl : ((Builtin.imag_ #[35] 37 #[.complex .f64 (dF ((dW k (E.up (low + n) r) (T.right i)).1)) (dF ((dW k (E.up (low + n) r) (T.right i)).2 * 65536))]) : Sem Value).run Try.prog w16 = .ok (.float .f64 (dF ((dW k (E.up (low + n) r) (T.right i)).2 * 65536))) w16)) ?_
        refine sem_rule (Builtin.max_ #[37, 37] 37 #[.float .f64 (dF ((dW k (E.up (low + n) l) (T.left i)).2 * 65536)), .float .f64 (dF ((dW k (E.up (low + n) r) (T.right i)).2 * 65536))]) (some 56) (.float .f64 (dF (max ((dW k (E.up (low + n) l) (T.left i)).2 * 65536) ((dW k (E.up (low + n) r) (T.right i)).2 * 65536)))) (by kernel_rfl) (run_maxF (le_53b hsl.2) (le_53b hsr.2)) ?_
        refine sem_rule (Builtin.complex_ #[37, 37] 35 #[.float .f64 (dF (((dW k (E.up (low + n) l) (T.left i)).1) + ((dW k (E.up (low + n) r) (T.right i)).1))), .float .f64 (dF (max ((dW k (E.up (low + n) l) (T.left i)).2 * 65536) ((dW k (E.up (low + n) r) (T.right i)).2 * 65536)))]) (some 57) (.complex .f64 (dF (((dW k (E.up (low + n) l) (T.left i)).1) + ((dW k (E.up (low + n) r) (T.right i)).1))) (dF (max ((dW k (E.up (low + n) l) (T.left i)).2 * 65536) ((dW k (E.up (low + n) r) (T.right i)).2 * 65536)))) (by kernel_rfl) ((by kernel_rfl : ((Builtin.complex_ #[37, 37] 35 #[.float .f64 (dF (((dW k (E.up (low + n) l) (T.left i)).1) + ((dW k (E.up (low + n) r) (T.right i)).1))), .float .f64 (dF (max ((dW k (E.up (low + n) l) (T.left i)).2 * 65536) ((dW k (E.up (low + n) r) (T.right i)).2 * 65536)))]) : Sem Value).run Try.prog w16 = .ok (.complex .f64 (dF (((dW k (E.up (low + n) l) (T.left i)).1) + ((dW k (E.up (low + n) r) (T.right i)).1))) (dF (max ((dW k (E.up (low + n) l) (T.left i)).2 * 65536) ((dW k (E.up (low + n) r) (T.right i)).2 * 65536)))) w16)) ?_
        refine ops_rule (C := []) [((φ1 0), .cells #[.int .u64 ((n : Nat) : Int), .pointer (some ⟨q, 0, none⟩)] 57), ((φ1 1), .cells #[.bool ib, .pointer ip] 26)] [] 1 [] 0 (fun φ17 => [(8, .complex .f64 (dF (((dW k (E.up (low + n) l) (T.left i)).1) + ((dW k (E.up (low + n) r) (T.right i)).1))) (dF (max ((dW k (E.up (low + n) l) (T.left i)).2 * 65536) ((dW k (E.up (low + n) r) (T.right i)).2 * 65536))))]) (fun φ17 => [((φ1 0), .cells #[.int .u64 ((n : Nat) : Int), .pointer (some ⟨q, 0, none⟩)] 57), ((φ1 1), .cells #[.bool ib, .pointer ip] 26)]) (fun φ17 => []) s trivial (fun φ17 => by kernel_rfl) ?_
        intro φ17 w17 s
        refine ops_done (by kernel_rfl) ?_
        refine wp_ret ?_
        refine ret_rule (C := []) [((φ1 0), .cells #[.int .u64 ((n : Nat) : Int), .pointer (some ⟨q, 0, none⟩)] 57), ((φ1 1), .cells #[.bool ib, .pointer ip] 26)] [] (.complex .f64 (dF (((dW k (E.up (low + n) l) (T.left i)).1) + ((dW k (E.up (low + n) r) (T.right i)).1))) (dF (max ((dW k (E.up (low + n) l) (T.left i)).2 * 65536) ((dW k (E.up (low + n) r) (T.right i)).2 * 65536)))) [] [] s trivial (by kernel_rfl) ?_
        exact ⟨_, _, _, rfl, s, (by rw [w_node_eq, max_parts])⟩

theorem w_c : ∀ (e : E) (i : T) {I : IM} {low k eb : Nat} {ep : Option Addr} {ib : Bool} {ip : Option Addr}, ERep I e eb ep → TRep I i ib ip → i.nf → k ≤ 16 → e.depth ≤ k → i.depth ≤ k → low + e.top ≤ 10000 →
    Fun Try.prog 50 #[evv eb ep, idv ib ip, .int .u64 ((low : Nat) : Int), .float .f64 (dF (2 ^ k))] I (fun v J => v = .complex .f64 (dF (dW k (E.up low e) i).1) (dF ((dW k (E.up low e) i).2 * 65536)))
  | .leaf n, i, _, low, k, eb, _, _, _, he, hi, hn, hk, hde, hdi, ht => by
    obtain ⟨e1, rfl⟩ := he
    rw [e1]
    exact w_leaf hi hn hk hdi ht
  | .node n l r, i, _, low, 0, _, _, _, _, he, hi, hn, hk, hde, hdi, ht => by simp only [E.depth] at hde; omega
  | .node n l r, i, _, low, k + 1, eb, _, _, _, he, hi, hn, hk, hde, hdi, ht => by
    have e1 : eb = n := he.1
    rw [e1] at he ⊢
    simp only [E.depth] at hde
    simp only [E.top] at ht
    have l1 := T.left_depth i
    have r1 := T.right_depth i
    have tl : (E.up (low + n) l).top ≤ 10000 := by rw [up_top]; omega
    have tr : (E.up (low + n) r).top ≤ 10000 := by rw [up_top]; omega
    rw [Nat.pow_succ']
    exact w_node he hi hn (by omega) (dW_sm (by omega) tl) (dW_sm (by omega) tr) (by omega) (fun a b => w_c l i.left a b (T.left_nf hn) (by omega) (by omega) (by omega) (by omega)) (fun a b => w_c r i.right a b (T.right_nf hn) (by omega) (by omega) (by omega) (by omega))
theorem w0_c {I : IM} {e : E} {i : T} {eb : Nat} {ep : Option Addr} {ib : Bool} {ip : Option Addr} (he : ERep I e eb ep) (hi : TRep I i ib ip) (hn : i.nf) (hde : e.depth ≤ 16) (hdi : i.depth ≤ 16) (ht : e.top ≤ 10000) :
    Fun Try.prog 50 #[evv eb ep, idv ib ip, .int .u64 0, .float .f64 4607182418800017408] I (fun v J => v = .complex .f64 (dF (dW 16 e i).1) (dF ((dW 16 e i).2 * 65536))) := by
  have h := w_c e i (low := 0) (k := 16) he hi hn (Nat.le_refl _) hde hdi (by omega)
  rw [up_zero, show dF (2 ^ 16) = 4607182418800017408 from dF_one] at h
  exact h

set_option maxHeartbeats 1000000 in
theorem weight_c {I : IM} {e : E} {i : T} {eb : Nat} {ep : Option Addr} {ib : Bool} {ip : Option Addr} (he : ERep I e eb ep) (hi : TRep I i ib ip) (hn : i.nf) (hde : e.depth ≤ 16) (hdi : i.depth ≤ 16) (ht : e.top ≤ 10000) : Fun Try.prog 23 #[evv eb ep, idv ib ip] I (fun v J => v = .complex .f64 (dF (dW 16 e i).1) (dF ((dW 16 e i).2 * 65536))) := by
  refine enter_rule 8 [(0, .agg #[.int .u64 ((eb : Nat) : Int), .pointer ep]), (1, .agg #[.bool ib, .pointer ip])] Try.func23 rfl (by kernel_rfl) ?_
  intro w s
  refine wp_seq ?_
  refine region_rule ?_
  refine ops_rule (C := []) [] [] 3 [] 2 (fun φ1 => [(4, .complex .f64 0 0), (3, .pointer (some ⟨(φ1 1), 0, none⟩)), (2, .pointer (some ⟨(φ1 0), 0, none⟩))]) (fun φ1 => [((φ1 0), .cells #[.int .u64 ((eb : Nat) : Int), .pointer ep] 57), ((φ1 1), .cells #[.bool ib, .pointer ip] 26)]) (fun φ1 => []) s trivial (fun φ1 => by kernel_rfl) ?_
  intro φ1 w1 s
  refine ops_done (by kernel_rfl) ?_
  refine wp_seq ?_
  refine region_rule ?_
  refine ops_rule (C := []) [((φ1 0), .cells #[.int .u64 ((eb : Nat) : Int), .pointer ep] 57), ((φ1 1), .cells #[.bool ib, .pointer ip] 26)] [] 2 [.o 0, .o 0, .o 1, .o 1] 0 (fun φ2 => [(6, .agg #[.bool ib, .pointer ip]), (5, .agg #[.int .u64 ((eb : Nat) : Int), .pointer ep])]) (fun φ2 => [((φ1 0), .cells #[.int .u64 ((eb : Nat) : Int), .pointer ep] 57), ((φ1 1), .cells #[.bool ib, .pointer ip] 26)]) (fun φ2 => [(φ1 0), (φ1 0), (φ1 1), (φ1 1)]) s trivial (fun φ2 => by kernel_rfl) ?_
  intro φ2 w2 s
  refine call_rule (some 7) s (w0_c he hi hn hde hdi ht) (by kernel_rfl) ?_
  intro v3 I3 w3 le3 h3 s
  replace he := ERep.mono le3 he
  replace hi := TRep.mono le3 hi
  obtain rfl := h3
  refine ops_rule (C := []) [((φ1 0), .cells #[.int .u64 ((eb : Nat) : Int), .pointer ep] 57), ((φ1 1), .cells #[.bool ib, .pointer ip] 26)] [] 1 [] 0 (fun φ4 => [(4, .complex .f64 (dF ((dW 16 e i).1)) (dF ((dW 16 e i).2 * 65536)))]) (fun φ4 => [((φ1 0), .cells #[.int .u64 ((eb : Nat) : Int), .pointer ep] 57), ((φ1 1), .cells #[.bool ib, .pointer ip] 26)]) (fun φ4 => []) s trivial (fun φ4 => by kernel_rfl) ?_
  intro φ4 w4 s
  refine ops_done (by kernel_rfl) ?_
  refine wp_ret ?_
  refine ret_rule (C := []) [((φ1 0), .cells #[.int .u64 ((eb : Nat) : Int), .pointer ep] 57), ((φ1 1), .cells #[.bool ib, .pointer ip] 26)] [] (.complex .f64 (dF ((dW 16 e i).1)) (dF ((dW 16 e i).2 * 65536))) [] [] s trivial (by kernel_rfl) ?_
  exact ⟨_, _, _, rfl, s, rfl⟩

set_option maxHeartbeats 1000000 in
theorem rw_zero {I : IM} {e : E} {ke ki K k : Nat} (hi : RT I T.zero ki) : Fun Try.prog 24 #[.pointer (some ⟨ke, 0, none⟩), .pointer (some ⟨ki, 0, none⟩), .int .u64 ((K : Nat) : Int)] I (fun v J => v = .tuple #[.int .u64 (((dW k e T.zero).1 : Nat) : Int), .int .u64 (((dW k e T.zero).2 : Nat) : Int)]) := by
  have hz : RT _ T.zero ki := hi
  refine enter_rule 67 [(0, .pointer (some ⟨ke, 0, none⟩)), (1, .pointer (some ⟨ki, 0, none⟩)), (2, .int .u64 ((K : Nat) : Int))] Try.func24 rfl (by kernel_rfl) ?_
  intro w s
  refine wp_seq ?_
  refine region_rule ?_
  refine ops_rule (C := []) [] [] 2 [] 0 (fun φ1 => [(7, .int .u64 0), (6, .int .u64 0)]) (fun φ1 => []) (fun φ1 => []) s trivial (fun φ1 => by kernel_rfl) ?_
  intro φ1 w1 s
  refine ops_done (by kernel_rfl) ?_
  refine wp_seq ?_
  refine wp_seq ?_
  refine region_rule ?_
  refine ops_rule (C := [(ki, .cells #[.int .i64 0, .pointer none, .pointer none] 73)]) [] [] 5 [.c 0] 0 (fun φ2 => [(16, .bool true), (15, .int .i64 0), (14, .pointer (some ⟨ki, 0, none⟩)), (13, .pointer (some ⟨ki, 0, none⟩)), (12, .pointer (some ⟨ki, 0, none⟩))]) (fun φ2 => []) (fun φ2 => [ki]) s ⟨hi, trivial⟩ (fun φ2 => by kernel_rfl) ?_
  intro φ2 w2 s
  refine ops_done (by kernel_rfl) ?_
  refine cond_true_rule (b := true) (by kernel_rfl) rfl ?_
  refine wp_seq ?_
  refine region_rule ?_
  refine ops_rule (C := []) [] [] 2 [] 0 (fun φ3 => [(7, .int .u64 0), (6, .int .u64 0)]) (fun φ3 => []) (fun φ3 => []) s trivial (fun φ3 => by kernel_rfl) ?_
  intro φ3 w3 s
  refine ops_done (by kernel_rfl) ?_
  refine wp_ret ?_
  refine ret_rule (C := []) [] [] (.tuple #[.int .u64 0, .int .u64 0]) [] [] s trivial (by kernel_rfl) ?_
  exact ⟨_, _, _, rfl, s, (by rw [dW_zero]; rfl)⟩

set_option maxHeartbeats 1000000 in
theorem rw_stop {I : IM} {n ke ki k : Nat} (he : RE I (.leaf n) ke) (hi : RT I T.one ki) (hk16 : k ≤ 16) (ht : n ≤ 10000) : Fun Try.prog 24 #[.pointer (some ⟨ke, 0, none⟩), .pointer (some ⟨ki, 0, none⟩), .int .u64 ((2 ^ k : Nat) : Int)] I (fun v J => v = .tuple #[.int .u64 (((dW k (.leaf n) T.one).1 : Nat) : Int), .int .u64 (((dW k (.leaf n) T.one).2 : Nat) : Int)]) := by
  have hz : RT _ T.one ki := hi
  refine enter_rule 67 [(0, .pointer (some ⟨ke, 0, none⟩)), (1, .pointer (some ⟨ki, 0, none⟩)), (2, .int .u64 ((2 ^ k : Nat) : Int))] Try.func24 rfl (by kernel_rfl) ?_
  intro w s
  refine wp_seq ?_
  refine region_rule ?_
  refine ops_rule (C := []) [] [] 2 [] 0 (fun φ1 => [(7, .int .u64 0), (6, .int .u64 0)]) (fun φ1 => []) (fun φ1 => []) s trivial (fun φ1 => by kernel_rfl) ?_
  intro φ1 w1 s
  refine ops_done (by kernel_rfl) ?_
  refine wp_seq ?_
  refine wp_seq ?_
  refine region_rule ?_
  refine ops_rule (C := [(ki, .cells #[.int .i64 1, .pointer none, .pointer none] 73)]) [] [] 5 [.c 0] 0 (fun φ2 => [(16, .bool false), (15, .int .i64 1), (14, .pointer (some ⟨ki, 0, none⟩)), (13, .pointer (some ⟨ki, 0, none⟩)), (12, .pointer (some ⟨ki, 0, none⟩))]) (fun φ2 => []) (fun φ2 => [ki]) s ⟨hi, trivial⟩ (fun φ2 => by kernel_rfl) ?_
  intro φ2 w2 s
  refine ops_done (by kernel_rfl) ?_
  refine cond_false_rule (b := false) (by kernel_rfl) rfl ?_
  refine wp_skip ?_
  refine wp_seq ?_
  refine wp_seq ?_
  refine region_rule ?_
  refine ops_rule (C := [(ki, .cells #[.int .i64 1, .pointer none, .pointer none] 73), (ke, .cells #[.int .u64 ((n : Nat) : Int), .pointer none, .pointer none] 86)]) [] [] 12 [.c 0, .c 1] 0 (fun φ3 => [(28, .bool true), (27, .bool true), (26, .pointer none), (25, .pointer (some ⟨ke, 1, none⟩)), (24, .pointer (some ⟨ke, 0, none⟩)), (23, .pointer (some ⟨ke, 0, none⟩)), (22, .bool true), (21, .bool true), (20, .int .i64 1), (19, .pointer (some ⟨ki, 0, none⟩)), (18, .pointer (some ⟨ki, 0, none⟩)), (17, .pointer (some ⟨ki, 0, none⟩))]) (fun φ3 => []) (fun φ3 => [ki, ke]) s ⟨hi, ⟨he, trivial⟩⟩ (fun φ3 => by kernel_rfl) ?_
  intro φ3 w3 s
  refine ops_done (by kernel_rfl) ?_
  refine cond_true_rule (b := true) (by kernel_rfl) rfl ?_
  refine wp_seq ?_
  refine draw_rule (C := [(ke, .cells #[.int .u64 ((n : Nat) : Int), .pointer none, .pointer none] 86)]) ⟨(fun φ4 xs4 => [.look 0 [] [], .look 0 [] [], .look 0 [] [], .look 0 [.c 0] [ke], .look 0 [] [], .sub 0 [] [] (.int .u64 (IntKind.wrap .u64 (((n : Nat) : Int) * ((2 ^ k : Nat) : Int)))), .look 0 [] [], .look 0 [] [], .look 0 [] [], .look 0 [.c 0] [ke], .look 0 [] [], .look 0 [] []]), (fun φ4 xs4 => [.pointer (some ⟨ke, 0, none⟩), .pointer (some ⟨ke, 0, none⟩), .pointer (some ⟨ke, 0, none⟩), .int .u64 ((n : Nat) : Int), .int .u64 ((2 ^ k : Nat) : Int), .int .u64 ((n * (2 ^ k) : Nat) : Int), .pointer (some ⟨ke, 0, none⟩), .pointer (some ⟨ke, 0, none⟩), .pointer (some ⟨ke, 0, none⟩), .int .u64 ((n : Nat) : Int), .int .u64 ((n * (2 ^ k) : Nat) : Int), .int .u64 ((n : Nat) : Int)]), (fun φ4 xs4 => [[]]), (fun φ4 xs4 => [[default, default, default, default, default, default, default, default, default, default, default, default]]), [], [1, 1, 1, 1, 1, 5, 1, 1, 1, 1, 1, 1]⟩ (fun j => ([MP.any, MP.any, MP.any, MP.any, MP.any, MP.any, MP.any, MP.any, MP.any, MP.any, MP.any, MP.any] : List MP).getD j MP.any) [] [5] [] (fun φ4 xs4 => []) (fun φ4 xs4 => [(29, .pointer (some ⟨ke, 0, none⟩)), (30, .pointer (some ⟨ke, 0, none⟩)), (31, .pointer (some ⟨ke, 0, none⟩)), (32, .int .u64 ((n : Nat) : Int)), (33, .int .u64 ((2 ^ k : Nat) : Int)), (34, .int .u64 ((n * (2 ^ k) : Nat) : Int)), (35, .pointer (some ⟨ke, 0, none⟩)), (36, .pointer (some ⟨ke, 0, none⟩)), (37, .pointer (some ⟨ke, 0, none⟩)), (38, .int .u64 ((n : Nat) : Int)), (6, .int .u64 ((n * (2 ^ k) : Nat) : Int)), (7, .int .u64 ((n : Nat) : Int))]) (fun φ4 xs4 => []) s ⟨he, trivial⟩ (by kernel_rfl) (by kernel_rfl) (fun _ _ => by kernel_rfl) (fun _ _ => by kernel_rfl) ⟨fun _ _ => by kernel_rfl, fun _ _ => by kernel_rfl, fun _ _ => by kernel_rfl, fun _ _ => by kernel_rfl⟩ (fun _ _ _ => by kernel_rfl) (fun _ _ => by kernel_rfl) (fun _ _ => by kernel_rfl) (fun _ _ => by kernel_rfl) (fun _ _ => by kernel_rfl) (fun _ _ => by kernel_rfl) ⟨kcast (A := ∀ (φ4 : Nat → Nat) (xs4 : Xs), (.int .u64 (IntKind.wrap .u64 (((n : Nat) : Int) * ((2 ^ k : Nat) : Int))) : Value) = .int .u64 ((n * (2 ^ k) : Nat) : Int)) (by kernel_rfl) (fun φ4 xs4 => congrArg (Value.int .u64) ((nat_mulU (a := n) (b := (2 ^ k)) (by have := mul_sm hk16 ht; omega)))), trivial⟩ trivial (by kernel_rfl) trivial ?k4
  case k4 =>
    rintro φ4 xs4 I4 w4 le4 s 
    replace hz := RT.mono le4 hz
    replace hi := le4 _ _ hi
    replace he := le4 _ _ he
    refine wp_ret ?_
    refine ret_rule (C := []) [] [] (.tuple #[.int .u64 ((n * (2 ^ k) : Nat) : Int), .int .u64 ((n : Nat) : Int)]) [] [] s trivial (by kernel_rfl) ?_
    exact ⟨_, _, _, rfl, s, (by rw [dW_one])⟩

set_option maxHeartbeats 1000000 in
theorem rw_one {I : IM} {n : Nat} {l r : E} {ke ki k : Nat} (he : RE I (E.node n l r) ke) (hi : RT I T.one ki) (hk16 : k ≤ 16) (ht : (E.node n l r).top < 18446744073709551616) (hsl : (dW k (E.up (E.base (E.node n l r)) (E.left (E.node n l r))) (T.left T.one)).1 ≤ 655360000 ∧ (dW k (E.up (E.base (E.node n l r)) (E.left (E.node n l r))) (T.left T.one)).2 ≤ 10000) (hsr : (dW k (E.up (E.base (E.node n l r)) (E.right (E.node n l r))) (T.right T.one)).1 ≤ 655360000 ∧ (dW k (E.up (E.base (E.node n l r)) (E.right (E.node n l r))) (T.right T.one)).2 ≤ 10000) (ihl : ∀ {J : IM} {ke ki : Nat}, RE J (E.up (E.base (E.node n l r)) (E.left (E.node n l r))) ke → RT J (T.left T.one) ki → Fun Try.prog 24 #[.pointer (some ⟨ke, 0, none⟩), .pointer (some ⟨ki, 0, none⟩), .int .u64 ((2 ^ k : Nat) : Int)] J (fun v J => v = .tuple #[.int .u64 (((dW k (E.up (E.base (E.node n l r)) (E.left (E.node n l r))) (T.left T.one)).1 : Nat) : Int), .int .u64 (((dW k (E.up (E.base (E.node n l r)) (E.left (E.node n l r))) (T.left T.one)).2 : Nat) : Int)])) (ihr : ∀ {J : IM} {ke ki : Nat}, RE J (E.up (E.base (E.node n l r)) (E.right (E.node n l r))) ke → RT J (T.right T.one) ki → Fun Try.prog 24 #[.pointer (some ⟨ke, 0, none⟩), .pointer (some ⟨ki, 0, none⟩), .int .u64 ((2 ^ k : Nat) : Int)] J (fun v J => v = .tuple #[.int .u64 (((dW k (E.up (E.base (E.node n l r)) (E.right (E.node n l r))) (T.right T.one)).1 : Nat) : Int), .int .u64 (((dW k (E.up (E.base (E.node n l r)) (E.right (E.node n l r))) (T.right T.one)).2 : Nat) : Int)])) : Fun Try.prog 24 #[.pointer (some ⟨ke, 0, none⟩), .pointer (some ⟨ki, 0, none⟩), .int .u64 ((2 * 2 ^ k : Nat) : Int)] I (fun v J => v = .tuple #[.int .u64 (((dW (k + 1) (E.node n l r) T.one).1 : Nat) : Int), .int .u64 (((dW (k + 1) (E.node n l r) T.one).2 : Nat) : Int)]) := by
  have hz : RT _ T.one ki := hi
  have he9 := he
  obtain ⟨kl, kr, hek, -, -⟩ := he9
  refine enter_rule 67 [(0, .pointer (some ⟨ke, 0, none⟩)), (1, .pointer (some ⟨ki, 0, none⟩)), (2, .int .u64 ((2 * 2 ^ k : Nat) : Int))] Try.func24 rfl (by kernel_rfl) ?_
  intro w s
  refine wp_seq ?_
  refine region_rule ?_
  refine ops_rule (C := []) [] [] 2 [] 0 (fun φ1 => [(7, .int .u64 0), (6, .int .u64 0)]) (fun φ1 => []) (fun φ1 => []) s trivial (fun φ1 => by kernel_rfl) ?_
  intro φ1 w1 s
  refine ops_done (by kernel_rfl) ?_
  refine wp_seq ?_
  refine wp_seq ?_
  refine region_rule ?_
  refine ops_rule (C := [(ki, .cells #[.int .i64 1, .pointer none, .pointer none] 73)]) [] [] 5 [.c 0] 0 (fun φ2 => [(16, .bool false), (15, .int .i64 1), (14, .pointer (some ⟨ki, 0, none⟩)), (13, .pointer (some ⟨ki, 0, none⟩)), (12, .pointer (some ⟨ki, 0, none⟩))]) (fun φ2 => []) (fun φ2 => [ki]) s ⟨hi, trivial⟩ (fun φ2 => by kernel_rfl) ?_
  intro φ2 w2 s
  refine ops_done (by kernel_rfl) ?_
  refine cond_false_rule (b := false) (by kernel_rfl) rfl ?_
  refine wp_skip ?_
  refine wp_seq ?_
  refine wp_seq ?_
  refine region_rule ?_
  refine ops_rule (C := [(ki, .cells #[.int .i64 1, .pointer none, .pointer none] 73), (ke, .cells #[.int .u64 ((n : Nat) : Int), .pointer (some ⟨kl, 0, none⟩), .pointer (some ⟨kr, 0, none⟩)] 86)]) [] [] 12 [.c 0, .c 1] 0 (fun φ3 => [(28, .bool false), (27, .bool false), (26, .pointer (some ⟨kl, 0, none⟩)), (25, .pointer (some ⟨ke, 1, none⟩)), (24, .pointer (some ⟨ke, 0, none⟩)), (23, .pointer (some ⟨ke, 0, none⟩)), (22, .bool true), (21, .bool true), (20, .int .i64 1), (19, .pointer (some ⟨ki, 0, none⟩)), (18, .pointer (some ⟨ki, 0, none⟩)), (17, .pointer (some ⟨ki, 0, none⟩))]) (fun φ3 => []) (fun φ3 => [ki, ke]) s ⟨hi, ⟨hek, trivial⟩⟩ (fun φ3 => by kernel_rfl) ?_
  intro φ3 w3 s
  refine ops_done (by kernel_rfl) ?_
  refine cond_false_rule (b := false) (by kernel_rfl) rfl ?_
  refine wp_skip ?_
  refine wp_seq ?_
  refine region_rule ?_
  refine ops_rule (C := []) [] [] 1 [] 0 (fun φ4 => [(40, .pointer (some ⟨ke, 0, none⟩))]) (fun φ4 => []) (fun φ4 => []) s trivial (fun φ4 => by kernel_rfl) ?_
  intro φ4 w4 s
  refine call_rule (some 41) s (reLeft_c he (by omega)) (by kernel_rfl) ?_
  intro v5 I5 w5 le5 h5 s
  replace hz := RT.mono le5 hz
  replace he := RE.mono le5 he
  replace hi := le5 _ _ hi
  replace hek := le5 _ _ hek
  obtain ⟨k5, rfl, h5_0⟩ := h5
  refine ops_rule (C := []) [] [] 1 [] 0 (fun φ6 => [(42, .pointer (some ⟨ki, 0, none⟩))]) (fun φ6 => []) (fun φ6 => []) s trivial (fun φ6 => by kernel_rfl) ?_
  intro φ6 w6 s
  refine call_rule (some 43) s (rleft_c hz) (by kernel_rfl) ?_
  intro v7 I7 w7 le7 h7 s
  replace hz := RT.mono le7 hz
  replace he := RE.mono le7 he
  replace h5_0 := RE.mono le7 h5_0
  replace hi := le7 _ _ hi
  replace hek := le7 _ _ hek
  obtain ⟨k7, rfl, h7_0⟩ := h7
  refine ops_rule (C := []) [] [] 1 [] 0 (fun φ8 => [(44, .int .u64 ((2 * 2 ^ k : Nat) : Int))]) (fun φ8 => []) (fun φ8 => []) s trivial (fun φ8 => by kernel_rfl) ?_
  intro φ8 w8 s
  refine sem_rule (binOp .quo 34 (.int .u64 ((2 * 2 ^ k : Nat) : Int)) (.int .u64 2)) (some 45) (.int .u64 ((2 ^ k : Nat) : Int)) (by kernel_rfl) (run_half64 (by  have := pow_le16 hk16; omega)) ?_
  refine call_rule (some 46) s (ihl h5_0 h7_0) (by kernel_rfl) ?_
  intro v9 I9 w9 le9 h9 s
  replace hz := RT.mono le9 hz
  replace he := RE.mono le9 he
  replace h5_0 := RE.mono le9 h5_0
  replace h7_0 := RT.mono le9 h7_0
  replace hi := le9 _ _ hi
  replace hek := le9 _ _ hek
  obtain rfl := h9
  refine ops_rule (C := []) [] [] 5 [] 0 (fun φ10 => [(9, .int .u64 (((dW k (E.up (E.base (E.node n l r)) (E.left (E.node n l r))) (T.left T.one)).2 : Nat) : Int)), (8, .int .u64 (((dW k (E.up (E.base (E.node n l r)) (E.left (E.node n l r))) (T.left T.one)).1 : Nat) : Int)), (48, .int .u64 (((dW k (E.up (E.base (E.node n l r)) (E.left (E.node n l r))) (T.left T.one)).2 : Nat) : Int)), (47, .int .u64 (((dW k (E.up (E.base (E.node n l r)) (E.left (E.node n l r))) (T.left T.one)).1 : Nat) : Int)), (39, .tuple #[.int .u64 (((dW k (E.up (E.base (E.node n l r)) (E.left (E.node n l r))) (T.left T.one)).1 : Nat) : Int), .int .u64 (((dW k (E.up (E.base (E.node n l r)) (E.left (E.node n l r))) (T.left T.one)).2 : Nat) : Int)])]) (fun φ10 => []) (fun φ10 => []) s trivial (fun φ10 => by kernel_rfl) ?_
  intro φ10 w10 s
  refine ops_done (by kernel_rfl) ?_
  refine wp_seq ?_
  refine region_rule ?_
  refine ops_rule (C := []) [] [] 1 [] 0 (fun φ11 => [(50, .pointer (some ⟨ke, 0, none⟩))]) (fun φ11 => []) (fun φ11 => []) s trivial (fun φ11 => by kernel_rfl) ?_
  intro φ11 w11 s
  refine call_rule (some 51) s (reRight_c he (by omega)) (by kernel_rfl) ?_
  intro v12 I12 w12 le12 h12 s
  replace hz := RT.mono le12 hz
  replace he := RE.mono le12 he
  replace h5_0 := RE.mono le12 h5_0
  replace h7_0 := RT.mono le12 h7_0
  replace hi := le12 _ _ hi
  replace hek := le12 _ _ hek
  obtain ⟨k12, rfl, h12_0⟩ := h12
  refine ops_rule (C := []) [] [] 1 [] 0 (fun φ13 => [(52, .pointer (some ⟨ki, 0, none⟩))]) (fun φ13 => []) (fun φ13 => []) s trivial (fun φ13 => by kernel_rfl) ?_
  intro φ13 w13 s
  refine call_rule (some 53) s (rright_c hz) (by kernel_rfl) ?_
  intro v14 I14 w14 le14 h14 s
  replace hz := RT.mono le14 hz
  replace he := RE.mono le14 he
  replace h5_0 := RE.mono le14 h5_0
  replace h7_0 := RT.mono le14 h7_0
  replace h12_0 := RE.mono le14 h12_0
  replace hi := le14 _ _ hi
  replace hek := le14 _ _ hek
  obtain ⟨k14, rfl, h14_0⟩ := h14
  refine ops_rule (C := []) [] [] 1 [] 0 (fun φ15 => [(54, .int .u64 ((2 * 2 ^ k : Nat) : Int))]) (fun φ15 => []) (fun φ15 => []) s trivial (fun φ15 => by kernel_rfl) ?_
  intro φ15 w15 s
  refine sem_rule (binOp .quo 34 (.int .u64 ((2 * 2 ^ k : Nat) : Int)) (.int .u64 2)) (some 55) (.int .u64 ((2 ^ k : Nat) : Int)) (by kernel_rfl) (run_half64 (by  have := pow_le16 hk16; omega)) ?_
  refine call_rule (some 56) s (ihr h12_0 h14_0) (by kernel_rfl) ?_
  intro v16 I16 w16 le16 h16 s
  replace hz := RT.mono le16 hz
  replace he := RE.mono le16 he
  replace h5_0 := RE.mono le16 h5_0
  replace h7_0 := RT.mono le16 h7_0
  replace h12_0 := RE.mono le16 h12_0
  replace h14_0 := RT.mono le16 h14_0
  replace hi := le16 _ _ hi
  replace hek := le16 _ _ hek
  obtain rfl := h16
  refine ops_rule (C := []) [] [] 5 [] 0 (fun φ17 => [(11, .int .u64 (((dW k (E.up (E.base (E.node n l r)) (E.right (E.node n l r))) (T.right T.one)).2 : Nat) : Int)), (10, .int .u64 (((dW k (E.up (E.base (E.node n l r)) (E.right (E.node n l r))) (T.right T.one)).1 : Nat) : Int)), (58, .int .u64 (((dW k (E.up (E.base (E.node n l r)) (E.right (E.node n l r))) (T.right T.one)).2 : Nat) : Int)), (57, .int .u64 (((dW k (E.up (E.base (E.node n l r)) (E.right (E.node n l r))) (T.right T.one)).1 : Nat) : Int)), (49, .tuple #[.int .u64 (((dW k (E.up (E.base (E.node n l r)) (E.right (E.node n l r))) (T.right T.one)).1 : Nat) : Int), .int .u64 (((dW k (E.up (E.base (E.node n l r)) (E.right (E.node n l r))) (T.right T.one)).2 : Nat) : Int)])]) (fun φ17 => []) (fun φ17 => []) s trivial (fun φ17 => by kernel_rfl) ?_
  intro φ17 w17 s
  refine ops_done (by kernel_rfl) ?_
  refine wp_seq ?_
  refine wp_seq ?_
  refine region_rule ?_
  refine ops_rule (C := []) [] [] 3 [] 0 (fun φ18 => [(61, .bool (decide ((((dW k (E.up (E.base (E.node n l r)) (E.right (E.node n l r))) (T.right T.one)).2 : Nat) : Int) > (((dW k (E.up (E.base (E.node n l r)) (E.left (E.node n l r))) (T.left T.one)).2 : Nat) : Int)))), (60, .int .u64 (((dW k (E.up (E.base (E.node n l r)) (E.left (E.node n l r))) (T.left T.one)).2 : Nat) : Int)), (59, .int .u64 (((dW k (E.up (E.base (E.node n l r)) (E.right (E.node n l r))) (T.right T.one)).2 : Nat) : Int))]) (fun φ18 => []) (fun φ18 => []) s trivial (fun φ18 => by kernel_rfl) ?_
  intro φ18 w18 s
  rw [nat_gtr (a := ((dW k (E.up (E.base (E.node n l r)) (E.right (E.node n l r))) (T.right T.one)).2)) (b := ((dW k (E.up (E.base (E.node n l r)) (E.left (E.node n l r))) (T.left T.one)).2))]
  refine ops_done (by kernel_rfl) ?_
  rcases Bool.eq_false_or_eq_true (decide (((dW k (E.up (E.base (E.node n l r)) (E.left (E.node n l r))) (T.left T.one)).2) < ((dW k (E.up (E.base (E.node n l r)) (E.right (E.node n l r))) (T.right T.one)).2))) with hc19 | hc19
  ·
    rw [hc19]
    refine cond_true_rule (b := true) (by kernel_rfl) rfl ?_
    refine region_rule ?_
    refine ops_rule (C := []) [] [] 2 [] 0 (fun φ20 => [(9, .int .u64 (((dW k (E.up (E.base (E.node n l r)) (E.right (E.node n l r))) (T.right T.one)).2 : Nat) : Int)), (62, .int .u64 (((dW k (E.up (E.base (E.node n l r)) (E.right (E.node n l r))) (T.right T.one)).2 : Nat) : Int))]) (fun φ20 => []) (fun φ20 => []) s trivial (fun φ20 => by kernel_rfl) ?_
    intro φ20 w20 s
    refine ops_done (by kernel_rfl) ?_
    refine wp_seq ?_
    refine region_rule ?_
    refine ops_rule (C := []) [] [] 6 [] 0 (fun φ21 => [(7, .int .u64 (((dW k (E.up (E.base (E.node n l r)) (E.right (E.node n l r))) (T.right T.one)).2 : Nat) : Int)), (6, .int .u64 (IntKind.wrap .u64 ((((dW k (E.up (E.base (E.node n l r)) (E.left (E.node n l r))) (T.left T.one)).1 : Nat) : Int) + (((dW k (E.up (E.base (E.node n l r)) (E.right (E.node n l r))) (T.right T.one)).1 : Nat) : Int)))), (66, .int .u64 (((dW k (E.up (E.base (E.node n l r)) (E.right (E.node n l r))) (T.right T.one)).2 : Nat) : Int)), (65, .int .u64 (IntKind.wrap .u64 ((((dW k (E.up (E.base (E.node n l r)) (E.left (E.node n l r))) (T.left T.one)).1 : Nat) : Int) + (((dW k (E.up (E.base (E.node n l r)) (E.right (E.node n l r))) (T.right T.one)).1 : Nat) : Int)))), (64, .int .u64 (((dW k (E.up (E.base (E.node n l r)) (E.right (E.node n l r))) (T.right T.one)).1 : Nat) : Int)), (63, .int .u64 (((dW k (E.up (E.base (E.node n l r)) (E.left (E.node n l r))) (T.left T.one)).1 : Nat) : Int))]) (fun φ21 => []) (fun φ21 => []) s trivial (fun φ21 => by kernel_rfl) ?_
    intro φ21 w21 s
    rw [nat_addU (a := ((dW k (E.up (E.base (E.node n l r)) (E.left (E.node n l r))) (T.left T.one)).1)) (b := ((dW k (E.up (E.base (E.node n l r)) (E.right (E.node n l r))) (T.right T.one)).1)) (by omega)]
    refine ops_done (by kernel_rfl) ?_
    refine wp_ret ?_
    refine ret_rule (C := []) [] [] (.tuple #[.int .u64 ((((dW k (E.up (E.base (E.node n l r)) (E.left (E.node n l r))) (T.left T.one)).1) + ((dW k (E.up (E.base (E.node n l r)) (E.right (E.node n l r))) (T.right T.one)).1) : Nat) : Int), .int .u64 (((dW k (E.up (E.base (E.node n l r)) (E.right (E.node n l r))) (T.right T.one)).2 : Nat) : Int)]) [] [] s trivial (by kernel_rfl) ?_
    exact ⟨_, _, _, rfl, s, (by have hq := of_decide_eq_true hc19; simp only [dW]; rw [Nat.max_eq_right (by omega)])⟩
  ·
    rw [hc19]
    refine cond_false_rule (b := false) (by kernel_rfl) rfl ?_
    refine wp_skip ?_
    refine wp_seq ?_
    refine region_rule ?_
    refine ops_rule (C := []) [] [] 6 [] 0 (fun φ22 => [(7, .int .u64 (((dW k (E.up (E.base (E.node n l r)) (E.left (E.node n l r))) (T.left T.one)).2 : Nat) : Int)), (6, .int .u64 (IntKind.wrap .u64 ((((dW k (E.up (E.base (E.node n l r)) (E.left (E.node n l r))) (T.left T.one)).1 : Nat) : Int) + (((dW k (E.up (E.base (E.node n l r)) (E.right (E.node n l r))) (T.right T.one)).1 : Nat) : Int)))), (66, .int .u64 (((dW k (E.up (E.base (E.node n l r)) (E.left (E.node n l r))) (T.left T.one)).2 : Nat) : Int)), (65, .int .u64 (IntKind.wrap .u64 ((((dW k (E.up (E.base (E.node n l r)) (E.left (E.node n l r))) (T.left T.one)).1 : Nat) : Int) + (((dW k (E.up (E.base (E.node n l r)) (E.right (E.node n l r))) (T.right T.one)).1 : Nat) : Int)))), (64, .int .u64 (((dW k (E.up (E.base (E.node n l r)) (E.right (E.node n l r))) (T.right T.one)).1 : Nat) : Int)), (63, .int .u64 (((dW k (E.up (E.base (E.node n l r)) (E.left (E.node n l r))) (T.left T.one)).1 : Nat) : Int))]) (fun φ22 => []) (fun φ22 => []) s trivial (fun φ22 => by kernel_rfl) ?_
    intro φ22 w22 s
    rw [nat_addU (a := ((dW k (E.up (E.base (E.node n l r)) (E.left (E.node n l r))) (T.left T.one)).1)) (b := ((dW k (E.up (E.base (E.node n l r)) (E.right (E.node n l r))) (T.right T.one)).1)) (by omega)]
    refine ops_done (by kernel_rfl) ?_
    refine wp_ret ?_
    refine ret_rule (C := []) [] [] (.tuple #[.int .u64 ((((dW k (E.up (E.base (E.node n l r)) (E.left (E.node n l r))) (T.left T.one)).1) + ((dW k (E.up (E.base (E.node n l r)) (E.right (E.node n l r))) (T.right T.one)).1) : Nat) : Int), .int .u64 (((dW k (E.up (E.base (E.node n l r)) (E.left (E.node n l r))) (T.left T.one)).2 : Nat) : Int)]) [] [] s trivial (by kernel_rfl) ?_
    exact ⟨_, _, _, rfl, s, (by have hq := of_decide_eq_false hc19; simp only [dW]; rw [Nat.max_eq_left (by omega)])⟩

set_option maxHeartbeats 1000000 in
theorem rw_node {I : IM} {e : E} {a b : T} {ke ki k : Nat} (he : RE I e ke) (hi : RT I (T.node a b) ki) (hk16 : k ≤ 16) (ht : e.top < 18446744073709551616) (hsl : (dW k (E.up (E.base e) (E.left e)) (T.left (T.node a b))).1 ≤ 655360000 ∧ (dW k (E.up (E.base e) (E.left e)) (T.left (T.node a b))).2 ≤ 10000) (hsr : (dW k (E.up (E.base e) (E.right e)) (T.right (T.node a b))).1 ≤ 655360000 ∧ (dW k (E.up (E.base e) (E.right e)) (T.right (T.node a b))).2 ≤ 10000) (ihl : ∀ {J : IM} {ke ki : Nat}, RE J (E.up (E.base e) (E.left e)) ke → RT J (T.left (T.node a b)) ki → Fun Try.prog 24 #[.pointer (some ⟨ke, 0, none⟩), .pointer (some ⟨ki, 0, none⟩), .int .u64 ((2 ^ k : Nat) : Int)] J (fun v J => v = .tuple #[.int .u64 (((dW k (E.up (E.base e) (E.left e)) (T.left (T.node a b))).1 : Nat) : Int), .int .u64 (((dW k (E.up (E.base e) (E.left e)) (T.left (T.node a b))).2 : Nat) : Int)])) (ihr : ∀ {J : IM} {ke ki : Nat}, RE J (E.up (E.base e) (E.right e)) ke → RT J (T.right (T.node a b)) ki → Fun Try.prog 24 #[.pointer (some ⟨ke, 0, none⟩), .pointer (some ⟨ki, 0, none⟩), .int .u64 ((2 ^ k : Nat) : Int)] J (fun v J => v = .tuple #[.int .u64 (((dW k (E.up (E.base e) (E.right e)) (T.right (T.node a b))).1 : Nat) : Int), .int .u64 (((dW k (E.up (E.base e) (E.right e)) (T.right (T.node a b))).2 : Nat) : Int)])) : Fun Try.prog 24 #[.pointer (some ⟨ke, 0, none⟩), .pointer (some ⟨ki, 0, none⟩), .int .u64 ((2 * 2 ^ k : Nat) : Int)] I (fun v J => v = .tuple #[.int .u64 (((dW (k + 1) e (T.node a b)).1 : Nat) : Int), .int .u64 (((dW (k + 1) e (T.node a b)).2 : Nat) : Int)]) := by
  have hi9 := hi
  obtain ⟨kl, kr, hik, -, -⟩ := hi9
  refine enter_rule 67 [(0, .pointer (some ⟨ke, 0, none⟩)), (1, .pointer (some ⟨ki, 0, none⟩)), (2, .int .u64 ((2 * 2 ^ k : Nat) : Int))] Try.func24 rfl (by kernel_rfl) ?_
  intro w s
  refine wp_seq ?_
  refine region_rule ?_
  refine ops_rule (C := []) [] [] 2 [] 0 (fun φ1 => [(7, .int .u64 0), (6, .int .u64 0)]) (fun φ1 => []) (fun φ1 => []) s trivial (fun φ1 => by kernel_rfl) ?_
  intro φ1 w1 s
  refine ops_done (by kernel_rfl) ?_
  refine wp_seq ?_
  refine wp_seq ?_
  refine region_rule ?_
  refine ops_rule (C := [(ki, .cells #[.int .i64 2, .pointer (some ⟨kl, 0, none⟩), .pointer (some ⟨kr, 0, none⟩)] 73)]) [] [] 5 [.c 0] 0 (fun φ2 => [(16, .bool false), (15, .int .i64 2), (14, .pointer (some ⟨ki, 0, none⟩)), (13, .pointer (some ⟨ki, 0, none⟩)), (12, .pointer (some ⟨ki, 0, none⟩))]) (fun φ2 => []) (fun φ2 => [ki]) s ⟨hik, trivial⟩ (fun φ2 => by kernel_rfl) ?_
  intro φ2 w2 s
  refine ops_done (by kernel_rfl) ?_
  refine cond_false_rule (b := false) (by kernel_rfl) rfl ?_
  refine wp_skip ?_
  refine wp_seq ?_
  refine wp_seq ?_
  refine region_rule ?_
  refine ops_rule (C := [(ki, .cells #[.int .i64 2, .pointer (some ⟨kl, 0, none⟩), .pointer (some ⟨kr, 0, none⟩)] 73)]) [] [] 12 [.c 0] 0 (fun φ3 => [(28, .bool false), (27, undef), (26, undef), (25, undef), (24, undef), (23, undef), (22, .bool false), (21, .bool false), (20, .int .i64 2), (19, .pointer (some ⟨ki, 0, none⟩)), (18, .pointer (some ⟨ki, 0, none⟩)), (17, .pointer (some ⟨ki, 0, none⟩))]) (fun φ3 => []) (fun φ3 => [ki]) s ⟨hik, trivial⟩ (fun φ3 => by kernel_rfl) ?_
  intro φ3 w3 s
  refine ops_done (by kernel_rfl) ?_
  refine cond_false_rule (b := false) (by kernel_rfl) rfl ?_
  refine wp_skip ?_
  refine wp_seq ?_
  refine region_rule ?_
  refine ops_rule (C := []) [] [] 1 [] 0 (fun φ4 => [(40, .pointer (some ⟨ke, 0, none⟩))]) (fun φ4 => []) (fun φ4 => []) s trivial (fun φ4 => by kernel_rfl) ?_
  intro φ4 w4 s
  refine call_rule (some 41) s (reLeft_c he (by omega)) (by kernel_rfl) ?_
  intro v5 I5 w5 le5 h5 s
  replace hi := RT.mono le5 hi
  replace he := RE.mono le5 he
  replace hik := le5 _ _ hik
  obtain ⟨k5, rfl, h5_0⟩ := h5
  refine ops_rule (C := []) [] [] 1 [] 0 (fun φ6 => [(42, .pointer (some ⟨ki, 0, none⟩))]) (fun φ6 => []) (fun φ6 => []) s trivial (fun φ6 => by kernel_rfl) ?_
  intro φ6 w6 s
  refine call_rule (some 43) s (rleft_c hi) (by kernel_rfl) ?_
  intro v7 I7 w7 le7 h7 s
  replace hi := RT.mono le7 hi
  replace he := RE.mono le7 he
  replace h5_0 := RE.mono le7 h5_0
  replace hik := le7 _ _ hik
  obtain ⟨k7, rfl, h7_0⟩ := h7
  refine ops_rule (C := []) [] [] 1 [] 0 (fun φ8 => [(44, .int .u64 ((2 * 2 ^ k : Nat) : Int))]) (fun φ8 => []) (fun φ8 => []) s trivial (fun φ8 => by kernel_rfl) ?_
  intro φ8 w8 s
  refine sem_rule (binOp .quo 34 (.int .u64 ((2 * 2 ^ k : Nat) : Int)) (.int .u64 2)) (some 45) (.int .u64 ((2 ^ k : Nat) : Int)) (by kernel_rfl) (run_half64 (by  have := pow_le16 hk16; omega)) ?_
  refine call_rule (some 46) s (ihl h5_0 h7_0) (by kernel_rfl) ?_
  intro v9 I9 w9 le9 h9 s
  replace hi := RT.mono le9 hi
  replace he := RE.mono le9 he
  replace h5_0 := RE.mono le9 h5_0
  replace h7_0 := RT.mono le9 h7_0
  replace hik := le9 _ _ hik
  obtain rfl := h9
  refine ops_rule (C := []) [] [] 5 [] 0 (fun φ10 => [(9, .int .u64 (((dW k (E.up (E.base e) (E.left e)) (T.left (T.node a b))).2 : Nat) : Int)), (8, .int .u64 (((dW k (E.up (E.base e) (E.left e)) (T.left (T.node a b))).1 : Nat) : Int)), (48, .int .u64 (((dW k (E.up (E.base e) (E.left e)) (T.left (T.node a b))).2 : Nat) : Int)), (47, .int .u64 (((dW k (E.up (E.base e) (E.left e)) (T.left (T.node a b))).1 : Nat) : Int)), (39, .tuple #[.int .u64 (((dW k (E.up (E.base e) (E.left e)) (T.left (T.node a b))).1 : Nat) : Int), .int .u64 (((dW k (E.up (E.base e) (E.left e)) (T.left (T.node a b))).2 : Nat) : Int)])]) (fun φ10 => []) (fun φ10 => []) s trivial (fun φ10 => by kernel_rfl) ?_
  intro φ10 w10 s
  refine ops_done (by kernel_rfl) ?_
  refine wp_seq ?_
  refine region_rule ?_
  refine ops_rule (C := []) [] [] 1 [] 0 (fun φ11 => [(50, .pointer (some ⟨ke, 0, none⟩))]) (fun φ11 => []) (fun φ11 => []) s trivial (fun φ11 => by kernel_rfl) ?_
  intro φ11 w11 s
  refine call_rule (some 51) s (reRight_c he (by omega)) (by kernel_rfl) ?_
  intro v12 I12 w12 le12 h12 s
  replace hi := RT.mono le12 hi
  replace he := RE.mono le12 he
  replace h5_0 := RE.mono le12 h5_0
  replace h7_0 := RT.mono le12 h7_0
  replace hik := le12 _ _ hik
  obtain ⟨k12, rfl, h12_0⟩ := h12
  refine ops_rule (C := []) [] [] 1 [] 0 (fun φ13 => [(52, .pointer (some ⟨ki, 0, none⟩))]) (fun φ13 => []) (fun φ13 => []) s trivial (fun φ13 => by kernel_rfl) ?_
  intro φ13 w13 s
  refine call_rule (some 53) s (rright_c hi) (by kernel_rfl) ?_
  intro v14 I14 w14 le14 h14 s
  replace hi := RT.mono le14 hi
  replace he := RE.mono le14 he
  replace h5_0 := RE.mono le14 h5_0
  replace h7_0 := RT.mono le14 h7_0
  replace h12_0 := RE.mono le14 h12_0
  replace hik := le14 _ _ hik
  obtain ⟨k14, rfl, h14_0⟩ := h14
  refine ops_rule (C := []) [] [] 1 [] 0 (fun φ15 => [(54, .int .u64 ((2 * 2 ^ k : Nat) : Int))]) (fun φ15 => []) (fun φ15 => []) s trivial (fun φ15 => by kernel_rfl) ?_
  intro φ15 w15 s
  refine sem_rule (binOp .quo 34 (.int .u64 ((2 * 2 ^ k : Nat) : Int)) (.int .u64 2)) (some 55) (.int .u64 ((2 ^ k : Nat) : Int)) (by kernel_rfl) (run_half64 (by  have := pow_le16 hk16; omega)) ?_
  refine call_rule (some 56) s (ihr h12_0 h14_0) (by kernel_rfl) ?_
  intro v16 I16 w16 le16 h16 s
  replace hi := RT.mono le16 hi
  replace he := RE.mono le16 he
  replace h5_0 := RE.mono le16 h5_0
  replace h7_0 := RT.mono le16 h7_0
  replace h12_0 := RE.mono le16 h12_0
  replace h14_0 := RT.mono le16 h14_0
  replace hik := le16 _ _ hik
  obtain rfl := h16
  refine ops_rule (C := []) [] [] 5 [] 0 (fun φ17 => [(11, .int .u64 (((dW k (E.up (E.base e) (E.right e)) (T.right (T.node a b))).2 : Nat) : Int)), (10, .int .u64 (((dW k (E.up (E.base e) (E.right e)) (T.right (T.node a b))).1 : Nat) : Int)), (58, .int .u64 (((dW k (E.up (E.base e) (E.right e)) (T.right (T.node a b))).2 : Nat) : Int)), (57, .int .u64 (((dW k (E.up (E.base e) (E.right e)) (T.right (T.node a b))).1 : Nat) : Int)), (49, .tuple #[.int .u64 (((dW k (E.up (E.base e) (E.right e)) (T.right (T.node a b))).1 : Nat) : Int), .int .u64 (((dW k (E.up (E.base e) (E.right e)) (T.right (T.node a b))).2 : Nat) : Int)])]) (fun φ17 => []) (fun φ17 => []) s trivial (fun φ17 => by kernel_rfl) ?_
  intro φ17 w17 s
  refine ops_done (by kernel_rfl) ?_
  refine wp_seq ?_
  refine wp_seq ?_
  refine region_rule ?_
  refine ops_rule (C := []) [] [] 3 [] 0 (fun φ18 => [(61, .bool (decide ((((dW k (E.up (E.base e) (E.right e)) (T.right (T.node a b))).2 : Nat) : Int) > (((dW k (E.up (E.base e) (E.left e)) (T.left (T.node a b))).2 : Nat) : Int)))), (60, .int .u64 (((dW k (E.up (E.base e) (E.left e)) (T.left (T.node a b))).2 : Nat) : Int)), (59, .int .u64 (((dW k (E.up (E.base e) (E.right e)) (T.right (T.node a b))).2 : Nat) : Int))]) (fun φ18 => []) (fun φ18 => []) s trivial (fun φ18 => by kernel_rfl) ?_
  intro φ18 w18 s
  rw [nat_gtr (a := ((dW k (E.up (E.base e) (E.right e)) (T.right (T.node a b))).2)) (b := ((dW k (E.up (E.base e) (E.left e)) (T.left (T.node a b))).2))]
  refine ops_done (by kernel_rfl) ?_
  rcases Bool.eq_false_or_eq_true (decide (((dW k (E.up (E.base e) (E.left e)) (T.left (T.node a b))).2) < ((dW k (E.up (E.base e) (E.right e)) (T.right (T.node a b))).2))) with hc19 | hc19
  ·
    rw [hc19]
    refine cond_true_rule (b := true) (by kernel_rfl) rfl ?_
    refine region_rule ?_
    refine ops_rule (C := []) [] [] 2 [] 0 (fun φ20 => [(9, .int .u64 (((dW k (E.up (E.base e) (E.right e)) (T.right (T.node a b))).2 : Nat) : Int)), (62, .int .u64 (((dW k (E.up (E.base e) (E.right e)) (T.right (T.node a b))).2 : Nat) : Int))]) (fun φ20 => []) (fun φ20 => []) s trivial (fun φ20 => by kernel_rfl) ?_
    intro φ20 w20 s
    refine ops_done (by kernel_rfl) ?_
    refine wp_seq ?_
    refine region_rule ?_
    refine ops_rule (C := []) [] [] 6 [] 0 (fun φ21 => [(7, .int .u64 (((dW k (E.up (E.base e) (E.right e)) (T.right (T.node a b))).2 : Nat) : Int)), (6, .int .u64 (IntKind.wrap .u64 ((((dW k (E.up (E.base e) (E.left e)) (T.left (T.node a b))).1 : Nat) : Int) + (((dW k (E.up (E.base e) (E.right e)) (T.right (T.node a b))).1 : Nat) : Int)))), (66, .int .u64 (((dW k (E.up (E.base e) (E.right e)) (T.right (T.node a b))).2 : Nat) : Int)), (65, .int .u64 (IntKind.wrap .u64 ((((dW k (E.up (E.base e) (E.left e)) (T.left (T.node a b))).1 : Nat) : Int) + (((dW k (E.up (E.base e) (E.right e)) (T.right (T.node a b))).1 : Nat) : Int)))), (64, .int .u64 (((dW k (E.up (E.base e) (E.right e)) (T.right (T.node a b))).1 : Nat) : Int)), (63, .int .u64 (((dW k (E.up (E.base e) (E.left e)) (T.left (T.node a b))).1 : Nat) : Int))]) (fun φ21 => []) (fun φ21 => []) s trivial (fun φ21 => by kernel_rfl) ?_
    intro φ21 w21 s
    rw [nat_addU (a := ((dW k (E.up (E.base e) (E.left e)) (T.left (T.node a b))).1)) (b := ((dW k (E.up (E.base e) (E.right e)) (T.right (T.node a b))).1)) (by omega)]
    refine ops_done (by kernel_rfl) ?_
    refine wp_ret ?_
    refine ret_rule (C := []) [] [] (.tuple #[.int .u64 ((((dW k (E.up (E.base e) (E.left e)) (T.left (T.node a b))).1) + ((dW k (E.up (E.base e) (E.right e)) (T.right (T.node a b))).1) : Nat) : Int), .int .u64 (((dW k (E.up (E.base e) (E.right e)) (T.right (T.node a b))).2 : Nat) : Int)]) [] [] s trivial (by kernel_rfl) ?_
    exact ⟨_, _, _, rfl, s, (by have hq := of_decide_eq_true hc19; simp only [dW]; rw [Nat.max_eq_right (by omega)])⟩
  ·
    rw [hc19]
    refine cond_false_rule (b := false) (by kernel_rfl) rfl ?_
    refine wp_skip ?_
    refine wp_seq ?_
    refine region_rule ?_
    refine ops_rule (C := []) [] [] 6 [] 0 (fun φ22 => [(7, .int .u64 (((dW k (E.up (E.base e) (E.left e)) (T.left (T.node a b))).2 : Nat) : Int)), (6, .int .u64 (IntKind.wrap .u64 ((((dW k (E.up (E.base e) (E.left e)) (T.left (T.node a b))).1 : Nat) : Int) + (((dW k (E.up (E.base e) (E.right e)) (T.right (T.node a b))).1 : Nat) : Int)))), (66, .int .u64 (((dW k (E.up (E.base e) (E.left e)) (T.left (T.node a b))).2 : Nat) : Int)), (65, .int .u64 (IntKind.wrap .u64 ((((dW k (E.up (E.base e) (E.left e)) (T.left (T.node a b))).1 : Nat) : Int) + (((dW k (E.up (E.base e) (E.right e)) (T.right (T.node a b))).1 : Nat) : Int)))), (64, .int .u64 (((dW k (E.up (E.base e) (E.right e)) (T.right (T.node a b))).1 : Nat) : Int)), (63, .int .u64 (((dW k (E.up (E.base e) (E.left e)) (T.left (T.node a b))).1 : Nat) : Int))]) (fun φ22 => []) (fun φ22 => []) s trivial (fun φ22 => by kernel_rfl) ?_
    intro φ22 w22 s
    rw [nat_addU (a := ((dW k (E.up (E.base e) (E.left e)) (T.left (T.node a b))).1)) (b := ((dW k (E.up (E.base e) (E.right e)) (T.right (T.node a b))).1)) (by omega)]
    refine ops_done (by kernel_rfl) ?_
    refine wp_ret ?_
    refine ret_rule (C := []) [] [] (.tuple #[.int .u64 ((((dW k (E.up (E.base e) (E.left e)) (T.left (T.node a b))).1) + ((dW k (E.up (E.base e) (E.right e)) (T.right (T.node a b))).1) : Nat) : Int), .int .u64 (((dW k (E.up (E.base e) (E.left e)) (T.left (T.node a b))).2 : Nat) : Int)]) [] [] s trivial (by kernel_rfl) ?_
    exact ⟨_, _, _, rfl, s, (by have hq := of_decide_eq_false hc19; simp only [dW]; rw [Nat.max_eq_left (by omega)])⟩

theorem rw_c : ∀ (k : Nat) (e : E) (i : T) {I : IM} {ke ki : Nat}, RE I e ke → RT I i ki → k ≤ 16 → e.depth ≤ k → i.depth ≤ k → e.top ≤ 10000 → Fun Try.prog 24 #[.pointer (some ⟨ke, 0, none⟩), .pointer (some ⟨ki, 0, none⟩), .int .u64 ((2 ^ k : Nat) : Int)] I (fun v J => v = .tuple #[.int .u64 (((dW k e i).1 : Nat) : Int), .int .u64 (((dW k e i).2 : Nat) : Int)])
  | k, e, .zero, _, _, _, he, hi, hk, hde, hdi, ht => rw_zero hi
  | k, .leaf n, .one, _, _, _, he, hi, hk, hde, hdi, ht => rw_stop he hi hk ht
  | 0, .node _ _ _, .one, _, _, _, he, hi, hk, hde, hdi, ht => by simp only [E.depth] at hde; omega
  | 0, _, .node _ _, _, _, _, he, hi, hk, hde, hdi, ht => by simp only [T.depth] at hdi; omega
  | k + 1, .node n l r, .one, _, _, _, he, hi, hk, hde, hdi, ht => by
    have d1 := lB_depth (.node n l r)
    have d2 := rB_depth (.node n l r)
    have t1 := lB_top (.node n l r)
    have t2 := rB_top (.node n l r)
    rw [Nat.pow_succ']
    exact rw_one he hi (by omega) (by omega) (dW_sm (by omega) (by omega)) (dW_sm (by omega) (by omega)) (fun a b => rw_c k _ _ a b (by omega) (by omega) (Nat.zero_le _) (by omega)) (fun a b => rw_c k _ _ a b (by omega) (by omega) (Nat.zero_le _) (by omega))
  | k + 1, e, .node x y, _, _, _, he, hi, hk, hde, hdi, ht => by
    have d1 := lB_depth e
    have d2 := rB_depth e
    have t1 := lB_top e
    have t2 := rB_top e
    have l1 := T.left_depth (.node x y)
    have r1 := T.right_depth (.node x y)
    rw [Nat.pow_succ']
    exact rw_node he hi (by omega) (by omega) (dW_sm (by omega) (by omega)) (dW_sm (by omega) (by omega)) (fun a b => rw_c k _ _ a b (by omega) (by omega) (by omega) (by omega)) (fun a b => rw_c k _ _ a b (by omega) (by omega) (by omega) (by omega))

end Go.Proofs.Ytgdickihjaomjaa.Ev
