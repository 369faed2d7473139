/- The document's trees, and their texts. -/
import Derived.Test.YtgdickihjaomjaaDoorElP5
set_option linter.all false
set_option maxRecDepth 100000
namespace Go.Proofs.YtgdickihjaomjaaDoor
open Go.RowKit Go.Sep

def RT (I : IM) : T → Nat → Prop
  | .zero, k => I k = some (.cells #[.int .i64 0, .pointer none, .pointer none] 84)
  | .one, k => I k = some (.cells #[.int .i64 1, .pointer none, .pointer none] 84)
  | .node l r, k => ∃ kl kr, I k = some (.cells #[.int .i64 2, .pointer (some ⟨kl, 0, none⟩), .pointer (some ⟨kr, 0, none⟩)] 84) ∧ RT I l kl ∧ RT I r kr
def RE (I : IM) : E → Nat → Prop
  | .leaf n, k => I k = some (.cells #[.int .u64 ((n : Nat) : Int), .pointer none, .pointer none] 112)
  | .node n l r, k => ∃ kl kr, I k = some (.cells #[.int .u64 ((n : Nat) : Int), .pointer (some ⟨kl, 0, none⟩), .pointer (some ⟨kr, 0, none⟩)] 112) ∧ RE I l kl ∧ RE I r kr
theorem RT.mono {I J : IM} (le : I.Le J) : ∀ {t : T} {k : Nat}, RT I t k → RT J t k
  | .zero, _, h => le _ _ h
  | .one, _, h => le _ _ h
  | .node _ _, _, ⟨kl, kr, h, hl, hr⟩ => ⟨kl, kr, le _ _ h, hl.mono le, hr.mono le⟩
theorem RE.mono {I J : IM} (le : I.Le J) : ∀ {e : E} {k : Nat}, RE I e k → RE J e k
  | .leaf _, _, h => le _ _ h
  | .node _ _ _, _, ⟨kl, kr, h, hl, hr⟩ => ⟨kl, kr, le _ _ h, hl.mono le, hr.mono le⟩
theorem digit_at {i : Nat} (h : i < 10) : (⟨#[48, 49, 50, 51, 52, 53, 54, 55, 56, 57]⟩ : ByteArray).extract i (i + 1) = ⟨[UInt8.ofNat (48 + i)].toArray⟩ := by
  have : ∀ i, i < 10 → (⟨#[48, 49, 50, 51, 52, 53, 54, 55, 56, 57]⟩ : ByteArray).extract i (i + 1) = ⟨[UInt8.ofNat (48 + i)].toArray⟩ := by decide
  exact this i h
theorem decDigits_small {n : Nat} (h : n < 10) : Lib.decDigits n = [UInt8.ofNat (48 + n % 10)] := by
  rw [Lib.decDigits, dif_pos h, Nat.mod_eq_of_lt h]
theorem decDigits_big {n : Nat} (h : ¬ n < 10) : Lib.decDigits n = Lib.decDigits (n / 10) ++ [UInt8.ofNat (48 + n % 10)] := by
  rw [Lib.decDigits, dif_neg h]

theorem digits_le (n : Nat) (h : n < 18446744073709551616) : (Lib.decDigits n).length ≤ 1000 := by
  have : ∀ (f n : Nat), n < 10 ^ f → (Lib.decDigits n).length ≤ f + 1 := by
    intro f
    induction f with
    | zero => intro n h; rw [decDigits_small (by omega)]; simp
    | succ f ih =>
      intro n h
      by_cases hn : n < 10
      · rw [decDigits_small hn]; simp
      · rw [decDigits_big hn]
        have := ih (n / 10) (by rw [Nat.pow_succ] at h; omega)
        simp only [List.length_append, List.length_cons, List.length_nil]; omega
  have := this 20 n (by omega)
  omega

set_option maxHeartbeats 1000000 in
theorem dec_step {I : IM} {n : Nat} (hn : n < 18446744073709551616) (ih : ¬ n < 10 → ∀ {J : IM}, Fun Tryd.prog 73 #[.int .u64 ((n / 10 : Nat) : Int)] J (fun v _ => v = .string ⟨(Lib.decDigits (n / 10)).toArray⟩)) : Fun Tryd.prog 73 #[.int .u64 ((n : Nat) : Int)] I (fun v J => v = .string ⟨(Lib.decDigits n).toArray⟩) := by
  refine enter_rule 18 [(0, .int .u64 ((n : Nat) : Int))] Tryd.func73 rfl (by kernel_rfl) ?_
  intro w s
  refine wp_seq ?_
  refine region_rule ?_
  refine ops_rule (C := []) [] [] 1 [] 0 (fun φ1 => [(2, .string ⟨#[]⟩)]) (fun φ1 => []) (fun φ1 => []) s trivial (fun φ1 => by kernel_rfl) ?_
  intro φ1 w1 s
  refine ops_done (by kernel_rfl) ?_
  refine wp_seq ?_
  refine region_rule ?_
  refine ops_rule (C := []) [] [] 5 [] 0 (fun φ2 => [(8, .int .u64 (IntKind.wrap .u64 ((Int.tmod ((n : Nat) : Int) ((10 : Nat) : Int)) + ((1 : Nat) : Int)))), (7, .int .u64 (Int.tmod ((n : Nat) : Int) ((10 : Nat) : Int))), (6, .int .u64 ((n : Nat) : Int)), (5, .int .u64 (Int.tmod ((n : Nat) : Int) ((10 : Nat) : Int))), (4, .int .u64 ((n : Nat) : Int))]) (fun φ2 => []) (fun φ2 => []) s trivial (fun φ2 => by kernel_rfl) ?_
  intro φ2 w2 s
  rw [nat_rem (a := n) (b := 10)]
  rw [nat_addU (a := (n % 10)) (b := 1) (by omega)]
  refine sem_rule (Instr.sliceAt 9 (.string ⟨#[48, 49, 50, 51, 52, 53, 54, 55, 56, 57]⟩) (some (.int .u64 ((n % 10 : Nat) : Int))) (some (.int .u64 (((n % 10) + 1 : Nat) : Int))) none) (some 9) (.string ⟨([UInt8.ofNat (48 + n % 10)]).toArray⟩) (by kernel_rfl) (by rw [← digit_at (show n % 10 < 10 by omega)]; exact run_sliceStrK (by kernel_rfl) (by omega) (by show n % 10 + 1 ≤ 10; omega)) ?_
  refine ops_rule (C := []) [] [] 1 [] 0 (fun φ3 => [(3, .string ⟨([UInt8.ofNat (48 + n % 10)]).toArray⟩)]) (fun φ3 => []) (fun φ3 => []) s trivial (fun φ3 => by kernel_rfl) ?_
  intro φ3 w3 s
  refine ops_done (by kernel_rfl) ?_
  refine wp_seq ?_
  refine wp_seq ?_
  refine region_rule ?_
  refine ops_rule (C := []) [] [] 2 [] 0 (fun φ4 => [(11, .bool (decide (((n : Nat) : Int) < ((10 : Nat) : Int)))), (10, .int .u64 ((n : Nat) : Int))]) (fun φ4 => []) (fun φ4 => []) s trivial (fun φ4 => by kernel_rfl) ?_
  intro φ4 w4 s
  rw [nat_lss (a := n) (b := 10)]
  refine ops_done (by kernel_rfl) ?_
  rcases Bool.eq_false_or_eq_true (decide (n < 10)) with hc5 | hc5
  ·
    rw [hc5]
    refine cond_true_rule (b := true) (by kernel_rfl) rfl ?_
    refine wp_seq ?_
    refine region_rule ?_
    refine ops_rule (C := []) [] [] 2 [] 0 (fun φ6 => [(2, .string ⟨([UInt8.ofNat (48 + n % 10)]).toArray⟩), (12, .string ⟨([UInt8.ofNat (48 + n % 10)]).toArray⟩)]) (fun φ6 => []) (fun φ6 => []) s trivial (fun φ6 => by kernel_rfl) ?_
    intro φ6 w6 s
    refine ops_done (by kernel_rfl) ?_
    refine wp_ret ?_
    refine ret_rule (C := []) [] [] (.string ⟨([UInt8.ofNat (48 + n % 10)]).toArray⟩) [] [] s trivial (by kernel_rfl) ?_
    exact ⟨_, _, _, rfl, s, (by rw [decDigits_small (of_decide_eq_true hc5)])⟩
  ·
    rw [hc5]
    refine cond_false_rule (b := false) (by kernel_rfl) rfl ?_
    refine wp_skip ?_
    refine wp_seq ?_
    refine region_rule ?_
    refine ops_rule (C := []) [] [] 2 [] 0 (fun φ7 => [(14, .int .u64 (IntKind.wrap .u64 (Int.tdiv ((n : Nat) : Int) ((10 : Nat) : Int)))), (13, .int .u64 ((n : Nat) : Int))]) (fun φ7 => []) (fun φ7 => []) s trivial (fun φ7 => by kernel_rfl) ?_
    intro φ7 w7 s
    rw [nat_quoU (a := n) (b := 10) (by omega)]
    refine call_rule (some 15) s (ih (of_decide_eq_false hc5)) (by kernel_rfl) ?_
    intro v8 I8 w8 le8 h8 s
    obtain rfl := h8
    refine ops_rule (C := []) [] [] 1 [] 0 (fun φ9 => [(16, .string ⟨([UInt8.ofNat (48 + n % 10)]).toArray⟩)]) (fun φ9 => []) (fun φ9 => []) s trivial (fun φ9 => by kernel_rfl) ?_
    intro φ9 w9 s
    refine sem_rule (binOp .add 9 (.string ⟨(Lib.decDigits (n / 10)).toArray⟩) (.string ⟨([UInt8.ofNat (48 + n % 10)]).toArray⟩)) (some 17) (.string ⟨(Lib.decDigits (n / 10) ++ [UInt8.ofNat (48 + n % 10)]).toArray⟩) (by kernel_rfl) (run_cat (x := Lib.decDigits (n / 10)) (y := [UInt8.ofNat (48 + n % 10)]) (by have hq := Nat.div_le_self n 10; have := digits_le (n / 10) (by omega); simp only [List.length_append, List.length_cons, List.length_nil]; omega)) ?_
    refine ops_rule (C := []) [] [] 1 [] 0 (fun φ10 => [(2, .string ⟨(Lib.decDigits (n / 10) ++ [UInt8.ofNat (48 + n % 10)]).toArray⟩)]) (fun φ10 => []) (fun φ10 => []) s trivial (fun φ10 => by kernel_rfl) ?_
    intro φ10 w10 s
    refine ops_done (by kernel_rfl) ?_
    refine wp_ret ?_
    refine ret_rule (C := []) [] [] (.string ⟨(Lib.decDigits (n / 10) ++ [UInt8.ofNat (48 + n % 10)]).toArray⟩) [] [] s trivial (by kernel_rfl) ?_
    exact ⟨_, _, _, rfl, s, (by rw [decDigits_big (of_decide_eq_false hc5)])⟩

theorem dec_c {I : IM} (n : Nat) (hn : n < 18446744073709551616) : Fun Tryd.prog 73 #[.int .u64 ((n : Nat) : Int)] I (fun v _ => v = .string ⟨(Lib.decDigits n).toArray⟩) := by
  induction n using Nat.strongRecOn generalizing I with
  | ind n ih => exact dec_step hn fun h {J} => ih (n / 10) (by omega) (by omega)

end Go.Proofs.YtgdickihjaomjaaDoor
