/- The first acts; what they are read as. -/
import Derived.Test.YtpnlaeapnokipaaBwW36
import Derived.Test.YtpnlaeapnokipaaBwS14
set_option linter.all false
set_option maxRecDepth 100000
namespace Go.Proofs.Ytpnlaeapnokipaa
open Go.RowKit Go.Sep
theorem tsl_cut {I : IM} {L : List Tri} {a : Option Addr} {n c : Nat} (h : TSl I L (.slice a n c)) : ∃ M : List Tri, M.length = min n 25 ∧ M.length ≤ 25 ∧ M.length ≤ c ∧ TSl I M (.slice a M.length c) := by
  obtain ⟨rfl, hc⟩ := h.cap
  refine ⟨L.take 25, by rw [List.length_take]; omega, by rw [List.length_take]; omega, by rw [List.length_take]; omega, ?_⟩
  obtain ⟨a', c', hv, hc', hr⟩ := h
  cases hv
  refine ⟨a, c, rfl, by rw [List.length_take]; omega, fun j x hx => ?_⟩
  rw [List.getElem?_take] at hx
  split at hx
  · exact hr j x hx
  · cases hx
theorem run_toT {w : World} {a : Option Addr} {n h cap : Nat} {k : IntKind} {x : Int} (hx : x = ((h : Nat) : Int)) (h1 : h ≤ cap) : (Instr.sliceAt 22 (.slice a n cap) none (some (.int k x)) none).run Try.prog w = .ok (.slice a h cap) w := by
  subst hx
  have hb : (Instr.sliceBound (.int k ((h : Nat) : Int)) cap .sliceAcap).run Try.prog w = .ok h w := run_bound h1
  simp [Instr.sliceAt, Instr.slice, run_underlying under22, Instr.sliceBounds, hb, size29]
  intro _; cases a <;> rfl
theorem tsl_bd {I : IM} {L : List Tri} {a : Option Addr} {n c i : Nat} (h : TSl I L (.slice a n c)) (hi : i < L.length) : (L.getD i (0, 0, 0)).1 < 256 ∧ (L.getD i (0, 0, 0)).2.1 < 18446744073709551616 := by
  obtain ⟨a', c', hv, hc, hr⟩ := h
  have := (hr i _ (getD_someT hi)).1
  exact ⟨this.1, this.2.1⟩
theorem clamp_eq {z : Int} : (if ((64 : Nat) : Int) < (if ((0 : Nat) : Int) > z then ((0 : Nat) : Int) else z) then ((64 : Nat) : Int) else (if ((0 : Nat) : Int) > z then ((0 : Nat) : Int) else z)) = ((clampN z : Nat) : Int) := by
  unfold clampN
  split
  · split at * <;> omega
  · split at * <;> omega
theorem run_remU {w : World} {t : TypeId} {a b : Nat} (hb : 0 < b) : (binOp .rem t (.int .u64 ((a : Nat) : Int)) (.int .u64 ((b : Nat) : Int))).run Try.prog w = .ok (.int .u64 ((a % b : Nat) : Int)) w := by
  have h0 : ¬ ((b : Int) = 0) := by omega
  have e : Int.tmod (a : Int) (b : Int) = ((a % b : Nat) : Int) := nat_rem
  simp [binOp, Op.intDiv, h0, e]
  intro hz; omega
section
variable {I : IM} {M : List Tri} {a : Option Addr} {c r i : Nat}
abbrev PK (M : List Tri) : List UInt8 := pk (wA M)
abbrev QP (M : List Tri) (i : Nat) : Nat := (wA (M.take i)).length
theorem pk_short (h : M.length ≤ 25) : (PK M).length ≤ 1000000 := by
  have h1 := wA_len M
  rw [pk_len]; omega
theorem rgNum_c (hl : BSl I (PK M) (.slice a (PK M).length c)) (h25 : M.length ≤ 25) (h : i < M.length) (h1 : ¬ (M.getD i (0, 0, 0)).1 % 2 = 0) (hn : (M.getD i (0, 0, 0)).2.1 < 18446744073709551616) : FunM Try.prog 25 #[.pointer (some ⟨r, 0, none⟩)] I [(r, .cells #[.slice a (PK M).length c, .int .i64 ((QP M i : Nat) : Int), .int .i64 0] 99)] (fun v J H' => ∃ b' : OB, H' = [b'] ∧ b'.1 = r ∧ v = .int .u64 (((M.getD i (0, 0, 0)).2.1 : Nat) : Int) ∧ b' = (r, .cells #[.slice a (PK M).length c, .int .i64 ((QP M (i + 1) : Nat) : Int), .int .i64 0] 99)) := by
  obtain ⟨g1, g2, g3⟩ := rg_num h h1 hn
  have hh := numR_c (r := r) hl (pk_short h25) (wA_room (i := i))
  rw [g1, g2, g3] at hh
  exact hh
theorem rgGet_c (hl : BSl I (PK M) (.slice a (PK M).length c)) (h25 : M.length ≤ 25) (h : i < M.length) (h1 : (M.getD i (0, 0, 0)).1 % 2 = 0) : FunM Try.prog 26 #[.pointer (some ⟨r, 0, none⟩), .int .i64 (M.getD i (0, 0, 0)).2.2] I [(r, .cells #[.slice a (PK M).length c, .int .i64 ((QP M i : Nat) : Int), .int .i64 0] 99)] (fun v J H' => ∃ b' : OB, H' = [b'] ∧ b'.1 = r ∧ v = .int .u64 (((M.getD i (0, 0, 0)).2.1 % 2 ^ clampN (M.getD i (0, 0, 0)).2.2 : Nat) : Int) ∧ b' = (r, .cells #[.slice a (PK M).length c, .int .i64 ((QP M (i + 1) : Nat) : Int), .int .i64 0] 99)) := by
  obtain ⟨g1, g2, g3⟩ := rg_get h h1
  have hh := getG_c (r := r) (z := (M.getD i (0, 0, 0)).2.2) (e := 0) hl (pk_short h25) (wA_room (i := i))
  rw [g1, g2, g3] at hh
  exact hh
theorem rgEnd_c (hl : BSl I (PK M) (.slice a (PK M).length c)) (h25 : M.length ≤ 25) (h : ¬ i < M.length) : FunM Try.prog 29 #[.pointer (some ⟨r, 0, none⟩)] I [(r, .cells #[.slice a (PK M).length c, .int .i64 ((QP M i : Nat) : Int), .int .i64 0] 99)] (fun v J H' => ∃ b' : OB, H' = [b'] ∧ b'.1 = r ∧ v = .int .i64 0 ∧ b' = (r, .cells #[.slice a (PK M).length c, .int .i64 ((QP M i : Nat) : Int), .int .i64 0] 99)) := by
  have e : M.take i = M := List.take_of_length_le (by omega)
  have hh := endR_c (r := r) (e := 0) hl (pk_short h25) (wA_room (i := i))
  unfold QP
  rw [e] at hh ⊢
  rw [end_again] at hh
  exact hh
end
end Go.Proofs.Ytpnlaeapnokipaa
