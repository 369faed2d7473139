/- A byte as signs. -/
import Derived.Test.YtgmigcmhnmmdkaaDoorTfX2
set_option linter.all false
set_option maxRecDepth 100000
namespace Go.Proofs.YtgmigcmhnmmdkaaDoor
open Go.RowKit Go.Sep
theorem cells_hex {b c : Nat} (h2 : b < 256) (h3 : c < 256) : [Value.int .u8 92, Value.int .u8 ((b : Nat) : Int), Value.int .u8 ((c : Nat) : Int)] = [bV 92, bV (UInt8.ofNat b), bV (UInt8.ofNat c)] := by rw [cell_byte h2, cell_byte h3]; rfl
theorem act_run {P : Program} {m : Sem Value} {J : IM} {v : Value} (h : ∀ w, J.Sub w → m.run P w = .ok v w) : ActF P m J (fun v' _ => v' = v) := fun w hw => ⟨v, J, w, [], h w hw, St.start hw, rfl⟩
theorem run_eqT {w : World} {t : TypeId} {x : List UInt8} : (binOp .eql t (.string ⟨x.toArray⟩) (.string ⟨x.toArray⟩)).run Tryd.prog w = .ok (.bool true) w := by
  rw [run_eqS, decide_eq_true rfl]
def hexS : List UInt8 := [48, 49, 50, 51, 52, 53, 54, 55, 56, 57, 97, 98, 99, 100, 101, 102]
def escB (c : Nat) : Bool := decide (c ≤ 32) || decide (127 ≤ c) || decide (c = 34) || decide (c = 59)
def quo (c : Nat) : List UInt8 := bif decide (c = 92) then [92, 92] else bif escB c then [92, hexS.getD (c / 16) 0, hexS.getD (c % 16) 0] else [UInt8.ofNat c]
theorem quo_0 {c : Nat} (h : c = 92) : ([92, 92] : List UInt8) = quo c := by unfold quo; rw [decide_eq_true h]; rfl
theorem quo_1 {c : Nat} (h : ¬ c = 92) (e : escB c = true) : ([92, hexS.getD (c / 16) 0, hexS.getD (c % 16) 0] : List UInt8) = quo c := by unfold quo; rw [decide_eq_false h, e]; rfl
theorem quo_2 {c : Nat} (h : ¬ c = 92) (e : escB c = false) : ([UInt8.ofNat c] : List UInt8) = quo c := by unfold quo; rw [decide_eq_false h, e]; rfl
theorem esc_t {c : Nat} (h : c ≤ 32 ∨ 127 ≤ c ∨ c = 34 ∨ c = 59) : escB c = true := by unfold escB; simp only [Bool.or_eq_true, decide_eq_true_eq]; omega
theorem esc_f {c : Nat} (h : ¬ (c ≤ 32 ∨ 127 ≤ c ∨ c = 34 ∨ c = 59)) : escB c = false := by unfold escB; simp only [Bool.or_eq_false_iff, decide_eq_false_iff_not]; omega
theorem band15 : ∀ c : Fin 256, band 8 c.val 15 = c.val % 16 := by decide +kernel
theorem ofNat_toNat (x : UInt8) : UInt8.ofNat x.toNat = x := by simp
theorem quo_hex {c : Nat} (hc : c < 256) : ([92, UInt8.ofNat (hexS.getD (c / 2 ^ 4) 0).toNat, UInt8.ofNat (hexS.getD (band 8 c 15) 0).toNat] : List UInt8) = [92, hexS.getD (c / 16) 0, hexS.getD (c % 16) 0] := by
  rw [band15 ⟨c, hc⟩, ofNat_toNat, ofNat_toNat]
theorem quo_le (c : Nat) : (quo c).length ≤ 3 := by unfold quo; cases decide (c = 92) <;> cases escB c <;> simp
end Go.Proofs.YtgmigcmhnmmdkaaDoor
