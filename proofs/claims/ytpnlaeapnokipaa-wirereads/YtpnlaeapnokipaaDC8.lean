/- What is read, the bytes that go with it, and the error. -/
import Derived.Test.YtpnlaeapnokipaaDC7
set_option linter.all false
set_option maxRecDepth 100000
namespace Go.Proofs.Ytpnlaeapnokipaa
def byV (l : List UInt8) (e : Nat) : Nat := if e = 0 ∧ 0 < l.length then (l.getD 0 0).toNat else 0
def byD (l : List UInt8) (e : Nat) : Nat := if e = 0 ∧ 0 < l.length then 1 else 0
def byE (l : List UInt8) (e : Nat) : Nat := if e = 0 ∧ l.length = 0 then 6 else e
noncomputable def nuV (l : List UInt8) (e : Nat) : Nat := if e = 0 then numN l else 0
noncomputable def nuD (l : List UInt8) (e : Nat) : Nat := if e = 0 then numK l else 0
noncomputable def nuE (l : List UInt8) (e : Nat) : Nat := if e = 0 ∧ numK l = 0 then 6 else e
/-- a text of at most z bytes is there -/
def okT (l : List UInt8) (e : Nat) (z : Int) : Prop := e = 0 ∧ numK l ≠ 0 ∧ ((numN l : Nat) : Int) ≤ z ∧ numN l ≤ l.length - numK l
noncomputable instance (l : List UInt8) (e : Nat) (z : Int) : Decidable (okT l e z) := by unfold okT; infer_instance
noncomputable def teV (l : List UInt8) (e : Nat) (z : Int) : List UInt8 := if okT l e z then (l.drop (numK l)).take (numN l) else []
noncomputable def teD (l : List UInt8) (e : Nat) (z : Int) : Nat := if okT l e z then numK l + numN l else 0
noncomputable def teE (l : List UInt8) (e : Nat) (z : Int) : Nat := if e = 0 then (if numK l = 0 then 6 else if z < ((numN l : Nat) : Int) then 9 else if l.length - numK l < numN l then 6 else 0) else e
def faE (k e : Nat) : Nat := if e = 0 then k else e
def enE (l : List UInt8) (e : Nat) : Nat := if e = 0 ∧ 0 < l.length then 6 else e
theorem enE_pos {l : List UInt8} {e : Nat} (h : 0 < l.length) : enE l e = faE 6 e := by unfold enE faE; by_cases q : e = 0 <;> simp [q, h]
theorem enE_none {l : List UInt8} {e : Nat} (h : ¬ 0 < l.length) : enE l e = e := by unfold enE; rw [if_neg (by omega)]
theorem byD_le (l : List UInt8) (e : Nat) : byD l e ≤ l.length := by unfold byD; split <;> omega
theorem nuD_le (l : List UInt8) (e : Nat) : nuD l e ≤ l.length := by unfold nuD; have := numK_le l; split <;> omega
theorem teD_le (l : List UInt8) (e : Nat) (z : Int) : teD l e z ≤ l.length := by
  unfold teD; have := numK_le l; split
  · rename_i h; unfold okT at h; omega
  · omega
end Go.Proofs.Ytpnlaeapnokipaa
