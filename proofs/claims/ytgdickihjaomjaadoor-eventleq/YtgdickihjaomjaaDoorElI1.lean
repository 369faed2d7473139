/- The program's ids. -/
import Derived.Test.YtgdickihjaomjaaDoorProg
import Derived.Test.YtgdickihjaomjaaDoorElA1
set_option linter.all false
set_option maxRecDepth 100000
namespace Go.Proofs.YtgdickihjaomjaaDoor
open Go.RowKit Go.Sep

inductive T where
  | zero | one | node (l r : T)
  deriving DecidableEq
def T.depth : T → Nat
  | .node l r => 1 + max l.depth r.depth
  | _ => 0
def T.isZero : T → Bool
  | .zero => true
  | _ => false
def T.left : T → T
  | .node l _ => l
  | t => t
def T.right : T → T
  | .node _ r => r
  | t => t
def T.mk : T → T → T
  | .zero, .zero => .zero
  | .one, .one => .one
  | l, r => .node l r
def TRep (I : IM) : T → Bool → Option Addr → Prop
  | .zero, b, p => b = false ∧ p = none
  | .one, b, p => b = true ∧ p = none
  | .node l r, b, p => b = false ∧ ∃ k bl pl br pr, p = some ⟨k, 0, none⟩ ∧
      I k = some (.cells #[.bool bl, .pointer pl, .bool br, .pointer pr, .int .i64 (((T.node l r).depth : Nat) : Int)] 160) ∧ TRep I l bl pl ∧ TRep I r br pr
theorem TRep.mono {I J : IM} (le : I.Le J) : ∀ {t : T} {b : Bool} {p : Option Addr}, TRep I t b p → TRep J t b p
  | .zero, _, _, h => h
  | .one, _, _, h => h
  | .node _ _, _, _, ⟨hb, k, bl, pl, br, pr, hp, hk, hl, hr⟩ => ⟨hb, k, bl, pl, br, pr, hp, le _ _ hk, hl.mono le, hr.mono le⟩
theorem TRep.z (I : IM) : TRep I .zero false none := ⟨rfl, rfl⟩
theorem TRep.o (I : IM) : TRep I .one true none := ⟨rfl, rfl⟩

end Go.Proofs.YtgdickihjaomjaaDoor
