/-
  No cell of these rows narrows 'for every input' (looked for: loops, veiled, ifaces, maps, wideKeys, modest, calm, conditions, laid).
  DERIVED. THE GIVEN ROWS OF THIS SEAT. 5 by the template 'for every input the law returns true; each argument reads behind the call as it read before'; 0 by the template 'total and deterministic' (their statements: YtgdickihjaomjaaTotals.lean).
  GIVEN WITH THE SEED: the statements are not yours to turn. If you find one false, say at which input.
  Laid BY PROGRAM, IN A SANDBOX (cutbox-rows.mjs): the forced cells as the released guide's own fill.sh prints them over the translation c10990cb001d94c8… (all of the seat's roots in one cut). By AI agents, Wed Nov 11 2026. No macro, syntax, notation, axiom, sorry.
-/
import Derived.Test.YtgdickihjaomjaaChecked
import GoSem.Claim
import GoSem.ClaimJoined
import GoSem.ClaimMapViews
import Derived.JoinedTies
import Derived.KernelRfl
namespace Go.Proofs.Ytgdickihjaomjaa
/- THE CELL 'sum', in the pinned program and in every row, IS THE sha256 OF THE DUMP (.gsa) THAT YtgdickihjaomjaaProg.lean LOADS. Nothing in Lean hashes anything: it is a label: what it is worth is what the hold of that sum in a sandbox is worth. -/
noncomputable def Try.pinned : Pinned := { name := "ytgdickihjaomjaa", sum := "c10990cb001d94c8491e82ac6f9dcc6839401b7e0d79a481fb275ec93e911614", checked := Try.checked }
namespace Rows
def none {H : Type} : Left H := { results := [], args := [] }

/-- 'kinfolklaw03.ShareSpans': WHATEVER THE INPUT: true; the input reads as it did. -/
def shareSpansSpec : ChangeSpec := { name := "shareSpans", fn := fun _ => fun
  | [d] => { results := [.lit (.bool true)], args := [d] }
  | _ => none }
def shareSpansRow : OpenClaim := { program := "ytgdickihjaomjaa", sum := "c10990cb001d94c8491e82ac6f9dcc6839401b7e0d79a481fb275ec93e911614", func := "kinfolk/kinfolklaw03.ShareSpans", spec := "shareSpans", inPlace := ["math.Float64bits"], recurses := true, apart := false }
def ShareSpansSaid : Prop := shareSpansRow.holds Try.pinned (OpenSpec.ofChange shareSpansSpec)

/-- ITS FALSE NEIGHBOUR: 'it returns false'. Refute it at one input. -/
def shareSpansWrong : ChangeSpec := { name := "shareSpans", fn := fun _ => fun
  | [d] => { results := [.lit (.bool false)], args := [d] }
  | _ => none }
def ShareSpansWrongFalsely : Prop := shareSpansRow.holds Try.pinned (OpenSpec.ofChange shareSpansWrong)

/-- 'kinfolklaw03.ShareMeasures': WHATEVER THE INPUT: true; the input reads as it did. -/
def shareMeasuresSpec : ChangeSpec := { name := "shareMeasures", fn := fun _ => fun
  | [d1, d2] => { results := [.lit (.bool true)], args := [d1, d2] }
  | _ => none }
def shareMeasuresRow : OpenClaim := { program := "ytgdickihjaomjaa", sum := "c10990cb001d94c8491e82ac6f9dcc6839401b7e0d79a481fb275ec93e911614", func := "kinfolk/kinfolklaw03.ShareMeasures", spec := "shareMeasures", inPlace := ["math.Float64bits"], recurses := true, apart := false }
def ShareMeasuresSaid : Prop := shareMeasuresRow.holds Try.pinned (OpenSpec.ofChange shareMeasuresSpec)

/-- ITS FALSE NEIGHBOUR: 'it returns false'. Refute it at one input. -/
def shareMeasuresWrong : ChangeSpec := { name := "shareMeasures", fn := fun _ => fun
  | [d1, d2] => { results := [.lit (.bool false)], args := [d1, d2] }
  | _ => none }
def ShareMeasuresWrongFalsely : Prop := shareMeasuresRow.holds Try.pinned (OpenSpec.ofChange shareMeasuresWrong)

/-- 'kinfolklaw03.ShareWeights': WHATEVER THE INPUT: true; the input reads as it did. -/
def shareWeightsSpec : ChangeSpec := { name := "shareWeights", fn := fun _ => fun
  | [d1, d2] => { results := [.lit (.bool true)], args := [d1, d2] }
  | _ => none }
def shareWeightsRow : OpenClaim := { program := "ytgdickihjaomjaa", sum := "c10990cb001d94c8491e82ac6f9dcc6839401b7e0d79a481fb275ec93e911614", func := "kinfolk/kinfolklaw03.ShareWeights", spec := "shareWeights", inPlace := ["math.Float64bits"], recurses := true, apart := false }
def ShareWeightsSaid : Prop := shareWeightsRow.holds Try.pinned (OpenSpec.ofChange shareWeightsSpec)

/-- ITS FALSE NEIGHBOUR: 'it returns false'. Refute it at one input. -/
def shareWeightsWrong : ChangeSpec := { name := "shareWeights", fn := fun _ => fun
  | [d1, d2] => { results := [.lit (.bool false)], args := [d1, d2] }
  | _ => none }
def ShareWeightsWrongFalsely : Prop := shareWeightsRow.holds Try.pinned (OpenSpec.ofChange shareWeightsWrong)

/-- 'kinfolklaw03.ShareTurns': WHATEVER THE INPUT: true; the input reads as it did. -/
def shareTurnsSpec : ChangeSpec := { name := "shareTurns", fn := fun _ => fun
  | [d1, d2, d3] => { results := [.lit (.bool true)], args := [d1, d2, d3] }
  | _ => none }
def shareTurnsRow : OpenClaim := { program := "ytgdickihjaomjaa", sum := "c10990cb001d94c8491e82ac6f9dcc6839401b7e0d79a481fb275ec93e911614", func := "kinfolk/kinfolklaw03.ShareTurns", spec := "shareTurns", recurses := true, apart := false }
def ShareTurnsSaid : Prop := shareTurnsRow.holds Try.pinned (OpenSpec.ofChange shareTurnsSpec)

/-- ITS FALSE NEIGHBOUR: 'it returns false'. Refute it at one input. -/
def shareTurnsWrong : ChangeSpec := { name := "shareTurns", fn := fun _ => fun
  | [d1, d2, d3] => { results := [.lit (.bool false)], args := [d1, d2, d3] }
  | _ => none }
def ShareTurnsWrongFalsely : Prop := shareTurnsRow.holds Try.pinned (OpenSpec.ofChange shareTurnsWrong)

/-- 'kinfolklaw03.ShareSums': WHATEVER THE INPUT: true; the input reads as it did. -/
def shareSumsSpec : ChangeSpec := { name := "shareSums", fn := fun _ => fun
  | [d1, d2] => { results := [.lit (.bool true)], args := [d1, d2] }
  | _ => none }
def shareSumsRow : OpenClaim := { program := "ytgdickihjaomjaa", sum := "c10990cb001d94c8491e82ac6f9dcc6839401b7e0d79a481fb275ec93e911614", func := "kinfolk/kinfolklaw03.ShareSums", spec := "shareSums", inPlace := ["math.Float64bits"], recurses := true, apart := false }
def ShareSumsSaid : Prop := shareSumsRow.holds Try.pinned (OpenSpec.ofChange shareSumsSpec)

/-- ITS FALSE NEIGHBOUR: 'it returns false'. Refute it at one input. -/
def shareSumsWrong : ChangeSpec := { name := "shareSums", fn := fun _ => fun
  | [d1, d2] => { results := [.lit (.bool false)], args := [d1, d2] }
  | _ => none }
def ShareSumsWrongFalsely : Prop := shareSumsRow.holds Try.pinned (OpenSpec.ofChange shareSumsWrong)

/- THE SECOND FORM. 'bulk': how many values and letters a reading holds, each counted each time it is reached (what is shared counts as often as it is met; a slice's spare places count too). A statement '..UptoSaid' is the law's where the arguments, and the package variables that the reading takes, are together of bulk at most 1048576: NARROWER than '..Said'. Prove '..Said' where nothing that the law and all that it calls make is longer than what came in: it says more and counts as full. Else prove '..UptoSaid'. A law counts once. -/
mutual
def uptoBulk {H : Type} : DataW H → Nat
  | .lit (.string bytes) => bytes.length + 1
  | .lit _ => 1
  | .nil => 1
  | .ptr d => uptoBulk d + 1
  | .slice elems spare => uptoBulkAll elems + uptoBulkAll spare + 1
  | .agg parts => uptoBulkAll parts + 1
  | .iface _ d => uptoBulk d + 1
  | .map entries => uptoBulkEntries entries + 1
  | .held _ => 1
def uptoBulkAll {H : Type} : List (DataW H) → Nat
  | [] => 0
  | d :: r => uptoBulk d + uptoBulkAll r
def uptoBulkEntries {H : Type} : List (Lit × DataW H) → Nat
  | [] => 0
  | x :: r => uptoBulkEntry x + uptoBulkEntries r
def uptoBulkEntry {H : Type} : Lit × DataW H → Nat
  | (.string bytes, d) => bytes.length + uptoBulk d + 1
  | (_, d) => uptoBulk d + 1
 end
def uptoSmall : (H : Type) → List (DataW H) → Bool := fun _ ds => decide (uptoBulkAll ds ≤ 1048576)
def OpenSpec.upto (s : _root_.Go.ChangeSpec) : _root_.Go.OpenSpec := { _root_.Go.OpenSpec.ofChange s with cond := some uptoSmall }

/-- 'kinfolklaw03.ShareSpans', WHERE WHAT IT READS IS OF BULK AT MOST 1048576: true; the input reads as it did. -/
def shareSpansUptoRow : OpenClaim := { program := "ytgdickihjaomjaa", sum := "c10990cb001d94c8491e82ac6f9dcc6839401b7e0d79a481fb275ec93e911614", func := "kinfolk/kinfolklaw03.ShareSpans", spec := "shareSpans", inPlace := ["math.Float64bits"], recurses := true, apart := false, narrowed := true }
def ShareSpansUptoSaid : Prop := shareSpansUptoRow.holds Try.pinned (OpenSpec.upto shareSpansSpec)

/-- 'kinfolklaw03.ShareMeasures', WHERE WHAT IT READS IS OF BULK AT MOST 1048576: true; the input reads as it did. -/
def shareMeasuresUptoRow : OpenClaim := { program := "ytgdickihjaomjaa", sum := "c10990cb001d94c8491e82ac6f9dcc6839401b7e0d79a481fb275ec93e911614", func := "kinfolk/kinfolklaw03.ShareMeasures", spec := "shareMeasures", inPlace := ["math.Float64bits"], recurses := true, apart := false, narrowed := true }
def ShareMeasuresUptoSaid : Prop := shareMeasuresUptoRow.holds Try.pinned (OpenSpec.upto shareMeasuresSpec)

/-- 'kinfolklaw03.ShareWeights', WHERE WHAT IT READS IS OF BULK AT MOST 1048576: true; the input reads as it did. -/
def shareWeightsUptoRow : OpenClaim := { program := "ytgdickihjaomjaa", sum := "c10990cb001d94c8491e82ac6f9dcc6839401b7e0d79a481fb275ec93e911614", func := "kinfolk/kinfolklaw03.ShareWeights", spec := "shareWeights", inPlace := ["math.Float64bits"], recurses := true, apart := false, narrowed := true }
def ShareWeightsUptoSaid : Prop := shareWeightsUptoRow.holds Try.pinned (OpenSpec.upto shareWeightsSpec)

/-- 'kinfolklaw03.ShareTurns', WHERE WHAT IT READS IS OF BULK AT MOST 1048576: true; the input reads as it did. -/
def shareTurnsUptoRow : OpenClaim := { program := "ytgdickihjaomjaa", sum := "c10990cb001d94c8491e82ac6f9dcc6839401b7e0d79a481fb275ec93e911614", func := "kinfolk/kinfolklaw03.ShareTurns", spec := "shareTurns", recurses := true, apart := false, narrowed := true }
def ShareTurnsUptoSaid : Prop := shareTurnsUptoRow.holds Try.pinned (OpenSpec.upto shareTurnsSpec)

/-- 'kinfolklaw03.ShareSums', WHERE WHAT IT READS IS OF BULK AT MOST 1048576: true; the input reads as it did. -/
def shareSumsUptoRow : OpenClaim := { program := "ytgdickihjaomjaa", sum := "c10990cb001d94c8491e82ac6f9dcc6839401b7e0d79a481fb275ec93e911614", func := "kinfolk/kinfolklaw03.ShareSums", spec := "shareSums", inPlace := ["math.Float64bits"], recurses := true, apart := false, narrowed := true }
def ShareSumsUptoSaid : Prop := shareSumsUptoRow.holds Try.pinned (OpenSpec.upto shareSumsSpec)

end Rows
end Go.Proofs.Ytgdickihjaomjaa
