/-
  DERIVED. GIVEN WITH THE SEED: THE CARDS: each row of YtcpmjogeafhpnaaDoorRows.lean that lists a variable, with what it lists TIED to the program's text (the seventh form; the later family's looks); each row that meets fmt, with fmt's text TOLD by the authors' own Lean function (tested against real Go, not proved from fmt's source: count such statements apart). THE CARD IS WHAT COUNTS. Prove the row's statement (the work); the ties are given (YtcpmjogeafhpnaaDoorTie.lean); close each card by the builder's one call (the guide's Derived/Test/ToyasCard.lean, 'card_holds'). Laid BY PROGRAM, IN A SANDBOX (cutbox-door.mjs). By AI agents, Wed Nov 11 2026. No macro, syntax, notation, axiom, sorry.
-/
import Derived.Test.YtcpmjogeafhpnaaDoorRows
import GoSem.ClaimSeven
namespace Go.Proofs.YtcpmjogeafhpnaaDoor
namespace Rows

/-- THE TIED CARD OF 'kinfolklaw09.CardMakes'. -/
def cardMakesCard : Claim7 := { stood := { row := cardMakesRow, standIns := [], harness := (true, "a7ed59b35f78a8ba4e8eea3040e8d4f5354a10fee51abec4e1d27502ab42f651"), looks := false }, kinds := [], alts := [], laidByText := true, laidKinds := [.data, .data, .pinned], laidTests := true, laidLooks := .later }
def CardMakesCardSaid : Prop := Claim7.holds Tryd.pinned (.plain (OpenSpec.ofChange cardMakesSpec)) cardMakesCard

/-- THE TIED CARD OF 'kinfolklaw09.CardTells'. -/
def cardTellsCard : Claim7 := { stood := { row := cardTellsRow, standIns := [], harness := (true, "a7ed59b35f78a8ba4e8eea3040e8d4f5354a10fee51abec4e1d27502ab42f651"), looks := false }, kinds := [], alts := [], laidByText := true, laidKinds := [.data, .data, .pinned], laidTests := true, laidLooks := .later }
def CardTellsCardSaid : Prop := Claim7.holds Tryd.pinned (.plain (OpenSpec.ofChange cardTellsSpec)) cardTellsCard

/-- THE TIED CARD OF 'kinfolklaw09.CardPatches'. -/
def cardPatchesCard : Claim7 := { stood := { row := cardPatchesRow, standIns := [], harness := (true, "a7ed59b35f78a8ba4e8eea3040e8d4f5354a10fee51abec4e1d27502ab42f651"), looks := false }, kinds := [], alts := [], laidByText := true, laidKinds := [.data, .data, .pinned], laidTests := true, laidLooks := .later }
def CardPatchesCardSaid : Prop := Claim7.holds Tryd.pinned (.plain (OpenSpec.ofChange cardPatchesSpec)) cardPatchesCard

/-- THE TIED CARD OF 'kinfolklaw09.CardDiffs'. -/
def cardDiffsCard : Claim7 := { stood := { row := cardDiffsRow, standIns := [], harness := (true, "a7ed59b35f78a8ba4e8eea3040e8d4f5354a10fee51abec4e1d27502ab42f651"), looks := false }, kinds := [], alts := [], laidByText := true, laidKinds := [.data, .data, .pinned], laidTests := true, laidLooks := .later }
def CardDiffsCardSaid : Prop := Claim7.holds Tryd.pinned (.plain (OpenSpec.ofChange cardDiffsSpec)) cardDiffsCard

/-- THE TIED CARD OF 'kinfolklaw09.CardOrders'. -/
def cardOrdersCard : Claim7 := { stood := { row := cardOrdersRow, standIns := [], harness := (true, "a7ed59b35f78a8ba4e8eea3040e8d4f5354a10fee51abec4e1d27502ab42f651"), looks := false }, kinds := [], alts := [], laidByText := true, laidKinds := [.data, .data, .pinned], laidTests := true, laidLooks := .later }
def CardOrdersCardSaid : Prop := Claim7.holds Tryd.pinned (.plain (OpenSpec.ofChange cardOrdersSpec)) cardOrdersCard

/-- THE TIED CARD OF 'kinfolklaw09.CardMerges'. -/
def cardMergesCard : Claim7 := { stood := { row := cardMergesRow, standIns := [], harness := (true, "a7ed59b35f78a8ba4e8eea3040e8d4f5354a10fee51abec4e1d27502ab42f651"), looks := false }, kinds := [], alts := [], laidByText := true, laidKinds := [.data, .data, .pinned], laidTests := true, laidLooks := .later }
def CardMergesCardSaid : Prop := Claim7.holds Tryd.pinned (.plain (OpenSpec.ofChange cardMergesSpec)) cardMergesCard

/-- THE TIED CARD OF 'kinfolklaw10.PaperReads'. -/
def paperReadsCard : Claim7 := { stood := { row := paperReadsRow, standIns := [], harness := (true, "a7ed59b35f78a8ba4e8eea3040e8d4f5354a10fee51abec4e1d27502ab42f651"), looks := false }, kinds := [], alts := [], laidByText := true, laidKinds := [.data, .data, .pinned], laidTests := true, laidLooks := .later }
def PaperReadsCardSaid : Prop := Claim7.holds Tryd.pinned (.plain (OpenSpec.ofChange paperReadsSpec)) paperReadsCard

/-- THE TIED CARD OF 'kinfolklaw10.PaperPatches'. -/
def paperPatchesCard : Claim7 := { stood := { row := paperPatchesRow, standIns := [], harness := (true, "a7ed59b35f78a8ba4e8eea3040e8d4f5354a10fee51abec4e1d27502ab42f651"), looks := false }, kinds := [], alts := [], laidByText := true, laidKinds := [.data, .data, .pinned], laidTests := true, laidLooks := .later }
def PaperPatchesCardSaid : Prop := Claim7.holds Tryd.pinned (.plain (OpenSpec.ofChange paperPatchesSpec)) paperPatchesCard

/-- THE TIED CARD OF 'kinfolklaw10.PaperTotal'. -/
def paperTotalCard : Claim7 := { stood := { row := paperTotalRow, standIns := [], harness := (true, "a7ed59b35f78a8ba4e8eea3040e8d4f5354a10fee51abec4e1d27502ab42f651"), looks := false }, kinds := [], alts := [], laidByText := true, laidKinds := [.data, .data, .pinned], laidTests := true, laidLooks := .later }
def PaperTotalCardSaid : Prop := Claim7.holds Tryd.pinned (.plain (OpenSpec.ofChange paperTotalSpec)) paperTotalCard

/-- THE TIED CARD OF 'kinfolklaw10.PaperRows'. -/
def paperRowsCard : Claim7 := { stood := { row := paperRowsRow, standIns := [], harness := (true, "a7ed59b35f78a8ba4e8eea3040e8d4f5354a10fee51abec4e1d27502ab42f651"), looks := false }, kinds := [], alts := [], laidByText := true, laidKinds := [.data, .data, .pinned], laidTests := true, laidLooks := .later }
def PaperRowsCardSaid : Prop := Claim7.holds Tryd.pinned (.plain (OpenSpec.ofChange paperRowsSpec)) paperRowsCard

/-- THE SECOND FORM's CARD OF 'kinfolklaw09.CardMakes'. -/
def cardMakesUptoCard : Claim7 := { stood := { row := cardMakesUptoRow, standIns := [], harness := (true, "a7ed59b35f78a8ba4e8eea3040e8d4f5354a10fee51abec4e1d27502ab42f651"), looks := false }, kinds := [], alts := [], laidByText := true, laidKinds := [.data, .data, .pinned], laidTests := true, laidLooks := .later }
def CardMakesUptoCardSaid : Prop := Claim7.holds Tryd.pinned (.plain (OpenSpec.upto cardMakesSpec)) cardMakesUptoCard

/-- THE SECOND FORM's CARD OF 'kinfolklaw09.CardTells'. -/
def cardTellsUptoCard : Claim7 := { stood := { row := cardTellsUptoRow, standIns := [], harness := (true, "a7ed59b35f78a8ba4e8eea3040e8d4f5354a10fee51abec4e1d27502ab42f651"), looks := false }, kinds := [], alts := [], laidByText := true, laidKinds := [.data, .data, .pinned], laidTests := true, laidLooks := .later }
def CardTellsUptoCardSaid : Prop := Claim7.holds Tryd.pinned (.plain (OpenSpec.upto cardTellsSpec)) cardTellsUptoCard

/-- THE SECOND FORM's CARD OF 'kinfolklaw09.CardPatches'. -/
def cardPatchesUptoCard : Claim7 := { stood := { row := cardPatchesUptoRow, standIns := [], harness := (true, "a7ed59b35f78a8ba4e8eea3040e8d4f5354a10fee51abec4e1d27502ab42f651"), looks := false }, kinds := [], alts := [], laidByText := true, laidKinds := [.data, .data, .pinned], laidTests := true, laidLooks := .later }
def CardPatchesUptoCardSaid : Prop := Claim7.holds Tryd.pinned (.plain (OpenSpec.upto cardPatchesSpec)) cardPatchesUptoCard

/-- THE SECOND FORM's CARD OF 'kinfolklaw09.CardDiffs'. -/
def cardDiffsUptoCard : Claim7 := { stood := { row := cardDiffsUptoRow, standIns := [], harness := (true, "a7ed59b35f78a8ba4e8eea3040e8d4f5354a10fee51abec4e1d27502ab42f651"), looks := false }, kinds := [], alts := [], laidByText := true, laidKinds := [.data, .data, .pinned], laidTests := true, laidLooks := .later }
def CardDiffsUptoCardSaid : Prop := Claim7.holds Tryd.pinned (.plain (OpenSpec.upto cardDiffsSpec)) cardDiffsUptoCard

/-- THE SECOND FORM's CARD OF 'kinfolklaw09.CardOrders'. -/
def cardOrdersUptoCard : Claim7 := { stood := { row := cardOrdersUptoRow, standIns := [], harness := (true, "a7ed59b35f78a8ba4e8eea3040e8d4f5354a10fee51abec4e1d27502ab42f651"), looks := false }, kinds := [], alts := [], laidByText := true, laidKinds := [.data, .data, .pinned], laidTests := true, laidLooks := .later }
def CardOrdersUptoCardSaid : Prop := Claim7.holds Tryd.pinned (.plain (OpenSpec.upto cardOrdersSpec)) cardOrdersUptoCard

/-- THE SECOND FORM's CARD OF 'kinfolklaw09.CardMerges'. -/
def cardMergesUptoCard : Claim7 := { stood := { row := cardMergesUptoRow, standIns := [], harness := (true, "a7ed59b35f78a8ba4e8eea3040e8d4f5354a10fee51abec4e1d27502ab42f651"), looks := false }, kinds := [], alts := [], laidByText := true, laidKinds := [.data, .data, .pinned], laidTests := true, laidLooks := .later }
def CardMergesUptoCardSaid : Prop := Claim7.holds Tryd.pinned (.plain (OpenSpec.upto cardMergesSpec)) cardMergesUptoCard

/-- THE SECOND FORM's CARD OF 'kinfolklaw10.PaperReads'. -/
def paperReadsUptoCard : Claim7 := { stood := { row := paperReadsUptoRow, standIns := [], harness := (true, "a7ed59b35f78a8ba4e8eea3040e8d4f5354a10fee51abec4e1d27502ab42f651"), looks := false }, kinds := [], alts := [], laidByText := true, laidKinds := [.data, .data, .pinned], laidTests := true, laidLooks := .later }
def PaperReadsUptoCardSaid : Prop := Claim7.holds Tryd.pinned (.plain (OpenSpec.upto paperReadsSpec)) paperReadsUptoCard

/-- THE SECOND FORM's CARD OF 'kinfolklaw10.PaperPatches'. -/
def paperPatchesUptoCard : Claim7 := { stood := { row := paperPatchesUptoRow, standIns := [], harness := (true, "a7ed59b35f78a8ba4e8eea3040e8d4f5354a10fee51abec4e1d27502ab42f651"), looks := false }, kinds := [], alts := [], laidByText := true, laidKinds := [.data, .data, .pinned], laidTests := true, laidLooks := .later }
def PaperPatchesUptoCardSaid : Prop := Claim7.holds Tryd.pinned (.plain (OpenSpec.upto paperPatchesSpec)) paperPatchesUptoCard

/-- THE SECOND FORM's CARD OF 'kinfolklaw10.PaperTotal'. -/
def paperTotalUptoCard : Claim7 := { stood := { row := paperTotalUptoRow, standIns := [], harness := (true, "a7ed59b35f78a8ba4e8eea3040e8d4f5354a10fee51abec4e1d27502ab42f651"), looks := false }, kinds := [], alts := [], laidByText := true, laidKinds := [.data, .data, .pinned], laidTests := true, laidLooks := .later }
def PaperTotalUptoCardSaid : Prop := Claim7.holds Tryd.pinned (.plain (OpenSpec.upto paperTotalSpec)) paperTotalUptoCard

/-- THE SECOND FORM's CARD OF 'kinfolklaw10.PaperRows'. -/
def paperRowsUptoCard : Claim7 := { stood := { row := paperRowsUptoRow, standIns := [], harness := (true, "a7ed59b35f78a8ba4e8eea3040e8d4f5354a10fee51abec4e1d27502ab42f651"), looks := false }, kinds := [], alts := [], laidByText := true, laidKinds := [.data, .data, .pinned], laidTests := true, laidLooks := .later }
def PaperRowsUptoCardSaid : Prop := Claim7.holds Tryd.pinned (.plain (OpenSpec.upto paperRowsSpec)) paperRowsUptoCard
end Rows
end Go.Proofs.YtcpmjogeafhpnaaDoor
