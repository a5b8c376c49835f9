/-
  DERIVED. GIVEN WITH THE SEED: THE CARDS: each row of YthkgaaibhjkngaaDoorRows.lean that lists a variable, with what it lists TIED to the program's text (the seventh form; the later family's looks); each row that meets fmt, with fmt's text TOLD by the authors' own Lean function (tested against real Go, not proved from fmt's source: count such statements apart). THE CARD IS WHAT COUNTS. Prove the row's statement (the work); the ties are given (YthkgaaibhjkngaaDoorTie.lean); close each card by the builder's one call (the guide's Derived/Test/ToyasCard.lean, 'card_holds'). Laid BY PROGRAM, IN A SANDBOX (cutbox-door.mjs). By AI agents, Wed Nov 11 2026. No macro, syntax, notation, axiom, sorry.
-/
import Derived.Test.YthkgaaibhjkngaaDoorRows
import GoSem.ClaimSeven
namespace Go.Proofs.YthkgaaibhjkngaaDoor
namespace Rows

/-- THE TIED CARD OF 'colanderlaw05.HeadReads'. -/
def headReadsCard : Claim7 := { stood := { row := headReadsRow, standIns := [], harness := (true, "cb3c5a5bf07fd853aa512299b82274128f965bd1a5621474bd9ef51926421413"), looks := true }, kinds := [], alts := [], laidByText := true, laidKinds := [.data, .pinned], laidTests := true, laidLooks := .later }
def HeadReadsCardSaid : Prop := Claim7.holds Tryd.pinned (.plain (OpenSpec.ofChange headReadsSpec)) headReadsCard

/-- THE TIED CARD OF 'colanderlaw05.HeadOnce'. -/
def headOnceCard : Claim7 := { stood := { row := headOnceRow, standIns := [], harness := (true, "cb3c5a5bf07fd853aa512299b82274128f965bd1a5621474bd9ef51926421413"), looks := true }, kinds := [], alts := [], laidByText := true, laidKinds := [.data, .data, .data, .data, .pinned], laidTests := true, laidLooks := .later }
def HeadOnceCardSaid : Prop := Claim7.holds Tryd.pinned (.plain (OpenSpec.ofChange headOnceSpec)) headOnceCard

/-- THE TIED CARD OF 'colanderlaw05.HeadWhole'. -/
def headWholeCard : Claim7 := { stood := { row := headWholeRow, standIns := [], harness := (true, "cb3c5a5bf07fd853aa512299b82274128f965bd1a5621474bd9ef51926421413"), looks := true }, kinds := [], alts := [], laidByText := true, laidKinds := [.data, .handle, .pinned], laidTests := true, laidLooks := .later }
def HeadWholeCardSaid : Prop := Claim7.holds Tryd.pinned (.plain (OpenSpec.ofChange headWholeSpec)) headWholeCard

/-- THE TIED CARD OF 'colanderlaw05.HeadSmuggled'. -/
def headSmuggledCard : Claim7 := { stood := { row := headSmuggledRow, standIns := [], harness := (true, "cb3c5a5bf07fd853aa512299b82274128f965bd1a5621474bd9ef51926421413"), looks := true }, kinds := [], alts := [], laidByText := true, laidKinds := [.data, .pinned], laidTests := true, laidLooks := .later }
def HeadSmuggledCardSaid : Prop := Claim7.holds Tryd.pinned (.plain (OpenSpec.ofChange headSmuggledSpec)) headSmuggledCard

/-- THE TIED CARD OF 'colanderlaw21.HardenKinds'. -/
def hardenKindsCard : Claim7 := { stood := { row := hardenKindsRow, standIns := [], harness := (true, "cb3c5a5bf07fd853aa512299b82274128f965bd1a5621474bd9ef51926421413"), looks := true }, kinds := [], alts := [], laidByText := true, laidKinds := [.data, .data, .data, .data, .pinned], laidTests := true, laidLooks := .later }
def HardenKindsCardSaid : Prop := Claim7.holds Tryd.pinned (.plain (OpenSpec.ofChange hardenKindsSpec)) hardenKindsCard

/-- THE TIED CARD OF 'colanderlaw21.HardenPages'. -/
def hardenPagesCard : Claim7 := { stood := { row := hardenPagesRow, standIns := [], harness := (true, "cb3c5a5bf07fd853aa512299b82274128f965bd1a5621474bd9ef51926421413"), looks := true }, kinds := [], alts := [], laidByText := true, laidKinds := [.data, .data, .data, .data, .pinned], laidTests := true, laidLooks := .later }
def HardenPagesCardSaid : Prop := Claim7.holds Tryd.pinned (.plain (OpenSpec.ofChange hardenPagesSpec)) hardenPagesCard

/-- THE SECOND FORM's CARD OF 'colanderlaw05.HeadReads'. -/
def headReadsUptoCard : Claim7 := { stood := { row := headReadsUptoRow, standIns := [], harness := (true, "cb3c5a5bf07fd853aa512299b82274128f965bd1a5621474bd9ef51926421413"), looks := true }, kinds := [], alts := [], laidByText := true, laidKinds := [.data, .pinned], laidTests := true, laidLooks := .later }
def HeadReadsUptoCardSaid : Prop := Claim7.holds Tryd.pinned (.plain (OpenSpec.upto headReadsSpec)) headReadsUptoCard

/-- THE SECOND FORM's CARD OF 'colanderlaw05.HeadOnce'. -/
def headOnceUptoCard : Claim7 := { stood := { row := headOnceUptoRow, standIns := [], harness := (true, "cb3c5a5bf07fd853aa512299b82274128f965bd1a5621474bd9ef51926421413"), looks := true }, kinds := [], alts := [], laidByText := true, laidKinds := [.data, .data, .data, .data, .pinned], laidTests := true, laidLooks := .later }
def HeadOnceUptoCardSaid : Prop := Claim7.holds Tryd.pinned (.plain (OpenSpec.upto headOnceSpec)) headOnceUptoCard

/-- THE SECOND FORM's CARD OF 'colanderlaw05.HeadWhole'. -/
def headWholeUptoCard : Claim7 := { stood := { row := headWholeUptoRow, standIns := [], harness := (true, "cb3c5a5bf07fd853aa512299b82274128f965bd1a5621474bd9ef51926421413"), looks := true }, kinds := [], alts := [], laidByText := true, laidKinds := [.data, .handle, .pinned], laidTests := true, laidLooks := .later }
def HeadWholeUptoCardSaid : Prop := Claim7.holds Tryd.pinned (.plain (OpenSpec.upto headWholeSpec)) headWholeUptoCard

/-- THE SECOND FORM's CARD OF 'colanderlaw05.HeadSmuggled'. -/
def headSmuggledUptoCard : Claim7 := { stood := { row := headSmuggledUptoRow, standIns := [], harness := (true, "cb3c5a5bf07fd853aa512299b82274128f965bd1a5621474bd9ef51926421413"), looks := true }, kinds := [], alts := [], laidByText := true, laidKinds := [.data, .pinned], laidTests := true, laidLooks := .later }
def HeadSmuggledUptoCardSaid : Prop := Claim7.holds Tryd.pinned (.plain (OpenSpec.upto headSmuggledSpec)) headSmuggledUptoCard

/-- THE SECOND FORM's CARD OF 'colanderlaw21.HardenKinds'. -/
def hardenKindsUptoCard : Claim7 := { stood := { row := hardenKindsUptoRow, standIns := [], harness := (true, "cb3c5a5bf07fd853aa512299b82274128f965bd1a5621474bd9ef51926421413"), looks := true }, kinds := [], alts := [], laidByText := true, laidKinds := [.data, .data, .data, .data, .pinned], laidTests := true, laidLooks := .later }
def HardenKindsUptoCardSaid : Prop := Claim7.holds Tryd.pinned (.plain (OpenSpec.upto hardenKindsSpec)) hardenKindsUptoCard

/-- THE SECOND FORM's CARD OF 'colanderlaw21.HardenPages'. -/
def hardenPagesUptoCard : Claim7 := { stood := { row := hardenPagesUptoRow, standIns := [], harness := (true, "cb3c5a5bf07fd853aa512299b82274128f965bd1a5621474bd9ef51926421413"), looks := true }, kinds := [], alts := [], laidByText := true, laidKinds := [.data, .data, .data, .data, .pinned], laidTests := true, laidLooks := .later }
def HardenPagesUptoCardSaid : Prop := Claim7.holds Tryd.pinned (.plain (OpenSpec.upto hardenPagesSpec)) hardenPagesUptoCard
end Rows
end Go.Proofs.YthkgaaibhjkngaaDoor
