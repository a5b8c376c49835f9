/-
  DERIVED. GIVEN WITH THE SEED: THE CARDS: each row of YtkadingpmebjbaaDoorRows.lean that lists a variable, with what it lists TIED to the program's text (the seventh form; the later family's looks); each row that meets fmt, with fmt's text TOLD by the authors' own Lean function (tested against real Go, not proved from fmt's source: count such statements apart). THE CARD IS WHAT COUNTS. Prove the row's statement (the work); the ties are given (YtkadingpmebjbaaDoorTie.lean); close each card by the builder's one call (the guide's Derived/Test/ToyasCard.lean, 'card_holds'). Laid BY PROGRAM, IN A SANDBOX (cutbox-door.mjs). By AI agents, Wed Nov 11 2026. No macro, syntax, notation, axiom, sorry.
-/
import Derived.Test.YtkadingpmebjbaaDoorRows
import GoSem.ClaimSeven
namespace Go.Proofs.YtkadingpmebjbaaDoor
namespace Rows

/-- THE TIED CARD OF 'colanderlaw03.LexMedias'. -/
def lexMediasCard : Claim7 := { stood := { row := lexMediasRow, standIns := [], harness := (true, "d03c9f7baebd23c87df959969993ef9c2fc1432d1e5c14c795472c90d7cf28b7"), looks := false }, kinds := [], alts := [], laidByText := true, laidKinds := [.data, .pinned], laidTests := true, laidLooks := .later }
def LexMediasCardSaid : Prop := Claim7.holds Tryd.pinned (.plain (OpenSpec.ofChange lexMediasSpec)) lexMediasCard

/-- THE TIED CARD OF 'colanderlaw04.FieldsRights'. -/
def fieldsRightsCard : Claim7 := { stood := { row := fieldsRightsRow, standIns := [], harness := (true, "d03c9f7baebd23c87df959969993ef9c2fc1432d1e5c14c795472c90d7cf28b7"), looks := false }, kinds := [], alts := [], laidByText := true, laidKinds := [.data, .pinned], laidTests := true, laidLooks := .later }
def FieldsRightsCardSaid : Prop := Claim7.holds Tryd.pinned (.plain (OpenSpec.ofChange fieldsRightsSpec)) fieldsRightsCard

/-- THE TIED CARD OF 'colanderlaw04.FieldsNames'. -/
def fieldsNamesCard : Claim7 := { stood := { row := fieldsNamesRow, standIns := [], harness := (true, "d03c9f7baebd23c87df959969993ef9c2fc1432d1e5c14c795472c90d7cf28b7"), looks := false }, kinds := [], alts := [], laidByText := true, laidKinds := [.data, .pinned], laidTests := true, laidLooks := .later }
def FieldsNamesCardSaid : Prop := Claim7.holds Tryd.pinned (.plain (OpenSpec.ofChange fieldsNamesSpec)) fieldsNamesCard

/-- THE TIED CARD OF 'colanderlaw04.FieldsMembers'. -/
def fieldsMembersCard : Claim7 := { stood := { row := fieldsMembersRow, standIns := [], harness := (true, "d03c9f7baebd23c87df959969993ef9c2fc1432d1e5c14c795472c90d7cf28b7"), looks := false }, kinds := [], alts := [], laidByText := true, laidKinds := [.data, .pinned], laidTests := true, laidLooks := .later }
def FieldsMembersCardSaid : Prop := Claim7.holds Tryd.pinned (.plain (OpenSpec.ofChange fieldsMembersSpec)) fieldsMembersCard

/-- THE TIED CARD OF 'colanderlaw04.FieldsParted'. -/
def fieldsPartedCard : Claim7 := { stood := { row := fieldsPartedRow, standIns := [], harness := (true, "d03c9f7baebd23c87df959969993ef9c2fc1432d1e5c14c795472c90d7cf28b7"), looks := false }, kinds := [], alts := [], laidByText := true, laidKinds := [.data, .pinned], laidTests := true, laidLooks := .later }
def FieldsPartedCardSaid : Prop := Claim7.holds Tryd.pinned (.plain (OpenSpec.ofChange fieldsPartedSpec)) fieldsPartedCard

/-- THE TIED CARD OF 'colanderlaw06.FramingSays'. -/
def framingSaysCard : Claim7 := { stood := { row := framingSaysRow, standIns := [], harness := (true, "d03c9f7baebd23c87df959969993ef9c2fc1432d1e5c14c795472c90d7cf28b7"), looks := false }, kinds := [], alts := [], laidByText := true, laidKinds := [.data, .pinned], laidTests := true, laidLooks := .later }
def FramingSaysCardSaid : Prop := Claim7.holds Tryd.pinned (.plain (OpenSpec.ofChange framingSaysSpec)) framingSaysCard

/-- THE TIED CARD OF 'colanderlaw06.FramingBoth'. -/
def framingBothCard : Claim7 := { stood := { row := framingBothRow, standIns := [], harness := (true, "d03c9f7baebd23c87df959969993ef9c2fc1432d1e5c14c795472c90d7cf28b7"), looks := false }, kinds := [], alts := [], laidByText := true, laidKinds := [.data, .pinned], laidTests := true, laidLooks := .later }
def FramingBothCardSaid : Prop := Claim7.holds Tryd.pinned (.plain (OpenSpec.ofChange framingBothSpec)) framingBothCard

/-- THE TIED CARD OF 'colanderlaw06.FramingAgrees'. -/
def framingAgreesCard : Claim7 := { stood := { row := framingAgreesRow, standIns := [], harness := (true, "d03c9f7baebd23c87df959969993ef9c2fc1432d1e5c14c795472c90d7cf28b7"), looks := false }, kinds := [], alts := [], laidByText := true, laidKinds := [.data, .data, .data, .data, .pinned], laidTests := true, laidLooks := .later }
def FramingAgreesCardSaid : Prop := Claim7.holds Tryd.pinned (.plain (OpenSpec.ofChange framingAgreesSpec)) framingAgreesCard

/-- THE TIED CARD OF 'colanderlaw06.FramingOthers'. -/
def framingOthersCard : Claim7 := { stood := { row := framingOthersRow, standIns := [], harness := (true, "d03c9f7baebd23c87df959969993ef9c2fc1432d1e5c14c795472c90d7cf28b7"), looks := false }, kinds := [], alts := [], laidByText := true, laidKinds := [.data, .pinned], laidTests := true, laidLooks := .later }
def FramingOthersCardSaid : Prop := Claim7.holds Tryd.pinned (.plain (OpenSpec.ofChange framingOthersSpec)) framingOthersCard

/-- THE SECOND FORM's CARD OF 'colanderlaw03.LexMedias'. -/
def lexMediasUptoCard : Claim7 := { stood := { row := lexMediasUptoRow, standIns := [], harness := (true, "d03c9f7baebd23c87df959969993ef9c2fc1432d1e5c14c795472c90d7cf28b7"), looks := false }, kinds := [], alts := [], laidByText := true, laidKinds := [.data, .pinned], laidTests := true, laidLooks := .later }
def LexMediasUptoCardSaid : Prop := Claim7.holds Tryd.pinned (.plain (OpenSpec.upto lexMediasSpec)) lexMediasUptoCard

/-- THE SECOND FORM's CARD OF 'colanderlaw04.FieldsRights'. -/
def fieldsRightsUptoCard : Claim7 := { stood := { row := fieldsRightsUptoRow, standIns := [], harness := (true, "d03c9f7baebd23c87df959969993ef9c2fc1432d1e5c14c795472c90d7cf28b7"), looks := false }, kinds := [], alts := [], laidByText := true, laidKinds := [.data, .pinned], laidTests := true, laidLooks := .later }
def FieldsRightsUptoCardSaid : Prop := Claim7.holds Tryd.pinned (.plain (OpenSpec.upto fieldsRightsSpec)) fieldsRightsUptoCard

/-- THE SECOND FORM's CARD OF 'colanderlaw04.FieldsNames'. -/
def fieldsNamesUptoCard : Claim7 := { stood := { row := fieldsNamesUptoRow, standIns := [], harness := (true, "d03c9f7baebd23c87df959969993ef9c2fc1432d1e5c14c795472c90d7cf28b7"), looks := false }, kinds := [], alts := [], laidByText := true, laidKinds := [.data, .pinned], laidTests := true, laidLooks := .later }
def FieldsNamesUptoCardSaid : Prop := Claim7.holds Tryd.pinned (.plain (OpenSpec.upto fieldsNamesSpec)) fieldsNamesUptoCard

/-- THE SECOND FORM's CARD OF 'colanderlaw04.FieldsMembers'. -/
def fieldsMembersUptoCard : Claim7 := { stood := { row := fieldsMembersUptoRow, standIns := [], harness := (true, "d03c9f7baebd23c87df959969993ef9c2fc1432d1e5c14c795472c90d7cf28b7"), looks := false }, kinds := [], alts := [], laidByText := true, laidKinds := [.data, .pinned], laidTests := true, laidLooks := .later }
def FieldsMembersUptoCardSaid : Prop := Claim7.holds Tryd.pinned (.plain (OpenSpec.upto fieldsMembersSpec)) fieldsMembersUptoCard

/-- THE SECOND FORM's CARD OF 'colanderlaw04.FieldsParted'. -/
def fieldsPartedUptoCard : Claim7 := { stood := { row := fieldsPartedUptoRow, standIns := [], harness := (true, "d03c9f7baebd23c87df959969993ef9c2fc1432d1e5c14c795472c90d7cf28b7"), looks := false }, kinds := [], alts := [], laidByText := true, laidKinds := [.data, .pinned], laidTests := true, laidLooks := .later }
def FieldsPartedUptoCardSaid : Prop := Claim7.holds Tryd.pinned (.plain (OpenSpec.upto fieldsPartedSpec)) fieldsPartedUptoCard

/-- THE SECOND FORM's CARD OF 'colanderlaw06.FramingSays'. -/
def framingSaysUptoCard : Claim7 := { stood := { row := framingSaysUptoRow, standIns := [], harness := (true, "d03c9f7baebd23c87df959969993ef9c2fc1432d1e5c14c795472c90d7cf28b7"), looks := false }, kinds := [], alts := [], laidByText := true, laidKinds := [.data, .pinned], laidTests := true, laidLooks := .later }
def FramingSaysUptoCardSaid : Prop := Claim7.holds Tryd.pinned (.plain (OpenSpec.upto framingSaysSpec)) framingSaysUptoCard

/-- THE SECOND FORM's CARD OF 'colanderlaw06.FramingBoth'. -/
def framingBothUptoCard : Claim7 := { stood := { row := framingBothUptoRow, standIns := [], harness := (true, "d03c9f7baebd23c87df959969993ef9c2fc1432d1e5c14c795472c90d7cf28b7"), looks := false }, kinds := [], alts := [], laidByText := true, laidKinds := [.data, .pinned], laidTests := true, laidLooks := .later }
def FramingBothUptoCardSaid : Prop := Claim7.holds Tryd.pinned (.plain (OpenSpec.upto framingBothSpec)) framingBothUptoCard

/-- THE SECOND FORM's CARD OF 'colanderlaw06.FramingAgrees'. -/
def framingAgreesUptoCard : Claim7 := { stood := { row := framingAgreesUptoRow, standIns := [], harness := (true, "d03c9f7baebd23c87df959969993ef9c2fc1432d1e5c14c795472c90d7cf28b7"), looks := false }, kinds := [], alts := [], laidByText := true, laidKinds := [.data, .data, .data, .data, .pinned], laidTests := true, laidLooks := .later }
def FramingAgreesUptoCardSaid : Prop := Claim7.holds Tryd.pinned (.plain (OpenSpec.upto framingAgreesSpec)) framingAgreesUptoCard

/-- THE SECOND FORM's CARD OF 'colanderlaw06.FramingOthers'. -/
def framingOthersUptoCard : Claim7 := { stood := { row := framingOthersUptoRow, standIns := [], harness := (true, "d03c9f7baebd23c87df959969993ef9c2fc1432d1e5c14c795472c90d7cf28b7"), looks := false }, kinds := [], alts := [], laidByText := true, laidKinds := [.data, .pinned], laidTests := true, laidLooks := .later }
def FramingOthersUptoCardSaid : Prop := Claim7.holds Tryd.pinned (.plain (OpenSpec.upto framingOthersSpec)) framingOthersUptoCard
end Rows
end Go.Proofs.YtkadingpmebjbaaDoor
