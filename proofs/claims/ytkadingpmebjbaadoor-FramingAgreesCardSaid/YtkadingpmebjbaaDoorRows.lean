/-
  NARROWER THAN 'FOR EVERY INPUT', by the rows' own cells (each row's printed sentence says how): LexMedias: laid · FieldsRights: laid · FieldsNames: laid · FieldsMembers: laid · FieldsParted: laid · FramingSays: laid · FramingBoth: laid · FramingAgrees: laid · FramingOthers: laid.
  DERIVED. THE GIVEN ROWS OF THIS SEAT. 9 by the template 'for every input the law returns true; each argument reads behind the call as it read before'; 0 by the template 'total and deterministic' (their statements: YtkadingpmebjbaaDoorTotals.lean).
  GIVEN WITH THE SEED: the statements are not yours to turn. If you find one false, say at which input.
  Laid BY PROGRAM, IN A SANDBOX (cutbox-rows.mjs): the forced cells as the released guide's own fill.sh prints them over the translation 2841505e19678d9e… (all of the seat's roots in one cut). By AI agents, Wed Nov 11 2026. No macro, syntax, notation, axiom, sorry.
-/
import Derived.Test.YtkadingpmebjbaaDoorChecked
import GoSem.PinnedTables
import GoSem.Claim
import GoSem.ClaimJoined
import GoSem.ClaimMapViews
import Derived.JoinedTies
import Derived.KernelRfl
namespace Go.Proofs.YtkadingpmebjbaaDoor
/- THE CELL 'sum', in the pinned program and in every row, IS THE sha256 OF THE DUMP (.gsa) THAT YtkadingpmebjbaaDoorProg.lean LOADS. Nothing in Lean hashes anything: it is a label: what it is worth is what the hold of that sum in a sandbox is worth. -/
noncomputable def Tryd.pinned : Pinned := { name := "ytkadingpmebjbaadoor", sum := "2841505e19678d9e2ad8748fd3f73afc42d4c75a55d44e9097d05435b0c2455e", checked := Tryd.checked }
namespace Rows
def none {H : Type} : Left H := { results := [], args := [] }

/- WHAT THE LISTED PACKAGE-LEVEL VARIABLES READ AS WHEN THE CALL BEGINS. Each datum BY PROGRAM (the guide's laid-datum.mjs) off the statement by which the dump's own 'gosem.cut.vars' lays the variable. In a bare row this is a premise. The card (YtkadingpmebjbaaDoorCards.lean) ties it to the program's text. -/
def laid_unicode_utf8_acceptRanges {H : Type} : DataW H := .agg [.agg [.lit (.int .u8 128), .lit (.int .u8 191)], .agg [.lit (.int .u8 160), .lit (.int .u8 191)], .agg [.lit (.int .u8 128), .lit (.int .u8 159)], .agg [.lit (.int .u8 144), .lit (.int .u8 191)], .agg [.lit (.int .u8 128), .lit (.int .u8 143)], .agg [.lit (.int .u8 0), .lit (.int .u8 0)], .agg [.lit (.int .u8 0), .lit (.int .u8 0)], .agg [.lit (.int .u8 0), .lit (.int .u8 0)], .agg [.lit (.int .u8 0), .lit (.int .u8 0)], .agg [.lit (.int .u8 0), .lit (.int .u8 0)], .agg [.lit (.int .u8 0), .lit (.int .u8 0)], .agg [.lit (.int .u8 0), .lit (.int .u8 0)], .agg [.lit (.int .u8 0), .lit (.int .u8 0)], .agg [.lit (.int .u8 0), .lit (.int .u8 0)], .agg [.lit (.int .u8 0), .lit (.int .u8 0)], .agg [.lit (.int .u8 0), .lit (.int .u8 0)]]
/-- One of Go's own tables, pinned by name: the form's constant. -/
def laid_unicode_utf8_first : DataW Unit := Go.Pinned.utf8First
def laid_math_bits_deBruijn32tab {H : Type} : DataW H := .agg [.lit (.int .u8 0), .lit (.int .u8 1), .lit (.int .u8 28), .lit (.int .u8 2), .lit (.int .u8 29), .lit (.int .u8 14), .lit (.int .u8 24), .lit (.int .u8 3), .lit (.int .u8 30), .lit (.int .u8 22), .lit (.int .u8 20), .lit (.int .u8 15), .lit (.int .u8 25), .lit (.int .u8 17), .lit (.int .u8 4), .lit (.int .u8 8), .lit (.int .u8 31), .lit (.int .u8 27), .lit (.int .u8 13), .lit (.int .u8 23), .lit (.int .u8 21), .lit (.int .u8 19), .lit (.int .u8 16), .lit (.int .u8 7), .lit (.int .u8 26), .lit (.int .u8 12), .lit (.int .u8 18), .lit (.int .u8 6), .lit (.int .u8 11), .lit (.int .u8 5), .lit (.int .u8 10), .lit (.int .u8 9)]
def laid_math_bits_deBruijn64tab {H : Type} : DataW H := .agg [.lit (.int .u8 0), .lit (.int .u8 1), .lit (.int .u8 56), .lit (.int .u8 2), .lit (.int .u8 57), .lit (.int .u8 49), .lit (.int .u8 28), .lit (.int .u8 3), .lit (.int .u8 61), .lit (.int .u8 58), .lit (.int .u8 42), .lit (.int .u8 50), .lit (.int .u8 38), .lit (.int .u8 29), .lit (.int .u8 17), .lit (.int .u8 4), .lit (.int .u8 62), .lit (.int .u8 47), .lit (.int .u8 59), .lit (.int .u8 36), .lit (.int .u8 45), .lit (.int .u8 43), .lit (.int .u8 51), .lit (.int .u8 22), .lit (.int .u8 53), .lit (.int .u8 39), .lit (.int .u8 33), .lit (.int .u8 30), .lit (.int .u8 24), .lit (.int .u8 18), .lit (.int .u8 12), .lit (.int .u8 5), .lit (.int .u8 63), .lit (.int .u8 55), .lit (.int .u8 48), .lit (.int .u8 27), .lit (.int .u8 60), .lit (.int .u8 41), .lit (.int .u8 37), .lit (.int .u8 16), .lit (.int .u8 46), .lit (.int .u8 35), .lit (.int .u8 44), .lit (.int .u8 21), .lit (.int .u8 52), .lit (.int .u8 32), .lit (.int .u8 23), .lit (.int .u8 11), .lit (.int .u8 54), .lit (.int .u8 26), .lit (.int .u8 40), .lit (.int .u8 15), .lit (.int .u8 34), .lit (.int .u8 20), .lit (.int .u8 31), .lit (.int .u8 10), .lit (.int .u8 25), .lit (.int .u8 14), .lit (.int .u8 19), .lit (.int .u8 9), .lit (.int .u8 13), .lit (.int .u8 8), .lit (.int .u8 7), .lit (.int .u8 6)]
def laid_internal_strconv_uint64pow10 {H : Type} : DataW H := .agg [.lit (.int .u64 1), .lit (.int .u64 10), .lit (.int .u64 100), .lit (.int .u64 1000), .lit (.int .u64 10000), .lit (.int .u64 100000), .lit (.int .u64 1000000), .lit (.int .u64 10000000), .lit (.int .u64 100000000), .lit (.int .u64 1000000000), .lit (.int .u64 10000000000), .lit (.int .u64 100000000000), .lit (.int .u64 1000000000000), .lit (.int .u64 10000000000000), .lit (.int .u64 100000000000000), .lit (.int .u64 1000000000000000), .lit (.int .u64 10000000000000000), .lit (.int .u64 100000000000000000), .lit (.int .u64 1000000000000000000), .lit (.int .u64 10000000000000000000)]

/-- 'colanderlaw03.LexMedias': WHATEVER THE INPUT: true; the input reads as it did. -/
def lexMediasSpec : ChangeSpec := { name := "lexMedias", fn := fun _ => fun
  | [d1, d2] => { results := [.lit (.bool true)], args := [d1, d2] }
  | _ => none }
def lexMediasRow : OpenClaim := { program := "ytkadingpmebjbaadoor", sum := "2841505e19678d9e2ad8748fd3f73afc42d4c75a55d44e9097d05435b0c2455e", func := "colander/colanderlaw03.LexMedias", spec := "lexMedias", inPlace := ["internal/bytealg.IndexByteString", "internal/bytealg.IndexString"], named := ["unicode/utf8.first", "unicode/utf8.acceptRanges", "internal/bytealg.MaxLen"], apart := false, laid := [("unicode/utf8.acceptRanges", laid_unicode_utf8_acceptRanges), ("unicode/utf8.first", laid_unicode_utf8_first)] }
def LexMediasSaid : Prop := lexMediasRow.holds Tryd.pinned (OpenSpec.ofChange lexMediasSpec)

/-- ITS FALSE NEIGHBOUR: 'it returns false'. Refute it at one input. -/
def lexMediasWrong : ChangeSpec := { name := "lexMedias", fn := fun _ => fun
  | [d1, d2] => { results := [.lit (.bool false)], args := [d1, d2] }
  | _ => none }
def LexMediasWrongFalsely : Prop := lexMediasRow.holds Tryd.pinned (OpenSpec.ofChange lexMediasWrong)

/-- 'colanderlaw04.FieldsRights': WHATEVER THE INPUT: true; the input reads as it did. -/
def fieldsRightsSpec : ChangeSpec := { name := "fieldsRights", fn := fun _ => fun
  | [d] => { results := [.lit (.bool true)], args := [d] }
  | _ => none }
def fieldsRightsRow : OpenClaim := { program := "ytkadingpmebjbaadoor", sum := "2841505e19678d9e2ad8748fd3f73afc42d4c75a55d44e9097d05435b0c2455e", func := "colander/colanderlaw04.FieldsRights", spec := "fieldsRights", inPlace := ["internal/bytealg.IndexByteString", "internal/bytealg.IndexString"], named := ["unicode/utf8.first", "unicode/utf8.acceptRanges", "internal/bytealg.MaxLen"], apart := false, laid := [("unicode/utf8.acceptRanges", laid_unicode_utf8_acceptRanges), ("unicode/utf8.first", laid_unicode_utf8_first)] }
def FieldsRightsSaid : Prop := fieldsRightsRow.holds Tryd.pinned (OpenSpec.ofChange fieldsRightsSpec)

/-- ITS FALSE NEIGHBOUR: 'it returns false'. Refute it at one input. -/
def fieldsRightsWrong : ChangeSpec := { name := "fieldsRights", fn := fun _ => fun
  | [d] => { results := [.lit (.bool false)], args := [d] }
  | _ => none }
def FieldsRightsWrongFalsely : Prop := fieldsRightsRow.holds Tryd.pinned (OpenSpec.ofChange fieldsRightsWrong)

/-- 'colanderlaw04.FieldsNames': WHATEVER THE INPUT: true; the input reads as it did. -/
def fieldsNamesSpec : ChangeSpec := { name := "fieldsNames", fn := fun _ => fun
  | [d1, d2] => { results := [.lit (.bool true)], args := [d1, d2] }
  | _ => none }
def fieldsNamesRow : OpenClaim := { program := "ytkadingpmebjbaadoor", sum := "2841505e19678d9e2ad8748fd3f73afc42d4c75a55d44e9097d05435b0c2455e", func := "colander/colanderlaw04.FieldsNames", spec := "fieldsNames", inPlace := ["internal/bytealg.IndexByteString", "internal/bytealg.IndexString"], named := ["unicode/utf8.first", "unicode/utf8.acceptRanges", "internal/bytealg.MaxLen"], apart := false, laid := [("unicode/utf8.acceptRanges", laid_unicode_utf8_acceptRanges), ("unicode/utf8.first", laid_unicode_utf8_first)] }
def FieldsNamesSaid : Prop := fieldsNamesRow.holds Tryd.pinned (OpenSpec.ofChange fieldsNamesSpec)

/-- ITS FALSE NEIGHBOUR: 'it returns false'. Refute it at one input. -/
def fieldsNamesWrong : ChangeSpec := { name := "fieldsNames", fn := fun _ => fun
  | [d1, d2] => { results := [.lit (.bool false)], args := [d1, d2] }
  | _ => none }
def FieldsNamesWrongFalsely : Prop := fieldsNamesRow.holds Tryd.pinned (OpenSpec.ofChange fieldsNamesWrong)

/-- 'colanderlaw04.FieldsMembers': WHATEVER THE INPUT: true; the input reads as it did. -/
def fieldsMembersSpec : ChangeSpec := { name := "fieldsMembers", fn := fun _ => fun
  | [d1, d2] => { results := [.lit (.bool true)], args := [d1, d2] }
  | _ => none }
def fieldsMembersRow : OpenClaim := { program := "ytkadingpmebjbaadoor", sum := "2841505e19678d9e2ad8748fd3f73afc42d4c75a55d44e9097d05435b0c2455e", func := "colander/colanderlaw04.FieldsMembers", spec := "fieldsMembers", inPlace := ["internal/bytealg.IndexByteString", "internal/bytealg.IndexString"], named := ["unicode/utf8.first", "unicode/utf8.acceptRanges", "internal/bytealg.MaxLen"], apart := false, laid := [("unicode/utf8.acceptRanges", laid_unicode_utf8_acceptRanges), ("unicode/utf8.first", laid_unicode_utf8_first)] }
def FieldsMembersSaid : Prop := fieldsMembersRow.holds Tryd.pinned (OpenSpec.ofChange fieldsMembersSpec)

/-- ITS FALSE NEIGHBOUR: 'it returns false'. Refute it at one input. -/
def fieldsMembersWrong : ChangeSpec := { name := "fieldsMembers", fn := fun _ => fun
  | [d1, d2] => { results := [.lit (.bool false)], args := [d1, d2] }
  | _ => none }
def FieldsMembersWrongFalsely : Prop := fieldsMembersRow.holds Tryd.pinned (OpenSpec.ofChange fieldsMembersWrong)

/-- 'colanderlaw04.FieldsParted': WHATEVER THE INPUT: true; the input reads as it did. -/
def fieldsPartedSpec : ChangeSpec := { name := "fieldsParted", fn := fun _ => fun
  | [d1, d2] => { results := [.lit (.bool true)], args := [d1, d2] }
  | _ => none }
def fieldsPartedRow : OpenClaim := { program := "ytkadingpmebjbaadoor", sum := "2841505e19678d9e2ad8748fd3f73afc42d4c75a55d44e9097d05435b0c2455e", func := "colander/colanderlaw04.FieldsParted", spec := "fieldsParted", inPlace := ["internal/bytealg.IndexByteString", "internal/bytealg.IndexString"], named := ["unicode/utf8.first", "unicode/utf8.acceptRanges", "internal/bytealg.MaxLen"], apart := false, laid := [("unicode/utf8.acceptRanges", laid_unicode_utf8_acceptRanges), ("unicode/utf8.first", laid_unicode_utf8_first)] }
def FieldsPartedSaid : Prop := fieldsPartedRow.holds Tryd.pinned (OpenSpec.ofChange fieldsPartedSpec)

/-- ITS FALSE NEIGHBOUR: 'it returns false'. Refute it at one input. -/
def fieldsPartedWrong : ChangeSpec := { name := "fieldsParted", fn := fun _ => fun
  | [d1, d2] => { results := [.lit (.bool false)], args := [d1, d2] }
  | _ => none }
def FieldsPartedWrongFalsely : Prop := fieldsPartedRow.holds Tryd.pinned (OpenSpec.ofChange fieldsPartedWrong)

/-- 'colanderlaw06.FramingSays': WHATEVER THE INPUT: true; the input reads as it did. -/
def framingSaysSpec : ChangeSpec := { name := "framingSays", fn := fun _ => fun
  | [d1, d2, d3] => { results := [.lit (.bool true)], args := [d1, d2, d3] }
  | _ => none }
def framingSaysRow : OpenClaim := { program := "ytkadingpmebjbaadoor", sum := "2841505e19678d9e2ad8748fd3f73afc42d4c75a55d44e9097d05435b0c2455e", func := "colander/colanderlaw06.FramingSays", spec := "framingSays", inPlace := ["internal/bytealg.IndexByteString", "internal/bytealg.IndexString"], named := ["unicode/utf8.first", "unicode/utf8.acceptRanges", "internal/bytealg.MaxLen"], apart := false, laid := [("unicode/utf8.acceptRanges", laid_unicode_utf8_acceptRanges), ("unicode/utf8.first", laid_unicode_utf8_first)] }
def FramingSaysSaid : Prop := framingSaysRow.holds Tryd.pinned (OpenSpec.ofChange framingSaysSpec)

/-- ITS FALSE NEIGHBOUR: 'it returns false'. Refute it at one input. -/
def framingSaysWrong : ChangeSpec := { name := "framingSays", fn := fun _ => fun
  | [d1, d2, d3] => { results := [.lit (.bool false)], args := [d1, d2, d3] }
  | _ => none }
def FramingSaysWrongFalsely : Prop := framingSaysRow.holds Tryd.pinned (OpenSpec.ofChange framingSaysWrong)

/-- 'colanderlaw06.FramingBoth': WHATEVER THE INPUT: true; the input reads as it did. -/
def framingBothSpec : ChangeSpec := { name := "framingBoth", fn := fun _ => fun
  | [d1, d2, d3, d4, d5, d6] => { results := [.lit (.bool true)], args := [d1, d2, d3, d4, d5, d6] }
  | _ => none }
def framingBothRow : OpenClaim := { program := "ytkadingpmebjbaadoor", sum := "2841505e19678d9e2ad8748fd3f73afc42d4c75a55d44e9097d05435b0c2455e", func := "colander/colanderlaw06.FramingBoth", spec := "framingBoth", inPlace := ["internal/bytealg.IndexByteString", "internal/bytealg.IndexString"], named := ["unicode/utf8.first", "unicode/utf8.acceptRanges", "internal/bytealg.MaxLen"], apart := false, laid := [("unicode/utf8.acceptRanges", laid_unicode_utf8_acceptRanges), ("unicode/utf8.first", laid_unicode_utf8_first)] }
def FramingBothSaid : Prop := framingBothRow.holds Tryd.pinned (OpenSpec.ofChange framingBothSpec)

/-- ITS FALSE NEIGHBOUR: 'it returns false'. Refute it at one input. -/
def framingBothWrong : ChangeSpec := { name := "framingBoth", fn := fun _ => fun
  | [d1, d2, d3, d4, d5, d6] => { results := [.lit (.bool false)], args := [d1, d2, d3, d4, d5, d6] }
  | _ => none }
def FramingBothWrongFalsely : Prop := framingBothRow.holds Tryd.pinned (OpenSpec.ofChange framingBothWrong)

/-- 'colanderlaw06.FramingAgrees': WHATEVER THE INPUT: true; the input reads as it did. -/
def framingAgreesSpec : ChangeSpec := { name := "framingAgrees", fn := fun _ => fun
  | [d1, d2] => { results := [.lit (.bool true)], args := [d1, d2] }
  | _ => none }
def framingAgreesRow : OpenClaim := { program := "ytkadingpmebjbaadoor", sum := "2841505e19678d9e2ad8748fd3f73afc42d4c75a55d44e9097d05435b0c2455e", func := "colander/colanderlaw06.FramingAgrees", spec := "framingAgrees", inPlace := ["internal/bytealg.IndexByteString", "internal/bytealg.IndexString"], named := ["unicode/utf8.first", "unicode/utf8.acceptRanges", "internal/strconv.uint64pow10", "math/bits.deBruijn32tab", "math/bits.deBruijn64tab", "internal/bytealg.MaxLen"], apart := false, laid := [("math/bits.deBruijn32tab", laid_math_bits_deBruijn32tab), ("math/bits.deBruijn64tab", laid_math_bits_deBruijn64tab), ("internal/strconv.uint64pow10", laid_internal_strconv_uint64pow10), ("unicode/utf8.acceptRanges", laid_unicode_utf8_acceptRanges), ("unicode/utf8.first", laid_unicode_utf8_first)] }
def FramingAgreesSaid : Prop := framingAgreesRow.holds Tryd.pinned (OpenSpec.ofChange framingAgreesSpec)

/-- ITS FALSE NEIGHBOUR: 'it returns false'. Refute it at one input. -/
def framingAgreesWrong : ChangeSpec := { name := "framingAgrees", fn := fun _ => fun
  | [d1, d2] => { results := [.lit (.bool false)], args := [d1, d2] }
  | _ => none }
def FramingAgreesWrongFalsely : Prop := framingAgreesRow.holds Tryd.pinned (OpenSpec.ofChange framingAgreesWrong)

/-- 'colanderlaw06.FramingOthers': WHATEVER THE INPUT: true; the input reads as it did. -/
def framingOthersSpec : ChangeSpec := { name := "framingOthers", fn := fun _ => fun
  | [d1, d2, d3] => { results := [.lit (.bool true)], args := [d1, d2, d3] }
  | _ => none }
def framingOthersRow : OpenClaim := { program := "ytkadingpmebjbaadoor", sum := "2841505e19678d9e2ad8748fd3f73afc42d4c75a55d44e9097d05435b0c2455e", func := "colander/colanderlaw06.FramingOthers", spec := "framingOthers", inPlace := ["internal/bytealg.IndexByteString", "internal/bytealg.IndexString"], named := ["unicode/utf8.first", "unicode/utf8.acceptRanges", "internal/bytealg.MaxLen"], apart := false, laid := [("unicode/utf8.acceptRanges", laid_unicode_utf8_acceptRanges), ("unicode/utf8.first", laid_unicode_utf8_first)] }
def FramingOthersSaid : Prop := framingOthersRow.holds Tryd.pinned (OpenSpec.ofChange framingOthersSpec)

/-- ITS FALSE NEIGHBOUR: 'it returns false'. Refute it at one input. -/
def framingOthersWrong : ChangeSpec := { name := "framingOthers", fn := fun _ => fun
  | [d1, d2, d3] => { results := [.lit (.bool false)], args := [d1, d2, d3] }
  | _ => none }
def FramingOthersWrongFalsely : Prop := framingOthersRow.holds Tryd.pinned (OpenSpec.ofChange framingOthersWrong)

/- THE SECOND FORM. 'bulk': how many values and letters a reading holds, each counted each time it is reached (what is shared counts as often as it is met; a slice's spare places count too). A statement '..UptoSaid' is the law's where the arguments, and the package variables that the reading takes, are together of bulk at most 1048576: NARROWER than '..Said'. Prove '..Said' where nothing that the law and all that it calls make is longer than what came in: it says more and counts as full. Else prove '..UptoSaid'. A law counts once. -/
mutual
def uptoBulk {H : Type} : DataW H → Nat
  | .lit (.string bytes) => bytes.length + 1
  | .lit _ => 1
  | .nil => 1
  | .ptr d => uptoBulk d + 1
  | .slice elems spare => uptoBulkAll elems + uptoBulkAll spare + 1
  | .agg parts => uptoBulkAll parts + 1
  | .iface _ d => uptoBulk d + 1
  | .map entries => uptoBulkEntries entries + 1
  | .held _ => 1
def uptoBulkAll {H : Type} : List (DataW H) → Nat
  | [] => 0
  | d :: r => uptoBulk d + uptoBulkAll r
def uptoBulkEntries {H : Type} : List (Lit × DataW H) → Nat
  | [] => 0
  | x :: r => uptoBulkEntry x + uptoBulkEntries r
def uptoBulkEntry {H : Type} : Lit × DataW H → Nat
  | (.string bytes, d) => bytes.length + uptoBulk d + 1
  | (_, d) => uptoBulk d + 1
 end
def uptoSmall : (H : Type) → List (DataW H) → Bool := fun _ ds => decide (uptoBulkAll ds ≤ 1048576)
def OpenSpec.upto (s : _root_.Go.ChangeSpec) : _root_.Go.OpenSpec := { _root_.Go.OpenSpec.ofChange s with cond := some uptoSmall }

/-- 'colanderlaw03.LexMedias', WHERE WHAT IT READS IS OF BULK AT MOST 1048576: true; the input reads as it did. -/
def lexMediasUptoRow : OpenClaim := { program := "ytkadingpmebjbaadoor", sum := "2841505e19678d9e2ad8748fd3f73afc42d4c75a55d44e9097d05435b0c2455e", func := "colander/colanderlaw03.LexMedias", spec := "lexMedias", inPlace := ["internal/bytealg.IndexByteString", "internal/bytealg.IndexString"], named := ["unicode/utf8.first", "unicode/utf8.acceptRanges", "internal/bytealg.MaxLen"], apart := false, laid := [("unicode/utf8.acceptRanges", laid_unicode_utf8_acceptRanges), ("unicode/utf8.first", laid_unicode_utf8_first)], narrowed := true }
def LexMediasUptoSaid : Prop := lexMediasUptoRow.holds Tryd.pinned (OpenSpec.upto lexMediasSpec)

/-- 'colanderlaw04.FieldsRights', WHERE WHAT IT READS IS OF BULK AT MOST 1048576: true; the input reads as it did. -/
def fieldsRightsUptoRow : OpenClaim := { program := "ytkadingpmebjbaadoor", sum := "2841505e19678d9e2ad8748fd3f73afc42d4c75a55d44e9097d05435b0c2455e", func := "colander/colanderlaw04.FieldsRights", spec := "fieldsRights", inPlace := ["internal/bytealg.IndexByteString", "internal/bytealg.IndexString"], named := ["unicode/utf8.first", "unicode/utf8.acceptRanges", "internal/bytealg.MaxLen"], apart := false, laid := [("unicode/utf8.acceptRanges", laid_unicode_utf8_acceptRanges), ("unicode/utf8.first", laid_unicode_utf8_first)], narrowed := true }
def FieldsRightsUptoSaid : Prop := fieldsRightsUptoRow.holds Tryd.pinned (OpenSpec.upto fieldsRightsSpec)

/-- 'colanderlaw04.FieldsNames', WHERE WHAT IT READS IS OF BULK AT MOST 1048576: true; the input reads as it did. -/
def fieldsNamesUptoRow : OpenClaim := { program := "ytkadingpmebjbaadoor", sum := "2841505e19678d9e2ad8748fd3f73afc42d4c75a55d44e9097d05435b0c2455e", func := "colander/colanderlaw04.FieldsNames", spec := "fieldsNames", inPlace := ["internal/bytealg.IndexByteString", "internal/bytealg.IndexString"], named := ["unicode/utf8.first", "unicode/utf8.acceptRanges", "internal/bytealg.MaxLen"], apart := false, laid := [("unicode/utf8.acceptRanges", laid_unicode_utf8_acceptRanges), ("unicode/utf8.first", laid_unicode_utf8_first)], narrowed := true }
def FieldsNamesUptoSaid : Prop := fieldsNamesUptoRow.holds Tryd.pinned (OpenSpec.upto fieldsNamesSpec)

/-- 'colanderlaw04.FieldsMembers', WHERE WHAT IT READS IS OF BULK AT MOST 1048576: true; the input reads as it did. -/
def fieldsMembersUptoRow : OpenClaim := { program := "ytkadingpmebjbaadoor", sum := "2841505e19678d9e2ad8748fd3f73afc42d4c75a55d44e9097d05435b0c2455e", func := "colander/colanderlaw04.FieldsMembers", spec := "fieldsMembers", inPlace := ["internal/bytealg.IndexByteString", "internal/bytealg.IndexString"], named := ["unicode/utf8.first", "unicode/utf8.acceptRanges", "internal/bytealg.MaxLen"], apart := false, laid := [("unicode/utf8.acceptRanges", laid_unicode_utf8_acceptRanges), ("unicode/utf8.first", laid_unicode_utf8_first)], narrowed := true }
def FieldsMembersUptoSaid : Prop := fieldsMembersUptoRow.holds Tryd.pinned (OpenSpec.upto fieldsMembersSpec)

/-- 'colanderlaw04.FieldsParted', WHERE WHAT IT READS IS OF BULK AT MOST 1048576: true; the input reads as it did. -/
def fieldsPartedUptoRow : OpenClaim := { program := "ytkadingpmebjbaadoor", sum := "2841505e19678d9e2ad8748fd3f73afc42d4c75a55d44e9097d05435b0c2455e", func := "colander/colanderlaw04.FieldsParted", spec := "fieldsParted", inPlace := ["internal/bytealg.IndexByteString", "internal/bytealg.IndexString"], named := ["unicode/utf8.first", "unicode/utf8.acceptRanges", "internal/bytealg.MaxLen"], apart := false, laid := [("unicode/utf8.acceptRanges", laid_unicode_utf8_acceptRanges), ("unicode/utf8.first", laid_unicode_utf8_first)], narrowed := true }
def FieldsPartedUptoSaid : Prop := fieldsPartedUptoRow.holds Tryd.pinned (OpenSpec.upto fieldsPartedSpec)

/-- 'colanderlaw06.FramingSays', WHERE WHAT IT READS IS OF BULK AT MOST 1048576: true; the input reads as it did. -/
def framingSaysUptoRow : OpenClaim := { program := "ytkadingpmebjbaadoor", sum := "2841505e19678d9e2ad8748fd3f73afc42d4c75a55d44e9097d05435b0c2455e", func := "colander/colanderlaw06.FramingSays", spec := "framingSays", inPlace := ["internal/bytealg.IndexByteString", "internal/bytealg.IndexString"], named := ["unicode/utf8.first", "unicode/utf8.acceptRanges", "internal/bytealg.MaxLen"], apart := false, laid := [("unicode/utf8.acceptRanges", laid_unicode_utf8_acceptRanges), ("unicode/utf8.first", laid_unicode_utf8_first)], narrowed := true }
def FramingSaysUptoSaid : Prop := framingSaysUptoRow.holds Tryd.pinned (OpenSpec.upto framingSaysSpec)

/-- 'colanderlaw06.FramingBoth', WHERE WHAT IT READS IS OF BULK AT MOST 1048576: true; the input reads as it did. -/
def framingBothUptoRow : OpenClaim := { program := "ytkadingpmebjbaadoor", sum := "2841505e19678d9e2ad8748fd3f73afc42d4c75a55d44e9097d05435b0c2455e", func := "colander/colanderlaw06.FramingBoth", spec := "framingBoth", inPlace := ["internal/bytealg.IndexByteString", "internal/bytealg.IndexString"], named := ["unicode/utf8.first", "unicode/utf8.acceptRanges", "internal/bytealg.MaxLen"], apart := false, laid := [("unicode/utf8.acceptRanges", laid_unicode_utf8_acceptRanges), ("unicode/utf8.first", laid_unicode_utf8_first)], narrowed := true }
def FramingBothUptoSaid : Prop := framingBothUptoRow.holds Tryd.pinned (OpenSpec.upto framingBothSpec)

/-- 'colanderlaw06.FramingAgrees', WHERE WHAT IT READS IS OF BULK AT MOST 1048576: true; the input reads as it did. -/
def framingAgreesUptoRow : OpenClaim := { program := "ytkadingpmebjbaadoor", sum := "2841505e19678d9e2ad8748fd3f73afc42d4c75a55d44e9097d05435b0c2455e", func := "colander/colanderlaw06.FramingAgrees", spec := "framingAgrees", inPlace := ["internal/bytealg.IndexByteString", "internal/bytealg.IndexString"], named := ["unicode/utf8.first", "unicode/utf8.acceptRanges", "internal/strconv.uint64pow10", "math/bits.deBruijn32tab", "math/bits.deBruijn64tab", "internal/bytealg.MaxLen"], apart := false, laid := [("math/bits.deBruijn32tab", laid_math_bits_deBruijn32tab), ("math/bits.deBruijn64tab", laid_math_bits_deBruijn64tab), ("internal/strconv.uint64pow10", laid_internal_strconv_uint64pow10), ("unicode/utf8.acceptRanges", laid_unicode_utf8_acceptRanges), ("unicode/utf8.first", laid_unicode_utf8_first)], narrowed := true }
def FramingAgreesUptoSaid : Prop := framingAgreesUptoRow.holds Tryd.pinned (OpenSpec.upto framingAgreesSpec)

/-- 'colanderlaw06.FramingOthers', WHERE WHAT IT READS IS OF BULK AT MOST 1048576: true; the input reads as it did. -/
def framingOthersUptoRow : OpenClaim := { program := "ytkadingpmebjbaadoor", sum := "2841505e19678d9e2ad8748fd3f73afc42d4c75a55d44e9097d05435b0c2455e", func := "colander/colanderlaw06.FramingOthers", spec := "framingOthers", inPlace := ["internal/bytealg.IndexByteString", "internal/bytealg.IndexString"], named := ["unicode/utf8.first", "unicode/utf8.acceptRanges", "internal/bytealg.MaxLen"], apart := false, laid := [("unicode/utf8.acceptRanges", laid_unicode_utf8_acceptRanges), ("unicode/utf8.first", laid_unicode_utf8_first)], narrowed := true }
def FramingOthersUptoSaid : Prop := framingOthersUptoRow.holds Tryd.pinned (OpenSpec.upto framingOthersSpec)

end Rows
end Go.Proofs.YtkadingpmebjbaaDoor
