/- Two media types alike. -/
import Derived.Test.YthkgaaibhjkngaaDoorZ
set_option linter.unusedVariables false
namespace Go.Proofs.YthkgaaibhjkngaaDoor
open Go.RowKit
abbrev PL := List (List UInt8 × List UInt8)


end Go.Proofs.YthkgaaibhjkngaaDoor
