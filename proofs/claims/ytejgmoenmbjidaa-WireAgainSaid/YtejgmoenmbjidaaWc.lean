/-
  A part of the proof: what the program's functions hand back, as theorems. No condition but those that each theorem names.
-/
import Derived.Test.YtejgmoenmbjidaaWb
set_option linter.unusedSimpArgs false
set_option linter.unusedVariables false
namespace Go.Proofs.Ytejgmoenmbjidaa
open Go.RowKit Go.Ev
set_option maxRecDepth 100000
noncomputable section
end
end Go.Proofs.Ytejgmoenmbjidaa
