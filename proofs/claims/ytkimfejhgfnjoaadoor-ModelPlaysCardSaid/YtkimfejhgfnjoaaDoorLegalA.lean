/- Contracts of status.Legal. -/
import Derived.Test.YtkimfejhgfnjoaaDoorTabStS
namespace Go.Proofs.YtkimfejhgfnjoaaDoor
open Go.RowKit
set_option linter.unusedVariables false
set_option linter.unusedSimpArgs false
/-- Is a step legal? -/
def stLegal (a b : Int) : Bool := if b = 1 then decide (a = 0) || (decide (2 ≤ a) && decide (a ≤ 5)) else if b = 2 then decide (a = 1) else decide (a = 2) && (decide (3 ≤ b) && decide (b ≤ 6))

end Go.Proofs.YtkimfejhgfnjoaaDoor
