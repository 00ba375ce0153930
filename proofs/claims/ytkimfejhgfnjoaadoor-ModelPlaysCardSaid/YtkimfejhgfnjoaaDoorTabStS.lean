/- The table of statuses' steps. -/
import Derived.Test.YtkimfejhgfnjoaaDoorBase
import Derived.Test.YtkimfejhgfnjoaaDoorLaid
namespace Go.Proofs.YtkimfejhgfnjoaaDoor
set_option linter.unusedVariables false
set_option linter.unusedSimpArgs false
set_option maxRecDepth 100000
open Go.RowKit

def stStep0 : Nat → Int
  | 0 => 2
  | 1 => 4
  | 2 => 122
  | 3 => 2
  | 4 => 2
  | 5 => 2
  | 6 => 0
  | _ => 0
end Go.Proofs.YtkimfejhgfnjoaaDoor
