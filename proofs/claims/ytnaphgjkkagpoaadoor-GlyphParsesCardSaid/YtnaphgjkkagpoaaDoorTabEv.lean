/- The tables of events. -/
import Derived.Test.YtnaphgjkkagpoaaDoorBase
import Derived.Test.YtnaphgjkkagpoaaDoorLaid
namespace Go.Proofs.YtnaphgjkkagpoaaDoor
set_option linter.unusedVariables false
set_option linter.unusedSimpArgs false
set_option maxRecDepth 100000
open Go.RowKit

def evName0 : Nat → ByteArray
  | 0 => { data := #[115, 112, 97, 119, 110] }
  | 1 => { data := #[114, 101, 97, 100, 121] }
  | 2 => { data := #[100, 105, 115, 112, 97, 116, 99, 104] }
  | 3 => { data := #[121, 105, 101, 108, 100] }
  | 4 => { data := #[98, 108, 111, 99, 107] }
  | 5 => { data := #[115, 108, 101, 101, 112] }
  | 6 => { data := #[119, 97, 105, 116] }
  | 7 => { data := #[101, 120, 105, 116] }
  | _ => { data := #[] }
def evStep0 : Nat → Int
  | 0 => 0
  | 1 => 0
  | 2 => 1
  | 3 => 2
  | 4 => 2
  | 5 => 2
  | 6 => 2
  | 7 => 2
  | _ => 0
def evStep1 : Nat → Int
  | 0 => 1
  | 1 => 1
  | 2 => 2
  | 3 => 1
  | 4 => 3
  | 5 => 4
  | 6 => 5
  | 7 => 6
  | _ => 0
end Go.Proofs.YtnaphgjkkagpoaaDoor
