/- Contracts of status.Legal, of the document's Legal; layer 14's lives. -/
import Derived.Test.YtkimfejhgfnjoaaDoorLegalA
namespace Go.Proofs.YtkimfejhgfnjoaaDoor
open Go.RowKit
set_option linter.unusedVariables false
set_option linter.unusedSimpArgs false
end Go.Proofs.YtkimfejhgfnjoaaDoor
