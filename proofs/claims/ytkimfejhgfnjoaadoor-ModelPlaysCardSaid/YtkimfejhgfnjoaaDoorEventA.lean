/- Contracts of event.Right, beside event.Name's. -/
import Derived.Test.YtkimfejhgfnjoaaDoorEvent
import Derived.Test.YtkimfejhgfnjoaaDoorRight
namespace Go.Proofs.YtkimfejhgfnjoaaDoor
end Go.Proofs.YtkimfejhgfnjoaaDoor
