/- Contracts of event.Right, beside event.Name's. -/
import Derived.Test.YtnaphgjkkagpoaaDoorEvent
import Derived.Test.YtnaphgjkkagpoaaDoorRight
namespace Go.Proofs.YtnaphgjkkagpoaaDoor
end Go.Proofs.YtnaphgjkkagpoaaDoor
