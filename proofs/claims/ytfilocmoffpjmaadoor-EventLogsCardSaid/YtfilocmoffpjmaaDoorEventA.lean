/- Contracts of event.Right, beside event.Name's. -/
import Derived.Test.YtfilocmoffpjmaaDoorEvent
import Derived.Test.YtfilocmoffpjmaaDoorRight
namespace Go.Proofs.YtfilocmoffpjmaaDoor
end Go.Proofs.YtfilocmoffpjmaaDoor
