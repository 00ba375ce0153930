/- All that a small world is made of: imports. -/
import Derived.Test.YtbplbdopnhnhdaaGreatDoorPre1
import Derived.Test.YtbplbdopnhnhdaaGreatDoorPre2
import Derived.Test.YtbplbdopnhnhdaaGreatDoorMach2
import Derived.Test.YtbplbdopnhnhdaaGreatDoorRight
import Derived.Test.YtbplbdopnhnhdaaGreatDoorEvent
namespace Go.Proofs.YtbplbdopnhnhdaaGreatDoor
end Go.Proofs.YtbplbdopnhnhdaaGreatDoor
