/- All that a small world is made of: imports. -/
import Derived.Test.YtopidlcifaenjaaGreatDoorPre1
import Derived.Test.YtopidlcifaenjaaGreatDoorPre2
import Derived.Test.YtopidlcifaenjaaGreatDoorMach2
import Derived.Test.YtopidlcifaenjaaGreatDoorRight
import Derived.Test.YtopidlcifaenjaaGreatDoorEvent
namespace Go.Proofs.YtopidlcifaenjaaGreatDoor
end Go.Proofs.YtopidlcifaenjaaGreatDoor
