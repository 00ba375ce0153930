/- All that a small world is made of: imports. -/
import Derived.Test.YtlgkjaeijceekaaGreatDoorPre1
import Derived.Test.YtlgkjaeijceekaaGreatDoorPre2
import Derived.Test.YtlgkjaeijceekaaGreatDoorEvent
namespace Go.Proofs.YtlgkjaeijceekaaGreatDoor
end Go.Proofs.YtlgkjaeijceekaaGreatDoor
