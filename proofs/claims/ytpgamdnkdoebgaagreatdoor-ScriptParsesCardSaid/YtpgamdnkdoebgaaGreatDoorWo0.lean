/- All that a small world is made of: imports. -/
import Derived.Test.YtpgamdnkdoebgaaGreatDoorPre1
import Derived.Test.YtpgamdnkdoebgaaGreatDoorPre2
import Derived.Test.YtpgamdnkdoebgaaGreatDoorMach2
import Derived.Test.YtpgamdnkdoebgaaGreatDoorRight
import Derived.Test.YtpgamdnkdoebgaaGreatDoorEvent
namespace Go.Proofs.YtpgamdnkdoebgaaGreatDoor
end Go.Proofs.YtpgamdnkdoebgaaGreatDoor
