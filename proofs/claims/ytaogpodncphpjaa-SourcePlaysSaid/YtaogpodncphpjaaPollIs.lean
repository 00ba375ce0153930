/- poll.Poll.Is: is a descriptor ready? -/
import Derived.Test.YtaogpodncphpjaaPre2
namespace Go.Proofs.Ytaogpodncphpjaa
set_option linter.unusedVariables false
set_option linter.unusedSimpArgs false
open Go.RowKit
section
variable {Z : Nat → Prop} {w w' : World} {p b1 b2 b3 : Nat} {W : List (Int × Int)} {R : List Int}
end
end Go.Proofs.Ytaogpodncphpjaa
