/- Contracts of package event: is, Name, Steps. -/
import Derived.Test.YtnaphgjkkagpoaaDoorTabEv
import Derived.Test.YtnaphgjkkagpoaaDoorEis
namespace Go.Proofs.YtnaphgjkkagpoaaDoor
open Go.RowKit
set_option linter.unusedVariables false
set_option linter.unusedSimpArgs false

theorem evName_some (k : Nat) (hk : k < 8) : (evName0 k).toList.isEmpty = false :=
  match k, hk with
  | 0, _ => by kernel_rfl
  | 1, _ => by kernel_rfl
  | 2, _ => by kernel_rfl
  | 3, _ => by kernel_rfl
  | 4, _ => by kernel_rfl
  | 5, _ => by kernel_rfl
  | 6, _ => by kernel_rfl
  | 7, _ => by kernel_rfl

end Go.Proofs.YtnaphgjkkagpoaaDoor
