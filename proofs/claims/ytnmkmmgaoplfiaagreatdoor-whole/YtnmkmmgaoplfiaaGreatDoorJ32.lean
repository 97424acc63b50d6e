/- Texts of this seat, joined. -/
import Derived.Test.YtnmkmmgaoplfiaaGreatDoorJ31
import Derived.Test.YtnmkmmgaoplfiaaGreatDoorJ26
import Derived.Test.YtnmkmmgaoplfiaaGreatDoorJ09
import Derived.Deep.DeepCutAuto
set_option linter.unusedSimpArgs false
set_option linter.unusedVariables false
set_option maxHeartbeats 20000000
namespace Go.Proofs.YtnmkmmgaoplfiaaGreatDoor
open Go.RowKit
end Go.Proofs.YtnmkmmgaoplfiaaGreatDoor
