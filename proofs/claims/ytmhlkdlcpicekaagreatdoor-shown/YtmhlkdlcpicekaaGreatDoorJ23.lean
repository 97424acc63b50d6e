/- Texts of this seat, joined. -/
import Derived.Test.YtmhlkdlcpicekaaGreatDoorJ02
import Derived.Test.YtmhlkdlcpicekaaGreatDoorJ15
import Derived.Test.YtmhlkdlcpicekaaGreatDoorJ09
set_option linter.unusedSimpArgs false
set_option linter.unusedVariables false
set_option maxRecDepth 100000
set_option maxHeartbeats 20000000
namespace Go.Proofs.YtmhlkdlcpicekaaGreatDoor
open Go.RowKit
end Go.Proofs.YtmhlkdlcpicekaaGreatDoor
