/- Texts of this seat, joined. -/
import Derived.Test.YtmhlkdlcpicekaaGreatDoorJ09
import Derived.Test.YtmhlkdlcpicekaaGreatDoorJ25
set_option linter.unusedSimpArgs false
set_option linter.unusedVariables false
set_option maxRecDepth 100000
set_option maxHeartbeats 20000000
namespace Go.Proofs.YtmhlkdlcpicekaaGreatDoor
open Go.RowKit
end Go.Proofs.YtmhlkdlcpicekaaGreatDoor
namespace Go.Proofs.YtmhlkdlcpicekaaGreatDoor
open Go.RowKit
end Go.Proofs.YtmhlkdlcpicekaaGreatDoor
namespace Go.Proofs.YtmhlkdlcpicekaaGreatDoor
open Go.RowKit
end Go.Proofs.YtmhlkdlcpicekaaGreatDoor
