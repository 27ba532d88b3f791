/- PathBackLaw. -/
import Derived.Lib.IndexBytes
import Derived.Test.YtiajjgehnmkokaaGreatDoorMc3
import Derived.Test.YtiajjgehnmkokaaGreatDoorMc20
import Derived.Test.YtiajjgehnmkokaaGreatDoorMc14
set_option maxRecDepth 100000
set_option maxHeartbeats 20000000
section
namespace Go.Proofs.YtiajjgehnmkokaaGreatDoor
open Go.RowKit
open Seal
open Path
namespace Path
theorem app_list (a b : ByteArray) : (a ++ b).data.toList = a.data.toList ++ b.data.toList := by simp
end Path
end Go.Proofs.YtiajjgehnmkokaaGreatDoor
end
