/- PathBackLaw. -/
import Derived.Deep.RegionHeld3
import Derived.Lib.IndexBytes
import Derived.Test.YtngllchoiffniaaGreatDoorMo4
import Derived.Test.YtngllchoiffniaaGreatDoorMo23
import Derived.Test.YtngllchoiffniaaGreatDoorMo13
set_option maxRecDepth 100000
set_option maxHeartbeats 20000000
section
namespace Go.Proofs.YtngllchoiffniaaGreatDoor
open Go.RowKit
open Seal
open Path
namespace Path
def lists (p : List ByteArray) : List (List UInt8) := p.map fun s => s.data.toList
theorem app_list (a b : ByteArray) : (a ++ b).data.toList = a.data.toList ++ b.data.toList := by simp
end Path
end Go.Proofs.YtngllchoiffniaaGreatDoor
end
