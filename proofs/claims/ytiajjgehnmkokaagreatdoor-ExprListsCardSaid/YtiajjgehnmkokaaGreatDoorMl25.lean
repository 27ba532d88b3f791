/- PathBackLaw. -/
import Derived.Test.YtiajjgehnmkokaaGreatDoorMl16
set_option maxRecDepth 100000
set_option maxHeartbeats 20000000
section
namespace Go.Proofs.YtiajjgehnmkokaaGreatDoor
open Go.RowKit
open Seal
open Path
namespace Path
def lists (p : List ByteArray) : List (List UInt8) := p.map fun s => s.data.toList
theorem app_list (a b : ByteArray) : (a ++ b).data.toList = a.data.toList ++ b.data.toList := by simp
end Path
end Go.Proofs.YtiajjgehnmkokaaGreatDoor
end
