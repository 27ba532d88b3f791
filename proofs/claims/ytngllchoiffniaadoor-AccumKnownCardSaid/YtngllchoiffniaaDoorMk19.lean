/- PathUtf8. -/
import Derived.Lib.ValidLaws
import Derived.Laws.BitsAllLaws
import Derived.Test.YtngllchoiffniaaDoorMk18
import Derived.Test.YtngllchoiffniaaDoorMk1
set_option maxRecDepth 100000
set_option maxHeartbeats 20000000
section
namespace Go.Proofs.YtngllchoiffniaaDoor
open Go.RowKit
open Seal
open Bson (Val)
namespace Path
def byte (s : ByteArray) (k : Nat) : Nat := (s.data.toList.getD k 0).toNat
end Path
open Path
end Go.Proofs.YtngllchoiffniaaDoor
end
