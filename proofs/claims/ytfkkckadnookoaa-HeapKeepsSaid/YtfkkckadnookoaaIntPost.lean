/- A call that answers a number and leaves the world as it was (of no program). -/
import Derived.Test.YtfkkckadnookoaaRows
import Derived.WalkKit
namespace Go.Proofs.Ytfkkckadnookoaa
open Go.RowKit
def IntPost (n : Int) (w : World) (e : Ending) (w' : World) : Prop := e = .returned (.int .i64 n) ∧ w = w'
theorem ret_i {a b : Int} (h : a = b) : Ending.returned (.int .i64 a) = .returned (.int .i64 b) := by rw [h]
end Go.Proofs.Ytfkkckadnookoaa
