/- RefOwnAll. -/
import Derived.Test.YtdgncpoephdboaaDoorMg38
import Derived.Test.YtdgncpoephdboaaDoorMg37
import Derived.Test.YtdgncpoephdboaaDoorMg35
set_option maxRecDepth 100000
section
namespace Go.Proofs.YtdgncpoephdboaaDoor
open Go.RowKit
open Seal
open Bson (Val)
/-- own does, of whatever. -/
theorem own_any (h : Nat) : OwnDo h := own_all (fun h HO d h0 h1 f => fields_do h HO d h0 h1 f) h
/-- What Valid says true of is small. -/
theorem valid_does (Q : Nat → Prop) (h : Nat) (x : Val) (v : Value) (w : World) (hv : VIn w Q (h + 1) x v) :
    Calls Tryd.prog 8 #[v] w (SmallPost w (h + 1) x) := valid_any Q h (own_any (h + 2)) x v w hv
theorem valid_legal (Q : Nat → Prop) (h : Nat) (x : Val) (v : Value) (w : World) (hv : VIn w Q (h + 1) x v) :
    Calls Tryd.prog 8 #[v] w fun e w' => ∃ b, e = .returned (.bool b) ∧ (b = true → wt (h + 1) x ≤ 3000 ∧ Key.legal 31 x) ∧ Below w.heap.size w w' := valid_more Q h (own_any (h + 2)) x v w hv
end Go.Proofs.YtdgncpoephdboaaDoor
end
