/- Rows of values that a call builds itself (no walk). -/
import Derived.Test.YtkpbfocbombpjaaValBuild
import Derived.Test.YtkpbfocbombpjaaBoxed2
namespace Go.Proofs.Ytkpbfocbombpjaa
open Go.RowKit
open Seal
open Bson (Val)
theorem two_items {w : World} {Q : Nat → Prop} {h g : Nat} {x y : Val} {a0 a1 a2 a3 a4 a5 b0 b1 b2 b3 b4 b5 : Value} {t : TypeId}
    (hr : w.heap[g]? = some (.cells #[a0, a1, a2, a3, a4, a5, b0, b1, b2, b3, b4, b5] t (0, 0))) (hq : Q g) (hx : VIn w Q h x (.agg #[a0, a1, a2, a3, a4, a5])) (hy : VIn w Q h y (.agg #[b0, b1, b2, b3, b4, b5])) :
    ItemsIn w Q (VIn w Q h) (some ⟨g, 0, none⟩) [x, y] := by
  have e : ∀ j c, (#[a0, a1, a2, a3, a4, a5, b0, b1, b2, b3, b4, b5] : Array Value)[j]? = some c → w.cell? ⟨g, j, none⟩ = some c := fun j c hc => (cell_of_row _ _ j _ _ _ hr).trans hc
  refine .inr ⟨g, 0, rfl, hq, fun i hi => ?_⟩
  match i, hi with
  | 0, _ => exact ⟨_, ⟨a0, a1, a2, a3, a4, a5, rfl, e _ _ rfl, e _ _ rfl, e _ _ rfl, e _ _ rfl, e _ _ rfl, e _ _ rfl⟩, hx⟩
  | 1, _ => exact ⟨_, ⟨b0, b1, b2, b3, b4, b5, rfl, e _ _ rfl, e _ _ rfl, e _ _ rfl, e _ _ rfl, e _ _ rfl, e _ _ rfl⟩, hy⟩
theorem one_items {w : World} {Q : Nat → Prop} {h g : Nat} {x : Val} {a0 a1 a2 a3 a4 a5 : Value} {t : TypeId}
    (hr : w.heap[g]? = some (.cells #[a0, a1, a2, a3, a4, a5] t (0, 0))) (hq : Q g) (hx : VIn w Q h x (.agg #[a0, a1, a2, a3, a4, a5])) :
    ItemsIn w Q (VIn w Q h) (some ⟨g, 0, none⟩) [x] := by
  have e : ∀ j c, (#[a0, a1, a2, a3, a4, a5] : Array Value)[j]? = some c → w.cell? ⟨g, j, none⟩ = some c := fun j c hc => (cell_of_row _ _ j _ _ _ hr).trans hc
  refine .inr ⟨g, 0, rfl, hq, fun i hi => ?_⟩
  match i, hi with
  | 0, _ => exact ⟨_, ⟨a0, a1, a2, a3, a4, a5, rfl, e _ _ rfl, e _ _ rfl, e _ _ rfl, e _ _ rfl, e _ _ rfl, e _ _ rfl⟩, hx⟩
/-- Whatever blocks are named. -/
theorem VIn.any {w : World} {Q : Nat → Prop} {h : Nat} {x : Val} {v : Value} (hv : VIn w Q h x v) : VIn w (fun _ => True) h x v := VIn.kept (Kept.of_below (Below.refl _ _)) (fun _ _ => trivial) hv
end Go.Proofs.Ytkpbfocbombpjaa
