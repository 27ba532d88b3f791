/- CELLS THAT ARE WRITTEN ONE BEHIND THE OTHER (of no program). -/
import Derived.Test.YtfkkckadnookoaaRows
import Derived.WalkKit
import Derived.Laws.Rows
import Derived.OwnWalk
import Derived.Deep.MidRow
import Derived.Below
namespace Go.Proofs.Ytfkkckadnookoaa
open Go.RowKit
/-- Cells stored one behind the other. -/
abbrev puts (w : World) (G o : Nat) (vs : List Value) : World := w.setCells G o vs
theorem puts_other (G k : Nat) (h : k ≠ G) : ∀ (vs : List Value) (w : World) (o : Nat), (puts w G o vs).heap[k]? = w.heap[k]?
  | [], _, _ => rfl
  | v :: vs, w, o => (puts_other G k h vs _ (o + 1)).trans (Below.heap_setCell w ⟨G, o, none⟩ v k h)
theorem puts_size (G : Nat) : ∀ (vs : List Value) (w : World) (o : Nat), (puts w G o vs).heap.size = w.heap.size
  | [], _, _ => rfl
  | v :: vs, w, o => (puts_size G vs _ (o + 1)).trans (by simp)
theorem puts_same (G : Nat) (t : TypeId) : ∀ (vs : List Value) (w : World) (o : Nat) (cs : Array Value), w.heap[G]? = some (.cells cs t (0, 0)) →
    ∃ ds, (puts w G o vs).heap[G]? = some (.cells ds t (0, 0)) ∧ ds.size = cs.size ∧ (∀ j, j < o → ds[j]? = cs[j]?) ∧ (∀ j, o + vs.length ≤ j → ds[j]? = cs[j]?) ∧ (o + vs.length ≤ cs.size → ∀ j, j < vs.length → ds[o + j]? = vs[j]?)
  | [], w, o, cs, h => ⟨cs, h, rfl, fun _ _ => rfl, fun _ _ => rfl, fun _ j hj => by simp at hj⟩
  | v :: vs, w, o, cs, h => by
    have h1 := heap_setCell_same w G o cs t v h
    obtain ⟨ds, h2, h3, h4, h5, h6⟩ := puts_same G t vs _ (o + 1) _ h1
    refine ⟨ds, h2, by rw [h3]; simp, fun j hj => ?_, fun j hj => ?_, fun hl j hj => ?_⟩
    · rw [h4 j (by omega), Array.getElem?_setIfInBounds_ne (by omega)]
    · rw [List.length_cons] at hj
      rw [h5 j (by omega), Array.getElem?_setIfInBounds_ne (by omega)]
    · rw [List.length_cons] at hl hj
      cases j with
      | zero =>
        rw [Nat.add_zero, h4 o (by omega), Array.getElem?_setIfInBounds_self_of_lt (by omega)]; rfl
      | succ j =>
        have := h6 (by simp; omega) j (by omega)
        rw [show o + (j + 1) = o + 1 + j by omega, this]; rfl
theorem puts_below {w wr : World} {B G : Nat} (h : Below B w wr) (hG : B ≤ G) : ∀ (vs : List Value) (o : Nat), Below B w (puts wr G o vs)
  | [], _ => h
  | v :: vs, o => by
    have h1 : Below B w (wr.setCell ⟨G, o, none⟩ v) := ⟨h.os, h.tape, h.output, by simpa using h.size, fun k hk => (Below.heap_setCell wr ⟨G, o, none⟩ v k (by show k ≠ G; omega)).trans (h.block k hk)⟩
    exact puts_below h1 hG vs (o + 1)
end Go.Proofs.Ytfkkckadnookoaa
