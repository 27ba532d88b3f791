/- Two boxes behind a world (no walk). -/
import Derived.Test.YtkpbfocbombpjaaValByt
import Derived.Test.YtkpbfocbombpjaaBsonShallow
namespace Go.Proofs.Ytkpbfocbombpjaa
open Go.RowKit
open Seal
open Bson (Val)
/-- Two boxes were laid behind w, and since then nothing has turned of them or of what is older. -/
def Boxed2 (w : World) (ca cb : Array Value) (t : TypeId) (wr : World) : Prop := Below (w.heap.size + 2) ((w.alloc (.cells ca t)).alloc (.cells cb t)) wr
section
variable {w wr w' : World} {ca cb : Array Value} {t : TypeId}
theorem Boxed2.refl (w : World) (ca cb : Array Value) (t : TypeId) : Boxed2 w ca cb t ((w.alloc (.cells ca t)).alloc (.cells cb t)) := Below.refl _ _
theorem Boxed2.one (h : Boxed2 w ca cb t wr) (j : Nat) : wr.cell? ⟨w.heap.size, j, none⟩ = ca[j]? := by
  refine (Below.cell h (p := ⟨w.heap.size, j, none⟩) (by show w.heap.size < _; omega)).trans ?_
  refine (cell_of_row _ _ j ca t (0, 0) ?_)
  rw [Below.heap_alloc _ _ _ (by simp)]
  exact heap_alloc_new w _
theorem Boxed2.two (h : Boxed2 w ca cb t wr) (j : Nat) : wr.cell? ⟨w.heap.size + 1, j, none⟩ = cb[j]? := by
  refine (Below.cell h (p := ⟨w.heap.size + 1, j, none⟩) (by show w.heap.size + 1 < _; omega)).trans ?_
  refine (cell_of_row _ _ j cb t (0, 0) ?_)
  have := heap_alloc_new (w.alloc (.cells ca t)) (.cells cb t)
  simpa using this
theorem Boxed2.size (h : Boxed2 w ca cb t wr) : w.heap.size + 2 ≤ wr.heap.size := by have := Below.size h; simpa using this
theorem Boxed2.below (h : Boxed2 w ca cb t wr) : Below w.heap.size w wr := (((Below.refl _ w).alloc (Nat.le_refl _) _).alloc (by simp) _).trans (Below.mono h (by simp))
theorem Boxed2.step (h : Boxed2 w ca cb t wr) (hb : Below wr.heap.size wr w') : Boxed2 w ca cb t w' := Below.trans h (hb.mono h.size)
end
end Go.Proofs.Ytkpbfocbombpjaa
