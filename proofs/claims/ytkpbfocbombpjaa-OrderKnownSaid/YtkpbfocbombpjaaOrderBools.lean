/- A row of Bools (no walk). -/
import Derived.Test.YtkpbfocbombpjaaBsonShallow
namespace Go.Proofs.Ytkpbfocbombpjaa
open Go.RowKit
/-- A row of Bools. -/
def BoolsIn (w : World) (Q : Nat → Prop) (a : Option Addr) (l : List Bool) : Prop := l = [] ∨ ∃ g o, a = some ⟨g, o, none⟩ ∧ Q g ∧ ∀ i (hi : i < l.length), w.cell? ⟨g, o + i, none⟩ = some (.bool l[i])
theorem BoolsIn.keep {w w' : World} {Q : Nat → Prop} {a : Option Addr} {l : List Bool} (hb : Below w.heap.size w w') (h : BoolsIn w Q a l) : BoolsIn w' Q a l := by
  rcases h with h | ⟨g, o, e, hq, h⟩
  · exact .inl h
  · exact .inr ⟨g, o, e, hq, fun i hi => cell_keep hb (h i hi)⟩
theorem BoolsIn.lt {w : World} {Q : Nat → Prop} {a : Option Addr} {l : List Bool} (h : BoolsIn w Q a l) : BoolsIn w (fun g => Q g ∧ g < w.heap.size) a l := by
  rcases h with h | ⟨g, o, e, hq, h⟩
  · exact .inl h
  · by_cases h0 : l.length = 0
    · exact .inl (List.eq_nil_of_length_eq_zero h0)
    · exact .inr ⟨g, o, e, ⟨hq, World.block_lt_of_cell? w _ (h 0 (by omega))⟩, h⟩
end Go.Proofs.Ytkpbfocbombpjaa
