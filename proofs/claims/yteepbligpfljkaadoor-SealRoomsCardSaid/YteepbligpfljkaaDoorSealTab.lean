/- THE TABLE OF seal IN A ROW's LIST: what it gives; a world that holds it, for the witness. -/
import Derived.Test.YteepbligpfljkaaDoorLaw
import Derived.Test.YteepbligpfljkaaDoorSealLeaf
import Derived.Test.YteepbligpfljkaaDoorCards
import Derived.Test.YteepbligpfljkaaDoorTie
import Derived.Lib.LaidTab
namespace Go.Proofs.YteepbligpfljkaaDoor
open Go.ChangeShapes Go.WideShapes Go.ChangeAt Go.RowKit
theorem gTab : Tryd.prog.globalNamed "aqueduct/seal.quarters" = some 0 := by kernel_rfl
theorem gTabType : (Tryd.prog.globals[0]?).map (·.type) = some 46 := by kernel_rfl
theorem cellsArr : Tryd.prog.cellsOf 46 = 16 := by kernel_rfl
theorem cellsU32 : Tryd.prog.cellsOf 30 = 1 := by kernel_rfl
def tabI : List Int := [0, 274646895, 549293790, 820201905, 1098587580, 1361435347, 1640403810, 1905808397, 2197175160, 2460548119, 2722870694, 2987750089, 3280807620, 3553878443, 3811616794, 4084100981]
/-- WHAT THE ROW's LIST GIVES: the table's cells hold its numbers. -/
theorem table {W : World} (h : laidMetH Tryd.prog [("aqueduct/seal.quarters", Rows.laid_aqueduct_seal_quarters)] W) : Tab W ∧ 0 < W.heap.size := by
  have ht : Lib.TabIs Tryd.prog W "aqueduct/seal.quarters" .u32 tabI := Lib.tabIs_of_head (rest := []) gTab gTabType Tryd.underlying46 Tryd.underlying30 cellsU32 cellsArr h
  have hc : Tab W := by
    intro j hj
    have := ht.cell gTab j (by simp [tabI]; omega)
    rw [this]
    have e : ∀ j : Fin 16, tabI.getD j 0 = ((Seal.tab.getD j 0 : Nat) : Int) := by decide
    have := e ⟨j, hj⟩
    simp only at this
    rw [← this]
  refine ⟨hc, ?_⟩
  have h0 := hc 0 (by decide)
  exact World.block_lt_of_cell? W _ h0
/-- A WORLD FOR THE WITNESS: the settled one, the table holding what its initialiser lays. -/
noncomputable def laidWorld (os : Os) : World :=
  { World.holding Tryd.prog os ⟨#[], #[], []⟩ with heap := (World.holding Tryd.prog os ⟨#[], #[], []⟩).heap.modify 0 fun
      | .cells _ t frozen => .cells #[.int .u32 0, .int .u32 274646895, .int .u32 549293790, .int .u32 820201905, .int .u32 1098587580, .int .u32 1361435347, .int .u32 1640403810, .int .u32 1905808397, .int .u32 2197175160, .int .u32 2460548119, .int .u32 2722870694, .int .u32 2987750089, .int .u32 3280807620, .int .u32 3553878443, .int .u32 3811616794, .int .u32 4084100981] t frozen
      | o => o }
end Go.Proofs.YteepbligpfljkaaDoor
