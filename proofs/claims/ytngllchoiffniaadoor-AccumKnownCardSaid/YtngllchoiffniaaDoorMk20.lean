/- PathMay. -/
import Derived.Test.YtngllchoiffniaaDoorMk19
import Derived.Test.YtngllchoiffniaaDoorMk1
set_option maxRecDepth 100000
set_option maxHeartbeats 20000000
section
namespace Go.Proofs.YtngllchoiffniaaDoor
open Go.RowKit
open Seal
open Path
structure Ground (w : World) : Prop where
 tabs : Lib.Utf8Tabs 1 2 w
 most : ∃ m, w.cell? ⟨3, 0, none⟩ = some (.int .i64 m)
theorem Ground.keep {w w' : World} (h : Ground w) (hb : Below w.heap.size w w') : Ground w' := by
 obtain ⟨h1, m, h2⟩ := h
 exact ⟨⟨fun c hc => cell_keep hb (h1.1 c hc), fun i hi => ⟨cell_keep hb (h1.2 i hi).1, cell_keep hb (h1.2 i hi).2⟩⟩, m, cell_keep hb h2⟩
end Go.Proofs.YtngllchoiffniaaDoor
end
