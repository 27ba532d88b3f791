/- BsonWord. -/
import Derived.Deep.QuietTactic
import Derived.BigQuiet
import Derived.IntWalk
import Derived.RegionTactic
import Derived.Laws.BitsAllLaws
import Derived.Lib.ValidLaws
import Derived.Test.YtngllchoiffniaaDoorMk2
set_option maxRecDepth 100000
set_option maxHeartbeats 20000000
section
namespace Go.Proofs.YtngllchoiffniaaDoor
open Go.RowKit
open Seal
def U (l : List Nat) : List UInt8 := l.map UInt8.ofNat
theorem asc_U (l : List Nat) (h : Oct l) : (∀ b ∈ U l, b.toNat < 128) ↔ ∀ c ∈ l, c < 128 := by
 constructor
 ·intro hb c hc
  have h1 := hb (UInt8.ofNat c) (List.mem_map.2 ⟨c, hc, rfl⟩)
  have h2 : c < 256 := h c hc
  simpa [Nat.mod_eq_of_lt h2] using h1
 ·intro hc b hb
  obtain ⟨c, hm, rfl⟩ := List.mem_map.1 hb
  have h1 := hc c hm
  have h2 : c < 256 := h c hm
  simpa [Nat.mod_eq_of_lt h2] using h1
end Go.Proofs.YtngllchoiffniaaDoor
end
