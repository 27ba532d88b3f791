/- What comes in: small laws (no walk). -/
import Derived.Test.YtfkkckadnookoaaLaw
import Derived.SizedLaws
import Derived.Deep.Strs
namespace Go.Proofs.Ytfkkckadnookoaa
open Go.ChangeShapes Go.WideShapes Go.ChangeAt Go.RowKit
theorem reach_eq : reachBytes = 140737488351232 := rfl
theorem addr_spot {w : World} {a : Addr} {v : Value} (h : w.cell? (a.add 0) = some v) : a = ⟨a.block, a.off, none⟩ := by
  obtain ⟨b, off, spot⟩ := a
  have hspot : spot = none := by simpa [Addr.add] using World.cell?_spot h
  subst hspot
  rfl
theorem cellsStr : Try.prog.cellsOf 9 = 1 := by kernel_rfl
theorem weightsAll_mem {H : Type} {P : Program} {e : TypeId} : ∀ {l : List (DataW H)} {d : DataW H}, d ∈ l → ∀ n ∈ d.weights P e, n ∈ DataW.weightsAll P e l
  | d' :: r, d, hd, n, hn => by
    simp only [DataW.weightsAll, List.mem_append]
    rcases List.mem_cons.1 hd with rfl | h
    · exact Or.inl hn
    · exact Or.inr (weightsAll_mem h n hn)
end Go.Proofs.Ytfkkckadnookoaa
