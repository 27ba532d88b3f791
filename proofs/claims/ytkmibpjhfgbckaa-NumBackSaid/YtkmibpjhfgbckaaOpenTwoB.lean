/- An array of two Bools that comes in (no walk). -/
import Derived.Test.YtkmibpjhfgbckaaOpenBase
namespace Go.Proofs.Ytkmibpjhfgbckaa
open Go.ChangeShapes Go.WideShapes Go.ChangeAt Go.RowKit
theorem cellsTwoB : Try.prog.cellsOf 39 = 2 := by kernel_rfl
theorem cellsOneB : Try.prog.cellsOf 4 = 1 := by kernel_rfl
theorem two_bools {α : Type} {cs : Array α} (h : cs.size = 2) : ∃ c0 c1, cs = #[c0, c1] := by
  obtain ⟨l⟩ := cs
  match l, h with | [c0, c1], _ => exact ⟨c0, c1, rfl⟩
section
variable {H : Type} {enc : TypeId × Value → H} {W : World}
theorem open_two_bools {base : Nat} {v : Value} {d : DataW H} {ps : List MemPlace} (hval : Value.okWide Try.prog W .any base 39 v)
    (hd : DataW.Trod enc Try.prog W 0 (fun _ => true) true 39 v d ps) : ∃ y z : Bool, v = .agg #[.bool y, .bool z] := by
  have hu := Try.underlying39
  simp only [Value.okWide, hu] at hval
  obtain ⟨cs, rfl, hsz, _⟩ := hval
  obtain ⟨c0, c1, rfl⟩ := two_bools (hsz.trans cellsTwoB)
  obtain ⟨fuel, h⟩ := hd
  cases fuel with
  | zero => simp [DataW.trod] at h
  | succ n =>
    unfold DataW.trod at h
    rw [hu] at h
    have r2 : List.range 2 = [0, 1] := rfl
    simp [r2, cellsOneB, Value.cells] at h
    cases h0 : DataW.trod enc Try.prog W 0 (fun _ => true) true n 4 [c0] with
    | none => simp [h0] at h
    | some y0 =>
      cases h1 : DataW.trod enc Try.prog W 0 (fun _ => true) true n 4 [c1] with
      | none => simp [h0, h1] at h
      | some y1 =>
        obtain ⟨a, e0, _⟩ := DataW.trod_bool Try.underlying4 h0
        obtain ⟨b, e1, _⟩ := DataW.trod_bool Try.underlying4 h1
        simp at e0 e1
        subst e0; subst e1
        exact ⟨a, b, rfl⟩
end
end Go.Proofs.Ytkmibpjhfgbckaa
