/- I16Open. -/
import Derived.Test.YtngllchoiffniaaGreatDoorMo24
import Derived.Test.YtngllchoiffniaaGreatDoorMo2
import Derived.Test.YtngllchoiffniaaGreatDoorMo35
set_option maxRecDepth 100000
set_option maxHeartbeats 20000000
section
namespace Go.Proofs.YtngllchoiffniaaGreatDoor
open Go.ChangeShapes Go.WideShapes Go.ChangeAt Go.RowKit
theorem cellsI16o : Tryz.prog.cellsOf 46 = 1 := by kernel_rfl
theorem i16_wf12 {n : Int} (h : (Lit.int .i16 n).wf = true) : -32768 ≤ n ∧ n ≤ 32767 := by
 have h1 : IntKind.i16.min = -32768 := rfl
 have h2 : IntKind.i16.max = 32767 := rfl
 simp only [Lit.wf, Bool.and_eq_true, decide_eq_true_eq] at h
 omega
theorem open_ints16 {H : Type} {enc : TypeId × Value → H} {W : World} {base : Nat} {v : Value} {d : DataW H} {ps : List MemPlace} (hval : Value.okWide Tryz.prog W .any base 45 v)
  (hd : DataW.Trod enc Tryz.prog W 0 (fun _ => true) true 45 v d ps) :
  ∃ (a : Option Addr) (len cap : Nat) (l : List Int), v = .slice a len cap ∧ l.length = len ∧ (∀ x ∈ l, -32768 ≤ x ∧ x ≤ 32767) ∧ Acc.Ints16 W a l ∧ len ≤ cap ∧ cap ≤ 9223372036854775807 := by
 obtain ⟨a0, len, cap, rfl⟩ := okWide_slice Tryz.underlying45 hval
 obtain ⟨fuel, hf⟩ := hd
 rcases open_ints Tryz.underlying45 Tryz.underlying46 cellsI16o hf with ⟨hcs, hx⟩ | ⟨a, len', cap', zs, hcs, _, hl, hm, hz, hx, hcell, hwz⟩
 ·simp [Value.cells] at hcs
  obtain ⟨rfl, rfl, rfl⟩ := hcs
  exact ⟨none, 0, 0, [], rfl, rfl, (fun c hc => by cases hc), .inl rfl, Nat.le_refl _, by omega⟩
 ·simp [Value.cells] at hcs
  obtain ⟨rfl, rfl, rfl⟩ := hcs
  simp only [if_true] at hz
  have hm' : cap ≤ 9223372036854775807 := hm
  refine ⟨some a, len, cap, zs.take len, rfl, by simp; omega, ?_, ?_, hl, hm'⟩
  ·intro c hc
   exact i16_wf12 (hwz c (List.mem_of_mem_take hc))
  ·by_cases h0 : len = 0
   ·subst h0; exact .inl (by simp)
   ·obtain ⟨b, off, spot⟩ := a
    have hspot : spot = none := by simpa [Addr.add] using World.cell?_spot (hcell 0 (by omega))
    subst hspot
    refine .inr ⟨b, off, rfl, fun j hj => ?_⟩
    simp at hj
    have := hcell j (by omega)
    rw [show (⟨b, off, none⟩ : Addr).add j = ⟨b, off + j, none⟩ by (unfold Addr.add; split <;> simp_all)] at this
    rw [this]
    simp [List.getD_eq_getElem?_getD, List.getElem?_eq_getElem (show j < zs.length by omega)]
end Go.Proofs.YtngllchoiffniaaGreatDoor
end
