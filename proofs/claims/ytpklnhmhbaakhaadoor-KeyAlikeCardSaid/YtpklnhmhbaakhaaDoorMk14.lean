/- KeyTab, OrderCmp. -/
import Derived.Lib.LaidTab
import Derived.Test.YtpklnhmhbaakhaaDoorMk4
import Derived.Test.YtpklnhmhbaakhaaDoorMk13
import Derived.Test.YtpklnhmhbaakhaaDoorMk3
import Derived.Test.YtpklnhmhbaakhaaDoorMk9
import Derived.Test.YtpklnhmhbaakhaaDoorMk6
set_option maxRecDepth 100000
section
namespace Go.Proofs.YtpklnhmhbaakhaaDoor
open Go.ChangeShapes Go.WideShapes Go.ChangeAt Go.RowKit
theorem maxl_of {W : World} (hs : W.ShapedOpen Tryd.prog) : Maxl W W.heap.size := by
  obtain ⟨m, h⟩ := Tryd.laysM145.s1_3 W hs
  exact ⟨World.block_lt_of_cell? W _ h, m, h⟩
theorem cellsU8' : Tryd.prog.cellsOf 5 = 1 := by kernel_rfl
theorem i64_wf' {n : Int} (h : (Lit.int .i64 n).wf = true) : -9223372036854775808 ≤ n ∧ n ≤ 9223372036854775807 := by
  have h1 : IntKind.i64.min = -9223372036854775808 := rfl
  have h2 : IntKind.i64.max = 9223372036854775807 := rfl
  simp only [Lit.wf, Bool.and_eq_true, decide_eq_true_eq] at h
  omega
set_option maxRecDepth 100000 in
theorem open_octets' {H : Type} {enc : TypeId × Value → H} {W : World} {base : Nat} {v : Value} {d : DataW H} {ps : List MemPlace} (hval : Value.okWide Tryd.prog W .any base 23 v)
    (hd : DataW.Trod enc Tryd.prog W 0 (fun _ => true) true 23 v d ps) :
    ∃ (a : Option Addr) (len cap : Nat) (l : List Nat), v = .slice a len cap ∧ l.length = len ∧ Seal.Oct l ∧ SliceIs W a l ∧ len ≤ cap ∧ cap ≤ 9223372036854775807 := by
  obtain ⟨a0, len, cap, rfl⟩ := okWide_slice Tryd.underlying23 hval
  obtain ⟨fuel, hf⟩ := hd
  rcases open_ints Tryd.underlying23 Tryd.underlying5 cellsU8' hf with ⟨hcs, hx⟩ | ⟨a, len', cap', zs, hcs, _, hl, hm, hz, hx, hcell, hwz⟩
  · simp [Value.cells] at hcs
    obtain ⟨rfl, rfl, rfl⟩ := hcs
    exact ⟨none, 0, 0, [], rfl, rfl, (fun c hc => by cases hc), .inl rfl, Nat.le_refl _, by omega⟩
  · simp [Value.cells] at hcs
    obtain ⟨rfl, rfl, rfl⟩ := hcs
    simp only [if_true] at hz
    have hm' : cap ≤ 9223372036854775807 := hm
    have hwf : ∀ j, j < zs.length → 0 ≤ zs.getD j 0 ∧ zs.getD j 0 < 256 := fun j hj => by
      rw [List.getD_eq_getElem?_getD, List.getElem?_eq_getElem hj]
      exact u8_wf (hwz _ (List.getElem_mem hj))
    refine ⟨some a, len, cap, (zs.take len).map Int.toNat, rfl, by simp; omega, ?_, ?_, hl, hm'⟩
    · intro c hc
      obtain ⟨z, hzm, rfl⟩ := List.mem_map.1 hc
      have := u8_wf (hwz z (List.mem_of_mem_take hzm))
      omega
    · by_cases h0 : len = 0
      · subst h0; exact .inl rfl
      · obtain ⟨b, off, spot⟩ := a
        have hspot : spot = none := by simpa [Addr.add] using World.cell?_spot (hcell 0 (by omega))
        subst hspot
        refine .inr ⟨b, off, rfl, fun j hj => ?_⟩
        simp at hj
        have hw := hwf j (by omega)
        have := hcell j (by omega)
        rw [show (⟨b, off, none⟩ : Addr).add j = ⟨b, off + j, none⟩ by (unfold Addr.add; split <;> simp_all)] at this
        rw [this]
        have e : (((zs.take len).map Int.toNat).getD j 0 : Nat) = (zs.getD j 0).toNat := by
          simp [List.getD_eq_getElem?_getD, show j < len by omega, List.getElem?_eq_getElem (show j < zs.length by omega)]
        rw [e, Int.toNat_of_nonneg hw.1]
end Go.Proofs.YtpklnhmhbaakhaaDoor
end
section
namespace Go.Proofs.YtpklnhmhbaakhaaDoor
open Go.RowKit
open Seal
open Bson (Val)
theorem cls_range (k : Int) : Order.cls k = -1 ∨ Order.cls k = 0 ∨ Order.cls k = 1 ∨ Order.cls k = 2 ∨ Order.cls k = 3 ∨ Order.cls k = 4 ∨ Order.cls k = 5 ∨ Order.cls k = 6 ∨ Order.cls k = 7 ∨ Order.cls k = 8 ∨ Order.cls k = 9 ∨ Order.cls k = 10 ∨ Order.cls k = 11 := by
  unfold Order.cls
  split
  · omega
  · split <;> omega
theorem cmp_same {h : Nat} {x y : Val} {k : Int} (hx : Order.cls x.kind = k) (hy : Order.cls y.kind = k) : Order.cmp (h + 1) x y = Order.inner (Order.cmp h) k x y := by
  rw [Order.cmp, hx, hy, if_pos (Order.sgn_self k)]
theorem cmp_other {h : Nat} {x y : Val} (e : Order.sgn (Order.cls x.kind) (Order.cls y.kind) ≠ 0) : Order.cmp (h + 1) x y = Order.sgn (Order.cls x.kind) (Order.cls y.kind) := by
  rw [Order.cmp, if_neg e]
end Go.Proofs.YtpklnhmhbaakhaaDoor
end
