/- FAULTS THAT COME IN AS AN ARGUMENT. -/
import Derived.Test.YtbkiahnljklhpaaDoorTapeTab
import Derived.Test.YtbkiahnljklhpaaDoorDiskPlan
import Derived.Test.YtbkiahnljklhpaaDoorStructs
namespace Go.Proofs.YtbkiahnljklhpaaDoor
open Go.ChangeShapes Go.WideShapes Go.ChangeAt Go.RowKit
theorem i64_wf' {n : Int} (h : (Lit.int .i64 n).wf = true) : -9223372036854775808 ≤ n ∧ n ≤ 9223372036854775807 := by
  have h1 : IntKind.i64.min = -9223372036854775808 := rfl
  have h2 : IntKind.i64.max = 9223372036854775807 := rfl
  simp only [Lit.wf, Bool.and_eq_true, decide_eq_true_eq] at h
  omega
theorem cellsFault : Tryd.prog.cellsOf 72 = 2 := by kernel_rfl
theorem addr_none' (b off j : Nat) : (⟨b, off, none⟩ : Addr).add j = ⟨b, off + j, none⟩ := by unfold Addr.add; split <;> simp_all
set_option maxRecDepth 100000 in
theorem open_faults {H : Type} {enc : TypeId × Value → H} {W : World} {base : Nat} {v : Value} {d : DataW H} {ps : List MemPlace} (hval : Value.okWide Tryd.prog W .any base 42 v)
    (hd : DataW.Trod enc Tryd.prog W 0 (fun _ => true) true 42 v d ps) : ∃ (a : Option Addr) (len cap : Nat) (l : List (Int × Int)), v = .slice a len cap ∧ l.length = len ∧ (len ≤ cap ∧ cap ≤ 9223372036854775807) ∧ Pairs W a l ∧ (∀ j, (l.getD j (0, 0)).1 ≤ 9223372036854775807) ∧ (l ≠ [] → ∀ p, a = some p → p.block < W.heap.size) := by
  obtain ⟨a0, len, cap, rfl⟩ := okWide_slice Tryd.underlying42 hval
  obtain ⟨fuel, hf⟩ := hd
  rcases open_slice_fields Tryd.underlying42 Tryd.underlying72 (by kernel_rfl) cellsFault hf with ⟨hcs, hx⟩ | ⟨a, len', cap', m, D, Pl, hcs, _, hl, hm, hmm, hx, hi⟩
  · simp [Value.cells] at hcs
    obtain ⟨rfl, rfl, rfl⟩ := hcs
    exact ⟨none, 0, 0, [], rfl, rfl, ⟨Nat.le_refl _, by omega⟩, .inl rfl, fun j => by simp, fun h => absurd rfl h⟩
  · simp [Value.cells] at hcs
    obtain ⟨rfl, rfl, rfl⟩ := hcs
    simp only [if_true] at hmm
    subst hmm
    have hm' : m ≤ 9223372036854775807 := hm
    have hall : ∀ i, ∃ x y : Int, x ≤ 9223372036854775807 ∧ (i < m → W.cell? (a.add (i * 2)) = some (.int .i64 x) ∧ W.cell? (a.add (i * 2 + 1)) = some (.int .i64 y)) := by
      intro i
      by_cases him : i < m
      · obtain ⟨ys, n, _, _, _, hg⟩ := hi i him
        obtain ⟨v0, y0, hc0, _, ht0⟩ := hg 0 _ rfl
        obtain ⟨v1, y1, hc1, _, ht1⟩ := hg 1 _ rfl
        obtain ⟨z0, e0, _, w0⟩ := DataW.trod_int Tryd.underlying3 ht0
        obtain ⟨z1, e1, _, _⟩ := DataW.trod_int Tryd.underlying3 ht1
        simp at e0 e1
        subst e0; subst e1
        exact ⟨z0, z1, (i64_wf' w0).2, fun _ => ⟨by simpa using hc0, by simpa using hc1⟩⟩
      · exact ⟨0, 0, by omega, fun h => (him h).elim⟩
    obtain ⟨X, hX⟩ := Classical.axiomOfChoice hall
    obtain ⟨Y, hXY⟩ := Classical.axiomOfChoice hX
    have hbd : ∀ j, (((List.range len).map fun i => (X i, Y i)).getD j (0, 0)).1 ≤ 9223372036854775807 := by
      intro j
      by_cases hj : j < len
      · have e : ((List.range len).map fun i => (X i, Y i)).getD j (0, 0) = (X j, Y j) := by
          simp [List.getD_eq_getElem?_getD, hj]
        rw [e]; exact (hXY j).1
      · have e : ((List.range len).map fun i => (X i, Y i)).getD j (0, 0) = (0, 0) := by
          simp [List.getD_eq_getElem?_getD, hj]
        rw [e]; show (0 : Int) ≤ _; omega
    refine ⟨some a, len, m, (List.range len).map fun i => (X i, Y i), rfl, by simp, ⟨hl, hm'⟩, ?_, hbd, ?_⟩
    · by_cases h0 : len = 0
      · subst h0; exact .inl rfl
      · obtain ⟨b, off, spot⟩ := a
        have hspot : spot = none := by simpa [Addr.add] using World.cell?_spot ((hXY 0).2 (by omega)).1
        subst hspot
        refine .inr ⟨b, off, rfl, fun j hj => ?_⟩
        simp at hj
        have hcj := (hXY j).2 (by omega)
        rw [addr_none', addr_none'] at hcj
        have e : ((List.range len).map fun i => (X i, Y i)).getD j (0, 0) = (X j, Y j) := by
          simp [List.getD_eq_getElem?_getD, hj]
        rw [e]
        exact ⟨hcj.1, by rw [Nat.add_assoc]; exact hcj.2⟩
    · intro hne p hp
      obtain rfl := Option.some.inj hp
      have h0 : 0 < len := by
        rcases Nat.eq_zero_or_pos len with h | h
        · subst h; exact absurd rfl hne
        · exact h
      have := ((hXY 0).2 (by omega)).1
      have hb := World.block_lt_of_cell? W _ this
      have e : (a.add (0 * 2)).block = a.block := by unfold Addr.add; split <;> rfl
      rw [e] at hb; exact hb
end Go.Proofs.YtbkiahnljklhpaaDoor
