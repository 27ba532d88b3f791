/- THE ARGUMENTS OF ledger's LAWS: what comes in, as numbers and lists. -/
import Derived.Test.YtikdkoeicohopaaLedgerKeepsWalk
import Derived.Test.YtikdkoeicohopaaStructs
namespace Go.Proofs.Ytikdkoeicohopaa
open Go.ChangeShapes Go.WideShapes Go.ChangeAt Go.RowKit
theorem i64_wf {n : Int} (h : (Lit.int .i64 n).wf = true) : -9223372036854775808 ≤ n ∧ n ≤ 9223372036854775807 := by
  have h1 : IntKind.i64.min = -9223372036854775808 := rfl
  have h2 : IntKind.i64.max = 9223372036854775807 := rfl
  simp only [Lit.wf, Bool.and_eq_true, decide_eq_true_eq] at h
  omega
theorem u16_wf {n : Int} (h : (Lit.int .u16 n).wf = true) : 0 ≤ n ∧ n ≤ 65535 := by
  have h1 : IntKind.u16.min = 0 := rfl
  have h2 : IntKind.u16.max = 65535 := rfl
  simp only [Lit.wf, Bool.and_eq_true, decide_eq_true_eq] at h
  omega
theorem cellsU16 : Try.prog.cellsOf 35 = 1 := by kernel_rfl
theorem cellsDeed : Try.prog.cellsOf 29 = 2 := by kernel_rfl
theorem cellsInt : Try.prog.cellsOf 3 = 1 := by kernel_rfl
theorem open_shorts {H : Type} {enc : TypeId × Value → H} {W : World} {base : Nat} {v : Value} {d : DataW H} {ps : List MemPlace} (hval : Value.okWide Try.prog W .any base 36 v)
    (hd : DataW.Trod enc Try.prog W 0 (fun _ => true) true 36 v d ps) : ∃ (a : Option Addr) (len cap : Nat) (l : List Int), v = .slice a len cap ∧ l.length = len ∧ Shorts W a l := by
  obtain ⟨a0, len, cap, rfl⟩ := okWide_slice Try.underlying36 hval
  obtain ⟨fuel, hf⟩ := hd
  rcases open_ints Try.underlying36 Try.underlying35 cellsU16 hf with ⟨hcs, hx⟩ | ⟨a, len', cap', zs, hcs, _, hl, hm, hz, hx, hcell, hwz⟩
  · simp [Value.cells] at hcs
    obtain ⟨rfl, rfl, rfl⟩ := hcs
    exact ⟨none, 0, 0, [], rfl, rfl, .inl rfl⟩
  · simp [Value.cells] at hcs
    obtain ⟨rfl, rfl, rfl⟩ := hcs
    simp only [if_true] at hz
    refine ⟨some a, len, cap, zs.take len, rfl, by simp; omega, ?_⟩
    by_cases h0 : len = 0
    · subst h0; exact .inl rfl
    · obtain ⟨b, off, spot⟩ := a
      have hspot : spot = none := by simpa [Addr.add] using World.cell?_spot (hcell 0 (by omega))
      subst hspot
      refine .inr ⟨b, off, rfl, fun j hj => ?_⟩
      simp at hj
      have hcj := hcell j (by omega)
      rw [show (⟨b, off, none⟩ : Addr).add j = ⟨b, off + j, none⟩ by (unfold Addr.add; split <;> simp_all)] at hcj
      have e : (zs.take len).getD j 0 = zs.getD j 0 := by
        simp [List.getD_eq_getElem?_getD, show j < len by omega]
      rw [e]
      refine ⟨hcj, ?_⟩
      rw [List.getD_eq_getElem?_getD, List.getElem?_eq_getElem (show j < zs.length by omega)]
      exact u16_wf (hwz _ (List.getElem_mem _))
theorem addr_none (b off j : Nat) : (⟨b, off, none⟩ : Addr).add j = ⟨b, off + j, none⟩ := by unfold Addr.add; split <;> simp_all
theorem open_deeds {H : Type} {enc : TypeId × Value → H} {W : World} {base : Nat} {v : Value} {d : DataW H} {ps : List MemPlace} (hval : Value.okWide Try.prog W .any base 22 v)
    (hd : DataW.Trod enc Try.prog W 0 (fun _ => true) true 22 v d ps) : ∃ (a : Option Addr) (len cap : Nat) (l : List (Int × Int)), v = .slice a len cap ∧ l.length = len ∧ Deeds W a l ∧ len ≤ cap ∧ cap ≤ 9223372036854775807 := by
  obtain ⟨a0, len, cap, rfl⟩ := okWide_slice Try.underlying22 hval
  obtain ⟨fuel, hf⟩ := hd
  rcases open_slice_fields Try.underlying22 Try.underlying29 (by kernel_rfl) cellsDeed hf with ⟨hcs, hx⟩ | ⟨a, len', cap', m, D, Pl, hcs, _, hl, hm, hmm, hx, hi⟩
  · simp [Value.cells] at hcs
    obtain ⟨rfl, rfl, rfl⟩ := hcs
    exact ⟨none, 0, 0, [], rfl, rfl, .inl rfl, Nat.le_refl _, by omega⟩
  · simp [Value.cells] at hcs
    obtain ⟨rfl, rfl, rfl⟩ := hcs
    simp only [if_true] at hmm
    subst hmm
    have hm' : m ≤ 9223372036854775807 := hm
    have hall : ∀ i, ∃ x y : Int, i < m → W.cell? (a.add (i * 2)) = some (.int .i64 x) ∧ W.cell? (a.add (i * 2 + 1)) = some (.int .i64 y) := by
      intro i
      by_cases him : i < m
      · obtain ⟨ys, n, _, _, _, hg⟩ := hi i him
        obtain ⟨v0, y0, hc0, _, ht0⟩ := hg 0 _ rfl
        obtain ⟨v1, y1, hc1, _, ht1⟩ := hg 1 _ rfl
        obtain ⟨z0, e0, _, _⟩ := DataW.trod_int Try.underlying3 ht0
        obtain ⟨z1, e1, _, _⟩ := DataW.trod_int Try.underlying3 ht1
        simp at e0 e1
        subst e0; subst e1
        exact ⟨z0, z1, fun _ => ⟨by simpa using hc0, by simpa using hc1⟩⟩
      · exact ⟨0, 0, fun h => (him h).elim⟩
    obtain ⟨X, hX⟩ := Classical.axiomOfChoice hall
    obtain ⟨Y, hXY⟩ := Classical.axiomOfChoice hX
    refine ⟨some a, len, m, (List.range len).map fun i => (X i, Y i), rfl, by simp, ?_, hl, hm'⟩
    by_cases h0 : len = 0
    · subst h0; exact .inl rfl
    · obtain ⟨b, off, spot⟩ := a
      have hspot : spot = none := by simpa [Addr.add] using World.cell?_spot (hXY 0 (by omega)).1
      subst hspot
      refine .inr ⟨b, off, rfl, fun j hj => ?_⟩
      simp at hj
      have hcj := hXY j (by omega)
      rw [addr_none, addr_none] at hcj
      have e : ((List.range len).map fun i => (X i, Y i)).getD j (0, 0) = (X j, Y j) := by
        simp [List.getD_eq_getElem?_getD, hj]
      rw [e]
      exact ⟨hcj.1, by rw [Nat.add_assoc]; exact hcj.2⟩
end Go.Proofs.Ytikdkoeicohopaa
