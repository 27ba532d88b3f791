/- THE ITEMS THAT COME IN: a slice of keys and data. -/
import Derived.Test.YtfkkckadnookoaaTopOpen
import Derived.Test.YtfkkckadnookoaaOpenBase
import Derived.ChangeSlices
namespace Go.Proofs.Ytfkkckadnookoaa
open Go.ChangeShapes Go.WideShapes Go.ChangeAt Go.RowKit
open Seal
/-- A slice of bytes, as it comes in. -/
structure Sl0 (w : World) (v : Value) (l : List Nat) : Prop where
  shp : ∃ a c, v = .slice a l.length c ∧ (l.length ≤ c ∧ c ≤ 9223372036854775807) ∧ SliceIs w a l
  oct : Oct l
  lim : l.length ≤ 140737488355328
/-- Items, as they come in. -/
def ItemsA (w : World) (a : Option Addr) (L : List (List Nat × List Nat)) : Prop :=
  L = [] ∨ ∃ g o, a = some ⟨g, o, none⟩ ∧ ∀ i (hi : i < L.length), ∃ kv dv, w.cell? ⟨g, o + i * 2, none⟩ = some kv ∧ w.cell? ⟨g, o + i * 2 + 1, none⟩ = some dv ∧ Sl0 w kv L[i].1 ∧ Sl0 w dv L[i].2
theorem add_plain13 (b off j : Nat) : (⟨b, off, none⟩ : Addr).add j = ⟨b, off + j, none⟩ := by unfold Addr.add; split <;> simp_all
section
variable {H : Type} {enc : TypeId × Value → H} {W : World}
/-- No part of a datum is beyond the machine. -/
def Fit (t : TypeId) (d : DataW H) : Prop := ∀ n ∈ d.weights Try.prog t, n ≤ 140737488355328
theorem fit_part {t : TypeId} {fs : Array Field} (ht : Try.prog.underlying t = some (.struct fs)) {parts : List (DataW H)} (h : Fit t (.agg parts)) {j : Nat} {f : Field} {d : DataW H} (hf : fs[j]? = some f) (hd : parts[j]? = some d) : Fit f.type d := by
  intro n hn
  refine h n ?_
  simp only [DataW.weights, ht]
  exact DataW.weights_mem_each (j := j) (by simp [hf]) hd n hn
theorem fit_elem {t e : TypeId} (ht : Try.prog.underlying t = some (.slice e)) {elems spare : List (DataW H)} (h : Fit t (.slice elems spare)) {d : DataW H} (hd : d ∈ elems) : Fit e d := by
  intro n hn
  refine h n ?_
  simp only [DataW.weights, ht, List.mem_cons, List.mem_append]
  exact Or.inr (Or.inl (weightsAll_mem hd n hn))
theorem fit_len {t e : TypeId} (ht : Try.prog.underlying t = some (.slice e)) {elems spare : List (DataW H)} (h : Fit t (.slice elems spare)) : (elems.length + spare.length) * Try.prog.bytesOf e ≤ 140737488355328 := by
  refine h _ ?_
  simp [DataW.weights, ht]
theorem fit_of {ts : List TypeId} {ds : List (DataW H)} (hw : (DataW.weightsEach Try.prog ts ds).all (· ≤ reachBytes) = true) {j : Nat} {t : TypeId} {d : DataW H} (hj : ts[j]? = some t) (hdj : ds[j]? = some d) : Fit t d := fun n hn => by
  have h1 := of_decide_eq_true (List.all_eq_true.1 hw n (DataW.weights_mem_each hj hdj n hn))
  rw [reach_eq] at h1
  omega
theorem bytesU8o : Try.prog.bytesOf 5 = 1 := by kernel_rfl
theorem cellsIt : Try.prog.cellsOf 32 = 2 := by kernel_rfl
theorem open_sl {fuel : Nat} {cs : List Value} {x : DataW H × List MemPlace} (h : DataW.trod enc Try.prog W 0 (fun _ => true) true fuel 28 cs = some x) (hx : Fit 28 x.1) :
    ∃ (a : Option Addr) (c : Nat) (l : List Nat), cs = [.slice a l.length c] ∧ l.length ≤ c ∧ c ≤ 9223372036854775807 ∧ Oct l ∧ l.length ≤ 140737488355328 ∧ SliceIs W a l := by
  rcases open_ints Try.underlying28 Try.underlying5 cellsU8o h with ⟨rfl, hd⟩ | ⟨a, len, cap, zs, rfl, _, hl, hm, hz, hd, hcell, hwz⟩
  · exact ⟨none, 0, [], rfl, Nat.le_refl _, by omega, (fun c hc => by cases hc), by simp, .inl rfl⟩
  · simp only [if_true] at hz
    have hm' : cap ≤ 9223372036854775807 := hm
    have hwf : ∀ j, j < zs.length → 0 ≤ zs.getD j 0 ∧ zs.getD j 0 < 256 := fun j hj => by
      rw [List.getD_eq_getElem?_getD, List.getElem?_eq_getElem hj]
      exact u8_wf (hwz _ (List.getElem_mem hj))
    have hfl := fit_len Try.underlying28 (by rw [hd] at hx; exact hx)
    rw [bytesU8o] at hfl
    have hll : ((zs.take len).map Int.toNat).length = len := by simp; omega
    refine ⟨some a, cap, (zs.take len).map Int.toNat, by rw [hll], by rw [hll]; exact hl, hm', ?_, ?_, ?_⟩
    · intro c hc
      obtain ⟨z, hzm, rfl⟩ := List.mem_map.1 hc
      have := u8_wf (hwz z (List.mem_of_mem_take hzm))
      omega
    · rw [hll]
      simp [lits] at hfl
      omega
    · by_cases h0 : len = 0
      · subst h0; exact .inl rfl
      · obtain ⟨b, off, spot⟩ := a
        have hspot : spot = none := by simpa [Addr.add] using World.cell?_spot (hcell 0 (by omega))
        subst hspot
        refine .inr ⟨b, off, rfl, fun j hj => ?_⟩
        rw [hll] at hj
        have hw := hwf j (by omega)
        have := hcell j (by omega)
        rw [show (⟨b, off, none⟩ : Addr).add j = ⟨b, off + j, none⟩ by (unfold Addr.add; split <;> simp_all)] at this
        rw [this]
        have e : (((zs.take len).map Int.toNat).getD j 0 : Nat) = (zs.getD j 0).toNat := by
          simp [List.getD_eq_getElem?_getD, show j < len by omega, List.getElem?_eq_getElem (show j < zs.length by omega)]
        rw [e, Int.toNat_of_nonneg hw.1]
theorem pick_row {β : Type} [Inhabited β] {n : Nat} {p : Nat → β → Prop} (h : ∀ i, i < n → ∃ x, p i x) : ∃ l : List β, l.length = n ∧ ∀ i (hi : i < l.length), p i l[i] := by
  obtain ⟨f, hf⟩ := Go.Deep.choose_lt h
  refine ⟨(List.range n).map f, by simp, fun i hi => ?_⟩
  have hi' : i < n := by simpa using hi
  simpa using hf i hi'
set_option maxRecDepth 100000 in
theorem open_items {base : Nat} {v : Value} {d : DataW H} {ps : List MemPlace} (hval : Value.okWide Try.prog W .any base 22 v) (hd : DataW.Trod enc Try.prog W 0 (fun _ => true) true 22 v d ps) (hx : Fit 22 d) :
    ∃ (a : Option Addr) (n c : Nat) (L : List (List Nat × List Nat)), v = .slice a n c ∧ L.length = n ∧ n ≤ c ∧ c ≤ 9223372036854775807 ∧ ItemsA W a L := by
  obtain ⟨a0, len, cap, rfl⟩ := okWide_slice Try.underlying22 hval
  obtain ⟨fuel, hf⟩ := hd
  rcases open_slice_fields Try.underlying22 Try.underlying32 (by kernel_rfl) cellsIt hf with ⟨hcs, hx0⟩ | ⟨a, len', cap', m, D, Pl, hcs, _, hl, hm, hmm, hx0, hi⟩
  · simp [Value.cells] at hcs
    obtain ⟨rfl, rfl, rfl⟩ := hcs
    exact ⟨none, 0, 0, [], rfl, rfl, Nat.le_refl _, by omega, .inl rfl⟩
  · simp [Value.cells] at hcs
    obtain ⟨rfl, rfl, rfl⟩ := hcs
    simp only [if_true] at hmm
    subst hmm
    simp only [Prod.mk.injEq] at hx0
    obtain ⟨hD, _⟩ := hx0
    rw [hD] at hx
    have hm' : m ≤ 9223372036854775807 := hm
    have each : ∀ i, i < len → ∃ x : List Nat × List Nat, ∃ kv dv, W.cell? (a.add (i * 2)) = some kv ∧ W.cell? (a.add (i * 2 + 1)) = some dv ∧ Sl0 W kv x.1 ∧ Sl0 W dv x.2 := fun i hil => by
      obtain ⟨ys, nn, hDi, _, hyl, hfl⟩ := hi i (by omega)
      have hfe := fit_elem Try.underlying22 hx (d := D i) (List.mem_map.2 ⟨i, List.mem_range.2 hil, rfl⟩)
      rw [hDi] at hfe
      obtain ⟨kv, y0, k1, k2, k3⟩ := hfl 0 _ rfl
      obtain ⟨dv, y1, d1, d2, d3⟩ := hfl 1 _ rfl
      have f0 := fit_part Try.underlying32 hfe (j := 0) rfl (d := y0.1) (by rw [List.getElem?_map, k2]; rfl)
      have f1 := fit_part Try.underlying32 hfe (j := 1) rfl (d := y1.1) (by rw [List.getElem?_map, d2]; rfl)
      obtain ⟨ka, kc, kl, ek, q1, q2, q3, q4, q5⟩ := open_sl k3 f0
      obtain ⟨da, dc, dl, ed, r1, r2, r3, r4, r5⟩ := open_sl d3 f1
      obtain rfl : kv = .slice ka kl.length kc := by simpa using ek
      obtain rfl : dv = .slice da dl.length dc := by simpa using ed
      exact ⟨(kl, dl), _, _, k1, d1, ⟨⟨_, _, rfl, ⟨q1, q2⟩, q5⟩, q3, q4⟩, ⟨⟨_, _, rfl, ⟨r1, r2⟩, r5⟩, r3, r4⟩⟩
    obtain ⟨L, hL, hall⟩ := pick_row each
    refine ⟨some a, len, _, L, rfl, hL, hl, by omega, ?_⟩
    by_cases h0 : len = 0
    · exact .inl (List.eq_nil_of_length_eq_zero (by omega))
    · obtain ⟨kv, dv, k1, _⟩ := hall 0 (by omega)
      have hsp := addr_spot k1
      refine .inr ⟨a.block, a.off, by rw [← hsp], fun i hiL => ?_⟩
      obtain ⟨kv, dv, k1, d1, k2, d2⟩ := hall i hiL
      have e : ∀ j, a.add j = ⟨a.block, a.off + j, none⟩ := fun j => (congrArg (fun x => Addr.add x j) hsp).trans (add_plain13 _ _ _)
      rw [e] at k1 d1
      exact ⟨kv, dv, k1, d1, k2, d2⟩
end
end Go.Proofs.Ytfkkckadnookoaa
