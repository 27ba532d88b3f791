/- PathParsesWalk, PathBackWalk, PathTab, PathNames. -/
import Derived.Lib.IndexBytes
import Derived.Test.YtdgncpoephdboaaDoorCards
import Derived.Test.YtdgncpoephdboaaDoorTie
import Derived.Lib.LaidU8T
import Derived.Deep.DeepWitnessRowRef
import Derived.SizedLaws
import Derived.Lay
import Derived.Deep.Strs
import Derived.Test.YtdgncpoephdboaaDoorMg27
import Derived.Test.YtdgncpoephdboaaDoorMg0
import Derived.Test.YtdgncpoephdboaaDoorMg4
import Derived.Test.YtdgncpoephdboaaDoorMg3
import Derived.Test.YtdgncpoephdboaaDoorMg26
set_option maxRecDepth 100000
section
namespace Go.Proofs.YtdgncpoephdboaaDoor
open Go.RowKit
open Seal
open Path
theorem names_inj : ∀ {a b : List (List UInt8)}, names a = names b → a = b
  | [], [], _ => rfl
  | [], _ :: _, h => by cases h
  | _ :: _, [], h => by cases h
  | x :: a, y :: b, h => by
    have h1 : (⟨x.toArray⟩ : ByteArray) :: names a = ⟨y.toArray⟩ :: names b := h
    injection h1 with h2 h3
    injection h2 with h2
    have : x = y := by simpa using congrArg Array.toList h2
    rw [this, names_inj h3]
end Go.Proofs.YtdgncpoephdboaaDoor
end
section
namespace Go.Proofs.YtdgncpoephdboaaDoor
open Go.RowKit
open Seal
open Path
namespace Path
/-- All bytes of names. -/
def bulk (p : List ByteArray) : Nat := (p.map (·.size)).sum
theorem bulk_take (p : List ByteArray) (k : Nat) (hk : k < p.length) : bulk (p.take (k + 1)) = bulk (p.take k) + p[k].size := by
  unfold bulk
  rw [List.take_add_one, List.getElem?_eq_getElem hk, List.map_append, List.sum_append]
  simp
def few (p : List ByteArray) : Bool := decide (p.length ≤ 40) && decide (bulk p ≤ 1000)
end Path
/-- Texts none of which is too long for the machine. -/
def Short (p : List ByteArray) : Prop := ∀ i (hi : i < p.length), p[i].size ≤ 140737488355328
theorem bulk_short (p : List ByteArray) (h : Short p) : ∀ k, k ≤ p.length → bulk (p.take k) ≤ k * 140737488355328
  | 0, _ => by simp [bulk]
  | k + 1, hk => by
    rw [bulk_take p k (by omega)]
    have := bulk_short p h k (by omega)
    have := h k (by omega)
    omega
set_option maxRecDepth 100000 in
set_option maxHeartbeats 1000000 in
theorem few_any (v : Value) (p : List ByteArray) (w : World) (h : NamesIn w v p) (hb : Short p) :
    Calls Tryd.prog 7 #[v] w fun e w' => e = .returned (.bool (few p)) ∧ Below w.heap.size w w' := by
  obtain ⟨a, n, c, rfl, hn, hn2, hp⟩ := h
  have HP := Lib.hid hp; have HN := Lib.hid hn; have HBK := Lib.hid hb
  clear hp hb
  go_enter Tryd.func7, Tryd.ntmps7
  go_wp2_with fail
  go_loopw [3, 4] (fun s i wr => ∃ (k : Nat) (z : Int), i = .int .i64 k ∧ k ≤ n ∧ s = .int .i64 z ∧ Hid (n ≤ 40 → z = (bulk (p.take k) : Nat)) ∧ Hid (Below w.heap.size w wr)) (fun _ i _ => n - (intOf i).toNat)
  case atStart => exact ⟨0, 0, rfl, Nat.zero_le _, rfl, fun _ => rfl, Below.refl _ _⟩
  case round =>
    obtain ⟨k, z, rfl, hk, rfl, HZ, HB⟩ := hrel
    by_cases hlt : k < n
    · obtain ⟨g, o, rfl, hcell⟩ := HP.out.resolve_left (fun e => by have := HN.out; rw [e] at this; simp at this; omega)
      have c1 := cell_keep HB.out (hcell k (by have := HN.out; omega))
      obtain ⟨x, hx⟩ : ∃ x, x = p[k]'(by have := HN.out; omega) := ⟨_, rfl⟩
      rw [← hx] at c1
      have hbt := bulk_take p k (by have := HN.out; omega)
      rw [← hx] at hbt
      have hxs : x.size ≤ 140737488355328 := by rw [hx]; exact HBK.out k (by have := HN.out; omega)
      obtain ⟨z2, hz2⟩ : ∃ z2, z2 = IntKind.i64.wrap (z + (x.size : Int)) := ⟨_, rfl⟩
      have HZ2 : Hid (n ≤ 40 → z2 = (bulk (p.take (k + 1)) : Nat)) := by
        intro h40
        have h1 := HZ.out h40
        have h2 := bulk_short p HBK.out k (by have := HN.out; omega)
        rw [hz2, h1, hbt, IntWalk.i64_in _ (by omega)]; omega
      have hz3 := hz2.symm
      clear hcell hx hbt hz2
      go_wp2_with fail
      go_roundw
      case rel => exact ⟨k + 1, z2, by go_num, by omega, by first | rfl | rw [hz3], HZ2, HB⟩
      case measure => simp [intOf]; omega
    · have hkk : k = n := by omega
      subst hkk
      have htk : p.take k = p := List.take_of_length_le (by rw [← HN.out]; exact Nat.le_refl _)
      rw [htk] at HZ
      have hres : few p = (decide (k ≤ 40) && decide (bulk p ≤ 1000)) := by unfold few; rw [← HN.out]
      have HRES := Lib.hid hres
      clear htk hres hn
      by_cases h40 : k ≤ 40
      · have hz := HZ.out h40
        have HZB := Lib.hid hz
        clear hz
        by_cases h1000 : z ≤ 1000
        · have hd : decide (z ≤ 1000) = true := decide_eq_true h1000
          go_wp2_with fail
          go_ret
          exact ⟨by rw [HRES.out, decide_eq_true h40, show decide (bulk p ≤ 1000) = true from decide_eq_true (by have := HZB.out; omega)]; rfl, HB.out⟩
        · have hd : decide (z ≤ 1000) = false := decide_eq_false h1000
          go_wp2_with fail
          go_ret
          exact ⟨by rw [HRES.out, decide_eq_true h40, show decide (bulk p ≤ 1000) = false from decide_eq_false (by have := HZB.out; omega)]; rfl, HB.out⟩
      · have hd : decide ((k : Int) ≤ 40) = false := decide_eq_false (by omega)
        go_wp2_with fail
        go_ret
        exact ⟨by rw [HRES.out, decide_eq_false h40]; rfl, HB.out⟩
end Go.Proofs.YtdgncpoephdboaaDoor
end
section
namespace Go.Proofs.YtdgncpoephdboaaDoor
open Go.ChangeShapes Go.WideShapes Go.ChangeAt Go.RowKit
open Go.ChangeMaps (open_string)
set_option maxRecDepth 100000 in
theorem ground_of {W : World} (h : laidMetH Tryd.prog laidList W) (hs : W.ShapedOpen Tryd.prog) : Ground W := by
  rw [laidList_eq] at h
  refine ⟨utf8Tabs_of_readsT (Go.Proofs.U8Types.of196 Tryd.lays196) ⟨by kernel_rfl, by kernel_rfl, by kernel_rfl, by kernel_rfl, by kernel_rfl, by kernel_rfl, by kernel_rfl⟩ (Lib.laidMet.reads h (.tail _ (.head _))) (Lib.laidMet.reads h (.head _)), ?_⟩
  exact Tryd.laysM145.s1_3 W hs
set_option maxRecDepth 100000 in
/-- Texts that come in. -/
theorem open_texts {H : Type} {enc : TypeId × Value → H} {W : World} {base : Nat} {v : Value} {d : DataW H} {ps : List MemPlace} (hval : Value.okWide Tryd.prog W .any base 22 v)
    (hd : DataW.Trod enc Tryd.prog W 0 (fun _ => true) true 22 v d ps) {ts : List TypeId} {ds : List (DataW H)} (hw : (DataW.weightsEach Tryd.prog ts ds).all (· ≤ reachBytes) = true) {j : Nat} (hj : ts[j]? = some 22) (hdj : ds[j]? = some d) :
    ∃ p, NamesIn W v p ∧ Short p := by
  obtain ⟨a0, len, cap, rfl⟩ := okWide_slice Tryd.underlying22 hval
  obtain ⟨fuel, hf⟩ := hd
  rcases Deep.open_strs Tryd.underlying22 Tryd.underlying9 cellsStr hf with ⟨hcs, hx⟩ | ⟨a, len', cap', m, Sx, hcs, _, hl, hm, hmm, hx, hr⟩
  · simp [Value.cells] at hcs
    obtain ⟨rfl, rfl, rfl⟩ := hcs
    exact ⟨[], ⟨none, 0, 0, rfl, rfl, by omega, .inl rfl⟩, fun i hi => by simp at hi⟩
  · simp [Value.cells] at hcs
    obtain ⟨rfl, rfl, rfl⟩ := hcs
    simp only [Prod.mk.injEq] at hx
    obtain ⟨rfl, _⟩ := hx
    have hlm : len ≤ m := by rw [hmm]; split <;> omega
    refine ⟨(List.range len).map Sx, ⟨some a, len, cap, rfl, by simp, by unfold maxLen at hm; omega, ?_⟩, fun i hi => ?_⟩
    · by_cases h0 : len = 0
      · subst h0; exact .inl rfl
      · have ha := addr_spot (hr 0 (by omega)).1
        refine .inr ⟨a.block, a.off, by rw [← ha], fun i hi => ?_⟩
        have hi' : i < len := by simpa using hi
        have := (hr i (by omega)).1
        rw [ha, add_plain] at this
        simpa using this
    · have hi' : i < len := by simpa using hi
      have hmem : DataW.lit (.string (Sx i).data.toList) ∈ (List.range len).map fun i => (DataW.lit (.string (Sx i).data.toList) : DataW H) := List.mem_map.2 ⟨i, List.mem_range.2 hi', rfl⟩
      have h1 := of_decide_eq_true (List.all_eq_true.1 hw (Sx i).data.toList.length (DataW.weights_mem_each hj hdj _ (by
        simp only [DataW.weights, Tryd.underlying22, List.mem_cons, List.mem_append]
        exact Or.inr (Or.inl (weightsAll_mem hmem _ (by simp [DataW.weights]))))))
      rw [reach_eq, Path.len_list] at h1
      simp
      omega
end Go.Proofs.YtdgncpoephdboaaDoor
end
section
namespace Go.Proofs.YtdgncpoephdboaaDoor
open Go.ChangeShapes Go.WideShapes Go.ChangeAt Go.RowKit
set_option maxRecDepth 100000 in
/-- Texts that come in. -/
theorem open_names {H : Type} {enc : TypeId × Value → H} {W : World} {base : Nat} {v : Value} {d : DataW H} {ps : List MemPlace} (hval : Value.okWide Tryd.prog W .any base 22 v)
    (hd : DataW.Trod enc Tryd.prog W 0 (fun _ => true) true 22 v d ps) {ts : List TypeId} {ds : List (DataW H)} (hw : (DataW.weightsEach Tryd.prog ts ds).all (· ≤ reachBytes) = true) {j : Nat} (hj : ts[j]? = some 22) (hdj : ds[j]? = some d) :
    ∃ p, NamesAt W v p ∧ Short p := by
  obtain ⟨a0, len, cap, rfl⟩ := okWide_slice Tryd.underlying22 hval
  obtain ⟨fuel, hf⟩ := hd
  rcases Deep.open_strs Tryd.underlying22 Tryd.underlying9 cellsStr hf with ⟨hcs, hx⟩ | ⟨a, len', cap', m, Sx, hcs, _, hl, hm, hmm, hx, hr⟩
  · simp [Value.cells] at hcs
    obtain ⟨rfl, rfl, rfl⟩ := hcs
    exact ⟨[], ⟨none, 0, rfl, Nat.le_refl _, by omega, .inl rfl⟩, fun i hi => by simp at hi⟩
  · simp [Value.cells] at hcs
    obtain ⟨rfl, rfl, rfl⟩ := hcs
    simp only [Prod.mk.injEq] at hx
    obtain ⟨rfl, _⟩ := hx
    have hlm : len ≤ m := by rw [hmm]; split <;> omega
    refine ⟨(List.range len).map Sx, ⟨some a, cap, by simp, by simpa using hl, by unfold maxLen at hm; omega, ?_⟩, fun i hi => ?_⟩
    · by_cases h0 : len = 0
      · subst h0; exact .inl rfl
      · have ha := addr_spot (hr 0 (by omega)).1
        refine .inr ⟨a.block, a.off, by rw [← ha], fun i hi => ?_⟩
        have hi' : i < len := by simpa using hi
        have := (hr i (by omega)).1
        rw [ha, add_plain] at this
        simpa using this
    · have hi' : i < len := by simpa using hi
      have hmem : DataW.lit (.string (Sx i).data.toList) ∈ (List.range len).map fun i => (DataW.lit (.string (Sx i).data.toList) : DataW H) := List.mem_map.2 ⟨i, List.mem_range.2 hi', rfl⟩
      have h1 := of_decide_eq_true (List.all_eq_true.1 hw (Sx i).data.toList.length (DataW.weights_mem_each hj hdj _ (by
        simp only [DataW.weights, Tryd.underlying22, List.mem_cons, List.mem_append]
        exact Or.inr (Or.inl (weightsAll_mem hmem _ (by simp [DataW.weights]))))))
      rw [reach_eq, Path.len_list] at h1
      simp
      omega
end Go.Proofs.YtdgncpoephdboaaDoor
end
