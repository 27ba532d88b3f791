/- PathAwake, PathParsesWalk, PathBackWalk, PathTab, PathNames. -/
import Derived.Lib.IndexBytes
import Derived.Test.YtdcfddiicclpeaaDoorCards
import Derived.Test.YtdcfddiicclpeaaDoorTie
import Derived.Lib.LaidU8T
import Derived.Deep.DeepWitnessRowRef
import Derived.SizedLaws
import Derived.Lay
import Derived.Deep.Strs
import Derived.Test.YtdcfddiicclpeaaDoorMg6
import Derived.Test.YtdcfddiicclpeaaDoorMg22
import Derived.Test.YtdcfddiicclpeaaDoorMg16
import Derived.Test.YtdcfddiicclpeaaDoorMg0
import Derived.Test.YtdcfddiicclpeaaDoorMg2
import Derived.Test.YtdcfddiicclpeaaDoorMg21
set_option maxRecDepth 100000
section
namespace Go.Proofs.YtdcfddiicclpeaaDoor
open Go.RowKit
open Seal
open Path
open Bson (Val)
theorem five_rows (w : World) (c0 c1 c2 c3 c4 : Array Value) (t0 t1 t2 t3 t4 : TypeId) (W : World) (hW : ((((w.alloc (.cells c0 t0)).alloc (.cells c1 t1)).alloc (.cells c2 t2)).alloc (.cells c3 t3)).alloc (.cells c4 t4) = W) :
    W.heap[w.heap.size]? = some (.cells c0 t0 (0, 0)) ∧ W.heap[w.heap.size + 1]? = some (.cells c1 t1 (0, 0)) ∧ W.heap[w.heap.size + 1 + 1]? = some (.cells c2 t2 (0, 0)) ∧ W.heap[w.heap.size + 1 + 1 + 1]? = some (.cells c3 t3 (0, 0)) ∧ W.heap[w.heap.size + 1 + 1 + 1 + 1]? = some (.cells c4 t4 (0, 0)) ∧ Below w.heap.size w W ∧ W.heap.size = w.heap.size + 5 := by
  subst hW
  refine ⟨?_, ?_, ?_, ?_, ?_, ?_, by simp⟩
  · rw [Below.heap_alloc _ _ _ (by simp <;> omega), Below.heap_alloc _ _ _ (by simp <;> omega), Below.heap_alloc _ _ _ (by simp <;> omega), Below.heap_alloc _ _ _ (by simp), heap_alloc_new]
  · have h := heap_alloc_new (w.alloc (.cells c0 t0)) (.cells c1 t1)
    rw [Below.heap_alloc _ _ _ (by simp <;> omega), Below.heap_alloc _ _ _ (by simp <;> omega), Below.heap_alloc _ _ _ (by simp)]
    simpa using h
  · have h := heap_alloc_new ((w.alloc (.cells c0 t0)).alloc (.cells c1 t1)) (.cells c2 t2)
    rw [Below.heap_alloc _ _ _ (by simp <;> omega), Below.heap_alloc _ _ _ (by simp)]
    simpa using h
  · have h := heap_alloc_new (((w.alloc (.cells c0 t0)).alloc (.cells c1 t1)).alloc (.cells c2 t2)) (.cells c3 t3)
    rw [Below.heap_alloc _ _ _ (by simp)]
    simpa using h
  · have h := heap_alloc_new ((((w.alloc (.cells c0 t0)).alloc (.cells c1 t1)).alloc (.cells c2 t2)).alloc (.cells c3 t3)) (.cells c4 t4)
    simpa using h
  · exact (((((Below.refl _ w).alloc (Nat.le_refl _) _).alloc (by simp) _).alloc (by simp; omega) _).alloc (by simp; omega) _).alloc (by simp; omega) _
namespace Path
def one_ : Val := .mk 6 0 ⟨#[]⟩ [] [(⟨#[98]⟩, .mk 3 1 ⟨#[]⟩ [] [] [])] []
def wake : Val := .mk 6 0 ⟨#[]⟩ [] [(⟨#[97]⟩, .mk 7 0 ⟨#[]⟩ [] [] [one_, .mk 3 5 ⟨#[]⟩ [] [] [], one_])] []
theorem wake_reach : (Bson.reach 5 wake (names [[97], [98]])).kind = 7 ∧ (Bson.reach 5 wake (names [[97], [98]])).l.length = 2 := by
  constructor <;> rfl
theorem wake_all : (Bson.all 5 wake (names [[97], [98]])).length = 2 := by rfl
end Path
set_option maxRecDepth 100000 in
set_option maxHeartbeats 1000000 in
theorem awake_any (w : World) (hG : Ground w) : Calls Tryd.prog 11 #[] w fun e w' => e = .returned (.bool true) ∧ Below w.heap.size w w' := by
  have hp : parse (⟨#[97, 46, 98]⟩ : ByteArray).data.toList = some [[97], [98]] := by decide +kernel
  have CP := Lib.hid (Parse_any ⟨#[97, 46, 98]⟩ w (by decide) hG)
  have HP := Lib.hid hp
  clear hp
  go_enter Tryd.func11, Tryd.ntmps11
  go_wp2_with fail
  refine CP.out.mono ?_
  rintro e w1 ⟨v1, b1, rfl, hb1, hy, hn⟩
  obtain ⟨rfl, a1, c1, rfl, hc1, hc2, hs1⟩ := hy _ HP.out
  have HB1 := Lib.hid hb1
  have HS1 := Lib.hid hs1
  have hln : (names [[97], [98]]).length = 2 := rfl
  rw [hln] at hc1 ⊢
  clear hy hn hb1 hs1 CP HP hln
  go_wp2_with fail
  generalize hW : ((((w1.alloc _).alloc _).alloc _).alloc _).alloc _ = W at *
  obtain ⟨r0, r1, r2, r3, r4, hbW, hsW⟩ := five_rows _ _ _ _ _ _ _ _ _ _ _ _ hW
  have HV : Hid (VIn W (fun g => w.heap.size ≤ g) 4 wake (.agg #[.int .i64 6, .int .i64 0, .string ⟨#[]⟩, .slice none 0 0, .slice (some ⟨w1.heap.size + 1 + 1 + 1, 0, none⟩) 1 1, .slice none 0 0])) := by
    have hs := HB1.out.size
    have h1 : VIn W (fun g => w.heap.size ≤ g) 2 one_ (.agg #[.int .i64 6, .int .i64 0, .string ⟨#[]⟩, .slice none 0 0, .slice (some ⟨w1.heap.size, 0, none⟩) 1 1, .slice none 0 0]) := doc_in r0 (by omega) (by decide) (leaf_in _ _ 3 1 (by omega) (by omega) 0)
    exact doc_in r3 (by omega) (by decide) (three_in r2 (by omega) h1 (leaf_in _ _ 3 5 (by omega) (by omega) 1) h1)
  have HSW : Hid (StrsIn W a1 (names [[97], [98]])) := HS1.out.keep hbW
  have HBW : Hid (Below w.heap.size w W) := HB1.out.trans (hbW.mono HB1.out.size)
  have CR := Lib.hid (Reach_any 5 3 (names [[97], [98]]) a1 2 c1 (by decide) rfl hc1 _ wake _ W HV.out HSW.out)
  have e0 : W.cell? ⟨w1.heap.size + 1 + 1 + 1 + 1, 0, none⟩ = some (.int .i64 6) := (cell_of_row _ _ 0 _ _ _ r4).trans rfl
  have e1 : W.cell? ⟨w1.heap.size + 1 + 1 + 1 + 1, 1, none⟩ = some (.int .i64 0) := (cell_of_row _ _ 1 _ _ _ r4).trans rfl
  have e2 : W.cell? ⟨w1.heap.size + 1 + 1 + 1 + 1, 2, none⟩ = some (.string ⟨#[]⟩) := (cell_of_row _ _ 2 _ _ _ r4).trans rfl
  have e3 : W.cell? ⟨w1.heap.size + 1 + 1 + 1 + 1, 3, none⟩ = some (.slice none 0 0) := (cell_of_row _ _ 3 _ _ _ r4).trans rfl
  have e4 : W.cell? ⟨w1.heap.size + 1 + 1 + 1 + 1, 4, none⟩ = some (.slice (some ⟨w1.heap.size + 1 + 1 + 1, 0, none⟩) 1 1) := (cell_of_row _ _ 4 _ _ _ r4).trans rfl
  have e5 : W.cell? ⟨w1.heap.size + 1 + 1 + 1 + 1, 5, none⟩ = some (.slice none 0 0) := (cell_of_row _ _ 5 _ _ _ r4).trans rfl
  clear hW r0 r1 r2 r3 r4 hbW
  refine CR.out.mono ?_
  rintro e w2 ⟨v2, rfl, hv2, hb2⟩
  obtain ⟨xk, xn, xs, ba, fa, la, bn, bc, fn, fc, ln, lc, rfl, hk, hxn, hxs, hbn, hfn, hl, hrest⟩ := hv2.letters
  clear hxn hxs hbn hfn hrest
  rw [wake_reach.1] at hk
  rw [wake_reach.2] at hl
  subst hk hl
  have f0 := cell_keep ((Below.refl _ w2).alloc (Nat.le_refl _) (.cells #[.int .i64 7, .int .i64 xn, .string xs, .slice ba bn bc, .slice fa fn fc, .slice la 2 lc] 26)) (cell_keep hb2 e0)
  have f1 := cell_keep ((Below.refl _ w2).alloc (Nat.le_refl _) (.cells #[.int .i64 7, .int .i64 xn, .string xs, .slice ba bn bc, .slice fa fn fc, .slice la 2 lc] 26)) (cell_keep hb2 e1)
  have f2 := cell_keep ((Below.refl _ w2).alloc (Nat.le_refl _) (.cells #[.int .i64 7, .int .i64 xn, .string xs, .slice ba bn bc, .slice fa fn fc, .slice la 2 lc] 26)) (cell_keep hb2 e2)
  have f3 := cell_keep ((Below.refl _ w2).alloc (Nat.le_refl _) (.cells #[.int .i64 7, .int .i64 xn, .string xs, .slice ba bn bc, .slice fa fn fc, .slice la 2 lc] 26)) (cell_keep hb2 e3)
  have f4 := cell_keep ((Below.refl _ w2).alloc (Nat.le_refl _) (.cells #[.int .i64 7, .int .i64 xn, .string xs, .slice ba bn bc, .slice fa fn fc, .slice la 2 lc] 26)) (cell_keep hb2 e4)
  have f5 := cell_keep ((Below.refl _ w2).alloc (Nat.le_refl _) (.cells #[.int .i64 7, .int .i64 xn, .string xs, .slice ba bn bc, .slice fa fn fc, .slice la 2 lc] 26)) (cell_keep hb2 e5)
  have HB2 : Hid (Below w.heap.size w w2) := HBW.out.trans (hb2.mono HBW.out.size)
  have HV2 : Hid (VIn w2 (fun g => w.heap.size ≤ g) 4 wake (.agg #[.int .i64 6, .int .i64 0, .string ⟨#[]⟩, .slice none 0 0, .slice (some ⟨w1.heap.size + 1 + 1 + 1, 0, none⟩) 1 1, .slice none 0 0])) := VIn.keep hb2 HV.out
  have HS2 : Hid (StrsIn w2 a1 (names [[97], [98]])) := HSW.out.keep hb2
  have CA := Lib.hid (fun wx (hb : Below w2.heap.size w2 wx) => All_any 5 3 (names [[97], [98]]) a1 2 c1 (by decide) rfl hc1 _ wake _ wx (VIn.keep hb HV2.out) (HS2.out.keep hb) (by rw [wake_all]; decide))
  rw [wake_all] at CA
  clear hv2 e0 e1 e2 e3 e4 e5 CR HV HSW hb2 HBW HS1 HB1 hsW
  generalize w1.heap.size + 1 + 1 + 1 + 1 = G at *
  go_wp2_with fail
  refine (CA.out _ ((Below.refl _ w2).alloc (Nat.le_refl _) _)).mono ?_
  rintro e w3 ⟨a3, c3, rfl, _, _, hb3⟩
  have HB3 : Hid (Below w.heap.size w w3) := (HB2.out.alloc HB2.out.size _).trans (hb3.mono (by have := HB2.out.size; simp; omega))
  clear hb3
  go_wp2_with fail
  go_ret
  exact ⟨rfl, HB3.out⟩
end Go.Proofs.YtdcfddiicclpeaaDoor
end
section
namespace Go.Proofs.YtdcfddiicclpeaaDoor
open Go.RowKit
open Seal
open Path
theorem names_inj : ∀ {a b : List (List UInt8)}, names a = names b → a = b
  | [], [], _ => rfl
  | [], _ :: _, h => by cases h
  | _ :: _, [], h => by cases h
  | x :: a, y :: b, h => by
    have h1 : (⟨x.toArray⟩ : ByteArray) :: names a = ⟨y.toArray⟩ :: names b := h
    injection h1 with h2 h3
    injection h2 with h2
    have : x = y := by simpa using congrArg Array.toList h2
    rw [this, names_inj h3]
end Go.Proofs.YtdcfddiicclpeaaDoor
end
section
namespace Go.Proofs.YtdcfddiicclpeaaDoor
open Go.RowKit
open Seal
open Path
namespace Path
/-- All bytes of names. -/
def bulk (p : List ByteArray) : Nat := (p.map (·.size)).sum
theorem bulk_take (p : List ByteArray) (k : Nat) (hk : k < p.length) : bulk (p.take (k + 1)) = bulk (p.take k) + p[k].size := by
  unfold bulk
  rw [List.take_add_one, List.getElem?_eq_getElem hk, List.map_append, List.sum_append]
  simp
def few (p : List ByteArray) : Bool := decide (p.length ≤ 40) && decide (bulk p ≤ 1000)
end Path
/-- Texts none of which is too long for the machine. -/
def Short (p : List ByteArray) : Prop := ∀ i (hi : i < p.length), p[i].size ≤ 140737488355328
theorem bulk_short (p : List ByteArray) (h : Short p) : ∀ k, k ≤ p.length → bulk (p.take k) ≤ k * 140737488355328
  | 0, _ => by simp [bulk]
  | k + 1, hk => by
    rw [bulk_take p k (by omega)]
    have := bulk_short p h k (by omega)
    have := h k (by omega)
    omega
set_option maxRecDepth 100000 in
set_option maxHeartbeats 1000000 in
theorem few_any (v : Value) (p : List ByteArray) (w : World) (h : NamesIn w v p) (hb : Short p) :
    Calls Tryd.prog 13 #[v] w fun e w' => e = .returned (.bool (few p)) ∧ Below w.heap.size w w' := by
  obtain ⟨a, n, c, rfl, hn, hn2, hp⟩ := h
  have HP := Lib.hid hp; have HN := Lib.hid hn; have HBK := Lib.hid hb
  clear hp hb
  go_enter Tryd.func13, Tryd.ntmps13
  go_wp2_with fail
  go_loopw [3, 4] (fun s i wr => ∃ (k : Nat) (z : Int), i = .int .i64 k ∧ k ≤ n ∧ s = .int .i64 z ∧ Hid (n ≤ 40 → z = (bulk (p.take k) : Nat)) ∧ Hid (Below w.heap.size w wr)) (fun _ i _ => n - (intOf i).toNat)
  case atStart => exact ⟨0, 0, rfl, Nat.zero_le _, rfl, fun _ => rfl, Below.refl _ _⟩
  case round =>
    obtain ⟨k, z, rfl, hk, rfl, HZ, HB⟩ := hrel
    by_cases hlt : k < n
    · obtain ⟨g, o, rfl, hcell⟩ := HP.out.resolve_left (fun e => by have := HN.out; rw [e] at this; simp at this; omega)
      have c1 := cell_keep HB.out (hcell k (by have := HN.out; omega))
      obtain ⟨x, hx⟩ : ∃ x, x = p[k]'(by have := HN.out; omega) := ⟨_, rfl⟩
      rw [← hx] at c1
      have hbt := bulk_take p k (by have := HN.out; omega)
      rw [← hx] at hbt
      have hxs : x.size ≤ 140737488355328 := by rw [hx]; exact HBK.out k (by have := HN.out; omega)
      obtain ⟨z2, hz2⟩ : ∃ z2, z2 = IntKind.i64.wrap (z + (x.size : Int)) := ⟨_, rfl⟩
      have HZ2 : Hid (n ≤ 40 → z2 = (bulk (p.take (k + 1)) : Nat)) := by
        intro h40
        have h1 := HZ.out h40
        have h2 := bulk_short p HBK.out k (by have := HN.out; omega)
        rw [hz2, h1, hbt, IntWalk.i64_in _ (by omega)]; omega
      have hz3 := hz2.symm
      clear hcell hx hbt hz2
      go_wp2_with fail
      go_roundw
      case rel => exact ⟨k + 1, z2, by go_num, by omega, by first | rfl | rw [hz3], HZ2, HB⟩
      case measure => simp [intOf]; omega
    · have hkk : k = n := by omega
      subst hkk
      have htk : p.take k = p := List.take_of_length_le (by rw [← HN.out]; exact Nat.le_refl _)
      rw [htk] at HZ
      have hres : few p = (decide (k ≤ 40) && decide (bulk p ≤ 1000)) := by unfold few; rw [← HN.out]
      have HRES := Lib.hid hres
      clear htk hres hn
      by_cases h40 : k ≤ 40
      · have hz := HZ.out h40
        have HZB := Lib.hid hz
        clear hz
        by_cases h1000 : z ≤ 1000
        · have hd : decide (z ≤ 1000) = true := decide_eq_true h1000
          go_wp2_with fail
          go_ret
          exact ⟨by rw [HRES.out, decide_eq_true h40, show decide (bulk p ≤ 1000) = true from decide_eq_true (by have := HZB.out; omega)]; rfl, HB.out⟩
        · have hd : decide (z ≤ 1000) = false := decide_eq_false h1000
          go_wp2_with fail
          go_ret
          exact ⟨by rw [HRES.out, decide_eq_true h40, show decide (bulk p ≤ 1000) = false from decide_eq_false (by have := HZB.out; omega)]; rfl, HB.out⟩
      · have hd : decide ((k : Int) ≤ 40) = false := decide_eq_false (by omega)
        go_wp2_with fail
        go_ret
        exact ⟨by rw [HRES.out, decide_eq_false h40]; rfl, HB.out⟩
end Go.Proofs.YtdcfddiicclpeaaDoor
end
section
namespace Go.Proofs.YtdcfddiicclpeaaDoor
open Go.ChangeShapes Go.WideShapes Go.ChangeAt Go.RowKit
open Go.ChangeMaps (open_string)
set_option maxRecDepth 100000 in
theorem ground_of {W : World} (h : laidMetH Tryd.prog laidList W) (hs : W.ShapedOpen Tryd.prog) : Ground W := by
  rw [laidList_eq] at h
  refine ⟨utf8Tabs_of_readsT (Go.Proofs.U8Types.of196 Tryd.lays196) ⟨by kernel_rfl, by kernel_rfl, by kernel_rfl, by kernel_rfl, by kernel_rfl, by kernel_rfl, by kernel_rfl⟩ (Lib.laidMet.reads h (.tail _ (.head _))) (Lib.laidMet.reads h (.head _)), ?_⟩
  exact Tryd.laysM145.s1_3 W hs
set_option maxRecDepth 100000 in
/-- Texts that come in. -/
theorem open_texts {H : Type} {enc : TypeId × Value → H} {W : World} {base : Nat} {v : Value} {d : DataW H} {ps : List MemPlace} (hval : Value.okWide Tryd.prog W .any base 27 v)
    (hd : DataW.Trod enc Tryd.prog W 0 (fun _ => true) true 27 v d ps) {ts : List TypeId} {ds : List (DataW H)} (hw : (DataW.weightsEach Tryd.prog ts ds).all (· ≤ reachBytes) = true) {j : Nat} (hj : ts[j]? = some 27) (hdj : ds[j]? = some d) :
    ∃ p, NamesIn W v p ∧ Short p := by
  obtain ⟨a0, len, cap, rfl⟩ := okWide_slice Tryd.underlying27 hval
  obtain ⟨fuel, hf⟩ := hd
  rcases Deep.open_strs Tryd.underlying27 Tryd.underlying9 cellsStr hf with ⟨hcs, hx⟩ | ⟨a, len', cap', m, Sx, hcs, _, hl, hm, hmm, hx, hr⟩
  · simp [Value.cells] at hcs
    obtain ⟨rfl, rfl, rfl⟩ := hcs
    exact ⟨[], ⟨none, 0, 0, rfl, rfl, by omega, .inl rfl⟩, fun i hi => by simp at hi⟩
  · simp [Value.cells] at hcs
    obtain ⟨rfl, rfl, rfl⟩ := hcs
    simp only [Prod.mk.injEq] at hx
    obtain ⟨rfl, _⟩ := hx
    have hlm : len ≤ m := by rw [hmm]; split <;> omega
    refine ⟨(List.range len).map Sx, ⟨some a, len, cap, rfl, by simp, by unfold maxLen at hm; omega, ?_⟩, fun i hi => ?_⟩
    · by_cases h0 : len = 0
      · subst h0; exact .inl rfl
      · have ha := addr_spot (hr 0 (by omega)).1
        refine .inr ⟨a.block, a.off, by rw [← ha], fun i hi => ?_⟩
        have hi' : i < len := by simpa using hi
        have := (hr i (by omega)).1
        rw [ha, add_plain] at this
        simpa using this
    · have hi' : i < len := by simpa using hi
      have hmem : DataW.lit (.string (Sx i).data.toList) ∈ (List.range len).map fun i => (DataW.lit (.string (Sx i).data.toList) : DataW H) := List.mem_map.2 ⟨i, List.mem_range.2 hi', rfl⟩
      have h1 := of_decide_eq_true (List.all_eq_true.1 hw (Sx i).data.toList.length (DataW.weights_mem_each hj hdj _ (by
        simp only [DataW.weights, Tryd.underlying27, List.mem_cons, List.mem_append]
        exact Or.inr (Or.inl (weightsAll_mem hmem _ (by simp [DataW.weights]))))))
      rw [reach_eq, Path.len_list] at h1
      simp
      omega
end Go.Proofs.YtdcfddiicclpeaaDoor
end
section
namespace Go.Proofs.YtdcfddiicclpeaaDoor
open Go.ChangeShapes Go.WideShapes Go.ChangeAt Go.RowKit
set_option maxRecDepth 100000 in
/-- Texts that come in. -/
theorem open_names {H : Type} {enc : TypeId × Value → H} {W : World} {base : Nat} {v : Value} {d : DataW H} {ps : List MemPlace} (hval : Value.okWide Tryd.prog W .any base 27 v)
    (hd : DataW.Trod enc Tryd.prog W 0 (fun _ => true) true 27 v d ps) {ts : List TypeId} {ds : List (DataW H)} (hw : (DataW.weightsEach Tryd.prog ts ds).all (· ≤ reachBytes) = true) {j : Nat} (hj : ts[j]? = some 27) (hdj : ds[j]? = some d) :
    ∃ p, NamesAt W v p ∧ Short p := by
  obtain ⟨a0, len, cap, rfl⟩ := okWide_slice Tryd.underlying27 hval
  obtain ⟨fuel, hf⟩ := hd
  rcases Deep.open_strs Tryd.underlying27 Tryd.underlying9 cellsStr hf with ⟨hcs, hx⟩ | ⟨a, len', cap', m, Sx, hcs, _, hl, hm, hmm, hx, hr⟩
  · simp [Value.cells] at hcs
    obtain ⟨rfl, rfl, rfl⟩ := hcs
    exact ⟨[], ⟨none, 0, rfl, Nat.le_refl _, by omega, .inl rfl⟩, fun i hi => by simp at hi⟩
  · simp [Value.cells] at hcs
    obtain ⟨rfl, rfl, rfl⟩ := hcs
    simp only [Prod.mk.injEq] at hx
    obtain ⟨rfl, _⟩ := hx
    have hlm : len ≤ m := by rw [hmm]; split <;> omega
    refine ⟨(List.range len).map Sx, ⟨some a, cap, by simp, by simpa using hl, by unfold maxLen at hm; omega, ?_⟩, fun i hi => ?_⟩
    · by_cases h0 : len = 0
      · subst h0; exact .inl rfl
      · have ha := addr_spot (hr 0 (by omega)).1
        refine .inr ⟨a.block, a.off, by rw [← ha], fun i hi => ?_⟩
        have hi' : i < len := by simpa using hi
        have := (hr i (by omega)).1
        rw [ha, add_plain] at this
        simpa using this
    · have hi' : i < len := by simpa using hi
      have hmem : DataW.lit (.string (Sx i).data.toList) ∈ (List.range len).map fun i => (DataW.lit (.string (Sx i).data.toList) : DataW H) := List.mem_map.2 ⟨i, List.mem_range.2 hi', rfl⟩
      have h1 := of_decide_eq_true (List.all_eq_true.1 hw (Sx i).data.toList.length (DataW.weights_mem_each hj hdj _ (by
        simp only [DataW.weights, Tryd.underlying27, List.mem_cons, List.mem_append]
        exact Or.inr (Or.inl (weightsAll_mem hmem _ (by simp [DataW.weights]))))))
      rw [reach_eq, Path.len_list] at h1
      simp
      omega
end Go.Proofs.YtdcfddiicclpeaaDoor
end
