/- PathCopyF, Seven, ValBuild, BsonCut, BsonHoldM. -/
import Derived.Maps.AppendAt
import Derived.Maps.RangeWalk
import Derived.Deep.CutRange
import Derived.Deep.RegionHeld3
import Derived.Test.YtdihelpimpkfoaaDoorMg7
import Derived.Test.YtdihelpimpkfoaaDoorMg6
import Derived.Test.YtdihelpimpkfoaaDoorMg8
set_option maxRecDepth 100000
section
namespace Go.Proofs.YtdihelpimpkfoaaDoor
open Go.RowKit
open Seal
open Bson (Val)
def CopyPost (w : World) (h : Nat) (x : Val) (e : Ending) (w' : World) : Prop := ∃ v', e = .returned v' ∧ VIn w' (fun g => w.heap.size ≤ g) h x v' ∧ Below w.heap.size w w'
def CopyAt (Q : Nat → Prop) (h : Nat) : Prop := ∀ (x : Val) (v : Value) (w : World), VIn w Q h x v → Calls Tryd.prog 12 #[v] w (CopyPost w h x)
/-- Both boxes of copyField. -/
def BoxF (nm : ByteArray) (c0 c1 c2 c3 c4 c5 : Value) (w W : World) : Prop := W.heap[w.heap.size]? = some (.cells #[Value.string nm, c0, c1, c2, c3, c4, c5] 35 (0, 0)) ∧ W.heap[w.heap.size + 1]? = some (.cells #[Value.string ⟨#[]⟩, .int .i64 0, .int .i64 0, .string ⟨#[]⟩, .slice none 0 0, .slice none 0 0, .slice none 0 0] 35 (0, 0))
theorem BoxF.facts {nm : ByteArray} {c0 c1 c2 c3 c4 c5 : Value} {w W : World} (h : BoxF nm c0 c1 c2 c3 c4 c5 w W) : W.cell? ⟨w.heap.size, 0, none⟩ = some (.string nm) ∧ W.cell? ⟨w.heap.size, 1, none⟩ = some c0 ∧ W.cell? ⟨w.heap.size, 2, none⟩ = some c1 ∧ W.cell? ⟨w.heap.size, 3, none⟩ = some c2 ∧ W.cell? ⟨w.heap.size, 4, none⟩ = some c3 ∧ W.cell? ⟨w.heap.size, 5, none⟩ = some c4 ∧ W.cell? ⟨w.heap.size, 6, none⟩ = some c5 :=
  ⟨(cell_of_row W _ 0 _ _ _ h.1).trans rfl, (cell_of_row W _ 1 _ _ _ h.1).trans rfl, (cell_of_row W _ 2 _ _ _ h.1).trans rfl, (cell_of_row W _ 3 _ _ _ h.1).trans rfl, (cell_of_row W _ 4 _ _ _ h.1).trans rfl, (cell_of_row W _ 5 _ _ _ h.1).trans rfl, (cell_of_row W _ 6 _ _ _ h.1).trans rfl⟩
theorem BoxF.zeros {nm : ByteArray} {c0 c1 c2 c3 c4 c5 : Value} {w W : World} (h : BoxF nm c0 c1 c2 c3 c4 c5 w W) : W.cell? ⟨w.heap.size + 1, 0, none⟩ = some (.string { data := #[] }) ∧ W.cell? ⟨w.heap.size + 1, 1, none⟩ = some (.int .i64 0) ∧ W.cell? ⟨w.heap.size + 1, 2, none⟩ = some (.int .i64 0) ∧ W.cell? ⟨w.heap.size + 1, 3, none⟩ = some (.string { data := #[] }) ∧ W.cell? ⟨w.heap.size + 1, 4, none⟩ = some (.slice none 0 0) ∧ W.cell? ⟨w.heap.size + 1, 5, none⟩ = some (.slice none 0 0) ∧ W.cell? ⟨w.heap.size + 1, 6, none⟩ = some (.slice none 0 0) ∧ W.frozen? ⟨w.heap.size + 1, 0, none⟩ = false ∧ W.frozen? ⟨w.heap.size + 1, 1, none⟩ = false ∧ W.frozen? ⟨w.heap.size + 1, 2, none⟩ = false ∧ W.frozen? ⟨w.heap.size + 1, 3, none⟩ = false ∧ W.frozen? ⟨w.heap.size + 1, 4, none⟩ = false ∧ W.frozen? ⟨w.heap.size + 1, 5, none⟩ = false ∧ W.frozen? ⟨w.heap.size + 1, 6, none⟩ = false :=
  ⟨(cell_of_row W _ 0 _ _ _ h.2).trans rfl, (cell_of_row W _ 1 _ _ _ h.2).trans rfl, (cell_of_row W _ 2 _ _ _ h.2).trans rfl, (cell_of_row W _ 3 _ _ _ h.2).trans rfl, (cell_of_row W _ 4 _ _ _ h.2).trans rfl, (cell_of_row W _ 5 _ _ _ h.2).trans rfl, (cell_of_row W _ 6 _ _ _ h.2).trans rfl, frozen_of_row W _ 0 _ _ h.2, frozen_of_row W _ 1 _ _ h.2, frozen_of_row W _ 2 _ _ h.2, frozen_of_row W _ 3 _ _ h.2, frozen_of_row W _ 4 _ _ h.2, frozen_of_row W _ 5 _ _ h.2, frozen_of_row W _ 6 _ _ h.2⟩
theorem BoxF.after {nm : ByteArray} {c0 c1 c2 c3 c4 c5 : Value} {w W : World} (h : BoxF nm c0 c1 c2 c3 c4 c5 w W) (vs : List Value) : (W.setCells (w.heap.size + 1) 0 vs).cell? ⟨w.heap.size, 0, none⟩ = some (.string nm) ∧ (W.setCells (w.heap.size + 1) 0 vs).cell? ⟨w.heap.size, 1, none⟩ = some c0 ∧ (W.setCells (w.heap.size + 1) 0 vs).cell? ⟨w.heap.size, 2, none⟩ = some c1 ∧ (W.setCells (w.heap.size + 1) 0 vs).cell? ⟨w.heap.size, 3, none⟩ = some c2 ∧ (W.setCells (w.heap.size + 1) 0 vs).cell? ⟨w.heap.size, 4, none⟩ = some c3 ∧ (W.setCells (w.heap.size + 1) 0 vs).cell? ⟨w.heap.size, 5, none⟩ = some c4 ∧ (W.setCells (w.heap.size + 1) 0 vs).cell? ⟨w.heap.size, 6, none⟩ = some c5 := by
  have e : (W.setCells (w.heap.size + 1) 0 vs).heap[w.heap.size]? = _ := (puts_other (w.heap.size + 1) w.heap.size (by omega) vs W 0).trans h.1
  exact ⟨(cell_of_row _ _ 0 _ _ _ e).trans rfl, (cell_of_row _ _ 1 _ _ _ e).trans rfl, (cell_of_row _ _ 2 _ _ _ e).trans rfl, (cell_of_row _ _ 3 _ _ _ e).trans rfl, (cell_of_row _ _ 4 _ _ _ e).trans rfl, (cell_of_row _ _ 5 _ _ _ e).trans rfl, (cell_of_row _ _ 6 _ _ _ e).trans rfl⟩
theorem BoxF.row {nm : ByteArray} {c0 c1 c2 c3 c4 c5 : Value} {w W : World} (h : BoxF nm c0 c1 c2 c3 c4 c5 w W) : Row6 W (w.heap.size + 1) 35 7 := ⟨_, h.2, rfl⟩
theorem BoxF.new (nm : ByteArray) (c0 c1 c2 c3 c4 c5 : Value) (w : World) : BoxF nm c0 c1 c2 c3 c4 c5 w ((w.alloc (.cells #[Value.string nm, c0, c1, c2, c3, c4, c5] 35)).alloc (.cells #[Value.string ⟨#[]⟩, .int .i64 0, .int .i64 0, .string ⟨#[]⟩, .slice none 0 0, .slice none 0 0, .slice none 0 0] 35)) :=
  ⟨(Below.heap_alloc _ _ _ (by simp)).trans (heap_alloc_new w _), by have := heap_alloc_new (w.alloc (.cells #[Value.string nm, c0, c1, c2, c3, c4, c5] 35)) (.cells #[Value.string ⟨#[]⟩, .int .i64 0, .int .i64 0, .string ⟨#[]⟩, .slice none 0 0, .slice none 0 0, .slice none 0 0] 35); simpa using this⟩
theorem BoxF.keep {nm : ByteArray} {c0 c1 c2 c3 c4 c5 : Value} {w W W' : World} (h : BoxF nm c0 c1 c2 c3 c4 c5 w W) (hb : Below W.heap.size W W') : BoxF nm c0 c1 c2 c3 c4 c5 w W' :=
  ⟨(hb.block _ (Array.getElem?_eq_some_iff.1 h.1).1).trans h.1, (hb.block _ (Array.getElem?_eq_some_iff.1 h.2).1).trans h.2⟩
set_option maxRecDepth 100000 in
set_option maxHeartbeats 1000000 in
theorem copyfield_any (Q : Nat → Prop) (h : Nat) (IH0 : CopyAt Q h) (nm : ByteArray) (x : Val) (c0 c1 c2 c3 c4 c5 : Value) (w : World) (hv : VIn w Q h x (.agg #[c0, c1, c2, c3, c4, c5])) :
    Calls Tryd.prog 21 #[.agg #[.string nm, c0, c1, c2, c3, c4, c5]] w fun e w' => ∃ c0 c1 c2 c3 c4 c5, e = .returned (.agg #[.string nm, c0, c1, c2, c3, c4, c5]) ∧ VIn w' (fun g => w.heap.size ≤ g) h x (.agg #[c0, c1, c2, c3, c4, c5]) ∧ Below w.heap.size w w' := by
  have IH := Lib.hid IH0
  have HV := Lib.hid hv
  have HX := Lib.hid (BoxF.new nm c0 c1 c2 c3 c4 c5 w)
  clear hv IH0
  go_enter Tryd.func21, Tryd.ntmps21
  go_wp2_with fail
  generalize hW0 : (w.alloc (Obj.cells #[Value.string nm, c0, c1, c2, c3, c4, c5] 35)).alloc (Obj.cells #[Value.string { data := #[] }, Value.int IntKind.i64 0, Value.int IntKind.i64 0, Value.string { data := #[] }, Value.slice none 0 0, Value.slice none 0 0, Value.slice none 0 0] 35) = W0 at HX ⊢
  have HB0 : Hid (Below w.heap.size w W0) := by
    rw [← hW0]; exact ((Below.refl _ w).alloc (Nat.le_refl _) _).alloc (by simp) _
  have HS0 : Hid (w.heap.size + 2 ≤ W0.heap.size) := by rw [← hW0]; show _ ≤ _; simp
  clear hW0
  have HVW := Lib.hid (VIn.keep HB0.out HV.out)
  have hf := HX.out.facts
  go_region_held3 (fun W => W.cell? ⟨w.heap.size, 0, none⟩ = some (.string nm) ∧ W.cell? ⟨w.heap.size, 1, none⟩ = some c0 ∧ W.cell? ⟨w.heap.size, 2, none⟩ = some c1 ∧ W.cell? ⟨w.heap.size, 3, none⟩ = some c2 ∧ W.cell? ⟨w.heap.size, 4, none⟩ = some c3 ∧ W.cell? ⟨w.heap.size, 5, none⟩ = some c4 ∧ W.cell? ⟨w.heap.size, 6, none⟩ = some c5)
    (first | with_reducible exact hf | with_reducible exact hf2 | with_reducible exact hf3 | go_keep)
    ((go_at_call 12; refine (IH.out x _ W0.drew (VIn.keep ((Below.refl _ W0).drew) HVW.out)).mono ?_; rintro e w' ⟨v', rfl, hv', hb'⟩; obtain ⟨ka, na, sa, ba, fa, la, bl, bc, fl, fc, ll, lc, rfl⟩ := hv'.shape; have HV' := Lib.hid hv'; have HB' : Hid (Below W0.heap.size W0 w') := (Below.refl _ W0).drew.trans hb'; have HX' := Lib.hid (HX.out.keep HB'.out); have hf2 := HX'.out.facts; obtain ⟨g0, g1, g2, g3, g4, g5, g6, g7, g8, g9, g10, g11, g12, g13⟩ := HX'.out.zeros; have hf3 : (((((((w'.setCell ⟨w.heap.size + 1, 0, none⟩ (.string nm)).setCell ⟨w.heap.size + 1, 1, none⟩ (.int .i64 ka)).setCell ⟨w.heap.size + 1, 2, none⟩ (.int .i64 na)).setCell ⟨w.heap.size + 1, 3, none⟩ (.string sa)).setCell ⟨w.heap.size + 1, 4, none⟩ (.slice ba bl bc)).setCell ⟨w.heap.size + 1, 5, none⟩ (.slice fa fl fc)).setCell ⟨w.heap.size + 1, 6, none⟩ (.slice la ll lc)).cell? ⟨w.heap.size, 0, none⟩ = some (.string nm) ∧ (((((((w'.setCell ⟨w.heap.size + 1, 0, none⟩ (.string nm)).setCell ⟨w.heap.size + 1, 1, none⟩ (.int .i64 ka)).setCell ⟨w.heap.size + 1, 2, none⟩ (.int .i64 na)).setCell ⟨w.heap.size + 1, 3, none⟩ (.string sa)).setCell ⟨w.heap.size + 1, 4, none⟩ (.slice ba bl bc)).setCell ⟨w.heap.size + 1, 5, none⟩ (.slice fa fl fc)).setCell ⟨w.heap.size + 1, 6, none⟩ (.slice la ll lc)).cell? ⟨w.heap.size, 1, none⟩ = some c0 ∧ (((((((w'.setCell ⟨w.heap.size + 1, 0, none⟩ (.string nm)).setCell ⟨w.heap.size + 1, 1, none⟩ (.int .i64 ka)).setCell ⟨w.heap.size + 1, 2, none⟩ (.int .i64 na)).setCell ⟨w.heap.size + 1, 3, none⟩ (.string sa)).setCell ⟨w.heap.size + 1, 4, none⟩ (.slice ba bl bc)).setCell ⟨w.heap.size + 1, 5, none⟩ (.slice fa fl fc)).setCell ⟨w.heap.size + 1, 6, none⟩ (.slice la ll lc)).cell? ⟨w.heap.size, 2, none⟩ = some c1 ∧ (((((((w'.setCell ⟨w.heap.size + 1, 0, none⟩ (.string nm)).setCell ⟨w.heap.size + 1, 1, none⟩ (.int .i64 ka)).setCell ⟨w.heap.size + 1, 2, none⟩ (.int .i64 na)).setCell ⟨w.heap.size + 1, 3, none⟩ (.string sa)).setCell ⟨w.heap.size + 1, 4, none⟩ (.slice ba bl bc)).setCell ⟨w.heap.size + 1, 5, none⟩ (.slice fa fl fc)).setCell ⟨w.heap.size + 1, 6, none⟩ (.slice la ll lc)).cell? ⟨w.heap.size, 3, none⟩ = some c2 ∧ (((((((w'.setCell ⟨w.heap.size + 1, 0, none⟩ (.string nm)).setCell ⟨w.heap.size + 1, 1, none⟩ (.int .i64 ka)).setCell ⟨w.heap.size + 1, 2, none⟩ (.int .i64 na)).setCell ⟨w.heap.size + 1, 3, none⟩ (.string sa)).setCell ⟨w.heap.size + 1, 4, none⟩ (.slice ba bl bc)).setCell ⟨w.heap.size + 1, 5, none⟩ (.slice fa fl fc)).setCell ⟨w.heap.size + 1, 6, none⟩ (.slice la ll lc)).cell? ⟨w.heap.size, 4, none⟩ = some c3 ∧ (((((((w'.setCell ⟨w.heap.size + 1, 0, none⟩ (.string nm)).setCell ⟨w.heap.size + 1, 1, none⟩ (.int .i64 ka)).setCell ⟨w.heap.size + 1, 2, none⟩ (.int .i64 na)).setCell ⟨w.heap.size + 1, 3, none⟩ (.string sa)).setCell ⟨w.heap.size + 1, 4, none⟩ (.slice ba bl bc)).setCell ⟨w.heap.size + 1, 5, none⟩ (.slice fa fl fc)).setCell ⟨w.heap.size + 1, 6, none⟩ (.slice la ll lc)).cell? ⟨w.heap.size, 5, none⟩ = some c4 ∧ (((((((w'.setCell ⟨w.heap.size + 1, 0, none⟩ (.string nm)).setCell ⟨w.heap.size + 1, 1, none⟩ (.int .i64 ka)).setCell ⟨w.heap.size + 1, 2, none⟩ (.int .i64 na)).setCell ⟨w.heap.size + 1, 3, none⟩ (.string sa)).setCell ⟨w.heap.size + 1, 4, none⟩ (.slice ba bl bc)).setCell ⟨w.heap.size + 1, 5, none⟩ (.slice fa fl fc)).setCell ⟨w.heap.size + 1, 6, none⟩ (.slice la ll lc)).cell? ⟨w.heap.size, 6, none⟩ = some c5 := HX'.out.after [.string nm, .int .i64 ka, .int .i64 na, .string sa, .slice ba bl bc, .slice fa fl fc, .slice la ll lc]; clear hv' hb'))
  have HBw : Hid (Below w.heap.size w w') := HB0.out.trans (HB'.out.mono (by have := HS0.out; omega))
  have hk := puts_kept (fun g => W0.heap.size ≤ g) (w := w') (G := w.heap.size + 1) (by have := HS0.out; omega) 0 [.string nm, .int .i64 ka, .int .i64 na, .string sa, .slice ba bl bc, .slice fa fl fc, .slice la ll lc]
  have hb9 := puts_below HBw.out (G := w.heap.size + 1) (by omega) [.string nm, .int .i64 ka, .int .i64 na, .string sa, .slice ba bl bc, .slice fa fl fc, .slice la ll lc] 0
  have hv9 := HV'.out.kept hk (Q' := fun g => w.heap.size ≤ g) (fun g hg => by have := HS0.out; omega)
  clear hf2 hf3 hf
  go_wp2_with fail
  exact bodyPost_ret (v := .agg #[.string nm, .int .i64 ka, .int .i64 na, .string sa, .slice ba bl bc, .slice fa fl fc, .slice la ll lc]) (by simp [results, Tryd.results21, go_sem, g0, g1, g2, g3, g4, g5, g6]) rfl ⟨_, _, _, _, _, _, rfl, hv9, hb9⟩
end Go.Proofs.YtdihelpimpkfoaaDoor
end
section
namespace Go.Proofs.YtdihelpimpkfoaaDoor
open Go.RowKit
open Seal
theorem infoField : (Tryd.prog.info? 35).map (fun i => (i.zero, i.size, i.bytes)) = some (some (.agg #[.string ⟨#[]⟩, .int .i64 0, .int .i64 0, .string ⟨#[]⟩, .slice none 0 0, .slice none 0 0, .slice none 0 0]), 7, 120) := by kernel_rfl
theorem seven_new (w : World) (c0 c1 c2 c3 c4 c5 c6 : Value) (t : TypeId) : ∀ j u, ([c0, c1, c2, c3, c4, c5, c6] : List Value)[j]? = some u → (w.alloc (.cells #[c0, c1, c2, c3, c4, c5, c6] t)).cell? (Addr.add ⟨w.heap.size, 0, none⟩ j) = some u := by
  intro j u hj
  rw [Addr.add_mid, Nat.zero_add, cell_of_row _ _ j _ _ _ (heap_alloc_new w _)]
  simpa using hj
theorem seven_one (nm : ByteArray) (k n : Int) (s : ByteArray) (ba fa la : Option Addr) (bl bc fl fc ll lc : Nat) : ∀ u ∈ ([.string nm, .int .i64 k, .int .i64 n, .string s, .slice ba bl bc, .slice fa fl fc, .slice la ll lc] : List Value), u.oneCell' = true := by
  intro u hu
  simp at hu
  rcases hu with rfl | rfl | rfl | rfl | rfl | rfl | rfl <;> rfl
end Go.Proofs.YtdihelpimpkfoaaDoor
end
section
namespace Go.Proofs.YtdihelpimpkfoaaDoor
open Go.RowKit
open Seal
open Bson (Val)
theorem plain_lim (k n : Int) (f : List (ByteArray × Val)) (l : List Val) (hk : -9223372036854775808 ≤ k ∧ k ≤ 9223372036854775807) (hn : -9223372036854775808 ≤ n ∧ n ≤ 9223372036854775807) (hf : f.length ≤ 1172812402961) (hl : l.length ≤ 1353245080339) : Lim (.mk k n ⟨#[]⟩ [] f l) :=
  ⟨hk.1, hk.2, hn.1, hn.2, by show (0 : Nat) ≤ _; omega, by show (0 : Nat) ≤ _; omega, hf, hl, fun c hc => by cases hc⟩
theorem leaf_in (w : World) (Q : Nat → Prop) (k n : Int) (hk : -9223372036854775808 ≤ k ∧ k ≤ 9223372036854775807) (hn : -9223372036854775808 ≤ n ∧ n ≤ 9223372036854775807) (h : Nat) :
    VIn w Q (h + 1) (.mk k n ⟨#[]⟩ [] [] []) (.agg #[.int .i64 k, .int .i64 n, .string ⟨#[]⟩, .slice none 0 0, .slice none 0 0, .slice none 0 0]) :=
  ⟨none, none, none, 0, 0, 0, rfl, plain_lim k n [] [] hk hn (by simp) (by simp), ⟨Nat.le_refl _, by omega⟩, ⟨Nat.le_refl _, by omega⟩, ⟨Nat.le_refl _, by omega⟩, .inl rfl, .inl rfl, .inl rfl⟩
theorem doc_in {w : World} {Q : Nat → Prop} {h g : Nat} {nm : ByteArray} {x : Val} {c0 c1 c2 c3 c4 c5 : Value} {t : TypeId} (hr : w.heap[g]? = some (.cells #[.string nm, c0, c1, c2, c3, c4, c5] t (0, 0))) (hq : Q g) (hnm : nm.size ≤ 140737488355328) (hx : VIn w Q h x (.agg #[c0, c1, c2, c3, c4, c5])) :
    VIn w Q (h + 1) (.mk 6 0 ⟨#[]⟩ [] [(nm, x)] []) (.agg #[.int .i64 6, .int .i64 0, .string ⟨#[]⟩, .slice none 0 0, .slice (some ⟨g, 0, none⟩) 1 1, .slice none 0 0]) := by
  refine ⟨none, some ⟨g, 0, none⟩, none, 0, 1, 0, rfl, plain_lim 6 0 _ [] (by omega) (by omega) (by simp) (by simp), ⟨Nat.le_refl _, by omega⟩, ⟨Nat.le_refl _, by omega⟩, ⟨Nat.le_refl _, by omega⟩, .inl rfl, .inr ⟨g, 0, rfl, hq, fun i hi => ?_⟩, .inl rfl⟩
  obtain rfl : i = 0 := by simp [Val.f] at hi; omega
  refine ⟨(cell_of_row _ _ 0 _ _ _ hr).trans rfl, hnm, _, ⟨c0, c1, c2, c3, c4, c5, rfl, ?_, ?_, ?_, ?_, ?_, ?_⟩, hx⟩
  · exact (cell_of_row _ _ 1 _ _ _ hr).trans rfl
  · exact (cell_of_row _ _ 2 _ _ _ hr).trans rfl
  · exact (cell_of_row _ _ 3 _ _ _ hr).trans rfl
  · exact (cell_of_row _ _ 4 _ _ _ hr).trans rfl
  · exact (cell_of_row _ _ 5 _ _ _ hr).trans rfl
  · exact (cell_of_row _ _ 6 _ _ _ hr).trans rfl
theorem three_in {w : World} {Q : Nat → Prop} {h g : Nat} {x y z : Val} {a0 a1 a2 a3 a4 a5 b0 b1 b2 b3 b4 b5 c0 c1 c2 c3 c4 c5 : Value} {t : TypeId}
    (hr : w.heap[g]? = some (.cells #[a0, a1, a2, a3, a4, a5, b0, b1, b2, b3, b4, b5, c0, c1, c2, c3, c4, c5] t (0, 0))) (hq : Q g) (hx : VIn w Q h x (.agg #[a0, a1, a2, a3, a4, a5])) (hy : VIn w Q h y (.agg #[b0, b1, b2, b3, b4, b5])) (hz : VIn w Q h z (.agg #[c0, c1, c2, c3, c4, c5])) :
    VIn w Q (h + 1) (.mk 7 0 ⟨#[]⟩ [] [] [x, y, z]) (.agg #[.int .i64 7, .int .i64 0, .string ⟨#[]⟩, .slice none 0 0, .slice none 0 0, .slice (some ⟨g, 0, none⟩) 3 3]) := by
  have e : ∀ j c, (#[a0, a1, a2, a3, a4, a5, b0, b1, b2, b3, b4, b5, c0, c1, c2, c3, c4, c5] : Array Value)[j]? = some c → w.cell? ⟨g, j, none⟩ = some c := fun j c hc => (cell_of_row _ _ j _ _ _ hr).trans hc
  refine ⟨none, none, some ⟨g, 0, none⟩, 0, 0, 3, rfl, plain_lim 7 0 [] _ (by omega) (by omega) (by simp) (by simp), ⟨Nat.le_refl _, by omega⟩, ⟨Nat.le_refl _, by omega⟩, ⟨Nat.le_refl _, by omega⟩, .inl rfl, .inl rfl, .inr ⟨g, 0, rfl, hq, fun i hi => ?_⟩⟩
  match i, hi with
  | 0, _ => exact ⟨_, ⟨a0, a1, a2, a3, a4, a5, rfl, e _ _ rfl, e _ _ rfl, e _ _ rfl, e _ _ rfl, e _ _ rfl, e _ _ rfl⟩, hx⟩
  | 1, _ => exact ⟨_, ⟨b0, b1, b2, b3, b4, b5, rfl, e _ _ rfl, e _ _ rfl, e _ _ rfl, e _ _ rfl, e _ _ rfl, e _ _ rfl⟩, hy⟩
  | 2, _ => exact ⟨_, ⟨c0, c1, c2, c3, c4, c5, rfl, e _ _ rfl, e _ _ rfl, e _ _ rfl, e _ _ rfl, e _ _ rfl, e _ _ rfl⟩, hz⟩
end Go.Proofs.YtdihelpimpkfoaaDoor
end
section
namespace Go.Proofs.YtdihelpimpkfoaaDoor
open Go.RowKit
open Seal
open Bson (Val)
theorem grown_blw {w w' : World} (hb : Below w.heap.size w w') (gr : Nat) : w.grownBy w' (some gr) := ⟨hb.os, hb.tape, hb.output, hb.size, fun g hg _ => hb.block g hg⟩
theorem grown_puts {w w' : World} {G : Nat} (h : w.grownBy w' (some G)) (o : Nat) (vs : List Value) : w.grownBy (puts w' G o vs) (some G) := by
  have h1 : ∀ (vs : List Value) (w' : World) (o : Nat), (puts w' G o vs).os = w'.os ∧ (puts w' G o vs).tape = w'.tape ∧ (puts w' G o vs).output = w'.output := by
    intro vs
    induction vs with
    | nil => intro w' o; exact ⟨rfl, rfl, rfl⟩
    | cons v vs ih => intro w' o; exact ih _ (o + 1)
  obtain ⟨e1, e2, e3⟩ := h1 vs w' o
  exact ⟨e1.trans h.os, e2.trans h.tape, e3.trans h.output, by rw [puts_size]; exact h.size, fun g hg hne => (puts_other G g (fun e => hne (by rw [e])) vs w' o).trans (h.block g hg hne)⟩
set_option maxRecDepth 100000 in
/-- The function that asks for the name. -/
theorem cutNamed_any (w : World) (nb : Nat) (s nm : ByteArray) (c0 c1 c2 c3 c4 c5 : Value) (hc : w.cell? ⟨nb, 0, none⟩ = some (.string nm)) :
    Calls Tryd.prog 18 #[.agg #[.string s, c0, c1, c2, c3, c4, c5], .pointer (some ⟨nb, 0, none⟩)] w fun e w' => e = .returned (.bool (decide (s = nm))) ∧ Below w.heap.size w w' := by
  have hb : Below w.heap.size w (w.alloc (.cells #[.string s, c0, c1, c2, c3, c4, c5] 35)) := (Below.refl _ w).alloc (Nat.le_refl _) _
  have hc2 := cell_keep hb hc
  have HB := Lib.hid hb
  by_cases he : s = nm
  · subst he
    clear hb
    go_enter Tryd.func18, Tryd.ntmps18
    go_wp2_with fail
    go_ret
    exact ⟨by simp, HB.out⟩
  · have hne := toList_ne he
    have HE := Lib.hid he
    clear hb he
    go_enter Tryd.func18, Tryd.ntmps18
    go_wp2_with fail
    go_ret
    exact ⟨ret_eq (by rw [decide_eq_false HE.out]; rfl), HB.out⟩
set_option maxRecDepth 100000 in
set_option maxHeartbeats 1500000 in
theorem cutIndex_any (w : World) (G h nb : Nat) (a : Option Addr) (n c : Nat) (f : List (ByteArray × Val)) (nm : ByteArray) (hn : f.length = n) (hm : n ≤ 140737488355328) (hc : w.cell? ⟨nb, 0, none⟩ = some (.string nm)) (ha : f = [] ∨ a = some ⟨G, 0, none⟩) (hf : FldsTo w G h f) :
    Calls Tryd.prog 32 #[.slice a n c, .func (.func 18) #[] #[.pointer (some ⟨nb, 0, none⟩)]] w fun e w' => e = .returned (.int .i64 (placeI f nm)) ∧ Below w.heap.size w w' := by
  have HN := Lib.hid hn
  have HF := Lib.hid hf
  have HA := Lib.hid ha
  have HC := Lib.hid (fun (wr : World) (hb : Below w.heap.size w wr) s c0 c1 c2 c3 c4 c5 => cutNamed_any wr nb s nm c0 c1 c2 c3 c4 c5 (cell_keep hb hc))
  clear hn hf ha hc
  go_enter Tryd.func32, Tryd.ntmps32
  go_wp2_with fail
  go_loopw [8] (fun i wr => ∃ k : Nat, i = .int .i64 k ∧ k ≤ n ∧ Hid (k ≤ place f nm) ∧ Hid (Below w.heap.size w wr)) (fun i _ => n - (intOf i).toNat)
  case atStart => exact ⟨0, rfl, Nat.zero_le _, Nat.zero_le _, Below.refl _ _⟩
  case round =>
    obtain ⟨k, rfl, hk, hp, hB⟩ := hrel
    by_cases hlt : k < n
    · have hkf : k < f.length := by rw [HN.out]; exact hlt
      obtain rfl := HA.out.resolve_left (fun e => by rw [e] at hkf; cases hkf)
      obtain ⟨hnm, _, v', hsix, hV⟩ := (HF.out k hkf).keep hB.out
      obtain ⟨q1, q2, q3, a1, a2, a3, n1, c1, n2, c2, n3, c3, rfl⟩ := hV.shape
      obtain ⟨s0, s1, s2, s3, s4, s5⟩ := hsix.cells
      have CN := Lib.hid (HC.out wr hB.out f[k].1 (.int .i64 q1) (.int .i64 q2) (.string q3) (.slice a1 n1 c1) (.slice a2 n2 c2) (.slice a3 n3 c3))
      by_cases he : f[k].1 = nm
      · have hpl : Hid (placeI f nm = (k : Int)) := by
          show _ = _
          have h1 : place f nm = k := by
            have h2 : place f nm ≤ k := by
              unfold place
              refine Nat.le_of_not_lt fun h3 => ?_
              have := List.not_of_lt_findIdx h3
              simp [he] at this
            have := hp.out; omega
          unfold placeI
          rw [h1, if_pos hkf]
        have HD := Lib.hid (decide_eq_true he)
        clear hV hsix he
        generalize f[k].1 = s at *
        go_wp2_with fail
        rw [HD.out] at CN
        refine CN.out.mono ?_
        rintro e w2 ⟨rfl, hb2⟩
        have HB2 := Lib.hid (hB.out.trans (hb2.mono hB.out.size))
        clear hb2 CN
        go_wp2_with fail
        go_ret
        exact ⟨ret_eq (by rw [hpl.out]; rfl), HB2.out⟩
      · have hp' : Hid (k + 1 ≤ place f nm) := by
          show _ ≤ _
          have h1 : place f nm ≠ k := by
            intro h2
            have h3 : place f nm < f.length := by omega
            have := List.findIdx_getElem (w := h3)
            simp only [decide_eq_true_eq] at this
            apply he
            rw [← this]
            congr 2
            exact h2.symm
          have := hp.out; omega
        have HD := Lib.hid (decide_eq_false he)
        clear hV hsix he
        generalize f[k].1 = s at *
        go_wp2_with fail
        rw [HD.out] at CN
        refine CN.out.mono ?_
        rintro e w2 ⟨rfl, hb2⟩
        have HB2 := Lib.hid (hB.out.trans (hb2.mono hB.out.size))
        clear hb2 CN
        go_wp2_with fail
        go_roundw
        case rel => exact ⟨k + 1, by go_num, by omega, hp', HB2⟩
        case measure => simp [intOf]; omega
    · obtain rfl : n = k := by omega
      have hpl : Hid (placeI f nm = -1) := by
        show _ = _
        unfold placeI
        rw [if_neg (by have := hp.out; rw [HN.out]; omega)]
      go_wp2_with fail
      go_ret
      exact ⟨ret_eq (by rw [hpl.out]; rfl), hB.out⟩
end Go.Proofs.YtdihelpimpkfoaaDoor
end
section
namespace Go.Proofs.YtdihelpimpkfoaaDoor
open Go.RowKit
open Seal
open Bson (Val)
theorem same_keyS (s t : ByteArray) : (keyS t).sameKey (keyS s) = true ↔ s = t := by
  unfold keyS
  show (t.data.toList == s.data.toList) = true ↔ _
  rw [beq_iff_eq]
  constructor
  · intro h2
    exact ByteArray.ext (Array.ext' h2.symm)
  · rintro rfl; rfl
theorem keys_any (l : List ByteArray) (s : ByteArray) : (l.map keyS).any (fun y => y.sameKey (keyS s)) = true ↔ s ∈ l := by
  rw [List.any_eq_true]
  constructor
  · rintro ⟨x, h1, h2⟩
    obtain ⟨t, h3, rfl⟩ := List.mem_map.1 h1
    rw [(same_keyS s t).1 h2]; exact h3
  · intro h
    exact ⟨keyS s, List.mem_map.2 ⟨s, h, rfl⟩, (same_keyS s s).2 rfl⟩
theorem keys_lit (l : List ByteArray) : ∀ x ∈ l.map keyS, WideAt.IsKeyLit x := by
  intro x hx
  obtain ⟨s, _, rfl⟩ := List.mem_map.1 hx
  trivial
theorem keys_fold : ∀ (l p : List ByteArray), (p ++ l).Nodup → (l.map keyS).foldl Maps.addKey (p.map keyS) = (p ++ l).map keyS
  | [], p, _ => by simp
  | s :: r, p, h => by
    rw [List.map_cons, List.foldl_cons]
    have hs : s ∉ p := by
      rw [List.nodup_append] at h
      exact fun hm => h.2.2 s hm s List.mem_cons_self rfl
    have e : Maps.addKey (p.map keyS) (keyS s) = (p ++ [s]).map keyS := by
      unfold Maps.addKey
      rw [if_neg (fun hh => hs ((keys_any p s).1 hh))]
      simp
    rw [e, keys_fold r (p ++ [s]) (by simpa using h)]
    simp
/-- How many names the set has. -/
theorem setNms_size (f : List (ByteArray × Val)) (k : Nat) (hk : k ≤ f.length) (hd : (f.map (·.1)).Nodup) : Maps.size (setNms f k) = k := by
  have e : (f.take k).map (fun p => keyS p.1) = ((f.take k).map (·.1)).map keyS := by rw [List.map_map]; rfl
  unfold setNms
  rw [e, Maps.size_setOf _ _ (keys_lit _)]
  have h := keys_fold ((f.take k).map (·.1)) [] (by
    rw [List.nil_append, List.map_take]; exact hd.sublist (List.take_sublist _ _))
  rw [List.map_nil, List.nil_append] at h
  rw [h]
  simp
  omega
theorem setNms_next (f : List (ByteArray × Val)) (k : Nat) (hk : k < f.length) : setNms f (k + 1) = (setNms f k).put (keyS f[k].1) (.agg []) := by
  unfold setNms
  rw [List.take_succ_eq_append_getElem hk, List.map_append]
  exact Maps.setOf_snoc _ _ _
theorem setNms_has (f : List (ByteArray × Val)) (s : ByteArray) : Maps.has (setNms f f.length) (keyS s) = hasName f s := by
  have e : (f.take f.length).map (fun p => keyS p.1) = (f.map (·.1)).map keyS := by rw [List.take_length, List.map_map]; rfl
  unfold setNms
  rw [e, Maps.has_setOf _ _ _ (keys_lit _)]
  unfold hasName
  rw [Bool.eq_iff_iff, keys_any, List.any_eq_true, List.mem_map]
  constructor
  · rintro ⟨p, h1, h2⟩; exact ⟨p, h1, decide_eq_true h2⟩
  · rintro ⟨p, h1, h2⟩; exact ⟨p, h1, of_decide_eq_true h2⟩
theorem setNms_zero (f : List (ByteArray × Val)) : setNms f 0 = .map [] := rfl
section
variable {w w1 w' : World} {gn bm g o : Nat} {v : Value} {f : List (ByteArray × Val)}
theorem cell_block (h : w.cell? ⟨g, o, none⟩ = some v) : ∃ cs t fr, w.heap[g]? = some (.cells cs t fr) := by
  unfold World.cell? at h
  cases hb : w.heap[g]? with
  | none => rw [hb] at h; cases h
  | some b =>
    cases b with
    | cells cs t fr => exact ⟨cs, t, fr, rfl⟩
    | _ => rw [hb] at h; cases h
theorem HMove.cell (h : HMove gn w w') (hc : w.cell? ⟨g, o, none⟩ = some v) (hne : g ≠ gn) : w'.cell? ⟨g, o, none⟩ = some v := by
  obtain ⟨cs, t, fr, hb⟩ := cell_block hc
  exact (World.cell?_of_block (a := ⟨g, o, none⟩) (h.2.2.2.2.1 g cs t fr hne hb)).trans hc
theorem HMove.refl (gn : Nat) (w : World) : HMove gn w w := ⟨rfl, rfl, rfl, Nat.le_refl _, fun _ _ _ _ _ _ => rfl, fun _ _ => rfl⟩
theorem HMove.trans (h : HMove gn w w1) (h2 : HMove gn w1 w') : HMove gn w w' :=
  ⟨h2.1.trans h.1, h2.2.1.trans h.2.1, h2.2.2.1.trans h.2.2.1, Nat.le_trans h.2.2.2.1 h2.2.2.2.1, fun g cs t fr hne hb => (h2.2.2.2.2.1 g cs t fr hne ((h.2.2.2.2.1 g cs t fr hne hb).trans hb)).trans (h.2.2.2.2.1 g cs t fr hne hb), fun g hg => (h2.2.2.2.2.2 g hg).trans (h.2.2.2.2.2 g hg)⟩
/-- What a map's update writes is the map. -/
theorem HMove.of_map (hg : w.grownBy w' (some bm)) (hm : ∀ cs t fr, w.heap[bm]? ≠ some (.cells cs t fr)) (hlt : gn < bm) (hgl : gn < w.heap.size) : HMove gn w w' :=
  ⟨hg.os, hg.tape, hg.output, hg.size, fun g cs t fr _ hb => hg.block g (Array.getElem?_eq_some_iff.1 hb).1 (fun e => hm cs t fr (by rw [← Option.some.inj e]; exact hb)), fun g hgg => hg.block g (by omega) (fun e => by have := Option.some.inj e; omega)⟩
theorem HMove.set (u : Value) : HMove gn w (w.setCell ⟨gn, 0, none⟩ u) :=
  ⟨rfl, rfl, rfl, by simp, fun g cs t fr hne _ => Below.heap_setCell w ⟨gn, 0, none⟩ u g hne, fun g hgg => Below.heap_setCell w ⟨gn, 0, none⟩ u g (by show g ≠ gn; omega)⟩
theorem no_cells {k : Nat} {D : DataW Unit} (h : w.ownsMap Tryd.prog 9 (unitElem (H := Unit)) bm k D) : ∀ cs t fr, w.heap[bm]? ≠ some (.cells cs t fr) := by
  obtain ⟨es, clock, hb, _⟩ := h
  intro cs t fr h2
  rw [hb] at h2
  cases h2
end
theorem set_map {w : World} {gn : Nat} {u0 u : Value} {t : TypeId} (h : w.heap[gn]? = some (.cells #[u0] t (0, 0))) : (w.setCell ⟨gn, 0, none⟩ u).heap[gn]? = some (.cells #[u] t (0, 0)) := by
  rw [heap_setCell_same w gn 0 _ t u h]; rfl
theorem key_str (s : ByteArray) (hs : s.size ≤ maxLen) : keyOf Tryd.prog 9 (.string s) = some (keyS s) := by
  rw [keyOf_string Tryd.underlying9]
  unfold mapKey
  rw [Tryd.underlying9]
  exact if_pos hs
/-- The set stands, with the names of the first k fields, its box too. -/
def HoldAt (w : World) (gn bm k m : Nat) (f : List (ByteArray × Val)) : Prop := w.heap[gn]? = some (.cells #[.map (some bm)] 84 (0, 0)) ∧ gn < bm ∧ w.ownsMap Tryd.prog 9 (unitElem (H := Unit)) bm m (setNms f k)
theorem HoldAt.cell {w : World} {gn bm k m : Nat} {f : List (ByteArray × Val)} (h : HoldAt w gn bm k m f) : w.cell? ⟨gn, 0, none⟩ = some (.map (some bm)) := cell_of_row w gn 0 _ _ _ h.1
theorem HoldAt.gl {w : World} {gn bm k m : Nat} {f : List (ByteArray × Val)} (h : HoldAt w gn bm k m f) : gn < w.heap.size := (Array.getElem?_eq_some_iff.1 h.1).1
theorem HoldAt.keep {w w' : World} {gn bm k m : Nat} {f : List (ByteArray × Val)} (h : HoldAt w gn bm k m f) (hb : Below w.heap.size w w') : HoldAt w' gn bm k m f :=
  ⟨(hb.block gn h.gl).trans h.1, h.2.1, h.2.2.kept (row := none) ⟨hb.os, hb.tape, hb.output, hb.size, fun j hj _ => hb.block j hj⟩ nofun⟩
set_option maxRecDepth 100000 in
set_option maxHeartbeats 4000000 in
theorem hold_many (Q : Nat → Prop) (h : Nat) (w : World) (gn : Nat) (a : Option Addr) (n c : Nat) (f : List (ByteArray × Val)) (s : ByteArray) (hn : f.length = n) (hm : 16 < n) (hmx : n ≤ 140737488355328) (hnc : n ≤ c) (hc2 : c ≤ 9223372036854775807) (hss : s.size ≤ 140737488355328)
    (hF : FieldsIn w Q (VIn w Q h) a f) (hd : (f.map (·.1)).Nodup) (hN : Nms w gn f) :
    Calls Tryd.prog 39 #[.pointer (some ⟨gn, 0, none⟩), .slice a n c, .string s] w fun e w' => e = .returned (.bool (hasName f s)) ∧ HMove gn w w' ∧ Nms w' gn f := by
  have HN := Lib.hid hn
  have HD := Lib.hid hd
  have hgl := hN.lt
  obtain ⟨g, o, rfl, -, hall⟩ := hF.resolve_left (fun e => by rw [e] at hn; simp at hn; omega)
  have HALL : Hid (∀ (i : Nat) (hi : i < f.length), w.cell? ⟨g, o + i * 7, none⟩ = some (.string f[i].1) ∧ f[i].1.size ≤ 140737488355328 ∧ ∃ (q1 q2 : Int) (q3 : ByteArray) (a1 : Option Addr) (n1 c1 : Nat) (a2 : Option Addr) (n2 c2 : Nat) (a3 : Option Addr) (n3 c3 : Nat), SixAt w g (o + i * 7 + 1) (.agg #[.int .i64 q1, .int .i64 q2, .string q3, .slice a1 n1 c1, .slice a2 n2 c2, .slice a3 n3 c3])) := fun i hi => ⟨(hall i hi).1, (hall i hi).2.1, by
    obtain ⟨v, h1, h2⟩ := (hall i hi).2.2
    obtain ⟨q1, q2, q3, a1, n1, c1, a2, n2, c2, a3, n3, c3, rfl⟩ := VIn.form h2
    exact ⟨q1, q2, q3, a1, n1, c1, a2, n2, c2, a3, n3, c3, h1⟩⟩
  have HG : Hid (g ≠ gn) := by
    intro e
    have h1 := (hall 0 (by omega)).1
    rw [Nat.zero_mul, Nat.add_zero, e] at h1
    rcases hN with h2 | ⟨bm, k, h2, _⟩
    all_goals
      unfold World.cell? at h1
      rw [h2] at h1
      cases o with
      | zero => simp at h1
      | succ o => simp at h1
  have hem : ∀ (w : World) (r : Option Nat), (binOp .eql 82 (.map r) (.map none)).run Tryd.prog w = .ok (.bool r.isNone) w := fun w r => run_eql_map_nil w _ _ _ r Tryd.underlying82
  have hmm := @run_makeMap Tryd.prog
  obtain ⟨r, hr, hcase⟩ : ∃ r, w.heap[gn]? = some (.cells #[.map r] 84 (0, 0)) ∧ (r = none ∨ ∃ bm k, r = some bm ∧ k ≤ n ∧ HoldAt w gn bm k k f) := by
    rcases hN with h2 | ⟨bm, k, h2, h3, h4, h5⟩
    · exact ⟨none, h2, .inl rfl⟩
    · exact ⟨some bm, h2, .inr ⟨bm, k, rfl, by omega, h2, h3, h5⟩⟩
  have c0 := cell_of_row w gn 0 _ _ _ hr
  have HR := Lib.hid hr
  have HC := Lib.hid hcase
  have hmi : ¬ ((n : Int) ≤ 16) := by omega
  clear hall hF hd hn hr hcase hN
  go_enter Tryd.func39, Tryd.ntmps39
  go_upto_if 22 with fail
  go_cut [] from 22 to 26 (fun W => Hid (∃ bm k, k ≤ n ∧ HoldAt W gn bm k k f ∧ HMove gn w W))
  case first =>
    cases r with
    | none =>
      have HB : Hid (Below w.heap.size w (w.alloc (.map #[] 0))) := (Below.refl _ w).alloc (Nat.le_refl _) _
      have c1 := cell_keep HB.out c0
      have f1 : (w.alloc (.map #[] 0)).frozen? ⟨gn, 0, none⟩ = false := frozen_of_row _ gn 0 _ _ ((HB.out.block gn hgl).trans HR.out)
      have hss2 : (w.setCell ⟨gn, 0, none⟩ (.map (some w.heap.size))).heap.size = w.heap.size := by simp
      have HB2 : Hid (Below (w.setCell ⟨gn, 0, none⟩ (.map (some w.heap.size))).heap.size (w.setCell ⟨gn, 0, none⟩ (.map (some w.heap.size))) ((w.setCell ⟨gn, 0, none⟩ (.map (some w.heap.size))).alloc (.map #[] 0))) := (Below.refl _ _).alloc (Nat.le_refl _) _
      have HN2 : Hid (∃ bm k, k ≤ n ∧ HoldAt ((w.setCell ⟨gn, 0, none⟩ (.map (some w.heap.size))).alloc (.map #[] 0)) gn bm k k f ∧ HMove gn w ((w.setCell ⟨gn, 0, none⟩ (.map (some w.heap.size))).alloc (.map #[] 0))) := by
        refine ⟨w.heap.size, 0, Nat.zero_le _, ⟨?_, hgl, ?_⟩, (HMove.set _).trans (HMove.of_below HB2.out (by rw [hss2]; exact hgl))⟩
        · exact (HB2.out.block gn (by rw [hss2]; exact hgl)).trans (set_map HR.out)
        · have h1 := World.ownsMap_made (H := Unit) (w.setCell ⟨gn, 0, none⟩ (.map (some w.heap.size))) Tryd.prog 9 unitElem
          rw [hss2] at h1
          rw [setNms_zero]
          exact h1
      clear hss2 HB2
      go_wp2_with fail
      go_meet
      exact HN2
    | some bm =>
      have HN2 : Hid (∃ bm k, k ≤ n ∧ HoldAt w gn bm k k f ∧ HMove gn w w) := by
        rcases HC.out with e | ⟨bm2, k, e, hk, ha⟩
        · cases e
        · exact ⟨bm2, k, hk, ha, HMove.refl _ _⟩
      go_wp2_with fail
      go_meet
      exact HN2
  case rest =>
    obtain ⟨bm, k, hk, hO, hM⟩ := hcut.out
    have HO := Lib.hid hO
    have HM := Lib.hid hM
    have c1 := hO.cell
    have hsz := setNms_size f k (by have := HN.out; omega) HD.out
    have ZU : ∀ w, (zeroValue 97).run Tryd.prog w = .ok (.agg #[]) w := fun w => by kernel_rfl
    have KS : Maps.Keyed Tryd.prog 9 := Maps.string_keyed Tryd.underlying9
    have hlr := hO.2.2.len Tryd.underlying82 3
    rw [hsz] at hlr
    clear hcut hO hM c0 hmi HR HC
    by_cases hkn : k < n
    · have hck : ¬ c = k := by omega
      have hck2 : ¬ (c : Int) = (k : Int) := by omega
      have hck3 : ¬ c - k = 0 := by omega
      go_wp2_with fail
      go_loopw [35] (fun i wr => ∃ j : Nat, i = .int .i64 j ∧ k + j ≤ n ∧ Hid (HoldAt wr gn bm (k + j) (k + j) f) ∧ Hid (HMove gn w wr)) (fun i _ => n - k - (intOf i).toNat)
      case atStart => exact ⟨0, rfl, hk, HO, HM⟩
      case round =>
        obtain ⟨j, rfl, hj, HOJ, HMJ⟩ := hrel
        by_cases hlt : k + j < n
        · have hf : k + j < f.length := by rw [HN.out]; exact hlt
          obtain ⟨hnm, hnl, x1, x2, x3, a1, n1, c1x, a2, n2, c2, a3, n3, c3, hsix⟩ := HALL.out (k + j) hf
          obtain ⟨d0, d1, d2, d3, d4, d5, he6, s0, s1, s2, s3, s4, s5⟩ := hsix
          obtain ⟨rfl, rfl, rfl, rfl, rfl, rfl⟩ : d0 = .int .i64 x1 ∧ d1 = .int .i64 x2 ∧ d2 = .string x3 ∧ d3 = .slice a1 n1 c1x ∧ d4 = .slice a2 n2 c2 ∧ d5 = .slice a3 n3 c3 := by
            simp only [Value.agg.injEq, Array.mk.injEq, List.cons.injEq, and_true] at he6
            obtain ⟨e0, e1, e2, e3, e4, e5⟩ := he6
            exact ⟨e0.symm, e1.symm, e2.symm, e3.symm, e4.symm, e5.symm⟩
          clear he6
          have q0 := HMJ.out.cell hnm HG.out
          have q1 := HMJ.out.cell s0 HG.out
          have q2 := HMJ.out.cell s1 HG.out
          have q3 := HMJ.out.cell s2 HG.out
          have q4 := HMJ.out.cell s3 HG.out
          have q5 := HMJ.out.cell s4 HG.out
          have q6 := HMJ.out.cell s5 HG.out
          have eo : o + (k + j) * 7 = o + k * 7 + j * 7 := by omega
          rw [eo] at q0 q1 q2 q3 q4 q5 q6
          have HNX := Lib.hid (setNms_next f (k + j) hf)
          have hks := key_str f[k + j].1 (by unfold maxLen; omega)
          generalize f[k + j].1 = nm at *
          have hlj : j < n - k := by omega
          have hmx2 : k + j < maxLen := by unfold maxLen; omega
          clear s0 s1 s2 s3 s4 s5 hnm
          go_upto_region 8 with fail
          have HBX : Hid (Below wr.heap.size wr (wr.alloc (.cells #[.string nm, .int .i64 x1, .int .i64 x2, .string x3, .slice a1 n1 c1x, .slice a2 n2 c2, .slice a3 n3 c3] 35))) := (Below.refl _ wr).alloc (Nat.le_refl _) _
          have HOB := Lib.hid (HOJ.out.keep HBX.out)
          have cm := HOB.out.cell
          have cb : (wr.alloc (.cells #[.string nm, .int .i64 x1, .int .i64 x2, .string x3, .slice a1 n1 c1x, .slice a2 n2 c2, .slice a3 n3 c3] 35)).cell? ⟨wr.heap.size, 0, none⟩ = some (.string nm) := (cell_of_row _ _ 0 _ _ _ (heap_alloc_new wr _)).trans rfl
          have HMB := Lib.hid (HMJ.out.trans (HMove.of_below HBX.out HOJ.out.gl))
          generalize (wr.alloc (.cells #[.string nm, .int .i64 x1, .int .i64 x2, .string x3, .slice a1 n1 c1x, .slice a2 n2 c2, .slice a3 n3 c3] 35)) = W2 at *
          refine wp_region_still_tail 7 (by kernel_rfl) (by kernel_rfl) ?_
          simp only [List.take_succ_cons, List.take_zero, List.drop_succ_cons, List.drop_zero]
          iterate 7 still_step
          refine wpStill_nil ?_
          change wpList _ _ _ _ _ W2.drew
          have HOD : Hid (HoldAt W2.drew gn bm (k + j) (k + j) f) := HOB.out
          have HMD : Hid (HMove gn w W2.drew) := HMB.out
          refine wpList_mapUpdate_own _ rfl _ _ _ 82 rfl 9 97 KS Tryd.underlying82 (unitElem (H := Unit)) bm (k + j) _ rfl HOD.out.2.2 hmx2 _ _ _ rfl rfl hks _ [] unitElem_mk ?_
          intro w1 hown1 hgrow1
          have HO2 : Hid (HoldAt w1 gn bm (k + (j + 1)) (k + (j + 1)) f) := by
            refine ⟨(hgrow1.block gn HOD.out.gl (fun e => by have := Option.some.inj e; have := HOD.out.2.1; omega)).trans HOD.out.1, HOD.out.2.1, ?_⟩
            rw [show k + (j + 1) = k + j + 1 by omega, HNX.out]
            exact hown1
          have HM2 : Hid (HMove gn w w1) := HMD.out.trans (HMove.of_map hgrow1 (no_cells HOD.out.2.2) HOD.out.2.1 HOD.out.gl)
          clear hown1 hgrow1 HNX
          go_wp2_with fail
          go_roundw
          case rel => exact ⟨j + 1, by go_num, by omega, HO2, HM2⟩
          case measure => simp [intOf]; omega
        · obtain rfl : j = n - k := by omega
          have HOE : Hid (HoldAt wr gn bm n n f) := by have h1 := HOJ.out; rw [show k + (n - k) = n by omega] at h1; exact h1
          have hme := HMJ.out
          have hce := HOE.out.cell
          have hks := key_str s (by unfold maxLen; omega)
          have hhas : Maps.has (setNms f n) (keyS s) = hasName f s := by have h1 := setNms_has f s; rw [HN.out] at h1; exact h1
          obtain ⟨hb, hhb⟩ : ∃ b, b = hasName f s := ⟨_, rfl⟩
          rw [← hhb] at hhas
          have HHB := Lib.hid hhb
          clear hhb
          have HME := Lib.hid hme
          clear hme
          go_wp2_with (at_lookup; refine wpList_lookup_own_unit _ rfl _ _ 82 rfl 9 97 KS Tryd.underlying82 (ZU _) bm n _ rfl HOE.out.2.2 _ _ rfl hks ?_; rw [hhas])
          go_ret
          have hBE := (Below.refl wr.heap.size wr).alloc (Nat.le_refl _) (.cells #[] 97)
          exact ⟨ret_eq (by rw [← HHB.out]; rfl), HME.out.trans (HMove.of_below hBE HOE.out.gl), .inr ⟨bm, n, (HOE.out.keep hBE).1, HOE.out.2.1, by rw [HN.out]; exact Nat.le_refl _, (HOE.out.keep hBE).2.2⟩⟩
    
    · obtain rfl : k = n := by omega
      go_wp2_with fail
      all_goals
        go_loopw [35] (fun i wr => i = .int .i64 0 ∧ Hid (HoldAt wr gn bm k k f) ∧ Hid (HMove gn w wr)) (fun _ _ => 0)
        case atStart => exact ⟨rfl, HO, HM⟩
        case round =>
          obtain ⟨rfl, HOE, HMJ⟩ := hrel
          have hme := HMJ.out
          have hce := HOE.out.cell
          have hks := key_str s (by unfold maxLen; omega)
          have hhas : Maps.has (setNms f k) (keyS s) = hasName f s := by have h1 := setNms_has f s; rw [HN.out] at h1; exact h1
          obtain ⟨hb, hhb⟩ : ∃ b, b = hasName f s := ⟨_, rfl⟩
          rw [← hhb] at hhas
          have HHB := Lib.hid hhb
          clear hhb
          have HME := Lib.hid hme
          clear hme
          go_wp2_with (at_lookup; refine wpList_lookup_own_unit _ rfl _ _ 82 rfl 9 97 KS Tryd.underlying82 (ZU _) bm k _ rfl HOE.out.2.2 _ _ rfl hks ?_; rw [hhas])
          go_ret
          have hBE := (Below.refl wr.heap.size wr).alloc (Nat.le_refl _) (.cells #[] 97)
          exact ⟨ret_eq (by rw [← HHB.out]; rfl), HME.out.trans (HMove.of_below hBE HOE.out.gl), .inr ⟨bm, k, (HOE.out.keep hBE).1, HOE.out.2.1, by rw [HN.out]; exact Nat.le_refl _, (HOE.out.keep hBE).2.2⟩⟩
    
end Go.Proofs.YtdihelpimpkfoaaDoor
end
