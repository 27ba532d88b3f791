/- SixIs, ValByt, Boxed2, Boxes, PathCopyF, ValBuild, PathEachF. -/
import Derived.WalkSpells
import Derived.Test.YtdcfddiicclpeaaDoorMg4
import Derived.Test.YtdcfddiicclpeaaDoorMg5
set_option maxRecDepth 100000
section
namespace Go.Proofs.YtdcfddiicclpeaaDoor
open Go.RowKit
open Seal
def SixIs (W : World) (n : Nat) (c0 c1 c2 c3 c4 c5 : Value) : Prop := W.cell? ⟨n, 0, none⟩ = some c0 ∧ W.cell? ⟨n, 1, none⟩ = some c1 ∧ W.cell? ⟨n, 2, none⟩ = some c2 ∧ W.cell? ⟨n, 3, none⟩ = some c3 ∧ W.cell? ⟨n, 4, none⟩ = some c4 ∧ W.cell? ⟨n, 5, none⟩ = some c5
theorem SixIs.keep {W W' : World} {n : Nat} {c0 c1 c2 c3 c4 c5 : Value} (h : SixIs W n c0 c1 c2 c3 c4 c5) (hb : Below W.heap.size W W') : SixIs W' n c0 c1 c2 c3 c4 c5 := by
  obtain ⟨h0, h1, h2, h3, h4, h5⟩ := h
  exact ⟨cell_keep hb h0, cell_keep hb h1, cell_keep hb h2, cell_keep hb h3, cell_keep hb h4, cell_keep hb h5⟩
theorem SixIs.new (w : World) (c0 c1 c2 c3 c4 c5 : Value) (t : TypeId) : SixIs (w.alloc (.cells #[c0, c1, c2, c3, c4, c5] t)) w.heap.size c0 c1 c2 c3 c4 c5 := by
  have e := heap_alloc_new w (.cells #[c0, c1, c2, c3, c4, c5] t)
  exact ⟨(cell_of_row _ _ 0 _ _ _ e).trans rfl, (cell_of_row _ _ 1 _ _ _ e).trans rfl, (cell_of_row _ _ 2 _ _ _ e).trans rfl, (cell_of_row _ _ 3 _ _ _ e).trans rfl, (cell_of_row _ _ 4 _ _ _ e).trans rfl, (cell_of_row _ _ 5 _ _ _ e).trans rfl⟩
end Go.Proofs.YtdcfddiicclpeaaDoor
end
section
namespace Go.Proofs.YtdcfddiicclpeaaDoor
open Go.RowKit
open Seal
open Bson (Val)
theorem VIn.byt {w : World} {Q : Nat → Prop} {h : Nat} {x : Val} {k n : Int} {s : ByteArray} {ba fa la : Option Addr} {bn bc fn fc ln lc : Nat} (hv : VIn w Q (h + 1) x (.agg #[.int .i64 k, .int .i64 n, .string s, .slice ba bn bc, .slice fa fn fc, .slice la ln lc])) : Oct x.b ∧ SliceIs w ba x.b := by
  obtain ⟨ba', fa', la', bc', fc', lc', e, hL, _, _, _, hB, _⟩ := hv
  unfold agg at e
  injection e with e; injection e with e; injection e with _ e; injection e with _ e; injection e with _ e; injection e with e3 _
  injection e3 with e3 _ _
  subst e3
  refine ⟨hL.o, ?_⟩
  rcases hB with h | ⟨g, o, e, _, h⟩
  · exact .inl h
  · exact .inr ⟨g, o, e, h⟩
end Go.Proofs.YtdcfddiicclpeaaDoor
end
section
namespace Go.Proofs.YtdcfddiicclpeaaDoor
open Go.RowKit
open Seal
open Bson (Val)
/-- Two boxes were laid behind w, and since then nothing has turned of them or of what is older. -/
def Boxed2 (w : World) (ca cb : Array Value) (t : TypeId) (wr : World) : Prop := Below (w.heap.size + 2) ((w.alloc (.cells ca t)).alloc (.cells cb t)) wr
section
variable {w wr w' : World} {ca cb : Array Value} {t : TypeId}
theorem Boxed2.refl (w : World) (ca cb : Array Value) (t : TypeId) : Boxed2 w ca cb t ((w.alloc (.cells ca t)).alloc (.cells cb t)) := Below.refl _ _
theorem Boxed2.one (h : Boxed2 w ca cb t wr) (j : Nat) : wr.cell? ⟨w.heap.size, j, none⟩ = ca[j]? := by
  refine (Below.cell h (p := ⟨w.heap.size, j, none⟩) (by show w.heap.size < _; omega)).trans ?_
  refine (cell_of_row _ _ j ca t (0, 0) ?_)
  rw [Below.heap_alloc _ _ _ (by simp)]
  exact heap_alloc_new w _
theorem Boxed2.two (h : Boxed2 w ca cb t wr) (j : Nat) : wr.cell? ⟨w.heap.size + 1, j, none⟩ = cb[j]? := by
  refine (Below.cell h (p := ⟨w.heap.size + 1, j, none⟩) (by show w.heap.size + 1 < _; omega)).trans ?_
  refine (cell_of_row _ _ j cb t (0, 0) ?_)
  have := heap_alloc_new (w.alloc (.cells ca t)) (.cells cb t)
  simpa using this
theorem Boxed2.size (h : Boxed2 w ca cb t wr) : w.heap.size + 2 ≤ wr.heap.size := by have := Below.size h; simpa using this
theorem Boxed2.below (h : Boxed2 w ca cb t wr) : Below w.heap.size w wr := (((Below.refl _ w).alloc (Nat.le_refl _) _).alloc (by simp) _).trans (Below.mono h (by simp))
theorem Boxed2.step (h : Boxed2 w ca cb t wr) (hb : Below wr.heap.size wr w') : Boxed2 w ca cb t w' := Below.trans h (hb.mono h.size)
end
end Go.Proofs.YtdcfddiicclpeaaDoor
end
section
namespace Go.Proofs.YtdcfddiicclpeaaDoor
open Go.RowKit
open Seal
open Bson (Val)
def IsBox (W : World) (n : Nat) (c0 c1 c2 c3 c4 c5 : Value) : Prop := W.heap[n]? = some (.cells #[c0, c1, c2, c3, c4, c5] 26 (0, 0))
section
variable {W W' : World} {n : Nat} {c0 c1 c2 c3 c4 c5 : Value}
theorem IsBox.lt (h : IsBox W n c0 c1 c2 c3 c4 c5) : n < W.heap.size := (Array.getElem?_eq_some_iff.1 h).1
theorem IsBox.cells (h : IsBox W n c0 c1 c2 c3 c4 c5) : W.cell? ⟨n, 0, none⟩ = some c0 ∧ W.cell? ⟨n, 1, none⟩ = some c1 ∧ W.cell? ⟨n, 2, none⟩ = some c2 ∧ W.cell? ⟨n, 3, none⟩ = some c3 ∧ W.cell? ⟨n, 4, none⟩ = some c4 ∧ W.cell? ⟨n, 5, none⟩ = some c5 :=
  ⟨(cell_of_row W _ 0 _ _ _ h).trans rfl, (cell_of_row W _ 1 _ _ _ h).trans rfl, (cell_of_row W _ 2 _ _ _ h).trans rfl, (cell_of_row W _ 3 _ _ _ h).trans rfl, (cell_of_row W _ 4 _ _ _ h).trans rfl, (cell_of_row W _ 5 _ _ _ h).trans rfl⟩
theorem IsBox.thaw (h : IsBox W n c0 c1 c2 c3 c4 c5) : W.frozen? ⟨n, 0, none⟩ = false ∧ W.frozen? ⟨n, 1, none⟩ = false ∧ W.frozen? ⟨n, 2, none⟩ = false ∧ W.frozen? ⟨n, 3, none⟩ = false ∧ W.frozen? ⟨n, 4, none⟩ = false ∧ W.frozen? ⟨n, 5, none⟩ = false :=
  ⟨frozen_of_row W _ 0 _ _ h, frozen_of_row W _ 1 _ _ h, frozen_of_row W _ 2 _ _ h, frozen_of_row W _ 3 _ _ h, frozen_of_row W _ 4 _ _ h, frozen_of_row W _ 5 _ _ h⟩
theorem IsBox.keep (h : IsBox W n c0 c1 c2 c3 c4 c5) (hb : Below W.heap.size W W') : IsBox W' n c0 c1 c2 c3 c4 c5 := (hb.block _ h.lt).trans h
theorem IsBox.new (w : World) (c0 c1 c2 c3 c4 c5 : Value) : IsBox (w.alloc (.cells #[c0, c1, c2, c3, c4, c5] 26)) w.heap.size c0 c1 c2 c3 c4 c5 := heap_alloc_new w _
theorem IsBox.new2 (w : World) (o : Obj) (c0 c1 c2 c3 c4 c5 : Value) : IsBox ((w.alloc o).alloc (.cells #[c0, c1, c2, c3, c4, c5] 26)) (w.heap.size + 1) c0 c1 c2 c3 c4 c5 := by
  have := IsBox.new (w.alloc o) c0 c1 c2 c3 c4 c5
  simpa using this
theorem IsBox.other (h : IsBox W n c0 c1 c2 c3 c4 c5) {m : Nat} (hm : n ≠ m) (o : Nat) (vs : List Value) : IsBox (puts W m o vs) n c0 c1 c2 c3 c4 c5 := (puts_other m n hm vs W o).trans h
theorem IsBox.put (h : IsBox W n c0 c1 c2 c3 c4 c5) (d0 d1 d2 d3 d4 d5 : Value) : IsBox (puts W n 0 [d0, d1, d2, d3, d4, d5]) n d0 d1 d2 d3 d4 d5 := by
  obtain ⟨ds, h1, h2, _, _, h3⟩ := puts_same n 26 [d0, d1, d2, d3, d4, d5] W 0 _ h
  have e : ds = #[d0, d1, d2, d3, d4, d5] := by
    apply Array.ext_getElem?
    intro j
    by_cases hj : j < 6
    · have := h3 (by simp) j (by simpa using hj)
      rw [Nat.zero_add] at this
      rw [this]
      match j, hj with | 0, _ => rfl | 1, _ => rfl | 2, _ => rfl | 3, _ => rfl | 4, _ => rfl | 5, _ => rfl
    · rw [Array.getElem?_eq_none (by rw [h2]; simp; omega), Array.getElem?_eq_none (by simp; omega)]
  unfold IsBox
  rw [h1, e]
end
end Go.Proofs.YtdcfddiicclpeaaDoor
end
section
namespace Go.Proofs.YtdcfddiicclpeaaDoor
open Go.RowKit
open Seal
open Bson (Val)
def CopyPost (w : World) (h : Nat) (x : Val) (e : Ending) (w' : World) : Prop := ∃ v', e = .returned v' ∧ VIn w' (fun g => w.heap.size ≤ g) h x v' ∧ Below w.heap.size w w'
def CopyAt (Q : Nat → Prop) (h : Nat) : Prop := ∀ (x : Val) (v : Value) (w : World), VIn w Q h x v → Calls Tryd.prog 37 #[v] w (CopyPost w h x)
/-- Both boxes of copyField. -/
def BoxF (nm : ByteArray) (c0 c1 c2 c3 c4 c5 : Value) (w W : World) : Prop := W.heap[w.heap.size]? = some (.cells #[Value.string nm, c0, c1, c2, c3, c4, c5] 40 (0, 0)) ∧ W.heap[w.heap.size + 1]? = some (.cells #[Value.string ⟨#[]⟩, .int .i64 0, .int .i64 0, .string ⟨#[]⟩, .slice none 0 0, .slice none 0 0, .slice none 0 0] 40 (0, 0))
theorem BoxF.facts {nm : ByteArray} {c0 c1 c2 c3 c4 c5 : Value} {w W : World} (h : BoxF nm c0 c1 c2 c3 c4 c5 w W) : W.cell? ⟨w.heap.size, 0, none⟩ = some (.string nm) ∧ W.cell? ⟨w.heap.size, 1, none⟩ = some c0 ∧ W.cell? ⟨w.heap.size, 2, none⟩ = some c1 ∧ W.cell? ⟨w.heap.size, 3, none⟩ = some c2 ∧ W.cell? ⟨w.heap.size, 4, none⟩ = some c3 ∧ W.cell? ⟨w.heap.size, 5, none⟩ = some c4 ∧ W.cell? ⟨w.heap.size, 6, none⟩ = some c5 :=
  ⟨(cell_of_row W _ 0 _ _ _ h.1).trans rfl, (cell_of_row W _ 1 _ _ _ h.1).trans rfl, (cell_of_row W _ 2 _ _ _ h.1).trans rfl, (cell_of_row W _ 3 _ _ _ h.1).trans rfl, (cell_of_row W _ 4 _ _ _ h.1).trans rfl, (cell_of_row W _ 5 _ _ _ h.1).trans rfl, (cell_of_row W _ 6 _ _ _ h.1).trans rfl⟩
theorem BoxF.zeros {nm : ByteArray} {c0 c1 c2 c3 c4 c5 : Value} {w W : World} (h : BoxF nm c0 c1 c2 c3 c4 c5 w W) : W.cell? ⟨w.heap.size + 1, 0, none⟩ = some (.string { data := #[] }) ∧ W.cell? ⟨w.heap.size + 1, 1, none⟩ = some (.int .i64 0) ∧ W.cell? ⟨w.heap.size + 1, 2, none⟩ = some (.int .i64 0) ∧ W.cell? ⟨w.heap.size + 1, 3, none⟩ = some (.string { data := #[] }) ∧ W.cell? ⟨w.heap.size + 1, 4, none⟩ = some (.slice none 0 0) ∧ W.cell? ⟨w.heap.size + 1, 5, none⟩ = some (.slice none 0 0) ∧ W.cell? ⟨w.heap.size + 1, 6, none⟩ = some (.slice none 0 0) ∧ W.frozen? ⟨w.heap.size + 1, 0, none⟩ = false ∧ W.frozen? ⟨w.heap.size + 1, 1, none⟩ = false ∧ W.frozen? ⟨w.heap.size + 1, 2, none⟩ = false ∧ W.frozen? ⟨w.heap.size + 1, 3, none⟩ = false ∧ W.frozen? ⟨w.heap.size + 1, 4, none⟩ = false ∧ W.frozen? ⟨w.heap.size + 1, 5, none⟩ = false ∧ W.frozen? ⟨w.heap.size + 1, 6, none⟩ = false :=
  ⟨(cell_of_row W _ 0 _ _ _ h.2).trans rfl, (cell_of_row W _ 1 _ _ _ h.2).trans rfl, (cell_of_row W _ 2 _ _ _ h.2).trans rfl, (cell_of_row W _ 3 _ _ _ h.2).trans rfl, (cell_of_row W _ 4 _ _ _ h.2).trans rfl, (cell_of_row W _ 5 _ _ _ h.2).trans rfl, (cell_of_row W _ 6 _ _ _ h.2).trans rfl, frozen_of_row W _ 0 _ _ h.2, frozen_of_row W _ 1 _ _ h.2, frozen_of_row W _ 2 _ _ h.2, frozen_of_row W _ 3 _ _ h.2, frozen_of_row W _ 4 _ _ h.2, frozen_of_row W _ 5 _ _ h.2, frozen_of_row W _ 6 _ _ h.2⟩
theorem BoxF.after {nm : ByteArray} {c0 c1 c2 c3 c4 c5 : Value} {w W : World} (h : BoxF nm c0 c1 c2 c3 c4 c5 w W) (vs : List Value) : (W.setCells (w.heap.size + 1) 0 vs).cell? ⟨w.heap.size, 0, none⟩ = some (.string nm) ∧ (W.setCells (w.heap.size + 1) 0 vs).cell? ⟨w.heap.size, 1, none⟩ = some c0 ∧ (W.setCells (w.heap.size + 1) 0 vs).cell? ⟨w.heap.size, 2, none⟩ = some c1 ∧ (W.setCells (w.heap.size + 1) 0 vs).cell? ⟨w.heap.size, 3, none⟩ = some c2 ∧ (W.setCells (w.heap.size + 1) 0 vs).cell? ⟨w.heap.size, 4, none⟩ = some c3 ∧ (W.setCells (w.heap.size + 1) 0 vs).cell? ⟨w.heap.size, 5, none⟩ = some c4 ∧ (W.setCells (w.heap.size + 1) 0 vs).cell? ⟨w.heap.size, 6, none⟩ = some c5 := by
  have e : (W.setCells (w.heap.size + 1) 0 vs).heap[w.heap.size]? = _ := (puts_other (w.heap.size + 1) w.heap.size (by omega) vs W 0).trans h.1
  exact ⟨(cell_of_row _ _ 0 _ _ _ e).trans rfl, (cell_of_row _ _ 1 _ _ _ e).trans rfl, (cell_of_row _ _ 2 _ _ _ e).trans rfl, (cell_of_row _ _ 3 _ _ _ e).trans rfl, (cell_of_row _ _ 4 _ _ _ e).trans rfl, (cell_of_row _ _ 5 _ _ _ e).trans rfl, (cell_of_row _ _ 6 _ _ _ e).trans rfl⟩
theorem BoxF.row {nm : ByteArray} {c0 c1 c2 c3 c4 c5 : Value} {w W : World} (h : BoxF nm c0 c1 c2 c3 c4 c5 w W) : Row6 W (w.heap.size + 1) 40 7 := ⟨_, h.2, rfl⟩
theorem BoxF.new (nm : ByteArray) (c0 c1 c2 c3 c4 c5 : Value) (w : World) : BoxF nm c0 c1 c2 c3 c4 c5 w ((w.alloc (.cells #[Value.string nm, c0, c1, c2, c3, c4, c5] 40)).alloc (.cells #[Value.string ⟨#[]⟩, .int .i64 0, .int .i64 0, .string ⟨#[]⟩, .slice none 0 0, .slice none 0 0, .slice none 0 0] 40)) :=
  ⟨(Below.heap_alloc _ _ _ (by simp)).trans (heap_alloc_new w _), by have := heap_alloc_new (w.alloc (.cells #[Value.string nm, c0, c1, c2, c3, c4, c5] 40)) (.cells #[Value.string ⟨#[]⟩, .int .i64 0, .int .i64 0, .string ⟨#[]⟩, .slice none 0 0, .slice none 0 0, .slice none 0 0] 40); simpa using this⟩
theorem BoxF.keep {nm : ByteArray} {c0 c1 c2 c3 c4 c5 : Value} {w W W' : World} (h : BoxF nm c0 c1 c2 c3 c4 c5 w W) (hb : Below W.heap.size W W') : BoxF nm c0 c1 c2 c3 c4 c5 w W' :=
  ⟨(hb.block _ (Array.getElem?_eq_some_iff.1 h.1).1).trans h.1, (hb.block _ (Array.getElem?_eq_some_iff.1 h.2).1).trans h.2⟩
set_option maxRecDepth 100000 in
set_option maxHeartbeats 1000000 in
theorem copyfield_any (Q : Nat → Prop) (h : Nat) (IH0 : CopyAt Q h) (nm : ByteArray) (x : Val) (c0 c1 c2 c3 c4 c5 : Value) (w : World) (hv : VIn w Q h x (.agg #[c0, c1, c2, c3, c4, c5])) :
    Calls Tryd.prog 56 #[.agg #[.string nm, c0, c1, c2, c3, c4, c5]] w fun e w' => ∃ c0 c1 c2 c3 c4 c5, e = .returned (.agg #[.string nm, c0, c1, c2, c3, c4, c5]) ∧ VIn w' (fun g => w.heap.size ≤ g) h x (.agg #[c0, c1, c2, c3, c4, c5]) ∧ Below w.heap.size w w' := by
  have IH := Lib.hid IH0
  have HV := Lib.hid hv
  have HX := Lib.hid (BoxF.new nm c0 c1 c2 c3 c4 c5 w)
  clear hv IH0
  go_enter Tryd.func56, Tryd.ntmps56
  go_wp2_with fail
  generalize hW0 : (w.alloc (Obj.cells #[Value.string nm, c0, c1, c2, c3, c4, c5] 40)).alloc (Obj.cells #[Value.string { data := #[] }, Value.int IntKind.i64 0, Value.int IntKind.i64 0, Value.string { data := #[] }, Value.slice none 0 0, Value.slice none 0 0, Value.slice none 0 0] 40) = W0 at HX ⊢
  have HB0 : Hid (Below w.heap.size w W0) := by
    rw [← hW0]; exact ((Below.refl _ w).alloc (Nat.le_refl _) _).alloc (by simp) _
  have HS0 : Hid (w.heap.size + 2 ≤ W0.heap.size) := by rw [← hW0]; show _ ≤ _; simp
  clear hW0
  have HVW := Lib.hid (VIn.keep HB0.out HV.out)
  have hf := HX.out.facts
  go_region_held3 (fun W => W.cell? ⟨w.heap.size, 0, none⟩ = some (.string nm) ∧ W.cell? ⟨w.heap.size, 1, none⟩ = some c0 ∧ W.cell? ⟨w.heap.size, 2, none⟩ = some c1 ∧ W.cell? ⟨w.heap.size, 3, none⟩ = some c2 ∧ W.cell? ⟨w.heap.size, 4, none⟩ = some c3 ∧ W.cell? ⟨w.heap.size, 5, none⟩ = some c4 ∧ W.cell? ⟨w.heap.size, 6, none⟩ = some c5)
    (first | with_reducible exact hf | with_reducible exact hf2 | with_reducible exact hf3 | go_keep)
    ((go_at_call 37; refine (IH.out x _ W0.drew (VIn.keep ((Below.refl _ W0).drew) HVW.out)).mono ?_; rintro e w' ⟨v', rfl, hv', hb'⟩; obtain ⟨ka, na, sa, ba, fa, la, bl, bc, fl, fc, ll, lc, rfl⟩ := hv'.shape; have HV' := Lib.hid hv'; have HB' : Hid (Below W0.heap.size W0 w') := (Below.refl _ W0).drew.trans hb'; have HX' := Lib.hid (HX.out.keep HB'.out); have hf2 := HX'.out.facts; obtain ⟨g0, g1, g2, g3, g4, g5, g6, g7, g8, g9, g10, g11, g12, g13⟩ := HX'.out.zeros; have hf3 : (((((((w'.setCell ⟨w.heap.size + 1, 0, none⟩ (.string nm)).setCell ⟨w.heap.size + 1, 1, none⟩ (.int .i64 ka)).setCell ⟨w.heap.size + 1, 2, none⟩ (.int .i64 na)).setCell ⟨w.heap.size + 1, 3, none⟩ (.string sa)).setCell ⟨w.heap.size + 1, 4, none⟩ (.slice ba bl bc)).setCell ⟨w.heap.size + 1, 5, none⟩ (.slice fa fl fc)).setCell ⟨w.heap.size + 1, 6, none⟩ (.slice la ll lc)).cell? ⟨w.heap.size, 0, none⟩ = some (.string nm) ∧ (((((((w'.setCell ⟨w.heap.size + 1, 0, none⟩ (.string nm)).setCell ⟨w.heap.size + 1, 1, none⟩ (.int .i64 ka)).setCell ⟨w.heap.size + 1, 2, none⟩ (.int .i64 na)).setCell ⟨w.heap.size + 1, 3, none⟩ (.string sa)).setCell ⟨w.heap.size + 1, 4, none⟩ (.slice ba bl bc)).setCell ⟨w.heap.size + 1, 5, none⟩ (.slice fa fl fc)).setCell ⟨w.heap.size + 1, 6, none⟩ (.slice la ll lc)).cell? ⟨w.heap.size, 1, none⟩ = some c0 ∧ (((((((w'.setCell ⟨w.heap.size + 1, 0, none⟩ (.string nm)).setCell ⟨w.heap.size + 1, 1, none⟩ (.int .i64 ka)).setCell ⟨w.heap.size + 1, 2, none⟩ (.int .i64 na)).setCell ⟨w.heap.size + 1, 3, none⟩ (.string sa)).setCell ⟨w.heap.size + 1, 4, none⟩ (.slice ba bl bc)).setCell ⟨w.heap.size + 1, 5, none⟩ (.slice fa fl fc)).setCell ⟨w.heap.size + 1, 6, none⟩ (.slice la ll lc)).cell? ⟨w.heap.size, 2, none⟩ = some c1 ∧ (((((((w'.setCell ⟨w.heap.size + 1, 0, none⟩ (.string nm)).setCell ⟨w.heap.size + 1, 1, none⟩ (.int .i64 ka)).setCell ⟨w.heap.size + 1, 2, none⟩ (.int .i64 na)).setCell ⟨w.heap.size + 1, 3, none⟩ (.string sa)).setCell ⟨w.heap.size + 1, 4, none⟩ (.slice ba bl bc)).setCell ⟨w.heap.size + 1, 5, none⟩ (.slice fa fl fc)).setCell ⟨w.heap.size + 1, 6, none⟩ (.slice la ll lc)).cell? ⟨w.heap.size, 3, none⟩ = some c2 ∧ (((((((w'.setCell ⟨w.heap.size + 1, 0, none⟩ (.string nm)).setCell ⟨w.heap.size + 1, 1, none⟩ (.int .i64 ka)).setCell ⟨w.heap.size + 1, 2, none⟩ (.int .i64 na)).setCell ⟨w.heap.size + 1, 3, none⟩ (.string sa)).setCell ⟨w.heap.size + 1, 4, none⟩ (.slice ba bl bc)).setCell ⟨w.heap.size + 1, 5, none⟩ (.slice fa fl fc)).setCell ⟨w.heap.size + 1, 6, none⟩ (.slice la ll lc)).cell? ⟨w.heap.size, 4, none⟩ = some c3 ∧ (((((((w'.setCell ⟨w.heap.size + 1, 0, none⟩ (.string nm)).setCell ⟨w.heap.size + 1, 1, none⟩ (.int .i64 ka)).setCell ⟨w.heap.size + 1, 2, none⟩ (.int .i64 na)).setCell ⟨w.heap.size + 1, 3, none⟩ (.string sa)).setCell ⟨w.heap.size + 1, 4, none⟩ (.slice ba bl bc)).setCell ⟨w.heap.size + 1, 5, none⟩ (.slice fa fl fc)).setCell ⟨w.heap.size + 1, 6, none⟩ (.slice la ll lc)).cell? ⟨w.heap.size, 5, none⟩ = some c4 ∧ (((((((w'.setCell ⟨w.heap.size + 1, 0, none⟩ (.string nm)).setCell ⟨w.heap.size + 1, 1, none⟩ (.int .i64 ka)).setCell ⟨w.heap.size + 1, 2, none⟩ (.int .i64 na)).setCell ⟨w.heap.size + 1, 3, none⟩ (.string sa)).setCell ⟨w.heap.size + 1, 4, none⟩ (.slice ba bl bc)).setCell ⟨w.heap.size + 1, 5, none⟩ (.slice fa fl fc)).setCell ⟨w.heap.size + 1, 6, none⟩ (.slice la ll lc)).cell? ⟨w.heap.size, 6, none⟩ = some c5 := HX'.out.after [.string nm, .int .i64 ka, .int .i64 na, .string sa, .slice ba bl bc, .slice fa fl fc, .slice la ll lc]; clear hv' hb'))
  have HBw : Hid (Below w.heap.size w w') := HB0.out.trans (HB'.out.mono (by have := HS0.out; omega))
  have hk := puts_kept (fun g => W0.heap.size ≤ g) (w := w') (G := w.heap.size + 1) (by have := HS0.out; omega) 0 [.string nm, .int .i64 ka, .int .i64 na, .string sa, .slice ba bl bc, .slice fa fl fc, .slice la ll lc]
  have hb9 := puts_below HBw.out (G := w.heap.size + 1) (by omega) [.string nm, .int .i64 ka, .int .i64 na, .string sa, .slice ba bl bc, .slice fa fl fc, .slice la ll lc] 0
  have hv9 := HV'.out.kept hk (Q' := fun g => w.heap.size ≤ g) (fun g hg => by have := HS0.out; omega)
  clear hf2 hf3 hf
  go_wp2_with fail
  exact bodyPost_ret (v := .agg #[.string nm, .int .i64 ka, .int .i64 na, .string sa, .slice ba bl bc, .slice fa fl fc, .slice la ll lc]) (by simp [results, Tryd.results56, go_sem, g0, g1, g2, g3, g4, g5, g6]) rfl ⟨_, _, _, _, _, _, rfl, hv9, hb9⟩
end Go.Proofs.YtdcfddiicclpeaaDoor
end
section
namespace Go.Proofs.YtdcfddiicclpeaaDoor
open Go.RowKit
open Seal
open Bson (Val)
theorem plain_lim (k n : Int) (f : List (ByteArray × Val)) (l : List Val) (hk : -9223372036854775808 ≤ k ∧ k ≤ 9223372036854775807) (hn : -9223372036854775808 ≤ n ∧ n ≤ 9223372036854775807) (hf : f.length ≤ 1172812402961) (hl : l.length ≤ 1353245080339) : Lim (.mk k n ⟨#[]⟩ [] f l) :=
  ⟨hk.1, hk.2, hn.1, hn.2, by show (0 : Nat) ≤ _; omega, by show (0 : Nat) ≤ _; omega, hf, hl, fun c hc => by cases hc⟩
theorem leaf_in (w : World) (Q : Nat → Prop) (k n : Int) (hk : -9223372036854775808 ≤ k ∧ k ≤ 9223372036854775807) (hn : -9223372036854775808 ≤ n ∧ n ≤ 9223372036854775807) (h : Nat) :
    VIn w Q (h + 1) (.mk k n ⟨#[]⟩ [] [] []) (.agg #[.int .i64 k, .int .i64 n, .string ⟨#[]⟩, .slice none 0 0, .slice none 0 0, .slice none 0 0]) :=
  ⟨none, none, none, 0, 0, 0, rfl, plain_lim k n [] [] hk hn (by simp) (by simp), ⟨Nat.le_refl _, by omega⟩, ⟨Nat.le_refl _, by omega⟩, ⟨Nat.le_refl _, by omega⟩, .inl rfl, .inl rfl, .inl rfl⟩
theorem doc_in {w : World} {Q : Nat → Prop} {h g : Nat} {nm : ByteArray} {x : Val} {c0 c1 c2 c3 c4 c5 : Value} {t : TypeId} (hr : w.heap[g]? = some (.cells #[.string nm, c0, c1, c2, c3, c4, c5] t (0, 0))) (hq : Q g) (hnm : nm.size ≤ 140737488355328) (hx : VIn w Q h x (.agg #[c0, c1, c2, c3, c4, c5])) :
    VIn w Q (h + 1) (.mk 6 0 ⟨#[]⟩ [] [(nm, x)] []) (.agg #[.int .i64 6, .int .i64 0, .string ⟨#[]⟩, .slice none 0 0, .slice (some ⟨g, 0, none⟩) 1 1, .slice none 0 0]) := by
  refine ⟨none, some ⟨g, 0, none⟩, none, 0, 1, 0, rfl, plain_lim 6 0 _ [] (by omega) (by omega) (by simp) (by simp), ⟨Nat.le_refl _, by omega⟩, ⟨Nat.le_refl _, by omega⟩, ⟨Nat.le_refl _, by omega⟩, .inl rfl, .inr ⟨g, 0, rfl, hq, fun i hi => ?_⟩, .inl rfl⟩
  obtain rfl : i = 0 := by simp [Val.f] at hi; omega
  refine ⟨(cell_of_row _ _ 0 _ _ _ hr).trans rfl, hnm, _, ⟨c0, c1, c2, c3, c4, c5, rfl, ?_, ?_, ?_, ?_, ?_, ?_⟩, hx⟩
  · exact (cell_of_row _ _ 1 _ _ _ hr).trans rfl
  · exact (cell_of_row _ _ 2 _ _ _ hr).trans rfl
  · exact (cell_of_row _ _ 3 _ _ _ hr).trans rfl
  · exact (cell_of_row _ _ 4 _ _ _ hr).trans rfl
  · exact (cell_of_row _ _ 5 _ _ _ hr).trans rfl
  · exact (cell_of_row _ _ 6 _ _ _ hr).trans rfl
theorem three_in {w : World} {Q : Nat → Prop} {h g : Nat} {x y z : Val} {a0 a1 a2 a3 a4 a5 b0 b1 b2 b3 b4 b5 c0 c1 c2 c3 c4 c5 : Value} {t : TypeId}
    (hr : w.heap[g]? = some (.cells #[a0, a1, a2, a3, a4, a5, b0, b1, b2, b3, b4, b5, c0, c1, c2, c3, c4, c5] t (0, 0))) (hq : Q g) (hx : VIn w Q h x (.agg #[a0, a1, a2, a3, a4, a5])) (hy : VIn w Q h y (.agg #[b0, b1, b2, b3, b4, b5])) (hz : VIn w Q h z (.agg #[c0, c1, c2, c3, c4, c5])) :
    VIn w Q (h + 1) (.mk 7 0 ⟨#[]⟩ [] [] [x, y, z]) (.agg #[.int .i64 7, .int .i64 0, .string ⟨#[]⟩, .slice none 0 0, .slice none 0 0, .slice (some ⟨g, 0, none⟩) 3 3]) := by
  have e : ∀ j c, (#[a0, a1, a2, a3, a4, a5, b0, b1, b2, b3, b4, b5, c0, c1, c2, c3, c4, c5] : Array Value)[j]? = some c → w.cell? ⟨g, j, none⟩ = some c := fun j c hc => (cell_of_row _ _ j _ _ _ hr).trans hc
  refine ⟨none, none, some ⟨g, 0, none⟩, 0, 0, 3, rfl, plain_lim 7 0 [] _ (by omega) (by omega) (by simp) (by simp), ⟨Nat.le_refl _, by omega⟩, ⟨Nat.le_refl _, by omega⟩, ⟨Nat.le_refl _, by omega⟩, .inl rfl, .inl rfl, .inr ⟨g, 0, rfl, hq, fun i hi => ?_⟩⟩
  match i, hi with
  | 0, _ => exact ⟨_, ⟨a0, a1, a2, a3, a4, a5, rfl, e _ _ rfl, e _ _ rfl, e _ _ rfl, e _ _ rfl, e _ _ rfl, e _ _ rfl⟩, hx⟩
  | 1, _ => exact ⟨_, ⟨b0, b1, b2, b3, b4, b5, rfl, e _ _ rfl, e _ _ rfl, e _ _ rfl, e _ _ rfl, e _ _ rfl, e _ _ rfl⟩, hy⟩
  | 2, _ => exact ⟨_, ⟨c0, c1, c2, c3, c4, c5, rfl, e _ _ rfl, e _ _ rfl, e _ _ rfl, e _ _ rfl, e _ _ rfl, e _ _ rfl⟩, hz⟩
end Go.Proofs.YtdcfddiicclpeaaDoor
end
section
namespace Go.Proofs.YtdcfddiicclpeaaDoor
open Go.RowKit
open Seal
open Bson (Val)
theorem infoF7 : (Tryd.prog.info? 40).map (fun i => (i.zero, i.size, i.bytes)) = some (some (.agg #[.string ⟨#[]⟩, .int .i64 0, .int .i64 0, .string ⟨#[]⟩, .slice none 0 0, .slice none 0 0, .slice none 0 0]), 7, 120) := by kernel_rfl
theorem run_makeFlds (n : Nat) (hn : n ≤ 1172812402961) (u : World) : (Instr.makeSlice 23 (.int .i64 (n : Int)) (.int .i64 (n : Int))).run Tryd.prog u = .ok (.slice (some ⟨u.heap.size, 0, none⟩) n n) (u.alloc (.cells (madeCells #[.string ⟨#[]⟩, .int .i64 0, .int .i64 0, .string ⟨#[]⟩, .slice none 0 0, .slice none 0 0, .slice none 0 0] (n * 7)) 40)) := by
  obtain ⟨i0, hi, hz0, hz1, hz2⟩ := info_parts infoF7
  have h := run_make (P := Tryd.prog) u 23 40 i0 (.agg #[.string ⟨#[]⟩, .int .i64 0, .int .i64 0, .string ⟨#[]⟩, .slice none 0 0, .slice none 0 0, .slice none 0 0]) Tryd.underlying23 hi hz0 .i64 .i64 (n : Int) (n : Int) (by omega) (Int.le_refl _) (by rw [hz2]; omega) (by omega)
  rw [Int.toNat_natCast] at h
  simpa [hz1, Value.cells] using h
set_option maxRecDepth 100000 in
set_option maxHeartbeats 1000000 in
theorem eachF_any (Q : Nat → Prop) (h : Nat) (IH0 : CopyAt Q h) (a : Option Addr) (n c : Nat) (f : List (ByteArray × Val)) (w : World) (hn : f.length = n) (hnb : n ≤ 1172812402961) (hI : FieldsIn w Q (VIn w Q h) a f) :
    Calls Tryd.prog 55 #[.slice a n c, .func (.func 56) #[] #[]] w fun e w' => ∃ a' c', e = .returned (.slice a' n c') ∧ (n ≤ c' ∧ c' ≤ 9223372036854775807) ∧ FieldsIn w' (fun g => w.heap.size ≤ g) (VIn w' (fun g => w.heap.size ≤ g) h) a' f ∧ Below w.heap.size w w' := by
  have IH := Lib.hid (fun nm x c0 c1 c2 c3 c4 c5 w hv => copyfield_any Q h IH0 nm x c0 c1 c2 c3 c4 c5 w hv)
  have HI := Lib.hid hI
  have HN := Lib.hid hn
  have HNL : Hid (∀ i (hi : i < f.length), f[i].1.size ≤ 140737488355328) := by
    intro i hi
    rcases hI with h | ⟨g, o, _, _, h⟩
    · rw [h] at hi; simp at hi
    · exact (h i hi).2.1
  clear hI IH0 hn
  have hmk := run_makeFlds n hnb
  have he := fun u : World => Lib.run_eql_slice_nil (P := Tryd.prog) u 23 40 a n c 0 0 Tryd.underlying23
  cases a with
  | none =>
    have hnil : f = [] := by
      rcases HI.out with h | ⟨g, o, e, _⟩
      · exact h
      · cases e
    have hn0 : n = 0 := by rw [← HN.out, hnil]; rfl
    subst hn0
    have HNIL := Lib.hid hnil
    clear hnil
    go_enter Tryd.func55, Tryd.ntmps55
    go_wp2_with fail
    go_ret
    exact ⟨none, 0, rfl, ⟨Nat.le_refl _, by omega⟩, .inl HNIL.out, Below.refl _ _⟩
  | some p =>
    go_enter Tryd.func55, Tryd.ntmps55
    go_wp2_with fail
    go_loopw [15] (fun i wr => ∃ k : Nat, i = .int .i64 k ∧ k ≤ n ∧ Hid (Row6 wr w.heap.size 40 (n * 7)) ∧ Hid (Flds wr w.heap.size h f k) ∧ Hid (Below w.heap.size w wr)) (fun i _ => n - (intOf i).toNat)
    case atStart => exact ⟨0, rfl, Nat.zero_le _, ⟨_, heap_alloc_new w _, size_madeCells _ _⟩, Flds.none _ _ _ _, (Below.refl _ w).alloc (Nat.le_refl _) _⟩
    case round =>
      obtain ⟨k, rfl, hk, HR, HVS, HB⟩ := hrel
      by_cases hlt : k < n
      · obtain ⟨g, o, hla, _, hall⟩ := HI.out.resolve_left (fun e => by have := HN.out; rw [e] at this; simp at this; omega)
        obtain ⟨hnm, hns, v', hsix, hV⟩ := hall k (by have := HN.out; omega)
        obtain rfl := Option.some.inj hla
        obtain ⟨ka, na, sa, ba, fa, la, bl, bc, fl, fc, ll, lc, rfl⟩ := hV.shape
        have HV := Lib.hid (VIn.keep HB.out hV)
        obtain ⟨s0, s1, s2, s3, s4, s5⟩ := (hsix.keep HB.out).cells
        obtain ⟨nm, hnme⟩ : ∃ nm, nm = (f[k]'(by have := HN.out; omega)).1 := ⟨_, rfl⟩
        have HNM := Lib.hid hnme
        clear hnme
        have s6 : wr.cell? ⟨g, o + k * 7, none⟩ = some (.string nm) := by rw [HNM.out]; exact cell_keep HB.out hnm
        have HNS : Hid (nm.size ≤ 140737488355328) := by rw [HNM.out]; exact hns
        clear hall hsix hV hnm hns
        go_wp2_with fail
        have HVa := Lib.hid (VIn.keep ((Below.refl _ wr).alloc (Nat.le_refl _) (.cells #[.string nm, .int .i64 ka, .int .i64 na, .string sa, .slice ba bl bc, .slice fa fl fc, .slice la ll lc] 40)) HV.out)
        refine (IH.out nm _ _ _ _ _ _ _ _ HVa.out).mono ?_
        rintro e w2 ⟨e0, e1, e2, e3, e4, e5, rfl, hv2, hb2⟩
        obtain ⟨kd, nd, sd, bd, fd, ld, bm, bz, fm, fz, lm, lz, hsh⟩ := hv2.shape
        injection hsh with hsh
        injection hsh with hsh
        injection hsh with x0 hsh; injection hsh with x1 hsh; injection hsh with x2 hsh; injection hsh with x3 hsh; injection hsh with x4 hsh; injection hsh with x5 hsh
        subst x0 x1 x2 x3 x4 x5
        clear hsh
        have HB2 : Hid (Below wr.heap.size wr w2) := ((Below.refl _ wr).alloc (Nat.le_refl _) _).trans (hb2.mono (by simp))
        have HR2 := Lib.hid (HR.out.keep HB2.out)
        have HVS2 := Lib.hid (HVS.out.keep HB2.out)
        have HBw2 : Hid (Below w.heap.size w w2) := HB.out.trans (HB2.out.mono HB.out.size)
        have hGlt : w.heap.size < wr.heap.size := HR.out.lt
        have HV2 : Hid (VIn w2 (fun g => w.heap.size < g) h (f[k]'(by have := HN.out; omega)).2 (.agg #[.int .i64 kd, .int .i64 nd, .string sd, .slice bd bm bz, .slice fd fm fz, .slice ld lm lz])) := hv2.kept (Kept.of_below (Below.refl _ _)) (fun g hg => by simp at hg; omega)
        clear hv2 hb2
        obtain ⟨⟨z0, g0⟩, f0⟩ := HR2.out.at (j := k * 7) (by omega)
        obtain ⟨⟨z1, g1⟩, f1⟩ := HR2.out.at (j := k * 7 + 1) (by omega)
        obtain ⟨⟨z2, g2⟩, f2⟩ := HR2.out.at (j := k * 7 + 2) (by omega)
        obtain ⟨⟨z3, g3⟩, f3⟩ := HR2.out.at (j := k * 7 + 3) (by omega)
        obtain ⟨⟨z4, g4⟩, f4⟩ := HR2.out.at (j := k * 7 + 4) (by omega)
        obtain ⟨⟨z5, g5⟩, f5⟩ := HR2.out.at (j := k * 7 + 5) (by omega)
        obtain ⟨⟨z6, g6⟩, f6⟩ := HR2.out.at (j := k * 7 + 6) (by omega)
        have HN2 : Hid (Flds (puts w2 w.heap.size (k * 7) [.string nm, .int .i64 kd, .int .i64 nd, .string sd, .slice bd bm bz, .slice fd fm fz, .slice ld lm lz]) w.heap.size h f (k + 1)) := by
          have := HVS2.out.put HR2.out (by have := HN.out; omega) (by rw [HN.out]) HV2.out
          rw [← HNM.out] at this
          exact this
        have HR3 := Lib.hid (HR2.out.puts (k * 7) [.string nm, .int .i64 kd, .int .i64 nd, .string sd, .slice bd bm bz, .slice fd fm fz, .slice ld lm lz] (by simp; omega)).1
        have HB3 := Lib.hid (puts_below HBw2.out (G := w.heap.size) (Nat.le_refl _) [.string nm, .int .i64 kd, .int .i64 nd, .string sd, .slice bd bm bz, .slice fd fm fz, .slice ld lm lz] (k * 7))
        clear s0 s1 s2 s3 s4 s5 s6 HV HVa HVS HR HB
        go_wp2_with fail
        go_roundw
        case rel => exact ⟨k + 1, by go_num, by omega, HR3, HN2, HB3⟩
        case measure => simp [intOf]; omega
      · have hkk : k = n := by omega
        subst hkk
        go_wp2_with fail
        go_ret
        refine ⟨some ⟨w.heap.size, 0, none⟩, k, rfl, ⟨Nat.le_refl _, by omega⟩, .inr ⟨w.heap.size, 0, rfl, Nat.le_refl _, fun i hi => ?_⟩, HB.out⟩
        obtain ⟨h0, v, h1, h2⟩ := HVS.out i hi (by rw [← HN.out]; exact hi)
        rw [Nat.zero_add]
        exact ⟨h0, HNL.out i hi, v, h1, h2.kept (Kept.of_below (Below.refl _ _)) (fun g hg => Nat.le_of_lt hg)⟩
end Go.Proofs.YtdcfddiicclpeaaDoor
end
