/- Boxes, BsonHold, BsonMeter, BsonRowF, BsonSigned. -/
import Derived.Maps.OwnSet
import Derived.Maps.OwnOps
import Derived.Maps.Views
import Derived.StillTailTactics
import Derived.WalkSpells
import Derived.IntWalk
import Derived.Laws.Externs
import Derived.Lib.SliceRun
import Derived.Laws.BitsAllLaws
import Derived.Test.YtdihelpimpkfoaaDoorMg7
import Derived.Test.YtdihelpimpkfoaaDoorMg6
set_option maxRecDepth 100000
section
namespace Go.Proofs.YtdihelpimpkfoaaDoor
open Go.RowKit
open Seal
open Bson (Val)
def IsBox (W : World) (n : Nat) (c0 c1 c2 c3 c4 c5 : Value) : Prop := W.heap[n]? = some (.cells #[c0, c1, c2, c3, c4, c5] 28 (0, 0))
section
variable {W W' : World} {n : Nat} {c0 c1 c2 c3 c4 c5 : Value}
theorem IsBox.lt (h : IsBox W n c0 c1 c2 c3 c4 c5) : n < W.heap.size := (Array.getElem?_eq_some_iff.1 h).1
theorem IsBox.cells (h : IsBox W n c0 c1 c2 c3 c4 c5) : W.cell? ⟨n, 0, none⟩ = some c0 ∧ W.cell? ⟨n, 1, none⟩ = some c1 ∧ W.cell? ⟨n, 2, none⟩ = some c2 ∧ W.cell? ⟨n, 3, none⟩ = some c3 ∧ W.cell? ⟨n, 4, none⟩ = some c4 ∧ W.cell? ⟨n, 5, none⟩ = some c5 :=
  ⟨(cell_of_row W _ 0 _ _ _ h).trans rfl, (cell_of_row W _ 1 _ _ _ h).trans rfl, (cell_of_row W _ 2 _ _ _ h).trans rfl, (cell_of_row W _ 3 _ _ _ h).trans rfl, (cell_of_row W _ 4 _ _ _ h).trans rfl, (cell_of_row W _ 5 _ _ _ h).trans rfl⟩
theorem IsBox.thaw (h : IsBox W n c0 c1 c2 c3 c4 c5) : W.frozen? ⟨n, 0, none⟩ = false ∧ W.frozen? ⟨n, 1, none⟩ = false ∧ W.frozen? ⟨n, 2, none⟩ = false ∧ W.frozen? ⟨n, 3, none⟩ = false ∧ W.frozen? ⟨n, 4, none⟩ = false ∧ W.frozen? ⟨n, 5, none⟩ = false :=
  ⟨frozen_of_row W _ 0 _ _ h, frozen_of_row W _ 1 _ _ h, frozen_of_row W _ 2 _ _ h, frozen_of_row W _ 3 _ _ h, frozen_of_row W _ 4 _ _ h, frozen_of_row W _ 5 _ _ h⟩
theorem IsBox.keep (h : IsBox W n c0 c1 c2 c3 c4 c5) (hb : Below W.heap.size W W') : IsBox W' n c0 c1 c2 c3 c4 c5 := (hb.block _ h.lt).trans h
theorem IsBox.new (w : World) (c0 c1 c2 c3 c4 c5 : Value) : IsBox (w.alloc (.cells #[c0, c1, c2, c3, c4, c5] 28)) w.heap.size c0 c1 c2 c3 c4 c5 := heap_alloc_new w _
theorem IsBox.new2 (w : World) (o : Obj) (c0 c1 c2 c3 c4 c5 : Value) : IsBox ((w.alloc o).alloc (.cells #[c0, c1, c2, c3, c4, c5] 28)) (w.heap.size + 1) c0 c1 c2 c3 c4 c5 := by
  have := IsBox.new (w.alloc o) c0 c1 c2 c3 c4 c5
  simpa using this
theorem IsBox.other (h : IsBox W n c0 c1 c2 c3 c4 c5) {m : Nat} (hm : n ≠ m) (o : Nat) (vs : List Value) : IsBox (puts W m o vs) n c0 c1 c2 c3 c4 c5 := (puts_other m n hm vs W o).trans h
theorem IsBox.put (h : IsBox W n c0 c1 c2 c3 c4 c5) (d0 d1 d2 d3 d4 d5 : Value) : IsBox (puts W n 0 [d0, d1, d2, d3, d4, d5]) n d0 d1 d2 d3 d4 d5 := by
  obtain ⟨ds, h1, h2, _, _, h3⟩ := puts_same n 28 [d0, d1, d2, d3, d4, d5] W 0 _ h
  have e : ds = #[d0, d1, d2, d3, d4, d5] := by
    apply Array.ext_getElem?
    intro j
    by_cases hj : j < 6
    · have := h3 (by simp) j (by simpa using hj)
      rw [Nat.zero_add] at this
      rw [this]
      match j, hj with | 0, _ => rfl | 1, _ => rfl | 2, _ => rfl | 3, _ => rfl | 4, _ => rfl | 5, _ => rfl
    · rw [Array.getElem?_eq_none (by rw [h2]; simp; omega), Array.getElem?_eq_none (by simp; omega)]
  unfold IsBox
  rw [h1, e]
end
end Go.Proofs.YtdihelpimpkfoaaDoor
end
section
namespace Go.Proofs.YtdihelpimpkfoaaDoor
open Go.RowKit
open Seal
open Bson (Val)
/-- A name as a map's key. -/
def keyS (s : ByteArray) : Lit := .string s.data.toList
/-- The set of the names of the first k fields. -/
def setNms (f : List (ByteArray × Val)) (k : Nat) : DataW Unit := Maps.setOf (.agg []) ((f.take k).map fun p => keyS p.1)
/-- Block gn holds no set, or one of the names of some of the first fields. -/
def Nms (w : World) (gn : Nat) (f : List (ByteArray × Val)) : Prop :=
  w.heap[gn]? = some (.cells #[.map none] 84 (0, 0)) ∨
  ∃ bm k, w.heap[gn]? = some (.cells #[.map (some bm)] 84 (0, 0)) ∧ gn < bm ∧ k ≤ f.length ∧ w.ownsMap Tryd.prog 9 (unitElem (H := Unit)) bm k (setNms f k)
/-- Of what was there only the set has turned: no block of cells but gn. -/
def HMove (gn : Nat) (w w' : World) : Prop :=
  w'.os = w.os ∧ w'.tape = w.tape ∧ w'.output = w.output ∧ w.heap.size ≤ w'.heap.size ∧ (∀ g cs t fr, g ≠ gn → w.heap[g]? = some (.cells cs t fr) → w'.heap[g]? = w.heap[g]?) ∧ ∀ g, g < gn → w'.heap[g]? = w.heap[g]?
def hasName (f : List (ByteArray × Val)) (s : ByteArray) : Bool := f.any fun p => decide (p.1 = s)
theorem HMove.of_below {w w' : World} {gn : Nat} (hb : Below w.heap.size w w') (hg : gn < w.heap.size) : HMove gn w w' :=
  ⟨hb.os, hb.tape, hb.output, hb.size, fun g cs t fr _ h => hb.block g (by
    refine Nat.lt_of_not_le fun hge => ?_
    rw [Array.getElem?_eq_none hge] at h; cases h), fun g hgg => hb.block g (by omega)⟩
theorem Nms.below {w w' : World} {gn : Nat} {f : List (ByteArray × Val)} (h : Nms w gn f) (hb : Below w.heap.size w w') : Nms w' gn f := by
  have hgl : ∀ o, w.heap[gn]? = some o → w'.heap[gn]? = some o := fun o ho => (hb.block gn (by
    refine Nat.lt_of_not_le fun hge => ?_
    rw [Array.getElem?_eq_none hge] at ho; cases ho)).trans ho
  rcases h with h | ⟨bm, k, h1, h2, h3, es, clock, h4, h5⟩
  · exact .inl (hgl _ h)
  · refine .inr ⟨bm, k, hgl _ h1, h2, h3, es, clock, ?_, h5⟩
    exact (hb.block bm (by
      refine Nat.lt_of_not_le fun hge => ?_
      rw [Array.getElem?_eq_none hge] at h4; cases h4)).trans h4
theorem Nms.lt {w : World} {gn : Nat} {f : List (ByteArray × Val)} (h : Nms w gn f) : gn < w.heap.size := by
  refine Nat.lt_of_not_le fun hge => ?_
  rcases h with h | ⟨bm, k, h1, _⟩
  · rw [Array.getElem?_eq_none hge] at h; cases h
  · rw [Array.getElem?_eq_none hge] at h1; cases h1
set_option maxRecDepth 100000 in
set_option maxHeartbeats 1000000 in
theorem hold_few (Q : Nat → Prop) (h : Nat) (w : World) (gn : Nat) (a : Option Addr) (n c : Nat) (f : List (ByteArray × Val)) (s : ByteArray) (hn : f.length = n) (hm : n ≤ 16) (hF : FieldsIn w Q (VIn w Q h) a f) (hN : Nms w gn f) :
    Calls Tryd.prog 39 #[.pointer (some ⟨gn, 0, none⟩), .slice a n c, .string s] w fun e w' => e = .returned (.bool (hasName f s)) ∧ HMove gn w w' ∧ Nms w' gn f := by
  have CF := Lib.hid (find_any Q h w a n c f s hn (by omega) hF)
  have hpi := placeI_any f s
  have HP : Hid (decide (0 ≤ placeI f s) = hasName f s) := by
    show _ = _
    by_cases h0 : 0 ≤ placeI f s
    · rw [decide_eq_true h0]; exact (hpi.1 h0).symm
    · rw [decide_eq_false h0]
      cases hh : hasName f s with
      | false => rfl
      | true => exact absurd (hpi.2 hh) h0
  generalize placeI f s = pl at *
  have HN := Lib.hid hN
  have hmz : (n : Int) ≤ 16 := by omega
  clear hpi hF hN hn
  go_enter Tryd.func39, Tryd.ntmps39
  go_wp2_with fail
  refine CF.out.mono ?_
  rintro e w' ⟨rfl, hb⟩
  have HB := Lib.hid hb
  clear hb
  go_wp2_with fail
  go_ret
  exact ⟨ret_eq (by rw [← HP.out]; rfl), HMove.of_below HB.out HN.out.lt, HN.out.below HB.out⟩
end Go.Proofs.YtdihelpimpkfoaaDoor
end
section
namespace Go.Proofs.YtdihelpimpkfoaaDoor
open Go.RowKit
open Seal
open Bson (Val)
/-- Block gm is a meter with so much left. -/
def Mtr (w : World) (gm : Nat) (left : Int) : Prop := w.heap[gm]? = some (.cells #[.int .i64 left] 52 (0, 0))
theorem Mtr.c0 {w : World} {gm : Nat} {left : Int} (h : Mtr w gm left) : w.cell? ⟨gm, 0, none⟩ = some (.int .i64 left) := cell_of_row w gm 0 _ _ _ h
theorem Mtr.f0 {w : World} {gm : Nat} {left : Int} (h : Mtr w gm left) : w.frozen? ⟨gm, 0, none⟩ = false := frozen_of_row w gm 0 _ _ h
theorem Mtr.lt {w : World} {gm : Nat} {left : Int} (h : Mtr w gm left) : gm < w.heap.size := World.block_lt_of_cell? w _ h.c0
theorem Mtr.keep {w w' : World} {gm : Nat} {left : Int} (h : Mtr w gm left) (hb : Below w.heap.size w w') : Mtr w' gm left := (hb.block gm h.lt).trans h
/-- A cell that is no number of 64 bits does not lie in a meter. -/
theorem Mtr.ne {w : World} {gm : Nat} {left : Int} (h : Mtr w gm left) {g o : Nat} {v : Value} (hc : w.cell? ⟨g, o, none⟩ = some v) (hv : ∀ n : Int, v ≠ .int .i64 n) : g ≠ gm := by
  rintro rfl
  have := (cell_of_row w g o _ _ _ h).symm.trans hc
  match o, this with
  | 0, h => simp at h; exact hv _ h.symm
  | o + 1, h => simp at h
theorem Mtr.ne1 {w : World} {gm : Nat} {left : Int} (h : Mtr w gm left) {g o : Nat} {v : Value} (hc : w.cell? ⟨g, o + 1, none⟩ = some v) : g ≠ gm := by
  rintro rfl
  have := (cell_of_row w g (o + 1) _ _ _ h).symm.trans hc
  simp at this
theorem grown_cell {w w' : World} {gm g o : Nat} {v : Value} (hg : w.grownBy w' (some gm)) (hc : w.cell? ⟨g, o, none⟩ = some v) (hne : g ≠ gm) : w'.cell? ⟨g, o, none⟩ = some v :=
  (World.cell?_of_block (a := ⟨g, o, none⟩) (hg.block g (World.block_lt_of_cell? w _ hc) (fun e => hne (Option.some.inj e)))).trans hc
theorem Mtr.six {w w' : World} {gm : Nat} {left : Int} (h : Mtr w gm left) (hg : w.grownBy w' (some gm)) {g p : Nat} {v : Value} (hs : SixAt w g p v) : SixAt w' g p v := by
  obtain ⟨c0, c1, c2, c3, c4, c5, e, h0, h1, h2, h3, h4, h5⟩ := hs
  have hne := h.ne1 h1
  exact ⟨c0, c1, c2, c3, c4, c5, e, grown_cell hg h0 hne, grown_cell hg h1 hne, grown_cell hg h2 hne, grown_cell hg h3 hne, grown_cell hg h4 hne, grown_cell hg h5 hne⟩
/-- What a meter writes turns no value. -/
theorem VIn.metered {w w' : World} {Q : Nat → Prop} {gm : Nat} {left : Int} (hM : Mtr w gm left) (hg : w.grownBy w' (some gm)) : ∀ {h : Nat} {x : Val} {v : Value}, VIn w Q h x v → VIn w' Q h x v
  | 0, _, _, h => h.elim
  | h + 1, _, _, ⟨ba, fa, la, bc, fc, lc, e, h1, h2, h3, h4, h5, h6, h7⟩ => by
    refine ⟨ba, fa, la, bc, fc, lc, e, h1, h2, h3, h4, ?_, ?_, ?_⟩
    · rcases h5 with h | ⟨g, o, e, hq, h⟩
      · exact .inl h
      · exact .inr ⟨g, o, e, hq, fun j hj => grown_cell hg (h j hj) (hM.ne (h j hj) (fun n => by simp))⟩
    · rcases h6 with h | ⟨g, o, e, hq, h⟩
      · exact .inl h
      · refine .inr ⟨g, o, e, hq, fun i hi => ?_⟩
        obtain ⟨k1, k2, v, k3, k4⟩ := h i hi
        exact ⟨grown_cell hg k1 (hM.ne k1 (fun n => by simp)), k2, v, hM.six hg k3, VIn.metered hM hg k4⟩
    · rcases h7 with h | ⟨g, o, e, hq, h⟩
      · exact .inl h
      · refine .inr ⟨g, o, e, hq, fun i hi => ?_⟩
        obtain ⟨v, k3, k4⟩ := h i hi
        exact ⟨v, hM.six hg k3, VIn.metered hM hg k4⟩
set_option maxRecDepth 100000 in
set_option maxHeartbeats 400000 in
theorem mtake_no (w : World) (gm : Nat) (left n : Int) (hM : Mtr w gm left) (h : left < n) :
    Calls Tryd.prog 28 #[.pointer (some ⟨gm, 0, none⟩), .int .i64 n] w fun e w' => e = .returned (.bool false) ∧ w = w' := by
  have c0 := hM.c0
  clear hM
  go_enter Tryd.func28, Tryd.ntmps28
  go_wp2_with fail
  go_ret
  exact ⟨rfl, rfl⟩
set_option maxRecDepth 100000 in
set_option maxHeartbeats 400000 in
theorem mtake_yes (w : World) (gm : Nat) (left n : Int) (hM : Mtr w gm left) (h0 : 0 ≤ n) (h : n ≤ left) (hl : left ≤ 65536) :
    Calls Tryd.prog 28 #[.pointer (some ⟨gm, 0, none⟩), .int .i64 n] w fun e w' => e = .returned (.bool true) ∧ Mtr w' gm (left - n) ∧ w.grownBy w' (some gm) := by
  have c0 := hM.c0
  have f0 := hM.f0
  have HM := Lib.hid hM
  have hn : ¬ left < n := by omega
  clear hM
  go_enter Tryd.func28, Tryd.ntmps28
  go_wp2_with fail
  go_ret
  refine ⟨rfl, ?_, grown_setCell ⟨rfl, rfl, rfl, Nat.le_refl _, fun _ _ _ => rfl⟩ 0 _⟩
  unfold Mtr
  rw [heap_setCell_same w gm 0 _ _ _ HM.out]
  simp
theorem grown_of_below {w w' : World} (hb : Below w.heap.size w w') (gr : Nat) : w.grownBy w' (some gr) := ⟨hb.os, hb.tape, hb.output, hb.size, fun g hg _ => hb.block g hg⟩
theorem grown_then {w w1 w' : World} {gr : Nat} (h : w.grownBy w1 (some gr)) (h2 : w1.grownBy w' (some gr)) : w.grownBy w' (some gr) :=
  ⟨h2.os.trans h.os, h2.tape.trans h.tape, h2.output.trans h.output, Nat.le_trans h.size h2.size, fun g hg hne => (h2.block g (Nat.lt_of_lt_of_le hg h.size) hne).trans (h.block g hg hne)⟩
/-- May a value of its kind have what it has? -/
def bareB (x : Val) : Bool :=
  Bson.bare x (x.kind == 3 || x.kind == 4 || x.kind == 10 || x.kind == 11) (x.kind == 5) (x.kind == 8 || x.kind == 9) (x.kind == 6) (x.kind == 7)
end Go.Proofs.YtdihelpimpkfoaaDoor
end
section
namespace Go.Proofs.YtdihelpimpkfoaaDoor
open Go.RowKit
open Seal
open Bson (Val)
/-- A field at a place of a row: what it holds lies in blocks behind the row's. -/
def FldAt (w : World) (G h i : Nat) (q : ByteArray × Val) : Prop := w.cell? ⟨G, i * 7, none⟩ = some (.string q.1) ∧ q.1.size ≤ 140737488355328 ∧ ∃ v, SixAt w G (i * 7 + 1) v ∧ VIn w (fun g => G < g) h q.2 v
section
variable {w w' : World} {G h i j len : Nat} {q : ByteArray × Val} {t : TypeId} {c0 c1 c2 c3 c4 c5 : Value}
theorem FldAt.keep (hf : FldAt w G h i q) (hb : Below w.heap.size w w') : FldAt w' G h i q := by
  obtain ⟨h1, h2, v, h3, h4⟩ := hf
  exact ⟨cell_keep hb h1, h2, v, h3.keep hb, h4.keep hb⟩
theorem FldAt.up {h' : Nat} (hf : FldAt w G h i q) (hh : h ≤ h') : FldAt w G h' i q := by
  obtain ⟨h1, h2, v, h3, h4⟩ := hf
  exact ⟨h1, h2, v, h3, h4.up hh⟩
theorem FldAt.put_same (hr : Row6 w G t len) (hi : (i + 1) * 7 ≤ len) (hnm : q.1.size ≤ 140737488355328) (hv : VIn w (fun g => G < g) h q.2 (.agg #[c0, c1, c2, c3, c4, c5])) :
    FldAt (puts w G (i * 7) [.string q.1, c0, c1, c2, c3, c4, c5]) G h i q := by
  have hkp : Kept (fun g => G < g) w (puts w G (i * 7) [.string q.1, c0, c1, c2, c3, c4, c5]) := puts_kept _ (Nat.lt_irrefl G) _ _
  have hfit : i * 7 + [Value.string q.1, c0, c1, c2, c3, c4, c5].length ≤ len := by simp; omega
  obtain ⟨_, _, hat⟩ := hr.puts (i * 7) [.string q.1, c0, c1, c2, c3, c4, c5] hfit
  exact ⟨hat 0 (by simp), hnm, _, SixAt.of_puts hr _ 1 _ hfit _ _ _ _ _ _ rfl rfl rfl rfl rfl rfl, hv.kept hkp (fun _ h => h)⟩
theorem FldAt.put_other (hf : FldAt w G h j q) (hr : Row6 w G t len) (o : Nat) (vs : List Value) (ho : o + vs.length ≤ len) (hj : (j + 1) * 7 ≤ o ∨ o + vs.length ≤ j * 7) : FldAt (puts w G o vs) G h j q := by
  have hkp : Kept (fun g => G < g) w (puts w G o vs) := puts_kept _ (Nat.lt_irrefl G) _ _
  obtain ⟨_, ho2, _⟩ := hr.puts o vs ho
  obtain ⟨h1, h2, v, ⟨d0, d1, d2, d3, d4, d5, e, k0, k1, k2, k3, k4, k5⟩, h4⟩ := hf
  exact ⟨(ho2 _ (by omega)).trans h1, h2, v, ⟨d0, d1, d2, d3, d4, d5, e, (ho2 _ (by omega)).trans k0, (ho2 _ (by omega)).trans k1, (ho2 _ (by omega)).trans k2, (ho2 _ (by omega)).trans k3, (ho2 _ (by omega)).trans k4, (ho2 _ (by omega)).trans k5⟩, h4.kept hkp (fun _ h => h)⟩
end
/-- The places of a row, as far as they go. -/
def FldsTo (w : World) (G h : Nat) (l : List (ByteArray × Val)) : Prop := ∀ t (ht : t < l.length), FldAt w G h t l[t]
theorem FldsTo.keep {w w' : World} {G h : Nat} {l : List (ByteArray × Val)} (hl : FldsTo w G h l) (hb : Below w.heap.size w w') : FldsTo w' G h l := fun t ht => (hl t ht).keep hb
theorem FldsTo.fields {w : World} {G h : Nat} {l : List (ByteArray × Val)} {Q : Nat → Prop} (hl : FldsTo w G h l) (hQ : Q G) (hQ2 : ∀ g, G < g → Q g) : FieldsIn w Q (VIn w Q h) (some ⟨G, 0, none⟩) l := by
  refine .inr ⟨G, 0, rfl, hQ, fun i hi => ?_⟩
  obtain ⟨h1, h2, v, h3, h4⟩ := hl i hi
  exact ⟨by rw [Nat.zero_add]; exact h1, h2, v, by rw [Nat.zero_add]; exact h3, h4.kept (Kept.of_below (Below.refl _ _)) hQ2⟩
theorem FldsTo.set {w : World} {G h len : Nat} {t : TypeId} {l : List (ByteArray × Val)} (hl : FldsTo w G h l) (hr : Row6 w G t len) (hlen : l.length * 7 ≤ len) {i : Nat} (hi : i < l.length) {nm : ByteArray} {y : Val} {c0 c1 c2 c3 c4 c5 : Value} (hnm : nm.size ≤ 140737488355328)
    (hv : VIn w (fun g => G < g) h y (.agg #[c0, c1, c2, c3, c4, c5])) : FldsTo (puts w G (i * 7) [.string nm, c0, c1, c2, c3, c4, c5]) G h (l.set i (nm, y)) := by
  intro t ht
  rw [List.length_set] at ht
  by_cases e : i = t
  · subst e
    rw [List.getElem_set_self]
    exact FldAt.put_same (q := (nm, y)) hr (by omega) hnm hv
  · rw [List.getElem_set_ne e]
    exact (hl t ht).put_other hr _ _ (by simp; omega) (by simp; omega)
def keepF (nm : ByteArray) (f : List (ByteArray × Val)) (j : Nat) : List (ByteArray × Val) := (f.take j).filter fun p => !decide (p.1 = nm)
theorem keepF_next {nm : ByteArray} {f : List (ByteArray × Val)} {j : Nat} (hj : j < f.length) : keepF nm f (j + 1) = if f[j].1 = nm then keepF nm f j else keepF nm f j ++ [f[j]] := by
  unfold keepF
  rw [List.take_succ_eq_append_getElem hj, List.filter_append]
  by_cases e : f[j].1 = nm
  · rw [if_pos e]; simp [e]
  · rw [if_neg e]; simp [e]
theorem keepF_length (nm : ByteArray) (f : List (ByteArray × Val)) (j : Nat) : (keepF nm f j).length ≤ j := by
  unfold keepF
  have h1 := List.length_filter_le (fun p : ByteArray × Val => !decide (p.1 = nm)) (f.take j)
  have h2 := List.length_take_le j f
  omega
theorem keepF_end (nm : ByteArray) (f : List (ByteArray × Val)) : keepF nm f f.length = f.filter fun p => !decide (p.1 = nm) := by unfold keepF; rw [List.take_length]
theorem keepF_start {nm : ByteArray} {f : List (ByteArray × Val)} (hp : place f nm < f.length) : keepF nm f (place f nm + 1) = f.take (place f nm) := by
  have h1 : f[place f nm].1 = nm := by
    have h0 : decide (f[place f nm].1 = nm) = true := List.findIdx_getElem (p := fun p : ByteArray × Val => decide (p.1 = nm)) (w := hp)
    exact of_decide_eq_true h0
  rw [keepF_next hp, if_pos h1]
  unfold keepF
  rw [List.filter_eq_self]
  intro p hm
  obtain ⟨k, hk, rfl⟩ := List.getElem_of_mem hm
  rw [List.length_take] at hk
  have h2 : k < place f nm := by omega
  have := List.not_of_lt_findIdx h2
  rw [List.getElem_take]
  simpa using this
theorem keepF_none {nm : ByteArray} {f : List (ByteArray × Val)} (hp : ¬ place f nm < f.length) : (f.filter fun p => !decide (p.1 = nm)) = f := by
  rw [List.filter_eq_self]
  intro p hm
  have h1 : place f nm = f.length := by
    unfold place at hp ⊢
    have := List.findIdx_le_length (p := fun p : ByteArray × Val => decide (p.1 = nm)) (xs := f)
    omega
  obtain ⟨k, hk, rfl⟩ := List.getElem_of_mem hm
  have h2 : k < place f nm := by omega
  have := List.not_of_lt_findIdx h2
  simpa using this
/-- What stands in the row while it is gone through: what is kept at the front, what is to come at its place. -/
def Sift (w : World) (G h : Nat) (nm : ByteArray) (f : List (ByteArray × Val)) (j : Nat) : Prop := FldsTo w G h (keepF nm f j) ∧ ∀ t (ht : t < f.length), j ≤ t → FldAt w G h t f[t]
theorem Sift.keep {w w' : World} {G h : Nat} {nm : ByteArray} {f : List (ByteArray × Val)} {j : Nat} (hs : Sift w G h nm f j) (hb : Below w.heap.size w w') : Sift w' G h nm f j := ⟨hs.1.keep hb, fun t ht hj => (hs.2 t ht hj).keep hb⟩
theorem Sift.start {w : World} {G h : Nat} {nm : ByteArray} {f : List (ByteArray × Val)} (hf : FldsTo w G h f) (hp : place f nm < f.length) : Sift w G h nm f (place f nm + 1) := by
  refine ⟨?_, fun t ht _ => hf t ht⟩
  rw [keepF_start hp]
  intro t ht
  have ht2 := ht
  rw [List.length_take] at ht2
  have := hf t (by omega)
  rw [List.getElem_take]; exact this
theorem Sift.skip {w : World} {G h : Nat} {nm : ByteArray} {f : List (ByteArray × Val)} {j : Nat} (hs : Sift w G h nm f j) (hj : j < f.length) (he : f[j].1 = nm) : Sift w G h nm f (j + 1) := by
  refine ⟨?_, fun t ht h => hs.2 t ht (by omega)⟩
  rw [keepF_next hj, if_pos he]; exact hs.1
theorem Sift.take {w : World} {G h len : Nat} {t : TypeId} {nm : ByteArray} {f : List (ByteArray × Val)} {j : Nat} (hs : Sift w G h nm f j) (hr : Row6 w G t len) (hlen : f.length * 7 ≤ len) (hj : j < f.length) (hne : f[j].1 ≠ nm) (hlt : (keepF nm f j).length < j)
    {c0 c1 c2 c3 c4 c5 : Value} (hv : VIn w (fun g => G < g) h f[j].2 (.agg #[c0, c1, c2, c3, c4, c5])) (hnm : f[j].1.size ≤ 140737488355328) :
    Sift (puts w G ((keepF nm f j).length * 7) [.string f[j].1, c0, c1, c2, c3, c4, c5]) G h nm f (j + 1) := by
  refine ⟨?_, fun t ht h => (hs.2 t ht (by omega)).put_other hr _ _ (by simp; omega) (by simp; omega)⟩
  rw [keepF_next hj, if_neg hne]
  intro t ht
  rw [List.length_append, List.length_singleton] at ht
  by_cases e : t = (keepF nm f j).length
  · subst e
    rw [List.getElem_append_right (Nat.le_refl _)]
    simp only [Nat.sub_self, List.getElem_cons_zero]
    exact FldAt.put_same (q := f[j]) hr (by omega) hnm hv
  · have ht2 : t < (keepF nm f j).length := by omega
    rw [List.getElem_append_left ht2]
    exact (hs.1 t ht2).put_other hr _ _ (by simp; omega) (by simp; omega)
theorem fieldsTo_of {w : World} {p h : Nat} {f : List (ByteArray × Val)} {n : Nat} (hn : n = f.length) (hf : Flds w p h f n) (hs : ∀ i (hi : i < f.length), f[i].1.size ≤ 140737488355328) : FldsTo w p h f := fun i hi => by
  obtain ⟨h1, v, h2, h3⟩ := hf i hi (by omega)
  exact ⟨h1, hs i hi, v, h2, h3⟩
theorem zeroCells_mem (z : Array Value) (n : Nat) (hz : 0 < z.size) : ∀ v ∈ (Builtin.zeroCells z n).toList, v ∈ z := by
  intro v hv
  simp only [Builtin.zeroCells, Array.toList_map, List.mem_map] at hv
  obtain ⟨i, _, rfl⟩ := hv
  rw [getElem!_pos z (i % z.size) (Nat.mod_lt _ hz)]
  exact Array.getElem_mem _
/-- clear of fields: their cells are written anew; nothing else turns. -/
theorem run_clear_fields {P : Program} (w : World) (t e ty : TypeId) (z : Value) (ht : P.underlying t = some (.slice e)) (hv : ∀ w, (zeroValue e).run P w = .ok z w) (hz : z.cells.size = 7) (h1 : ∀ v ∈ z.cells, v.oneCell' = true) (b o n c : Nat) (hn : 0 < n)
    (hc : ∀ j, j < n * 7 → (w.cell? ⟨b, o + j, none⟩).isSome = true) (hf : ∀ j, j < n * 7 → w.frozen? ⟨b, o + j, none⟩ = false) :
    ∃ vs : List Value, vs.length = n * 7 ∧ (Builtin.clear_ #[t] ty #[.slice (some ⟨b, o, none⟩) n c]).run P w = .ok (.tuple #[]) (puts w b o vs) := by
  refine ⟨(Builtin.zeroCells z.cells n).toList, by rw [Array.length_toList, size_zeroCells, hz, Nat.mul_comm], ?_⟩
  have hl : (Builtin.zeroCells z.cells n).toList.length = n * 7 := by rw [Array.length_toList, size_zeroCells, hz, Nat.mul_comm]
  have hst := run_storeCells_cells (P := P) b o (Builtin.zeroCells z.cells n).toList 0 w (by rw [hl]; simpa using hc) (by rw [hl]; simpa using hf) (fun v hv' => h1 v (zeroCells_mem _ n (by omega) v hv'))
  simp only [Nat.add_zero] at hst
  obtain ⟨m, rfl⟩ : ∃ m, n = m + 1 := ⟨n - 1, by omega⟩
  simp [Builtin.clear_, run_underlying ht, hv, hst]
end Go.Proofs.YtdihelpimpkfoaaDoor
end
section
namespace Go.Proofs.YtdihelpimpkfoaaDoor
open Go.RowKit
open Seal
theorem leN_snoc (l : List Nat) (c : Nat) : Bson.leN (l ++ [c]) = Bson.leN l + c * 256 ^ l.length := by
  induction l with
  | nil => simp [Bson.leN]
  | cons x r ih =>
    rw [List.cons_append, Bson.leN, ih, Bson.leN, List.length_cons, Nat.pow_succ, Nat.mul_add, ← Nat.add_assoc]
    congr 1
    rw [Nat.mul_comm (256 ^ r.length) 256, ← Nat.mul_assoc, Nat.mul_comm 256 c, Nat.mul_assoc]
theorem or_shift (a c i : Nat) (ha : a < 256 ^ i) : a ||| (c * 256 ^ i) = a + c * 256 ^ i := by
  have e : (256 : Nat) ^ i = 2 ^ (8 * i) := by rw [show (256 : Nat) = 2 ^ 8 from rfl, ← Nat.pow_mul]
  rw [e] at ha ⊢
  have := Nat.shiftLeft_add_eq_or_of_lt ha c
  rw [Nat.shiftLeft_eq] at this
  rw [Nat.or_comm, ← this, Nat.add_comm]
theorem wrapU (n : Int) : IntKind.u64.wrap n = n % 18446744073709551616 := by simp [IntKind.wrap, IntKind.bits, IntKind.signed]
theorem signed_end (l : List Nat) (n x : Nat) (hl : l.length = n) (hn : n = 1 ∨ n = 4 ∨ n = 8) (hx : x = Bson.leN l) (hlt : x < 256 ^ n) :
    wrap64 (IntKind.u64.wrap ((x : Int) * 2 ^ (64 - 8 * n))) / 2 ^ (64 - 8 * n) = Bson.signed l := by
  unfold Bson.signed
  rw [← hx, hl, wrapU, wrap64]
  rcases hn with rfl | rfl | rfl
  · simp only [Nat.reducePow, Nat.reduceMul, Nat.reduceSub, Nat.reduceDiv, Int.reducePow] at hlt ⊢
    split <;> omega
  · simp only [Nat.reducePow, Nat.reduceMul, Nat.reduceSub, Nat.reduceDiv, Int.reducePow] at hlt ⊢
    split <;> omega
  · simp only [Nat.reducePow, Nat.reduceMul, Nat.reduceSub, Nat.reduceDiv, Int.reducePow] at hlt ⊢
    split <;> omega
set_option maxRecDepth 100000 in
set_option maxHeartbeats 1000000 in
theorem signed_any (w : World) (a : Option Addr) (n c : Nat) (l : List Nat) (hl : l.length = n) (hn : n = 1 ∨ n = 4 ∨ n = 8) (ho : Oct l) (hs : SliceIs w a l) :
    Calls Tryd.prog 43 #[.slice a n c] w fun e w' => e = .returned (.int .i64 (Bson.signed l)) ∧ w = w' := by
  have hn8 : n ≤ 8 := by omega
  obtain ⟨g, o, rfl, hr⟩ := hs.resolve_left (fun e => by rw [e] at hl; simp at hl; omega)
  have HL := Lib.hid hl
  have HR := Lib.hid hr
  have HO := Lib.hid ho
  have HN := Lib.hid hn
  clear hl hr ho hs hn
  go_enter Tryd.func43, Tryd.ntmps43
  go_wp2_with fail
  go_loop [3, 9] (fun u i => ∃ (k : Nat) (x : Nat), i = .int .i64 k ∧ u = .int .u64 x ∧ k ≤ n ∧ Hid (x = Bson.leN (l.take k)) ∧ Hid (x < 256 ^ k)) (fun _ i => n - (intOf i).toNat)
  case atStart => exact ⟨0, 0, rfl, rfl, Nat.zero_le _, rfl, (by decide : 0 < 256 ^ 0)⟩
  case round =>
    obtain ⟨k, x, rfl, rfl, hk, hx, hlt0⟩ := hrel
    by_cases hlt : k < n
    · have hcell := HR.out k (by rw [HL.out]; exact hlt)
      have hsn : Bson.leN (l.take (k + 1)) = Bson.leN (l.take k) + l.getD k 0 * 256 ^ k := by
        have hkl : k < l.length := by rw [HL.out]; exact hlt
        rw [List.take_succ_eq_append_getElem hkl, leN_snoc, List.getD_eq_getElem?_getD, List.getElem?_eq_getElem hkl]
        have hm : min k l.length = k := by omega
        simp [hm]
      have hc : l.getD k 0 < 256 := HO.out _ (by rw [List.getD_eq_getElem?_getD, List.getElem?_eq_getElem (by rw [HL.out]; exact hlt)]; simp)
      generalize l.getD k 0 = ch at *
      have HSN := Lib.hid hsn
      clear hsn
      have hp : ch * 256 ^ k < 18446744073709551616 := by
        have h1 : 256 ^ k ≤ 256 ^ 7 := Nat.pow_le_pow_right (by decide) (by omega)
        have h2 : ch * 256 ^ k ≤ 255 * 256 ^ 7 := Nat.mul_le_mul (by omega) h1
        omega
      have hx64 : x < 18446744073709551616 := by
        have h1 : 256 ^ k ≤ 256 ^ 7 := Nat.pow_le_pow_right (by decide) (by omega)
        have := hlt0.out
        omega
      have hsh : IntKind.u64.wrap ((ch : Int) * 2 ^ (8 * k)) = ((ch * 256 ^ k : Nat) : Int) := by
        rw [wrapU, show (256 : Nat) ^ k = 2 ^ (8 * k) by rw [show (256 : Nat) = 2 ^ 8 from rfl, ← Nat.pow_mul]]
        rw [show (256 : Nat) ^ k = 2 ^ (8 * k) by rw [show (256 : Nat) = 2 ^ 8 from rfl, ← Nat.pow_mul]] at hp
        have e : ((ch * 2 ^ (8 * k) : Nat) : Int) = (ch : Int) * 2 ^ (8 * k) := by simp
        rw [← e]; omega
      have hor : bits .or .u64 (x : Int) ((ch * 256 ^ k : Nat) : Int) = ((x + ch * 256 ^ k : Nat) : Int) := by
        rw [u64_or_nat x _ hx64 hp, or_shift x ch k hlt0.out]
      have hnx : Hid (x + ch * 256 ^ k = Bson.leN (l.take (k + 1))) := by show _ = _; rw [HSN.out, ← hx.out]
      have hnl : Hid (x + ch * 256 ^ k < 256 ^ (k + 1)) := by
        show _ < _
        have h1 := hlt0.out
        have h2 : ch * 256 ^ k ≤ 255 * 256 ^ k := Nat.mul_le_mul (by omega) (Nat.le_refl _)
        rw [Nat.pow_succ]; omega
      have HSH := Lib.hid hsh
      have HOR := Lib.hid hor
      clear hsh hor hp hx64
      go_wp2_with fail
      go_round
      case rel => exact ⟨k + 1, x + ch * 256 ^ k, by go_num, by rw [HSH.out, HOR.out], by omega, hnx, hnl⟩
      case measure => simp [intOf]; omega
    · obtain rfl : n = k := by omega
      have HE := Lib.hid (signed_end l n x HL.out HN.out (by rw [hx.out, List.take_of_length_le (by rw [HL.out]; exact Nat.le_refl _)]) hlt0.out)
      go_wp2_with fail
      go_ret
      exact ⟨ret_eq (by rw [← HE.out]; rfl), rfl⟩
end Go.Proofs.YtdihelpimpkfoaaDoor
end
