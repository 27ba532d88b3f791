/- BsonHold, BsonMeter, BsonSigned, PathCopyF. -/
import Derived.Maps.OwnSet
import Derived.Maps.OwnOps
import Derived.Maps.Views
import Derived.StillTailTactics
import Derived.WalkSpells
import Derived.IntWalk
import Derived.Laws.Externs
import Derived.Laws.BitsAllLaws
import Derived.Test.YtemckkindbpepaaDoorMg6
import Derived.Test.YtemckkindbpepaaDoorMg5
set_option maxRecDepth 100000
section
namespace Go.Proofs.YtemckkindbpepaaDoor
open Go.RowKit
open Seal
open Bson (Val)
/-- A name as a map's key. -/
def keyS (s : ByteArray) : Lit := .string s.data.toList
/-- The set of the names of the first k fields. -/
def setNms (f : List (ByteArray × Val)) (k : Nat) : DataW Unit := Maps.setOf (.agg []) ((f.take k).map fun p => keyS p.1)
/-- Block gn holds no set, or one of the names of some of the first fields. -/
def Nms (w : World) (gn : Nat) (f : List (ByteArray × Val)) : Prop :=
  w.heap[gn]? = some (.cells #[.map none] 116 (0, 0)) ∨
  ∃ bm k, w.heap[gn]? = some (.cells #[.map (some bm)] 116 (0, 0)) ∧ gn < bm ∧ k ≤ f.length ∧ w.ownsMap Tryd.prog 9 (unitElem (H := Unit)) bm k (setNms f k)
/-- Of what was there only the set has turned: no block of cells but gn. -/
def HMove (gn : Nat) (w w' : World) : Prop :=
  w'.os = w.os ∧ w'.tape = w.tape ∧ w'.output = w.output ∧ w.heap.size ≤ w'.heap.size ∧ (∀ g cs t fr, g ≠ gn → w.heap[g]? = some (.cells cs t fr) → w'.heap[g]? = w.heap[g]?) ∧ ∀ g, g < gn → w'.heap[g]? = w.heap[g]?
def hasName (f : List (ByteArray × Val)) (s : ByteArray) : Bool := f.any fun p => decide (p.1 = s)
theorem HMove.of_below {w w' : World} {gn : Nat} (hb : Below w.heap.size w w') (hg : gn < w.heap.size) : HMove gn w w' :=
  ⟨hb.os, hb.tape, hb.output, hb.size, fun g cs t fr _ h => hb.block g (by
    refine Nat.lt_of_not_le fun hge => ?_
    rw [Array.getElem?_eq_none hge] at h; cases h), fun g hgg => hb.block g (by omega)⟩
theorem Nms.below {w w' : World} {gn : Nat} {f : List (ByteArray × Val)} (h : Nms w gn f) (hb : Below w.heap.size w w') : Nms w' gn f := by
  have hgl : ∀ o, w.heap[gn]? = some o → w'.heap[gn]? = some o := fun o ho => (hb.block gn (by
    refine Nat.lt_of_not_le fun hge => ?_
    rw [Array.getElem?_eq_none hge] at ho; cases ho)).trans ho
  rcases h with h | ⟨bm, k, h1, h2, h3, es, clock, h4, h5⟩
  · exact .inl (hgl _ h)
  · refine .inr ⟨bm, k, hgl _ h1, h2, h3, es, clock, ?_, h5⟩
    exact (hb.block bm (by
      refine Nat.lt_of_not_le fun hge => ?_
      rw [Array.getElem?_eq_none hge] at h4; cases h4)).trans h4
theorem Nms.lt {w : World} {gn : Nat} {f : List (ByteArray × Val)} (h : Nms w gn f) : gn < w.heap.size := by
  refine Nat.lt_of_not_le fun hge => ?_
  rcases h with h | ⟨bm, k, h1, _⟩
  · rw [Array.getElem?_eq_none hge] at h; cases h
  · rw [Array.getElem?_eq_none hge] at h1; cases h1
set_option maxRecDepth 100000 in
set_option maxHeartbeats 1000000 in
theorem hold_few (Q : Nat → Prop) (h : Nat) (w : World) (gn : Nat) (a : Option Addr) (n c : Nat) (f : List (ByteArray × Val)) (s : ByteArray) (hn : f.length = n) (hm : n ≤ 16) (hF : FieldsIn w Q (VIn w Q h) a f) (hN : Nms w gn f) :
    Calls Tryd.prog 71 #[.pointer (some ⟨gn, 0, none⟩), .slice a n c, .string s] w fun e w' => e = .returned (.bool (hasName f s)) ∧ HMove gn w w' ∧ Nms w' gn f := by
  have CF := Lib.hid (find_any Q h w a n c f s hn (by omega) hF)
  have hpi := placeI_any f s
  have HP : Hid (decide (0 ≤ placeI f s) = hasName f s) := by
    show _ = _
    by_cases h0 : 0 ≤ placeI f s
    · rw [decide_eq_true h0]; exact (hpi.1 h0).symm
    · rw [decide_eq_false h0]
      cases hh : hasName f s with
      | false => rfl
      | true => exact absurd (hpi.2 hh) h0
  generalize placeI f s = pl at *
  have HN := Lib.hid hN
  have hmz : (n : Int) ≤ 16 := by omega
  clear hpi hF hN hn
  go_enter Tryd.func71, Tryd.ntmps71
  go_wp2_with fail
  refine CF.out.mono ?_
  rintro e w' ⟨rfl, hb⟩
  have HB := Lib.hid hb
  clear hb
  go_wp2_with fail
  go_ret
  exact ⟨ret_eq (by rw [← HP.out]; rfl), HMove.of_below HB.out HN.out.lt, HN.out.below HB.out⟩
end Go.Proofs.YtemckkindbpepaaDoor
end
section
namespace Go.Proofs.YtemckkindbpepaaDoor
open Go.RowKit
open Seal
open Bson (Val)
/-- Block gm is a meter with so much left. -/
def Mtr (w : World) (gm : Nat) (left : Int) : Prop := w.heap[gm]? = some (.cells #[.int .i64 left] 67 (0, 0))
theorem Mtr.c0 {w : World} {gm : Nat} {left : Int} (h : Mtr w gm left) : w.cell? ⟨gm, 0, none⟩ = some (.int .i64 left) := cell_of_row w gm 0 _ _ _ h
theorem Mtr.f0 {w : World} {gm : Nat} {left : Int} (h : Mtr w gm left) : w.frozen? ⟨gm, 0, none⟩ = false := frozen_of_row w gm 0 _ _ h
theorem Mtr.lt {w : World} {gm : Nat} {left : Int} (h : Mtr w gm left) : gm < w.heap.size := World.block_lt_of_cell? w _ h.c0
theorem Mtr.keep {w w' : World} {gm : Nat} {left : Int} (h : Mtr w gm left) (hb : Below w.heap.size w w') : Mtr w' gm left := (hb.block gm h.lt).trans h
/-- A cell that is no number of 64 bits does not lie in a meter. -/
theorem Mtr.ne {w : World} {gm : Nat} {left : Int} (h : Mtr w gm left) {g o : Nat} {v : Value} (hc : w.cell? ⟨g, o, none⟩ = some v) (hv : ∀ n : Int, v ≠ .int .i64 n) : g ≠ gm := by
  rintro rfl
  have := (cell_of_row w g o _ _ _ h).symm.trans hc
  match o, this with
  | 0, h => simp at h; exact hv _ h.symm
  | o + 1, h => simp at h
theorem Mtr.ne1 {w : World} {gm : Nat} {left : Int} (h : Mtr w gm left) {g o : Nat} {v : Value} (hc : w.cell? ⟨g, o + 1, none⟩ = some v) : g ≠ gm := by
  rintro rfl
  have := (cell_of_row w g (o + 1) _ _ _ h).symm.trans hc
  simp at this
theorem grown_cell {w w' : World} {gm g o : Nat} {v : Value} (hg : w.grownBy w' (some gm)) (hc : w.cell? ⟨g, o, none⟩ = some v) (hne : g ≠ gm) : w'.cell? ⟨g, o, none⟩ = some v :=
  (World.cell?_of_block (a := ⟨g, o, none⟩) (hg.block g (World.block_lt_of_cell? w _ hc) (fun e => hne (Option.some.inj e)))).trans hc
theorem Mtr.six {w w' : World} {gm : Nat} {left : Int} (h : Mtr w gm left) (hg : w.grownBy w' (some gm)) {g p : Nat} {v : Value} (hs : SixAt w g p v) : SixAt w' g p v := by
  obtain ⟨c0, c1, c2, c3, c4, c5, e, h0, h1, h2, h3, h4, h5⟩ := hs
  have hne := h.ne1 h1
  exact ⟨c0, c1, c2, c3, c4, c5, e, grown_cell hg h0 hne, grown_cell hg h1 hne, grown_cell hg h2 hne, grown_cell hg h3 hne, grown_cell hg h4 hne, grown_cell hg h5 hne⟩
/-- What a meter writes turns no value. -/
theorem VIn.metered {w w' : World} {Q : Nat → Prop} {gm : Nat} {left : Int} (hM : Mtr w gm left) (hg : w.grownBy w' (some gm)) : ∀ {h : Nat} {x : Val} {v : Value}, VIn w Q h x v → VIn w' Q h x v
  | 0, _, _, h => h.elim
  | h + 1, _, _, ⟨ba, fa, la, bc, fc, lc, e, h1, h2, h3, h4, h5, h6, h7⟩ => by
    refine ⟨ba, fa, la, bc, fc, lc, e, h1, h2, h3, h4, ?_, ?_, ?_⟩
    · rcases h5 with h | ⟨g, o, e, hq, h⟩
      · exact .inl h
      · exact .inr ⟨g, o, e, hq, fun j hj => grown_cell hg (h j hj) (hM.ne (h j hj) (fun n => by simp))⟩
    · rcases h6 with h | ⟨g, o, e, hq, h⟩
      · exact .inl h
      · refine .inr ⟨g, o, e, hq, fun i hi => ?_⟩
        obtain ⟨k1, k2, v, k3, k4⟩ := h i hi
        exact ⟨grown_cell hg k1 (hM.ne k1 (fun n => by simp)), k2, v, hM.six hg k3, VIn.metered hM hg k4⟩
    · rcases h7 with h | ⟨g, o, e, hq, h⟩
      · exact .inl h
      · refine .inr ⟨g, o, e, hq, fun i hi => ?_⟩
        obtain ⟨v, k3, k4⟩ := h i hi
        exact ⟨v, hM.six hg k3, VIn.metered hM hg k4⟩
set_option maxRecDepth 100000 in
set_option maxHeartbeats 400000 in
theorem mtake_no (w : World) (gm : Nat) (left n : Int) (hM : Mtr w gm left) (h : left < n) :
    Calls Tryd.prog 53 #[.pointer (some ⟨gm, 0, none⟩), .int .i64 n] w fun e w' => e = .returned (.bool false) ∧ w = w' := by
  have c0 := hM.c0
  clear hM
  go_enter Tryd.func53, Tryd.ntmps53
  go_wp2_with fail
  go_ret
  exact ⟨rfl, rfl⟩
set_option maxRecDepth 100000 in
set_option maxHeartbeats 400000 in
theorem mtake_yes (w : World) (gm : Nat) (left n : Int) (hM : Mtr w gm left) (h0 : 0 ≤ n) (h : n ≤ left) (hl : left ≤ 65536) :
    Calls Tryd.prog 53 #[.pointer (some ⟨gm, 0, none⟩), .int .i64 n] w fun e w' => e = .returned (.bool true) ∧ Mtr w' gm (left - n) ∧ w.grownBy w' (some gm) := by
  have c0 := hM.c0
  have f0 := hM.f0
  have HM := Lib.hid hM
  have hn : ¬ left < n := by omega
  clear hM
  go_enter Tryd.func53, Tryd.ntmps53
  go_wp2_with fail
  go_ret
  refine ⟨rfl, ?_, grown_setCell ⟨rfl, rfl, rfl, Nat.le_refl _, fun _ _ _ => rfl⟩ 0 _⟩
  unfold Mtr
  rw [heap_setCell_same w gm 0 _ _ _ HM.out]
  simp
theorem grown_of_below {w w' : World} (hb : Below w.heap.size w w') (gr : Nat) : w.grownBy w' (some gr) := ⟨hb.os, hb.tape, hb.output, hb.size, fun g hg _ => hb.block g hg⟩
theorem grown_then {w w1 w' : World} {gr : Nat} (h : w.grownBy w1 (some gr)) (h2 : w1.grownBy w' (some gr)) : w.grownBy w' (some gr) :=
  ⟨h2.os.trans h.os, h2.tape.trans h.tape, h2.output.trans h.output, Nat.le_trans h.size h2.size, fun g hg hne => (h2.block g (Nat.lt_of_lt_of_le hg h.size) hne).trans (h.block g hg hne)⟩
/-- May a value of its kind have what it has? -/
def bareB (x : Val) : Bool :=
  Bson.bare x (x.kind == 3 || x.kind == 4 || x.kind == 10 || x.kind == 11) (x.kind == 5) (x.kind == 8 || x.kind == 9) (x.kind == 6) (x.kind == 7)
end Go.Proofs.YtemckkindbpepaaDoor
end
section
namespace Go.Proofs.YtemckkindbpepaaDoor
open Go.RowKit
open Seal
theorem leN_snoc (l : List Nat) (c : Nat) : Bson.leN (l ++ [c]) = Bson.leN l + c * 256 ^ l.length := by
  induction l with
  | nil => simp [Bson.leN]
  | cons x r ih =>
    rw [List.cons_append, Bson.leN, ih, Bson.leN, List.length_cons, Nat.pow_succ, Nat.mul_add, ← Nat.add_assoc]
    congr 1
    rw [Nat.mul_comm (256 ^ r.length) 256, ← Nat.mul_assoc, Nat.mul_comm 256 c, Nat.mul_assoc]
theorem or_shift (a c i : Nat) (ha : a < 256 ^ i) : a ||| (c * 256 ^ i) = a + c * 256 ^ i := by
  have e : (256 : Nat) ^ i = 2 ^ (8 * i) := by rw [show (256 : Nat) = 2 ^ 8 from rfl, ← Nat.pow_mul]
  rw [e] at ha ⊢
  have := Nat.shiftLeft_add_eq_or_of_lt ha c
  rw [Nat.shiftLeft_eq] at this
  rw [Nat.or_comm, ← this, Nat.add_comm]
theorem wrapU (n : Int) : IntKind.u64.wrap n = n % 18446744073709551616 := by simp [IntKind.wrap, IntKind.bits, IntKind.signed]
theorem signed_end (l : List Nat) (n x : Nat) (hl : l.length = n) (hn : n = 1 ∨ n = 4 ∨ n = 8) (hx : x = Bson.leN l) (hlt : x < 256 ^ n) :
    wrap64 (IntKind.u64.wrap ((x : Int) * 2 ^ (64 - 8 * n))) / 2 ^ (64 - 8 * n) = Bson.signed l := by
  unfold Bson.signed
  rw [← hx, hl, wrapU, wrap64]
  rcases hn with rfl | rfl | rfl
  · simp only [Nat.reducePow, Nat.reduceMul, Nat.reduceSub, Nat.reduceDiv, Int.reducePow] at hlt ⊢
    split <;> omega
  · simp only [Nat.reducePow, Nat.reduceMul, Nat.reduceSub, Nat.reduceDiv, Int.reducePow] at hlt ⊢
    split <;> omega
  · simp only [Nat.reducePow, Nat.reduceMul, Nat.reduceSub, Nat.reduceDiv, Int.reducePow] at hlt ⊢
    split <;> omega
set_option maxRecDepth 100000 in
set_option maxHeartbeats 1000000 in
theorem signed_any (w : World) (a : Option Addr) (n c : Nat) (l : List Nat) (hl : l.length = n) (hn : n = 1 ∨ n = 4 ∨ n = 8) (ho : Oct l) (hs : SliceIs w a l) :
    Calls Tryd.prog 76 #[.slice a n c] w fun e w' => e = .returned (.int .i64 (Bson.signed l)) ∧ w = w' := by
  have hn8 : n ≤ 8 := by omega
  obtain ⟨g, o, rfl, hr⟩ := hs.resolve_left (fun e => by rw [e] at hl; simp at hl; omega)
  have HL := Lib.hid hl
  have HR := Lib.hid hr
  have HO := Lib.hid ho
  have HN := Lib.hid hn
  clear hl hr ho hs hn
  go_enter Tryd.func76, Tryd.ntmps76
  go_wp2_with fail
  go_loop [3, 9] (fun u i => ∃ (k : Nat) (x : Nat), i = .int .i64 k ∧ u = .int .u64 x ∧ k ≤ n ∧ Hid (x = Bson.leN (l.take k)) ∧ Hid (x < 256 ^ k)) (fun _ i => n - (intOf i).toNat)
  case atStart => exact ⟨0, 0, rfl, rfl, Nat.zero_le _, rfl, (by decide : 0 < 256 ^ 0)⟩
  case round =>
    obtain ⟨k, x, rfl, rfl, hk, hx, hlt0⟩ := hrel
    by_cases hlt : k < n
    · have hcell := HR.out k (by rw [HL.out]; exact hlt)
      have hsn : Bson.leN (l.take (k + 1)) = Bson.leN (l.take k) + l.getD k 0 * 256 ^ k := by
        have hkl : k < l.length := by rw [HL.out]; exact hlt
        rw [List.take_succ_eq_append_getElem hkl, leN_snoc, List.getD_eq_getElem?_getD, List.getElem?_eq_getElem hkl]
        have hm : min k l.length = k := by omega
        simp [hm]
      have hc : l.getD k 0 < 256 := HO.out _ (by rw [List.getD_eq_getElem?_getD, List.getElem?_eq_getElem (by rw [HL.out]; exact hlt)]; simp)
      generalize l.getD k 0 = ch at *
      have HSN := Lib.hid hsn
      clear hsn
      have hp : ch * 256 ^ k < 18446744073709551616 := by
        have h1 : 256 ^ k ≤ 256 ^ 7 := Nat.pow_le_pow_right (by decide) (by omega)
        have h2 : ch * 256 ^ k ≤ 255 * 256 ^ 7 := Nat.mul_le_mul (by omega) h1
        omega
      have hx64 : x < 18446744073709551616 := by
        have h1 : 256 ^ k ≤ 256 ^ 7 := Nat.pow_le_pow_right (by decide) (by omega)
        have := hlt0.out
        omega
      have hsh : IntKind.u64.wrap ((ch : Int) * 2 ^ (8 * k)) = ((ch * 256 ^ k : Nat) : Int) := by
        rw [wrapU, show (256 : Nat) ^ k = 2 ^ (8 * k) by rw [show (256 : Nat) = 2 ^ 8 from rfl, ← Nat.pow_mul]]
        rw [show (256 : Nat) ^ k = 2 ^ (8 * k) by rw [show (256 : Nat) = 2 ^ 8 from rfl, ← Nat.pow_mul]] at hp
        have e : ((ch * 2 ^ (8 * k) : Nat) : Int) = (ch : Int) * 2 ^ (8 * k) := by simp
        rw [← e]; omega
      have hor : bits .or .u64 (x : Int) ((ch * 256 ^ k : Nat) : Int) = ((x + ch * 256 ^ k : Nat) : Int) := by
        rw [u64_or_nat x _ hx64 hp, or_shift x ch k hlt0.out]
      have hnx : Hid (x + ch * 256 ^ k = Bson.leN (l.take (k + 1))) := by show _ = _; rw [HSN.out, ← hx.out]
      have hnl : Hid (x + ch * 256 ^ k < 256 ^ (k + 1)) := by
        show _ < _
        have h1 := hlt0.out
        have h2 : ch * 256 ^ k ≤ 255 * 256 ^ k := Nat.mul_le_mul (by omega) (Nat.le_refl _)
        rw [Nat.pow_succ]; omega
      have HSH := Lib.hid hsh
      have HOR := Lib.hid hor
      clear hsh hor hp hx64
      go_wp2_with fail
      go_round
      case rel => exact ⟨k + 1, x + ch * 256 ^ k, by go_num, by rw [HSH.out, HOR.out], by omega, hnx, hnl⟩
      case measure => simp [intOf]; omega
    · obtain rfl : n = k := by omega
      have HE := Lib.hid (signed_end l n x HL.out HN.out (by rw [hx.out, List.take_of_length_le (by rw [HL.out]; exact Nat.le_refl _)]) hlt0.out)
      go_wp2_with fail
      go_ret
      exact ⟨ret_eq (by rw [← HE.out]; rfl), rfl⟩
end Go.Proofs.YtemckkindbpepaaDoor
end
section
namespace Go.Proofs.YtemckkindbpepaaDoor
open Go.RowKit
open Seal
open Bson (Val)
def CopyPost (w : World) (h : Nat) (x : Val) (e : Ending) (w' : World) : Prop := ∃ v', e = .returned v' ∧ VIn w' (fun g => w.heap.size ≤ g) h x v' ∧ Below w.heap.size w w'
def CopyAt (Q : Nat → Prop) (h : Nat) : Prop := ∀ (x : Val) (v : Value) (w : World), VIn w Q h x v → Calls Tryd.prog 19 #[v] w (CopyPost w h x)
/-- Both boxes of copyField. -/
def BoxF (nm : ByteArray) (c0 c1 c2 c3 c4 c5 : Value) (w W : World) : Prop := W.heap[w.heap.size]? = some (.cells #[Value.string nm, c0, c1, c2, c3, c4, c5] 43 (0, 0)) ∧ W.heap[w.heap.size + 1]? = some (.cells #[Value.string ⟨#[]⟩, .int .i64 0, .int .i64 0, .string ⟨#[]⟩, .slice none 0 0, .slice none 0 0, .slice none 0 0] 43 (0, 0))
theorem BoxF.facts {nm : ByteArray} {c0 c1 c2 c3 c4 c5 : Value} {w W : World} (h : BoxF nm c0 c1 c2 c3 c4 c5 w W) : W.cell? ⟨w.heap.size, 0, none⟩ = some (.string nm) ∧ W.cell? ⟨w.heap.size, 1, none⟩ = some c0 ∧ W.cell? ⟨w.heap.size, 2, none⟩ = some c1 ∧ W.cell? ⟨w.heap.size, 3, none⟩ = some c2 ∧ W.cell? ⟨w.heap.size, 4, none⟩ = some c3 ∧ W.cell? ⟨w.heap.size, 5, none⟩ = some c4 ∧ W.cell? ⟨w.heap.size, 6, none⟩ = some c5 :=
  ⟨(cell_of_row W _ 0 _ _ _ h.1).trans rfl, (cell_of_row W _ 1 _ _ _ h.1).trans rfl, (cell_of_row W _ 2 _ _ _ h.1).trans rfl, (cell_of_row W _ 3 _ _ _ h.1).trans rfl, (cell_of_row W _ 4 _ _ _ h.1).trans rfl, (cell_of_row W _ 5 _ _ _ h.1).trans rfl, (cell_of_row W _ 6 _ _ _ h.1).trans rfl⟩
theorem BoxF.zeros {nm : ByteArray} {c0 c1 c2 c3 c4 c5 : Value} {w W : World} (h : BoxF nm c0 c1 c2 c3 c4 c5 w W) : W.cell? ⟨w.heap.size + 1, 0, none⟩ = some (.string { data := #[] }) ∧ W.cell? ⟨w.heap.size + 1, 1, none⟩ = some (.int .i64 0) ∧ W.cell? ⟨w.heap.size + 1, 2, none⟩ = some (.int .i64 0) ∧ W.cell? ⟨w.heap.size + 1, 3, none⟩ = some (.string { data := #[] }) ∧ W.cell? ⟨w.heap.size + 1, 4, none⟩ = some (.slice none 0 0) ∧ W.cell? ⟨w.heap.size + 1, 5, none⟩ = some (.slice none 0 0) ∧ W.cell? ⟨w.heap.size + 1, 6, none⟩ = some (.slice none 0 0) ∧ W.frozen? ⟨w.heap.size + 1, 0, none⟩ = false ∧ W.frozen? ⟨w.heap.size + 1, 1, none⟩ = false ∧ W.frozen? ⟨w.heap.size + 1, 2, none⟩ = false ∧ W.frozen? ⟨w.heap.size + 1, 3, none⟩ = false ∧ W.frozen? ⟨w.heap.size + 1, 4, none⟩ = false ∧ W.frozen? ⟨w.heap.size + 1, 5, none⟩ = false ∧ W.frozen? ⟨w.heap.size + 1, 6, none⟩ = false :=
  ⟨(cell_of_row W _ 0 _ _ _ h.2).trans rfl, (cell_of_row W _ 1 _ _ _ h.2).trans rfl, (cell_of_row W _ 2 _ _ _ h.2).trans rfl, (cell_of_row W _ 3 _ _ _ h.2).trans rfl, (cell_of_row W _ 4 _ _ _ h.2).trans rfl, (cell_of_row W _ 5 _ _ _ h.2).trans rfl, (cell_of_row W _ 6 _ _ _ h.2).trans rfl, frozen_of_row W _ 0 _ _ h.2, frozen_of_row W _ 1 _ _ h.2, frozen_of_row W _ 2 _ _ h.2, frozen_of_row W _ 3 _ _ h.2, frozen_of_row W _ 4 _ _ h.2, frozen_of_row W _ 5 _ _ h.2, frozen_of_row W _ 6 _ _ h.2⟩
theorem BoxF.after {nm : ByteArray} {c0 c1 c2 c3 c4 c5 : Value} {w W : World} (h : BoxF nm c0 c1 c2 c3 c4 c5 w W) (vs : List Value) : (W.setCells (w.heap.size + 1) 0 vs).cell? ⟨w.heap.size, 0, none⟩ = some (.string nm) ∧ (W.setCells (w.heap.size + 1) 0 vs).cell? ⟨w.heap.size, 1, none⟩ = some c0 ∧ (W.setCells (w.heap.size + 1) 0 vs).cell? ⟨w.heap.size, 2, none⟩ = some c1 ∧ (W.setCells (w.heap.size + 1) 0 vs).cell? ⟨w.heap.size, 3, none⟩ = some c2 ∧ (W.setCells (w.heap.size + 1) 0 vs).cell? ⟨w.heap.size, 4, none⟩ = some c3 ∧ (W.setCells (w.heap.size + 1) 0 vs).cell? ⟨w.heap.size, 5, none⟩ = some c4 ∧ (W.setCells (w.heap.size + 1) 0 vs).cell? ⟨w.heap.size, 6, none⟩ = some c5 := by
  have e : (W.setCells (w.heap.size + 1) 0 vs).heap[w.heap.size]? = _ := (puts_other (w.heap.size + 1) w.heap.size (by omega) vs W 0).trans h.1
  exact ⟨(cell_of_row _ _ 0 _ _ _ e).trans rfl, (cell_of_row _ _ 1 _ _ _ e).trans rfl, (cell_of_row _ _ 2 _ _ _ e).trans rfl, (cell_of_row _ _ 3 _ _ _ e).trans rfl, (cell_of_row _ _ 4 _ _ _ e).trans rfl, (cell_of_row _ _ 5 _ _ _ e).trans rfl, (cell_of_row _ _ 6 _ _ _ e).trans rfl⟩
theorem BoxF.row {nm : ByteArray} {c0 c1 c2 c3 c4 c5 : Value} {w W : World} (h : BoxF nm c0 c1 c2 c3 c4 c5 w W) : Row6 W (w.heap.size + 1) 43 7 := ⟨_, h.2, rfl⟩
theorem BoxF.new (nm : ByteArray) (c0 c1 c2 c3 c4 c5 : Value) (w : World) : BoxF nm c0 c1 c2 c3 c4 c5 w ((w.alloc (.cells #[Value.string nm, c0, c1, c2, c3, c4, c5] 43)).alloc (.cells #[Value.string ⟨#[]⟩, .int .i64 0, .int .i64 0, .string ⟨#[]⟩, .slice none 0 0, .slice none 0 0, .slice none 0 0] 43)) :=
  ⟨(Below.heap_alloc _ _ _ (by simp)).trans (heap_alloc_new w _), by have := heap_alloc_new (w.alloc (.cells #[Value.string nm, c0, c1, c2, c3, c4, c5] 43)) (.cells #[Value.string ⟨#[]⟩, .int .i64 0, .int .i64 0, .string ⟨#[]⟩, .slice none 0 0, .slice none 0 0, .slice none 0 0] 43); simpa using this⟩
theorem BoxF.keep {nm : ByteArray} {c0 c1 c2 c3 c4 c5 : Value} {w W W' : World} (h : BoxF nm c0 c1 c2 c3 c4 c5 w W) (hb : Below W.heap.size W W') : BoxF nm c0 c1 c2 c3 c4 c5 w W' :=
  ⟨(hb.block _ (Array.getElem?_eq_some_iff.1 h.1).1).trans h.1, (hb.block _ (Array.getElem?_eq_some_iff.1 h.2).1).trans h.2⟩
set_option maxRecDepth 100000 in
set_option maxHeartbeats 1000000 in
theorem copyfield_any (Q : Nat → Prop) (h : Nat) (IH0 : CopyAt Q h) (nm : ByteArray) (x : Val) (c0 c1 c2 c3 c4 c5 : Value) (w : World) (hv : VIn w Q h x (.agg #[c0, c1, c2, c3, c4, c5])) :
    Calls Tryd.prog 32 #[.agg #[.string nm, c0, c1, c2, c3, c4, c5]] w fun e w' => ∃ c0 c1 c2 c3 c4 c5, e = .returned (.agg #[.string nm, c0, c1, c2, c3, c4, c5]) ∧ VIn w' (fun g => w.heap.size ≤ g) h x (.agg #[c0, c1, c2, c3, c4, c5]) ∧ Below w.heap.size w w' := by
  have IH := Lib.hid IH0
  have HV := Lib.hid hv
  have HX := Lib.hid (BoxF.new nm c0 c1 c2 c3 c4 c5 w)
  clear hv IH0
  go_enter Tryd.func32, Tryd.ntmps32
  go_wp2_with fail
  generalize hW0 : (w.alloc (Obj.cells #[Value.string nm, c0, c1, c2, c3, c4, c5] 43)).alloc (Obj.cells #[Value.string { data := #[] }, Value.int IntKind.i64 0, Value.int IntKind.i64 0, Value.string { data := #[] }, Value.slice none 0 0, Value.slice none 0 0, Value.slice none 0 0] 43) = W0 at HX ⊢
  have HB0 : Hid (Below w.heap.size w W0) := by
    rw [← hW0]; exact ((Below.refl _ w).alloc (Nat.le_refl _) _).alloc (by simp) _
  have HS0 : Hid (w.heap.size + 2 ≤ W0.heap.size) := by rw [← hW0]; show _ ≤ _; simp
  clear hW0
  have HVW := Lib.hid (VIn.keep HB0.out HV.out)
  have hf := HX.out.facts
  go_region_held3 (fun W => W.cell? ⟨w.heap.size, 0, none⟩ = some (.string nm) ∧ W.cell? ⟨w.heap.size, 1, none⟩ = some c0 ∧ W.cell? ⟨w.heap.size, 2, none⟩ = some c1 ∧ W.cell? ⟨w.heap.size, 3, none⟩ = some c2 ∧ W.cell? ⟨w.heap.size, 4, none⟩ = some c3 ∧ W.cell? ⟨w.heap.size, 5, none⟩ = some c4 ∧ W.cell? ⟨w.heap.size, 6, none⟩ = some c5)
    (first | with_reducible exact hf | with_reducible exact hf2 | with_reducible exact hf3 | go_keep)
    ((go_at_call 19; refine (IH.out x _ W0.drew (VIn.keep ((Below.refl _ W0).drew) HVW.out)).mono ?_; rintro e w' ⟨v', rfl, hv', hb'⟩; obtain ⟨ka, na, sa, ba, fa, la, bl, bc, fl, fc, ll, lc, rfl⟩ := hv'.shape; have HV' := Lib.hid hv'; have HB' : Hid (Below W0.heap.size W0 w') := (Below.refl _ W0).drew.trans hb'; have HX' := Lib.hid (HX.out.keep HB'.out); have hf2 := HX'.out.facts; obtain ⟨g0, g1, g2, g3, g4, g5, g6, g7, g8, g9, g10, g11, g12, g13⟩ := HX'.out.zeros; have hf3 : (((((((w'.setCell ⟨w.heap.size + 1, 0, none⟩ (.string nm)).setCell ⟨w.heap.size + 1, 1, none⟩ (.int .i64 ka)).setCell ⟨w.heap.size + 1, 2, none⟩ (.int .i64 na)).setCell ⟨w.heap.size + 1, 3, none⟩ (.string sa)).setCell ⟨w.heap.size + 1, 4, none⟩ (.slice ba bl bc)).setCell ⟨w.heap.size + 1, 5, none⟩ (.slice fa fl fc)).setCell ⟨w.heap.size + 1, 6, none⟩ (.slice la ll lc)).cell? ⟨w.heap.size, 0, none⟩ = some (.string nm) ∧ (((((((w'.setCell ⟨w.heap.size + 1, 0, none⟩ (.string nm)).setCell ⟨w.heap.size + 1, 1, none⟩ (.int .i64 ka)).setCell ⟨w.heap.size + 1, 2, none⟩ (.int .i64 na)).setCell ⟨w.heap.size + 1, 3, none⟩ (.string sa)).setCell ⟨w.heap.size + 1, 4, none⟩ (.slice ba bl bc)).setCell ⟨w.heap.size + 1, 5, none⟩ (.slice fa fl fc)).setCell ⟨w.heap.size + 1, 6, none⟩ (.slice la ll lc)).cell? ⟨w.heap.size, 1, none⟩ = some c0 ∧ (((((((w'.setCell ⟨w.heap.size + 1, 0, none⟩ (.string nm)).setCell ⟨w.heap.size + 1, 1, none⟩ (.int .i64 ka)).setCell ⟨w.heap.size + 1, 2, none⟩ (.int .i64 na)).setCell ⟨w.heap.size + 1, 3, none⟩ (.string sa)).setCell ⟨w.heap.size + 1, 4, none⟩ (.slice ba bl bc)).setCell ⟨w.heap.size + 1, 5, none⟩ (.slice fa fl fc)).setCell ⟨w.heap.size + 1, 6, none⟩ (.slice la ll lc)).cell? ⟨w.heap.size, 2, none⟩ = some c1 ∧ (((((((w'.setCell ⟨w.heap.size + 1, 0, none⟩ (.string nm)).setCell ⟨w.heap.size + 1, 1, none⟩ (.int .i64 ka)).setCell ⟨w.heap.size + 1, 2, none⟩ (.int .i64 na)).setCell ⟨w.heap.size + 1, 3, none⟩ (.string sa)).setCell ⟨w.heap.size + 1, 4, none⟩ (.slice ba bl bc)).setCell ⟨w.heap.size + 1, 5, none⟩ (.slice fa fl fc)).setCell ⟨w.heap.size + 1, 6, none⟩ (.slice la ll lc)).cell? ⟨w.heap.size, 3, none⟩ = some c2 ∧ (((((((w'.setCell ⟨w.heap.size + 1, 0, none⟩ (.string nm)).setCell ⟨w.heap.size + 1, 1, none⟩ (.int .i64 ka)).setCell ⟨w.heap.size + 1, 2, none⟩ (.int .i64 na)).setCell ⟨w.heap.size + 1, 3, none⟩ (.string sa)).setCell ⟨w.heap.size + 1, 4, none⟩ (.slice ba bl bc)).setCell ⟨w.heap.size + 1, 5, none⟩ (.slice fa fl fc)).setCell ⟨w.heap.size + 1, 6, none⟩ (.slice la ll lc)).cell? ⟨w.heap.size, 4, none⟩ = some c3 ∧ (((((((w'.setCell ⟨w.heap.size + 1, 0, none⟩ (.string nm)).setCell ⟨w.heap.size + 1, 1, none⟩ (.int .i64 ka)).setCell ⟨w.heap.size + 1, 2, none⟩ (.int .i64 na)).setCell ⟨w.heap.size + 1, 3, none⟩ (.string sa)).setCell ⟨w.heap.size + 1, 4, none⟩ (.slice ba bl bc)).setCell ⟨w.heap.size + 1, 5, none⟩ (.slice fa fl fc)).setCell ⟨w.heap.size + 1, 6, none⟩ (.slice la ll lc)).cell? ⟨w.heap.size, 5, none⟩ = some c4 ∧ (((((((w'.setCell ⟨w.heap.size + 1, 0, none⟩ (.string nm)).setCell ⟨w.heap.size + 1, 1, none⟩ (.int .i64 ka)).setCell ⟨w.heap.size + 1, 2, none⟩ (.int .i64 na)).setCell ⟨w.heap.size + 1, 3, none⟩ (.string sa)).setCell ⟨w.heap.size + 1, 4, none⟩ (.slice ba bl bc)).setCell ⟨w.heap.size + 1, 5, none⟩ (.slice fa fl fc)).setCell ⟨w.heap.size + 1, 6, none⟩ (.slice la ll lc)).cell? ⟨w.heap.size, 6, none⟩ = some c5 := HX'.out.after [.string nm, .int .i64 ka, .int .i64 na, .string sa, .slice ba bl bc, .slice fa fl fc, .slice la ll lc]; clear hv' hb'))
  have HBw : Hid (Below w.heap.size w w') := HB0.out.trans (HB'.out.mono (by have := HS0.out; omega))
  have hk := puts_kept (fun g => W0.heap.size ≤ g) (w := w') (G := w.heap.size + 1) (by have := HS0.out; omega) 0 [.string nm, .int .i64 ka, .int .i64 na, .string sa, .slice ba bl bc, .slice fa fl fc, .slice la ll lc]
  have hb9 := puts_below HBw.out (G := w.heap.size + 1) (by omega) [.string nm, .int .i64 ka, .int .i64 na, .string sa, .slice ba bl bc, .slice fa fl fc, .slice la ll lc] 0
  have hv9 := HV'.out.kept hk (Q' := fun g => w.heap.size ≤ g) (fun g hg => by have := HS0.out; omega)
  clear hf2 hf3 hf
  go_wp2_with fail
  exact bodyPost_ret (v := .agg #[.string nm, .int .i64 ka, .int .i64 na, .string sa, .slice ba bl bc, .slice fa fl fc, .slice la ll lc]) (by simp [results, Tryd.results32, go_sem, g0, g1, g2, g3, g4, g5, g6]) rfl ⟨_, _, _, _, _, _, rfl, hv9, hb9⟩
end Go.Proofs.YtemckkindbpepaaDoor
end
