/- BsonFind, BsonIndex, BsonRdr, PathMem. -/
import Derived.WalkLawsBesides
import Derived.Lib.BytesEntry
import Derived.Lib.Bytealg
import Derived.Laws.Externs
import Derived.Deep.QuietTactic
import Derived.BigQuiet
import Derived.IntWalk
import Derived.RegionTactic
import Derived.Laws.Rows
import Derived.OwnWalk
import Derived.Deep.MidRow
import Derived.Test.YtemckkindbpepaaDoorMg5
set_option maxRecDepth 100000
section
namespace Go.Proofs.YtemckkindbpepaaDoor
open Go.RowKit
open Seal
open Bson (Val)
theorem toList_ne {s t : ByteArray} (h : ¬ s = t) : (s.toList == t.toList) = false := by
  rw [beq_eq_false_iff_ne]
  intro e
  rw [ByteArray.toList_eq, ByteArray.toList_eq] at e
  apply h
  obtain ⟨⟨a⟩⟩ := s
  obtain ⟨⟨b⟩⟩ := t
  simp only at e
  rw [e]
theorem VIn.form {w : World} {Q : Nat → Prop} {h : Nat} {x : Val} {v : Value} (hv : VIn w Q h x v) : ∃ (q1 q2 : Int) (q3 : ByteArray) (a1 : Option Addr) (n1 c1 : Nat) (a2 : Option Addr) (n2 c2 : Nat) (a3 : Option Addr) (n3 c3 : Nat), v = .agg #[.int .i64 q1, .int .i64 q2, .string q3, .slice a1 n1 c1, .slice a2 n2 c2, .slice a3 n3 c3] := by
  cases h with
  | zero => exact hv.elim
  | succ h =>
    obtain ⟨ba, fa, la, bc, fc, lc, rfl, _⟩ := hv
    exact ⟨_, _, _, _, _, _, _, _, _, _, _, _, rfl⟩
/-- The place of the first field of that name; as many as there are, if there is none. -/
def place (f : List (ByteArray × Val)) (s : ByteArray) : Nat := f.findIdx fun p => decide (p.1 = s)
def placeI (f : List (ByteArray × Val)) (s : ByteArray) : Int := if place f s < f.length then (place f s : Int) else -1
theorem placeI_any (f : List (ByteArray × Val)) (s : ByteArray) : 0 ≤ placeI f s ↔ (f.any fun p => decide (p.1 = s)) = true := by
  have hl : place f s < f.length ↔ (f.any fun p => decide (p.1 = s)) = true := by
    unfold place
    rw [List.findIdx_lt_length, List.any_eq_true]
  rw [← hl]
  unfold placeI
  split <;> rename_i h
  · exact ⟨fun _ => h, fun _ => by omega⟩
  · exact ⟨fun h2 => by omega, fun h2 => absurd h2 h⟩
set_option maxRecDepth 100000 in
set_option maxHeartbeats 1000000 in
theorem find_any (Q : Nat → Prop) (h : Nat) (w : World) (a : Option Addr) (n c : Nat) (f : List (ByteArray × Val)) (s : ByteArray) (hn : f.length = n) (hm : n ≤ 140737488355328) (hF : FieldsIn w Q (VIn w Q h) a f) :
    Calls Tryd.prog 39 #[.slice a n c, .string s] w fun e w' => e = .returned (.int .i64 (placeI f s)) ∧ Below w.heap.size w w' := by
  have HN := Lib.hid hn
  have HF := Lib.hid hF
  clear hn hF
  go_enter Tryd.func39, Tryd.ntmps39
  go_wp2_with fail
  go_loopw [9] (fun i wr => ∃ k : Nat, i = .int .i64 k ∧ k ≤ n ∧ Hid (k ≤ place f s) ∧ Hid (Below w.heap.size w wr)) (fun i _ => n - (intOf i).toNat)
  case atStart => exact ⟨0, rfl, Nat.zero_le _, Nat.zero_le _, Below.refl _ _⟩
  case round =>
    obtain ⟨k, rfl, hk, hp, hB⟩ := hrel
    by_cases hlt : k < n
    · have hkf : k < f.length := by rw [HN.out]; exact hlt
      obtain ⟨g, o, rfl, _, hall⟩ := HF.out.resolve_left (fun e => by rw [e] at hkf; cases hkf)
      obtain ⟨hnm, _, v', hsix, hV⟩ := hall k hkf
      have hnm := cell_keep hB.out hnm
      obtain ⟨q1, q2, q3, a1, n1, c1, a2, n2, c2, a3, n3, c3, rfl⟩ := VIn.form hV
      obtain ⟨d0, d1, d2, d3, d4, d5, he6, s0, s1, s2, s3, s4, s5⟩ := hsix.keep hB.out
      obtain ⟨rfl, rfl, rfl, rfl, rfl, rfl⟩ : d0 = .int .i64 q1 ∧ d1 = .int .i64 q2 ∧ d2 = .string q3 ∧ d3 = .slice a1 n1 c1 ∧ d4 = .slice a2 n2 c2 ∧ d5 = .slice a3 n3 c3 := by
        simp only [Value.agg.injEq, Array.mk.injEq, List.cons.injEq, and_true] at he6
        obtain ⟨e0, e1, e2, e3, e4, e5⟩ := he6
        exact ⟨e0.symm, e1.symm, e2.symm, e3.symm, e4.symm, e5.symm⟩
      clear he6 hV
      have hg : ∀ i (hi : i < f.length), (fun p : ByteArray × Val => decide (p.1 = s)) f[i] = decide (f[i].1 = s) := fun _ _ => rfl
      by_cases he : f[k].1 = s
      · have hpl : Hid (placeI f s = (k : Int)) := by
          show _ = _
          have h1 : place f s = k := by
            have h2 : place f s ≤ k := by
              unfold place
              refine Nat.le_of_not_lt fun h3 => ?_
              have := List.not_of_lt_findIdx h3
              simp [he] at this
            have := hp.out; omega
          unfold placeI
          rw [h1, if_pos hkf]
        generalize f[k].1 = nm at *
        clear hg hall
        subst he
        go_wp2_with fail
        go_ret
        exact ⟨ret_eq (by rw [hpl.out]; rfl), hB.out.alloc hB.out.size _⟩
      · have hp' : Hid (k + 1 ≤ place f s) := by
          show _ ≤ _
          have h1 : place f s ≠ k := by
            intro h2
            have h3 : place f s < f.length := by omega
            have := List.findIdx_getElem (w := h3)
            simp only [decide_eq_true_eq] at this
            apply he
            rw [← this]
            congr 2
            exact h2.symm
          have := hp.out; omega
        generalize f[k].1 = nm at *
        clear hg hall
        have hne := toList_ne he
        clear he
        go_wp2_with fail
        go_roundw
        case rel => exact ⟨k + 1, by go_num, by omega, hp', hB.out.alloc hB.out.size _⟩
        case measure => simp [intOf]; omega
    · obtain rfl : n = k := by omega
      have hpl : Hid (placeI f s = -1) := by
        show _ = _
        unfold placeI
        rw [if_neg (by have := hp.out; rw [HN.out]; omega)]
      go_wp2_with fail
      go_ret
      exact ⟨ret_eq (by rw [hpl.out]; rfl), hB.out⟩
end Go.Proofs.YtemckkindbpepaaDoor
end
section
namespace Go.Proofs.YtemckkindbpepaaDoor
open Go.RowKit
open Seal
/-- The place of the first 0, or -1. -/
def zeroAt (l : List Nat) : Int := if l.findIdx (· == 0) < l.length then (l.findIdx (· == 0) : Int) else -1
theorem index_zero : ∀ l : List Nat, Oct l → Lib.indexByte (l.map UInt8.ofNat) 0 = zeroAt l
  | [], _ => rfl
  | c :: r, h => by
    have hc : c < 256 := h c (by simp)
    have ih := index_zero r (fun x hx => h x (by simp [hx]))
    rw [List.map_cons, Lib.indexByte, ih]
    unfold zeroAt
    rw [List.findIdx_cons]
    by_cases h0 : c = 0
    · subst h0; simp
    · have h1 : (UInt8.ofNat c == 0) = false := by
        rw [beq_eq_false_iff_ne]
        intro e
        have := congrArg UInt8.toNat e
        simp [Nat.mod_eq_of_lt hc] at this
        exact h0 this
      have h2 : (c == 0) = false := by simpa using h0
      rw [h1, h2]
      simp only [Bool.false_eq_true, if_false, cond_false, List.length_cons]
      by_cases hl : r.findIdx (· == 0) < r.length
      · rw [if_pos hl, if_neg (by simp), if_pos (by omega)]; simp
      · rw [if_neg hl, if_pos (by rfl), if_neg (by omega)]
set_option maxRecDepth 100000 in
set_option maxHeartbeats 1000000 in
theorem index_any (w : World) (g o n c : Nat) (l : List Nat) (hl : l.length = n) (ho : Oct l) (hr : Reads w g o l) :
    Calls Tryd.prog 95 #[.slice (some ⟨g, o, none⟩) n c, .int .u8 0] w fun e w' => e = .returned (.int .i64 (zeroAt l)) ∧ w' = w := by
  have hx : (l.map fun x : Nat => (x : Int)).length = n := by simp [hl]
  have hc : ∀ i, i < n → w.cell? ⟨g, o + i, none⟩ = some (.int .u8 ((l.map fun x : Nat => (x : Int)).getD i 0)) := fun i hi => by
    rw [hr i (by omega)]
    simp [List.getD_eq_getElem?_getD, List.getElem?_eq_getElem (show i < l.length by omega)]
  have hrun := Lib.run_indexByteSlice (P := Tryd.prog) w g o n c (l.map fun x : Nat => (x : Int)) hx hc 0
  have e : Lib.indexByte (Lib.bytesOf (l.map fun x : Nat => (x : Int))) (0 : Int).toNat.toUInt8 = zeroAt l := by
    rw [← index_zero l ho]
    unfold Lib.bytesOf
    rw [List.map_map]
    rfl
  rw [e] at hrun
  have hcall := run_callFunc_extern Tryd.func102 (by kernel_rfl) (by kernel_rfl) (by kernel_rfl) (e := Extern.BytealgIndexByte.indexByte) (by kernel_rfl) #[.slice (some ⟨g, o, none⟩) n c, .int .u8 0] w
  rw [hrun] at hcall
  have HC := Lib.hid hcall
  clear hcall hrun e hc hx hr ho hl
  go_enter Tryd.func95, Tryd.ntmps95
  go_wp2
  rw [HC.out]
  simp only [Result.andThen]
  rw [Oper.upon_value]
  go_wp2
  go_ret
  exact ⟨rfl, rfl⟩
end Go.Proofs.YtemckkindbpepaaDoor
end
section
namespace Go.Proofs.YtemckkindbpepaaDoor
open Go.RowKit
open Seal
open Bson (Val)
/-- Block gr is a reader of the bytes b, at the place k. -/
structure Rdr (w : World) (gr : Nat) (ba : Option Addr) (bc : Nat) (b : List Nat) (k : Nat) : Prop where
  blk : w.heap[gr]? = some (.cells #[.slice ba b.length bc, .int .i64 (k : Int)] 59 (0, 0))
  rd : SliceIs w ba b
  le : k ≤ b.length
  len : b.length ≤ 65536
  cap : b.length ≤ bc
  max : bc ≤ 9223372036854775807
  oct : Oct b
section
variable {w w' : World} {gr bc k : Nat} {ba : Option Addr} {b : List Nat}
theorem Rdr.c0 (h : Rdr w gr ba bc b k) : w.cell? ⟨gr, 0, none⟩ = some (.slice ba b.length bc) := cell_of_row w gr 0 _ _ _ h.blk
theorem Rdr.c1 (h : Rdr w gr ba bc b k) : w.cell? ⟨gr, 1, none⟩ = some (.int .i64 (k : Int)) := cell_of_row w gr 1 _ _ _ h.blk
theorem Rdr.frz (h : Rdr w gr ba bc b k) (j : Nat) : w.frozen? ⟨gr, j, none⟩ = false := frozen_of_row w gr j _ _ h.blk
theorem Rdr.lt (h : Rdr w gr ba bc b k) : gr < w.heap.size := World.block_lt_of_cell? w _ h.c0
/-- A byte never lies in the reader's own block. -/
theorem Rdr.ne (h : Rdr w gr ba bc b k) {g o x : Nat} (hc : w.cell? ⟨g, o, none⟩ = some (.int .u8 (x : Int))) : g ≠ gr := by
  rintro rfl
  have := (cell_of_row w g o _ _ _ h.blk).symm.trans hc
  match o, this with
  | 0, h => simp at h
  | 1, h => simp at h
  | o + 2, h => simp at h
theorem SliceIs.grown {a : Option Addr} {l : List Nat} (hs : SliceIs w a l) (hr : Rdr w gr ba bc b k) (hg : w.grownBy w' (some gr)) : SliceIs w' a l := by
  rcases hs with h | ⟨g, o, e, h⟩
  · exact .inl h
  · refine .inr ⟨g, o, e, fun j hj => ?_⟩
    have h1 := h j hj
    have hne := hr.ne h1
    exact (World.cell?_of_block (a := ⟨g, o + j, none⟩) (hg.block g (World.block_lt_of_cell? w _ h1) (fun e => hne (Option.some.inj e)))).trans h1
theorem Rdr.moved (h : Rdr w gr ba bc b k) (hg : w.grownBy w' (some gr)) {k' : Nat} (hk : k' ≤ b.length) (hb : w'.heap[gr]? = some (.cells #[.slice ba b.length bc, .int .i64 (k' : Int)] 59 (0, 0))) : Rdr w' gr ba bc b k' :=
  ⟨hb, h.rd.grown h hg, hk, h.len, h.cap, h.max, h.oct⟩
theorem Rdr.keep (h : Rdr w gr ba bc b k) (hb : Below w.heap.size w w') : Rdr w' gr ba bc b k :=
  ⟨(hb.block gr h.lt).trans h.blk, h.rd.keep hb, h.le, h.len, h.cap, h.max, h.oct⟩
theorem grown_drewN (w : World) (n gr : Nat) : w.grownBy (w.drewN n) (some gr) := ⟨rfl, rfl, rfl, Nat.le_refl _, fun _ _ _ => rfl⟩
theorem grown_below (hb : Below w.heap.size w w') (gr : Nat) : w.grownBy w' (some gr) := ⟨hb.os, hb.tape, hb.output, hb.size, fun g hg _ => hb.block g hg⟩
theorem grown_trans {w1 : World} (h : w.grownBy w1 (some gr)) (h2 : w1.grownBy w' (some gr)) : w.grownBy w' (some gr) :=
  ⟨h2.os.trans h.os, h2.tape.trans h.tape, h2.output.trans h.output, Nat.le_trans h.size h2.size, fun g hg hne => (h2.block g (Nat.lt_of_lt_of_le hg h.size) hne).trans (h.block g hg hne)⟩
end
set_option maxRecDepth 100000 in
set_option maxHeartbeats 1000000 in
theorem take_no (w : World) (gr : Nat) (ba : Option Addr) (bc : Nat) (b : List Nat) (k n : Nat) (hR : Rdr w gr ba bc b k) (hn : n ≤ 2147483647) (h : b.length < k + n) :
    Calls Tryd.prog 75 #[.pointer (some ⟨gr, 0, none⟩), .int .i64 (n : Int)] w fun e w' => e = .returned (.tuple #[.slice none 0 0, .int .i64 2]) ∧ ∃ q, w' = w.drewN q := by
  have c0 := hR.c0
  have c1 := hR.c1
  have hle := hR.le; have hlen := hR.len
  generalize b.length = L at *
  have hw : IntKind.i64.wrap ((L : Int) - k) = (L : Int) - k := IntWalk.i64_in _ (by omega)
  have ht : (L : Int) - k < n := by omega
  clear hR
  go_enter Tryd.func75, Tryd.ntmps75
  go_wp2_with fail
  go_quiet (fail)
  go_wp2_with fail
  go_ret2
  exact ⟨rfl, _, rfl⟩
/-- What take answers where so many bytes are there. -/
def TakeYes (w : World) (gr : Nat) (ba : Option Addr) (bc : Nat) (b : List Nat) (k n : Nat) (e : Ending) (w' : World) : Prop :=
  ∃ a c, e = .returned (.tuple #[.slice a n c, .int .i64 0]) ∧ n ≤ c ∧ c ≤ 9223372036854775807 ∧ SliceIs w' a ((b.drop k).take n) ∧ Rdr w' gr ba bc b (k + n) ∧ w.grownBy w' (some gr)
theorem SliceIs.cut {w : World} {a : Option Addr} {b : List Nat} (h : SliceIs w a b) (k n : Nat) : SliceIs w (a.map fun x => x.add k) ((b.drop k).take n) := by
  rcases h with h | ⟨g, o, e, h⟩
  · subst h; exact .inl (by simp)
  · subst e
    refine .inr ⟨g, o + k, ?_, h.part k n⟩
    unfold Addr.add
    by_cases hk : k = 0
    · subst hk; rfl
    · simp [hk]
theorem take_fin {w : World} {gr : Nat} {ba : Option Addr} {bc : Nat} {b : List Nat} {k n : Nat} (hR : Rdr w gr ba bc b k) (h : k + n ≤ b.length) (q : Nat) (a : Option Addr) (hs : SliceIs w a ((b.drop k).take n)) {c : Nat} (hc : n ≤ c ∧ c ≤ 9223372036854775807) :
    TakeYes w gr ba bc b k n (.returned (.tuple #[.slice a n c, .int .i64 0])) ((w.drewN q).setCell ⟨gr, 1, none⟩ (.int .i64 ((k : Int) + n))) := by
  have hg : w.grownBy ((w.drewN q).setCell ⟨gr, 1, none⟩ (.int .i64 ((k : Int) + n))) (some gr) := grown_setCell (grown_drewN w q gr) 1 _
  refine ⟨a, c, rfl, hc.1, hc.2, hs.grown hR hg, hR.moved hg h ?_, hg⟩
  rw [heap_setCell_same (w.drewN q) gr 1 _ _ _ (show (w.drewN q).heap[gr]? = _ from hR.blk)]
  simp
set_option maxRecDepth 100000 in
set_option maxHeartbeats 1000000 in
theorem take_yes (w : World) (gr : Nat) (ba : Option Addr) (bc : Nat) (b : List Nat) (k n : Nat) (hR : Rdr w gr ba bc b k) (h : k + n ≤ b.length) :
    Calls Tryd.prog 75 #[.pointer (some ⟨gr, 0, none⟩), .int .i64 (n : Int)] w (TakeYes w gr ba bc b k n) := by
  have c0 := hR.c0
  have c1 := hR.c1
  have f1 := hR.frz 1
  have hle := hR.le; have hlen := hR.len; have hcap := hR.cap; have hmax := hR.max
  have HR := Lib.hid hR
  obtain ⟨L, hL⟩ : ∃ L, L = b.length := ⟨_, rfl⟩
  rw [← hL] at c0 h hle hlen hcap
  have HL := Lib.hid hL
  have hw : IntKind.i64.wrap ((L : Int) - k) = (L : Int) - k := IntWalk.i64_in _ (by omega)
  have hw2 : IntKind.i64.wrap ((k : Int) + n) = (k : Int) + n := IntWalk.i64_in _ (by omega)
  have ht : ¬ (L : Int) - k < n := by omega
  have h1 : (0 : Int) ≤ (k : Int) := by omega
  have h2 : (k : Int) ≤ (k : Int) + n := by omega
  have h3 : (k : Int) + n ≤ (bc : Int) := by omega
  have h4 : ((k : Int) + n).toNat = k + n := by omega
  clear hR hL
  go_enter Tryd.func75, Tryd.ntmps75
  go_wp2_with fail
  go_quiet (fail)
  go_wp2_with fail
  go_quiet (fail)
  go_wp2_with fail
  all_goals go_ret2
  · have hn0 : n = 0 := by omega
    subst hn0
    obtain rfl : bc = k := by omega
    refine take_fin (n := 0) HR.out (by have := HL.out; omega) _ _ (.inl (by simp)) (c := 0) ?_
    omega
  · exact take_fin (n := n) HR.out (by have := HL.out; omega) _ _ (HR.out.rd.cut _ _) (by omega)
end Go.Proofs.YtemckkindbpepaaDoor
end
section
namespace Go.Proofs.YtemckkindbpepaaDoor
open Go.RowKit
open Seal
open Bson (Val)
/-- Cells stored one behind the other. -/
abbrev puts (w : World) (G o : Nat) (vs : List Value) : World := w.setCells G o vs
theorem puts_other (G k : Nat) (h : k ≠ G) : ∀ (vs : List Value) (w : World) (o : Nat), (puts w G o vs).heap[k]? = w.heap[k]?
  | [], _, _ => rfl
  | v :: vs, w, o => (puts_other G k h vs _ (o + 1)).trans (Below.heap_setCell w ⟨G, o, none⟩ v k h)
theorem puts_size (G : Nat) : ∀ (vs : List Value) (w : World) (o : Nat), (puts w G o vs).heap.size = w.heap.size
  | [], _, _ => rfl
  | v :: vs, w, o => (puts_size G vs _ (o + 1)).trans (by simp)
theorem puts_same (G : Nat) (t : TypeId) : ∀ (vs : List Value) (w : World) (o : Nat) (cs : Array Value), w.heap[G]? = some (.cells cs t (0, 0)) →
    ∃ ds, (puts w G o vs).heap[G]? = some (.cells ds t (0, 0)) ∧ ds.size = cs.size ∧ (∀ j, j < o → ds[j]? = cs[j]?) ∧ (∀ j, o + vs.length ≤ j → ds[j]? = cs[j]?) ∧ (o + vs.length ≤ cs.size → ∀ j, j < vs.length → ds[o + j]? = vs[j]?)
  | [], w, o, cs, h => ⟨cs, h, rfl, fun _ _ => rfl, fun _ _ => rfl, fun _ j hj => by simp at hj⟩
  | v :: vs, w, o, cs, h => by
    have h1 := heap_setCell_same w G o cs t v h
    obtain ⟨ds, h2, h3, h4, h5, h6⟩ := puts_same G t vs _ (o + 1) _ h1
    refine ⟨ds, h2, by rw [h3]; simp, fun j hj => ?_, fun j hj => ?_, fun hl j hj => ?_⟩
    · rw [h4 j (by omega), Array.getElem?_setIfInBounds_ne (by omega)]
    · rw [List.length_cons] at hj
      rw [h5 j (by omega), Array.getElem?_setIfInBounds_ne (by omega)]
    · rw [List.length_cons] at hl hj
      cases j with
      | zero =>
        rw [Nat.add_zero, h4 o (by omega), Array.getElem?_setIfInBounds_self_of_lt (by omega)]; rfl
      | succ j =>
        have := h6 (by simp; omega) j (by omega)
        rw [show o + (j + 1) = o + 1 + j by omega, this]; rfl
theorem puts_below {w wr : World} {B G : Nat} (h : Below B w wr) (hG : B ≤ G) : ∀ (vs : List Value) (o : Nat), Below B w (puts wr G o vs)
  | [], _ => h
  | v :: vs, o => by
    have h1 : Below B w (wr.setCell ⟨G, o, none⟩ v) := ⟨h.os, h.tape, h.output, by simpa using h.size, fun k hk => (Below.heap_setCell wr ⟨G, o, none⟩ v k (by show k ≠ G; omega)).trans (h.block k hk)⟩
    exact puts_below h1 hG vs (o + 1)
theorem puts_kept (Q : Nat → Prop) {w : World} {G : Nat} (hQ : ¬ Q G) (o : Nat) (vs : List Value) : Kept Q w (puts w G o vs) :=
  fun g hg _ => puts_other G g (fun e => hQ (e ▸ hg)) vs w o
/-- A row's cells: what stands at a place of it. -/
def Row6 (w : World) (G : Nat) (t : TypeId) (len : Nat) : Prop := ∃ cs, w.heap[G]? = some (.cells cs t (0, 0)) ∧ cs.size = len
theorem Row6.lt {w : World} {G : Nat} {t : TypeId} {len : Nat} (h : Row6 w G t len) : G < w.heap.size := by
  obtain ⟨cs, h, _⟩ := h
  exact (Array.getElem?_eq_some_iff.1 h).1
theorem Row6.at {w : World} {G : Nat} {t : TypeId} {len : Nat} (h : Row6 w G t len) {j : Nat} (hj : j < len) : (∃ v, w.cell? ⟨G, j, none⟩ = some v) ∧ w.frozen? ⟨G, j, none⟩ = false := by
  obtain ⟨cs, h, hl⟩ := h
  exact ⟨⟨cs[j]'(by omega), (cell_of_row w G j cs t _ h).trans (Array.getElem?_eq_getElem (by omega))⟩, frozen_of_row w G j _ _ h⟩
theorem Row6.puts {w : World} {G : Nat} {t : TypeId} {len : Nat} (h : Row6 w G t len) (o : Nat) (vs : List Value) (ho : o + vs.length ≤ len) :
    Row6 (puts w G o vs) G t len ∧ (∀ j, j < o ∨ o + vs.length ≤ j → (Go.Proofs.YtemckkindbpepaaDoor.puts w G o vs).cell? ⟨G, j, none⟩ = w.cell? ⟨G, j, none⟩) ∧ ∀ j, j < vs.length → (Go.Proofs.YtemckkindbpepaaDoor.puts w G o vs).cell? ⟨G, o + j, none⟩ = vs[j]? := by
  obtain ⟨cs, h, hl⟩ := h
  obtain ⟨ds, h2, h3, h4, h5, h6⟩ := puts_same G t vs w o cs h
  refine ⟨⟨ds, h2, by omega⟩, fun j hj => ?_, fun j hj => ?_⟩
  · rw [cell_of_row _ G j _ _ _ h2, cell_of_row _ G j _ _ _ h]
    rcases hj with hj | hj
    · exact h4 j hj
    · exact h5 j hj
  · rw [cell_of_row _ G _ _ _ _ h2, h6 (by omega) j hj]
theorem Row6.keep {w w' : World} {G : Nat} {t : TypeId} {len : Nat} (h : Row6 w G t len) (hb : Below w.heap.size w w') : Row6 w' G t len := by
  have hlt := h.lt
  obtain ⟨cs, h, hl⟩ := h
  exact ⟨cs, (hb.block G hlt).trans h, hl⟩
theorem SixAt.of_puts {w : World} {G : Nat} {t : TypeId} {len : Nat} (h : Row6 w G t len) (o p : Nat) (vs : List Value) (ho : o + vs.length ≤ len) (c0 c1 c2 c3 c4 c5 : Value)
    (h0 : vs[p]? = some c0) (h1 : vs[p + 1]? = some c1) (h2 : vs[p + 2]? = some c2) (h3 : vs[p + 3]? = some c3) (h4 : vs[p + 4]? = some c4) (h5 : vs[p + 5]? = some c5) : SixAt (puts w G o vs) G (o + p) (.agg #[c0, c1, c2, c3, c4, c5]) := by
  obtain ⟨_, _, h7⟩ := h.puts o vs ho
  have hl : p + 5 < vs.length := (List.getElem?_eq_some_iff.1 h5).1
  exact ⟨c0, c1, c2, c3, c4, c5, rfl, (h7 p (by omega)).trans h0, (h7 (p + 1) (by omega)).trans h1, (h7 (p + 2) (by omega)).trans h2, (h7 (p + 3) (by omega)).trans h3, (h7 (p + 4) (by omega)).trans h4, (h7 (p + 5) (by omega)).trans h5⟩
theorem SixAt.puts_before {w : World} {G : Nat} {t : TypeId} {len : Nat} (h : Row6 w G t len) {q : Nat} {v : Value} (hs : SixAt w G q v) (o : Nat) (vs : List Value) (ho : o + vs.length ≤ len) (hq : q + 6 ≤ o) : SixAt (puts w G o vs) G q v := by
  obtain ⟨c0, c1, c2, c3, c4, c5, e, h0, h1, h2, h3, h4, h5⟩ := hs
  obtain ⟨_, h6, _⟩ := h.puts o vs ho
  exact ⟨c0, c1, c2, c3, c4, c5, e, (h6 q (by omega)).trans h0, (h6 (q + 1) (by omega)).trans h1, (h6 (q + 2) (by omega)).trans h2, (h6 (q + 3) (by omega)).trans h3, (h6 (q + 4) (by omega)).trans h4, (h6 (q + 5) (by omega)).trans h5⟩
/-- Every value in memory is six cells. -/
theorem VIn.shape {w : World} {Q : Nat → Prop} {h : Nat} {x : Val} {v : Value} (hv : VIn w Q h x v) : ∃ (k n : Int) (s : ByteArray) (ba fa la : Option Addr) (bl bc fl fc ll lc : Nat), v = .agg #[.int .i64 k, .int .i64 n, .string s, .slice ba bl bc, .slice fa fl fc, .slice la ll lc] := by
  cases h with
  | zero => exact hv.elim
  | succ h =>
    obtain ⟨ba, fa, la, bc, fc, lc, rfl, _⟩ := hv
    exact ⟨_, _, _, _, _, _, _, _, _, _, _, _, rfl⟩
/-- A value's six cells. -/
def six6 (x : Val) (ba fa la : Option Addr) (bc fc lc : Nat) : List Value := [.int .i64 x.kind, .int .i64 x.n, .string x.s, .slice ba x.b.length bc, .slice fa x.f.length fc, .slice la x.l.length lc]
theorem Row6.there {w : World} {G : Nat} {t : TypeId} {len : Nat} (h : Row6 w G t len) (o n : Nat) (hl : o + n ≤ len) : w.there G o n := fun j hj => by
  obtain ⟨⟨v, h1⟩, h2⟩ := h.at (j := o + j) (by omega)
  exact ⟨by rw [h1]; rfl, h2⟩
theorem SixAt.range {w : World} {g p : Nat} {c0 c1 c2 c3 c4 c5 : Value} (h : SixAt w g p (.agg #[c0, c1, c2, c3, c4, c5])) : w.rangeAt g p [c0, c1, c2, c3, c4, c5] := by
  obtain ⟨d0, d1, d2, d3, d4, d5, e, h0, h1, h2, h3, h4, h5⟩ := h
  injection e with e
  injection e with e
  injection e with e0 e; injection e with e1 e; injection e with e2 e; injection e with e3 e; injection e with e4 e; injection e with e5 e
  subst e0 e1 e2 e3 e4 e5
  intro j v hv
  match j with
  | 0 => obtain rfl := Option.some.inj hv; exact h0
  | 1 => obtain rfl := Option.some.inj hv; exact h1
  | 2 => obtain rfl := Option.some.inj hv; exact h2
  | 3 => obtain rfl := Option.some.inj hv; exact h3
  | 4 => obtain rfl := Option.some.inj hv; exact h4
  | 5 => obtain rfl := Option.some.inj hv; exact h5
  | j + 6 => simp at hv
theorem SixAt.cells {w : World} {g p : Nat} {c0 c1 c2 c3 c4 c5 : Value} (h : SixAt w g p (.agg #[c0, c1, c2, c3, c4, c5])) : w.cell? ⟨g, p, none⟩ = some c0 ∧ w.cell? ⟨g, p + 1, none⟩ = some c1 ∧ w.cell? ⟨g, p + 2, none⟩ = some c2 ∧ w.cell? ⟨g, p + 3, none⟩ = some c3 ∧ w.cell? ⟨g, p + 4, none⟩ = some c4 ∧ w.cell? ⟨g, p + 5, none⟩ = some c5 :=
  ⟨h.range 0 _ rfl, h.range 1 _ rfl, h.range 2 _ rfl, h.range 3 _ rfl, h.range 4 _ rfl, h.range 5 _ rfl⟩
/-- The store of a whole struct, as one step of a region that draws. -/
theorem step_store {P : Program} {ops : Array Oper} {o : Oper} {a : Act} {w : World} {K : Act → World → Prop} {Q : Exit → Act → World → Prop} {E : Prop}
    (hg : o.guard = none) (ty : TypeId) (x y : Operand) (ho : o.op = .store ty x y)
    (b off : Nat) (cells : Array Value) (hx : a.eval x = .pointer (some ⟨b, off, none⟩)) (hy : a.eval y = .agg cells)
    (ht : w.there b off cells.size) (hi : (P.info? ty).map (·.size) = some cells.size) (h1 : cells.all (·.oneCell') = true)
    (h : K (a.put o.dst undef) (w.setCells b off cells.toList)) :
    if Region.wanted o (yielded ops a.tmps) = true then Oper.wp P o a w K Q else E := by
  have hw : Region.wanted o (yielded ops a.tmps) = true := by simp [Region.wanted, hg]
  rw [if_pos hw]
  exact wp_store_mid ty x y ho b off cells hx hy ht hi h1 h
theorem one6 (k n : Int) (s : ByteArray) (ba fa la : Option Addr) (bl bc fl fc ll lc : Nat) : (#[Value.int .i64 k, .int .i64 n, .string s, .slice ba bl bc, .slice fa fl fc, .slice la ll lc] : Array Value).all (·.oneCell') = true :=
  all_oneCell_toArray (cs := [Value.int .i64 k, .int .i64 n, .string s, .slice ba bl bc, .slice fa fl fc, .slice la ll lc]) (fun v hv => by simp at hv; rcases hv with rfl | rfl | rfl | rfl | rfl | rfl <;> rfl)
theorem one7 (nm : ByteArray) (k n : Int) (s : ByteArray) (ba fa la : Option Addr) (bl bc fl fc ll lc : Nat) : (#[Value.string nm, .int .i64 k, .int .i64 n, .string s, .slice ba bl bc, .slice fa fl fc, .slice la ll lc] : Array Value).all (·.oneCell') = true :=
  all_oneCell_toArray (cs := [Value.string nm, .int .i64 k, .int .i64 n, .string s, .slice ba bl bc, .slice fa fl fc, .slice la ll lc]) (fun v hv => by simp at hv; rcases hv with rfl | rfl | rfl | rfl | rfl | rfl | rfl <;> rfl)
theorem infoV : (Tryd.prog.info? 27).map (·.size) = some 6 := by kernel_rfl
theorem infoF : (Tryd.prog.info? 43).map (·.size) = some 7 := by kernel_rfl
/-- The first k of a row of values, each with what it holds in blocks behind the row's. -/
def Vals (w : World) (G h : Nat) (l : List Val) (k : Nat) : Prop := ∀ i (hi : i < l.length), i < k → ∃ v, SixAt w G (i * 6) v ∧ VIn w (fun g => G < g) h l[i] v
theorem Vals.none (w : World) (G h : Nat) (l : List Val) : Vals w G h l 0 := fun _ _ hi => absurd hi (Nat.not_lt_zero _)
theorem Vals.keep {w w' : World} {G h : Nat} {l : List Val} {k : Nat} (hv : Vals w G h l k) (hb : Below w.heap.size w w') : Vals w' G h l k := fun i hi hk => by
  obtain ⟨v, h1, h2⟩ := hv i hi hk
  exact ⟨v, h1.keep hb, h2.keep hb⟩
theorem Vals.put {w : World} {G h : Nat} {t : TypeId} {len : Nat} {l : List Val} {k : Nat} (hv : Vals w G h l k) (hr : Row6 w G t len) (hk : k < l.length) (hlen : l.length * 6 = len) {c0 c1 c2 c3 c4 c5 : Value} (hn : VIn w (fun g => G < g) h l[k] (.agg #[c0, c1, c2, c3, c4, c5])) :
    Vals (puts w G (k * 6) [c0, c1, c2, c3, c4, c5]) G h l (k + 1) := by
  intro i hi hik
  have hkp : Kept (fun g => G < g) w (puts w G (k * 6) [c0, c1, c2, c3, c4, c5]) := puts_kept _ (Nat.lt_irrefl G) _ _
  have hfit : k * 6 + [c0, c1, c2, c3, c4, c5].length ≤ len := by simp; omega
  rcases Nat.lt_or_ge i k with hlt | hge
  · obtain ⟨v, h1, h2⟩ := hv i hi hlt
    exact ⟨v, h1.puts_before hr _ _ hfit (by omega), h2.kept hkp (fun _ h => h)⟩
  · obtain rfl : i = k := by omega
    exact ⟨_, SixAt.of_puts hr _ 0 _ hfit _ _ _ _ _ _ rfl rfl rfl rfl rfl rfl, hn.kept hkp (fun _ h => h)⟩
/-- The first k of a row of fields. -/
def Flds (w : World) (G h : Nat) (f : List (ByteArray × Val)) (k : Nat) : Prop := ∀ i (hi : i < f.length), i < k → w.cell? ⟨G, i * 7, none⟩ = some (.string f[i].1) ∧ ∃ v, SixAt w G (i * 7 + 1) v ∧ VIn w (fun g => G < g) h f[i].2 v
theorem Flds.none (w : World) (G h : Nat) (l : List (ByteArray × Val)) : Flds w G h l 0 := fun _ _ hi => absurd hi (Nat.not_lt_zero _)
theorem Flds.keep {w w' : World} {G h : Nat} {f : List (ByteArray × Val)} {k : Nat} (hv : Flds w G h f k) (hb : Below w.heap.size w w') : Flds w' G h f k := fun i hi hk => by
  obtain ⟨h0, v, h1, h2⟩ := hv i hi hk
  exact ⟨cell_keep hb h0, v, h1.keep hb, h2.keep hb⟩
theorem Flds.put {w : World} {G h : Nat} {t : TypeId} {len : Nat} {f : List (ByteArray × Val)} {k : Nat} (hv : Flds w G h f k) (hr : Row6 w G t len) (hk : k < f.length) (hlen : f.length * 7 = len) {c0 c1 c2 c3 c4 c5 : Value} (hn : VIn w (fun g => G < g) h f[k].2 (.agg #[c0, c1, c2, c3, c4, c5])) :
    Flds (puts w G (k * 7) [.string f[k].1, c0, c1, c2, c3, c4, c5]) G h f (k + 1) := by
  intro i hi hik
  have hkp : Kept (fun g => G < g) w (puts w G (k * 7) [.string f[k].1, c0, c1, c2, c3, c4, c5]) := puts_kept _ (Nat.lt_irrefl G) _ _
  have hfit : k * 7 + [Value.string f[k].1, c0, c1, c2, c3, c4, c5].length ≤ len := by simp; omega
  obtain ⟨_, hb4, hat⟩ := hr.puts (k * 7) [.string f[k].1, c0, c1, c2, c3, c4, c5] hfit
  rcases Nat.lt_or_ge i k with hlt | hge
  · obtain ⟨h0, v, h1, h2⟩ := hv i hi hlt
    exact ⟨(hb4 _ (.inl (by omega))).trans h0, v, h1.puts_before hr _ _ hfit (by omega), h2.kept hkp (fun _ h => h)⟩
  · obtain rfl : i = k := by omega
    exact ⟨hat 0 (by simp), _, SixAt.of_puts hr _ 1 _ hfit _ _ _ _ _ _ rfl rfl rfl rfl rfl rfl, hn.kept hkp (fun _ h => h)⟩
end Go.Proofs.YtemckkindbpepaaDoor
end
