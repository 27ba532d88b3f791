/- A BLOCK OF BYTES IN MEMORY, AS A LIST OF NUMBERS (no walk): what a store, a copy, a new block do to it. -/
import Derived.Test.YtfkkckadnookoaaSealMath
import Derived.Test.YtfkkckadnookoaaRows
import Derived.WalkKit
import Derived.Laws.CopyOwn
import Derived.Deep.Quiet
import Derived.Lib.Hide
import Derived.Laws.BitsAllLaws
namespace Go.Proofs.Ytfkkckadnookoaa
open Go.RowKit
open Seal
def u8 (n : Nat) : Value := .int .u8 (n : Int)
def u8s (l : List Nat) : List Value := l.map u8
/-- Block g of w holds just the bytes l, and may be written. -/
def Row (w : World) (g : Nat) (l : List Nat) : Prop := w.heap[g]? = some (.cells (u8s l).toArray 5 (0, 0))
theorem Row.cell {w : World} {g : Nat} {l : List Nat} (h : Row w g l) {j : Nat} (hj : j < l.length) : w.cell? ⟨g, j, none⟩ = some (.int .u8 ((l.getD j 0 : Nat) : Int)) := by
  rw [cell_of_row w g j _ _ _ h]
  simp [u8s, u8, List.getElem?_eq_getElem hj, List.getD_eq_getElem?_getD]
theorem Row.frozen {w : World} {g : Nat} {l : List Nat} (h : Row w g l) (j : Nat) : w.frozen? ⟨g, j, none⟩ = false := frozen_of_row w g j _ _ h
theorem Row.lt {w : World} {g : Nat} {l : List Nat} (h : Row w g l) : g < w.heap.size := by
  by_cases hg : g < w.heap.size
  · exact hg
  · unfold Row at h; rw [Array.getElem?_eq_none (by omega)] at h; simp at h
theorem Row.set {w : World} {g : Nat} {l : List Nat} (h : Row w g l) (j v : Nat) : Row (w.setCell ⟨g, j, none⟩ (.int .u8 (v : Int))) g (l.set j v) := by
  unfold Row
  rw [heap_setCell_same w g j _ _ _ h]
  simp [u8s, u8, List.map_set]
theorem Row.same {w w' : World} {g : Nat} {l : List Nat} (h : Row w g l) (e : w'.heap[g]? = w.heap[g]?) : Row w' g l := e.trans h
theorem Row.drew {w : World} {g : Nat} {l : List Nat} (h : Row w g l) : Row w.drew g l := h
theorem Row.made {w : World} (n : Nat) : Row (w.alloc (.cells (madeCells #[.int .u8 0] n) 5)) w.heap.size (List.replicate n 0) := by
  unfold Row
  rw [heap_alloc_new w _]
  have : (madeCells #[Value.int .u8 0] n) = (u8s (List.replicate n 0)).toArray := by
    apply Array.toList_inj.1
    rw [toList_madeCells_one]; simp [u8s, u8]
  rw [this]
theorem Row.below {w w' : World} {g B : Nat} {l : List Nat} (h : Row w g l) (hb : Below B w w') (hg : g < B) : Row w' g l := h.same (hb.block g hg)
theorem Row.inj {w : World} {g : Nat} {l m : List Nat} (h : Row w g l) (k : Row w g m) : l = m := by
  have e : (u8s l) = (u8s m) := by
    have := h.symm.trans k
    simpa using this
  unfold u8s at e
  refine (List.map_inj_right ?_).1 e
  intro x y hxy
  simp [u8] at hxy; omega
/-- What is read at an address, as bytes: n of them, from place off of block b on. -/
def Reads (w : World) (b off : Nat) (l : List Nat) : Prop := ∀ j, j < l.length → w.cell? ⟨b, off + j, none⟩ = some (.int .u8 ((l.getD j 0 : Nat) : Int))
theorem Row.reads {w : World} {g : Nat} {l : List Nat} (h : Row w g l) (off n : Nat) (hn : off + n ≤ l.length) : Reads w g off ((l.drop off).take n) := by
  intro j hj
  simp at hj
  rw [h.cell (by omega)]
  simp [List.getD_eq_getElem?_getD, show j < n by omega]
theorem Reads.below {w w' : World} {b off B : Nat} {l : List Nat} (h : Reads w b off l) (hb : Below B w w') (hg : b < B) : Reads w' b off l :=
  fun j hj => (hb.cell (p := ⟨b, off + j, none⟩) hg).trans (h j hj)
theorem Reads.drewN {w : World} {b off : Nat} {l : List Nat} (h : Reads w b off l) (n : Nat) : Reads (w.drewN n) b off l := fun j hj => by rw [World.cell?_drewN]; exact h j hj
theorem Reads.part {w : World} {b off : Nat} {l : List Nat} (h : Reads w b off l) (k n : Nat) : Reads w b (off + k) ((l.drop k).take n) := by
  intro j hj
  simp at hj
  have := h (k + j) (by omega)
  rw [Nat.add_assoc, this]
  simp [List.getD_eq_getElem?_getD, show j < n by omega]
theorem splice_get {α : Type} (L cs : List α) (off j : Nat) (h : off + cs.length ≤ L.length) : (splice L off cs)[j]? = if j < off then L[j]? else if j < off + cs.length then cs[j - off]? else L[j]? := by
  have hl : (L.take off).length = off := by simp; omega
  unfold splice
  by_cases h1 : j < off
  · rw [if_pos h1, List.getElem?_append_left (by omega), List.getElem?_take, if_pos h1]
  · rw [if_neg h1, List.getElem?_append_right (by omega), hl]
    by_cases h2 : j < off + cs.length
    · rw [if_pos h2, List.getElem?_append_left (by omega)]
    · rw [if_neg h2, List.getElem?_append_right (by omega), List.getElem?_drop]
      congr 1; omega
theorem splice_set (cur : List Nat) (off : Nat) (a b : List Nat) (v k : Nat) (ha : a.length = k) (hfit : off + (k + 1) ≤ cur.length) (hb : b = a ++ [v]) : (splice cur off a).set (off + k) v = splice cur off b := by
  subst hb; subst ha
  have hl : (splice cur off a).length = cur.length := length_splice _ _ _ (by omega)
  apply List.ext_getElem?
  intro j
  rw [List.getElem?_set, splice_get _ _ _ _ (by omega), splice_get _ _ _ _ (by simp; omega), hl, List.length_append, List.length_singleton]
  by_cases h1 : off + a.length = j
  · subst h1
    rw [if_pos rfl, if_pos (by omega), if_neg (by omega), if_pos (by omega), Nat.add_sub_cancel_left, List.getElem?_append_right (Nat.le_refl _)]
    simp
  · rw [if_neg h1]
    by_cases h2 : j < off
    · rw [if_pos h2, if_pos h2]
    · rw [if_neg h2, if_neg h2]
      by_cases h3 : j < off + a.length
      · rw [if_pos h3, if_pos (by omega), List.getElem?_append_left (by omega)]
      · rw [if_neg h3, if_neg (by omega)]
theorem grown_setCell {w wr : World} {g : Nat} (h : w.grownBy wr (some g)) (j : Nat) (u : Value) : w.grownBy (wr.setCell ⟨g, j, none⟩ u) (some g) :=
  ⟨h.os, h.tape, h.output, by simpa using h.size, fun k hk hne => (heap_setCell_other wr ⟨g, j, none⟩ k u (fun e => hne (by simp [e]))).trans (h.block k hk hne)⟩
theorem le_snoc (x n : Nat) : le x (n + 1) = le x n ++ [x / 256 ^ n % 256] := by
  induction n generalizing x with
  | zero => simp [le]
  | succ n ih =>
    rw [le, ih, le, List.cons_append, Nat.div_div_eq_div_mul, Nat.pow_succ, Nat.mul_comm 256]
/-- A slice, nil or not, that reads as the Oct l. -/
def SliceIs (w : World) (a : Option Addr) (l : List Nat) : Prop := l = [] ∨ ∃ b off, a = some ⟨b, off, none⟩ ∧ Reads w b off l
theorem SliceIs.below {w w' : World} {a : Option Addr} {B : Nat} {l : List Nat} (h : SliceIs w a l) (hb : Below B w w') (hB : ∀ p, a = some p → p.block < B) : SliceIs w' a l := by
  rcases h with h | ⟨b, off, rfl, h⟩
  · exact .inl h
  · exact .inr ⟨b, off, rfl, h.below hb (hB _ rfl)⟩
theorem SliceIs.drewN {w : World} {a : Option Addr} {l : List Nat} (h : SliceIs w a l) (n : Nat) : SliceIs (w.drewN n) a l := h.imp id fun ⟨b, off, e, h⟩ => ⟨b, off, e, h.drewN n⟩
theorem Reads.keep {w w' : World} {b off : Nat} {l : List Nat} (h : Reads w b off l) (hb : Below w.heap.size w w') : Reads w' b off l :=
  fun j hj => (hb.cell (p := ⟨b, off + j, none⟩) (World.block_lt_of_cell? w _ (h j hj))).trans (h j hj)
theorem SliceIs.keep {w w' : World} {a : Option Addr} {l : List Nat} (h : SliceIs w a l) (hb : Below w.heap.size w w') : SliceIs w' a l :=
  h.imp id fun ⟨b, off, e, h⟩ => ⟨b, off, e, h.keep hb⟩
/-- Is the number a power of two? as seal asks it. -/
theorem pow_and_part : ∀ a : Fin 65, ∀ b : Fin 64, 64 ≤ 64 * a.val + b.val → 64 * a.val + b.val ≤ 4096 → (((64 * a.val + b.val) &&& (64 * a.val + b.val - 1)) = 0 ↔ pageOk (64 * a.val + b.val) = true) := by decide +kernel
theorem pow_and (p : Nat) (h0 : 64 ≤ p) (h1 : p ≤ 4096) : (p &&& (p - 1)) = 0 ↔ pageOk p = true := by
  have h := pow_and_part ⟨p / 64, by omega⟩ ⟨p % 64, Nat.mod_lt _ (by decide)⟩
  simp only at h
  rw [show 64 * (p / 64) + p % 64 = p by omega] at h
  exact h h0 h1
theorem i64_and_nat (a b : Nat) (ha : a < 9223372036854775808) (hb : b < 9223372036854775808) : bits .and .i64 (a : Int) (b : Int) = ((a &&& b : Nat) : Int) :=
  (bits_nat .i64 63 (by decide) (fun n h0 h1 => by rw [IntKind.wrap_i64]; omega) a b (by omega) (by omega)).1
end Go.Proofs.Ytfkkckadnookoaa
