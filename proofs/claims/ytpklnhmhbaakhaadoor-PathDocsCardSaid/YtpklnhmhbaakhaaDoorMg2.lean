/- OpenBase, PathSplit, SealRow, TabBase, BsonForth. -/
import Derived.SizedLaws
import Derived.Deep.Strs
import Derived.Laws.AppendOwn
import Derived.Lib.IndexBytes
import Derived.Lib.CutLaws
import Derived.Test.YtpklnhmhbaakhaaDoorRows
import Derived.WalkKit
import Derived.Laws.CopyOwn
import Derived.Deep.Quiet
import Derived.Lib.Hide
import Derived.Laws.BitsAllLaws
import Derived.Test.YtpklnhmhbaakhaaDoorCards
import Derived.Test.YtpklnhmhbaakhaaDoorTie
import Derived.Lib.LaidU8T
import Derived.Deep.DeepWitnessRowRef
import Derived.Lay
import Derived.Test.YtpklnhmhbaakhaaDoorMg0
import Derived.Test.YtpklnhmhbaakhaaDoorMg1
set_option maxRecDepth 100000
section
namespace Go.Proofs.YtpklnhmhbaakhaaDoor
open Go.ChangeShapes Go.WideShapes Go.ChangeAt Go.RowKit
theorem reach_eq : reachBytes = 140737488351232 := rfl
theorem addr_spot {w : World} {a : Addr} {v : Value} (h : w.cell? (a.add 0) = some v) : a = ⟨a.block, a.off, none⟩ := by
  obtain ⟨b, off, spot⟩ := a
  have hspot : spot = none := by simpa [Addr.add] using World.cell?_spot h
  subst hspot
  rfl
theorem cellsStr : Tryd.prog.cellsOf 9 = 1 := by kernel_rfl
theorem weightsAll_mem {H : Type} {P : Program} {e : TypeId} : ∀ {l : List (DataW H)} {d : DataW H}, d ∈ l → ∀ n ∈ d.weights P e, n ∈ DataW.weightsAll P e l
  | d' :: r, d, hd, n, hn => by
    simp only [DataW.weightsAll, List.mem_append]
    rcases List.mem_cons.1 hd with rfl | h
    · exact Or.inl hn
    · exact Or.inr (weightsAll_mem h n hn)
end Go.Proofs.YtpklnhmhbaakhaaDoor
end
section
namespace Go.Proofs.YtpklnhmhbaakhaaDoor
open Go
namespace Path
/-- What lies between the points. -/
def split : List UInt8 → List (List UInt8)
  | [] => [[]]
  | c :: r => if c = 46 then [] :: split r else (c :: (split r).headD []) :: (split r).tail
theorem split_free : ∀ (a : List UInt8), 46 ∉ a → split a = [a]
  | [], _ => rfl
  | c :: r, h => by
    have hc : c ≠ 46 := fun e => h (by simp [e])
    have ih := split_free r (fun e => h (by simp [e]))
    simp [split, hc, ih]
theorem split_cut : ∀ (a b : List UInt8), 46 ∉ a → split (a ++ 46 :: b) = a :: split b
  | [], b, _ => by simp [split]
  | c :: r, b, h => by
    have hc : c ≠ 46 := fun e => h (by simp [e])
    have ih := split_cut r b (fun e => h (by simp [e]))
    simp [split, hc, ih]
theorem split_ne (s : List UInt8) : split s ≠ [] := by
  cases s with
  | nil => simp [split]
  | cons c r => unfold split; split <;> simp
theorem dot_index : ∀ (s : List UInt8), (46 ∉ s ∧ Lib.indexByte s 46 = -1) ∨ ∃ a b, s = a ++ 46 :: b ∧ 46 ∉ a ∧ Lib.indexByte s 46 = a.length
  | [] => .inl ⟨by simp, rfl⟩
  | c :: r => by
    by_cases hc : c = 46
    · subst hc
      exact .inr ⟨[], r, rfl, by simp, by simp [Lib.indexByte]⟩
    · rcases dot_index r with ⟨h1, h2⟩ | ⟨a, b, rfl, h1, h2⟩
      · refine .inl ⟨by simp [h1, Ne.symm hc], ?_⟩
        simp [Lib.indexByte, hc, h2]
      · refine .inr ⟨c :: a, b, rfl, by simp [h1, Ne.symm hc], ?_⟩
        have hn : ¬ ((a.length : Int) = -1) := by omega
        simp [Lib.indexByte, hc, h2, hn]
theorem cut_dot (s : List UInt8) : (46 ∉ s ∧ Lib.cut s [46] = (s, [], false)) ∨ ∃ a b, s = a ++ 46 :: b ∧ 46 ∉ a ∧ Lib.cut s [46] = (a, b, true) := by
  rcases dot_index s with ⟨h1, h2⟩ | ⟨a, b, rfl, h1, h2⟩
  · refine .inl ⟨h1, ?_⟩
    unfold Lib.cut
    rw [Lib.index_one, h2]; rfl
  · refine .inr ⟨a, b, rfl, h1, ?_⟩
    unfold Lib.cut
    rw [Lib.index_one, h2, if_pos (by omega)]
    simp
/-- May a path have such a name? -/
def may (x : List UInt8) : Bool := (!x.isEmpty) && (x.headD 0 != 36) && decide (x.length ≤ 120) && decide (0 ∉ x) && Lib.validD x
/-- The names of a text that is a path. -/
def parse (s : List UInt8) : Option (List (List UInt8)) := if (split s).all may = true ∧ (split s).length ≤ 16 then some (split s) else none
theorem index_none (x : List UInt8) (c : UInt8) : Lib.indexByte x c < 0 ↔ c ∉ x := by
  induction x with
  | nil => simp [Lib.indexByte]
  | cons d r ih =>
    have hg := Lib.indexByte_ge r c
    by_cases hd : d = c
    · subst hd; simp [Lib.indexByte]
    · by_cases h : Lib.indexByte r c = -1
      · have : c ∉ r := ih.1 (by omega)
        simp [Lib.indexByte, hd, h, Ne.symm hd, this]
      · have h2 : ¬ c ∉ r := fun e => h (by have := ih.2 e; omega)
        have h3 : c ∈ r := Classical.not_not.1 h2
        simp [Lib.indexByte, hd, h, h3]
        omega
/-- Texts as cells. -/
def strs (l : List (List UInt8)) : List Value := l.map fun x => .string ⟨x.toArray⟩
theorem strs_length (l : List (List UInt8)) : (strs l).length = l.length := by simp [strs]
theorem strs_append (a b : List (List UInt8)) : strs (a ++ b) = strs a ++ strs b := by simp [strs]
theorem strs_one (l : List (List UInt8)) : ∀ u ∈ strs l, u.oneCell' = true := by
  intro u hu
  obtain ⟨x, _, rfl⟩ := List.mem_map.1 hu
  rfl
/-- A text as a list of bytes, and back. -/
def chars (s : ByteArray) : List UInt8 := s.data.toList
theorem mk_chars (s : ByteArray) : (⟨(chars s).toArray⟩ : ByteArray) = s := by cases s; rfl
theorem chars_mk (l : List UInt8) : chars ⟨l.toArray⟩ = l := rfl
theorem chars_length (s : ByteArray) : (chars s).length = s.size := rfl
end Path
end Go.Proofs.YtpklnhmhbaakhaaDoor
end
section
namespace Go.Proofs.YtpklnhmhbaakhaaDoor
open Go.RowKit
open Seal
def u8 (n : Nat) : Value := .int .u8 (n : Int)
def u8s (l : List Nat) : List Value := l.map u8
/-- Block g of w holds just the bytes l, and may be written. -/
def Row (w : World) (g : Nat) (l : List Nat) : Prop := w.heap[g]? = some (.cells (u8s l).toArray 5 (0, 0))
theorem Row.cell {w : World} {g : Nat} {l : List Nat} (h : Row w g l) {j : Nat} (hj : j < l.length) : w.cell? ⟨g, j, none⟩ = some (.int .u8 ((l.getD j 0 : Nat) : Int)) := by
  rw [cell_of_row w g j _ _ _ h]
  simp [u8s, u8, List.getElem?_eq_getElem hj, List.getD_eq_getElem?_getD]
theorem Row.frozen {w : World} {g : Nat} {l : List Nat} (h : Row w g l) (j : Nat) : w.frozen? ⟨g, j, none⟩ = false := frozen_of_row w g j _ _ h
theorem Row.lt {w : World} {g : Nat} {l : List Nat} (h : Row w g l) : g < w.heap.size := by
  by_cases hg : g < w.heap.size
  · exact hg
  · unfold Row at h; rw [Array.getElem?_eq_none (by omega)] at h; simp at h
theorem Row.set {w : World} {g : Nat} {l : List Nat} (h : Row w g l) (j v : Nat) : Row (w.setCell ⟨g, j, none⟩ (.int .u8 (v : Int))) g (l.set j v) := by
  unfold Row
  rw [heap_setCell_same w g j _ _ _ h]
  simp [u8s, u8, List.map_set]
theorem Row.same {w w' : World} {g : Nat} {l : List Nat} (h : Row w g l) (e : w'.heap[g]? = w.heap[g]?) : Row w' g l := e.trans h
theorem Row.drew {w : World} {g : Nat} {l : List Nat} (h : Row w g l) : Row w.drew g l := h
theorem Row.made {w : World} (n : Nat) : Row (w.alloc (.cells (madeCells #[.int .u8 0] n) 5)) w.heap.size (List.replicate n 0) := by
  unfold Row
  rw [heap_alloc_new w _]
  have : (madeCells #[Value.int .u8 0] n) = (u8s (List.replicate n 0)).toArray := by
    apply Array.toList_inj.1
    rw [toList_madeCells_one]; simp [u8s, u8]
  rw [this]
theorem Row.below {w w' : World} {g B : Nat} {l : List Nat} (h : Row w g l) (hb : Below B w w') (hg : g < B) : Row w' g l := h.same (hb.block g hg)
theorem Row.inj {w : World} {g : Nat} {l m : List Nat} (h : Row w g l) (k : Row w g m) : l = m := by
  have e : (u8s l) = (u8s m) := by
    have := h.symm.trans k
    simpa using this
  unfold u8s at e
  refine (List.map_inj_right ?_).1 e
  intro x y hxy
  simp [u8] at hxy; omega
/-- What is read at an address, as bytes: n of them, from place off of block b on. -/
def Reads (w : World) (b off : Nat) (l : List Nat) : Prop := ∀ j, j < l.length → w.cell? ⟨b, off + j, none⟩ = some (.int .u8 ((l.getD j 0 : Nat) : Int))
theorem Row.reads {w : World} {g : Nat} {l : List Nat} (h : Row w g l) (off n : Nat) (hn : off + n ≤ l.length) : Reads w g off ((l.drop off).take n) := by
  intro j hj
  simp at hj
  rw [h.cell (by omega)]
  simp [List.getD_eq_getElem?_getD, show j < n by omega]
theorem Reads.below {w w' : World} {b off B : Nat} {l : List Nat} (h : Reads w b off l) (hb : Below B w w') (hg : b < B) : Reads w' b off l :=
  fun j hj => (hb.cell (p := ⟨b, off + j, none⟩) hg).trans (h j hj)
theorem Reads.drewN {w : World} {b off : Nat} {l : List Nat} (h : Reads w b off l) (n : Nat) : Reads (w.drewN n) b off l := fun j hj => by rw [World.cell?_drewN]; exact h j hj
theorem Reads.part {w : World} {b off : Nat} {l : List Nat} (h : Reads w b off l) (k n : Nat) : Reads w b (off + k) ((l.drop k).take n) := by
  intro j hj
  simp at hj
  have := h (k + j) (by omega)
  rw [Nat.add_assoc, this]
  simp [List.getD_eq_getElem?_getD, show j < n by omega]
theorem splice_get {α : Type} (L cs : List α) (off j : Nat) (h : off + cs.length ≤ L.length) : (splice L off cs)[j]? = if j < off then L[j]? else if j < off + cs.length then cs[j - off]? else L[j]? := by
  have hl : (L.take off).length = off := by simp; omega
  unfold splice
  by_cases h1 : j < off
  · rw [if_pos h1, List.getElem?_append_left (by omega), List.getElem?_take, if_pos h1]
  · rw [if_neg h1, List.getElem?_append_right (by omega), hl]
    by_cases h2 : j < off + cs.length
    · rw [if_pos h2, List.getElem?_append_left (by omega)]
    · rw [if_neg h2, List.getElem?_append_right (by omega), List.getElem?_drop]
      congr 1; omega
theorem splice_set (cur : List Nat) (off : Nat) (a b : List Nat) (v k : Nat) (ha : a.length = k) (hfit : off + (k + 1) ≤ cur.length) (hb : b = a ++ [v]) : (splice cur off a).set (off + k) v = splice cur off b := by
  subst hb; subst ha
  have hl : (splice cur off a).length = cur.length := length_splice _ _ _ (by omega)
  apply List.ext_getElem?
  intro j
  rw [List.getElem?_set, splice_get _ _ _ _ (by omega), splice_get _ _ _ _ (by simp; omega), hl, List.length_append, List.length_singleton]
  by_cases h1 : off + a.length = j
  · subst h1
    rw [if_pos rfl, if_pos (by omega), if_neg (by omega), if_pos (by omega), Nat.add_sub_cancel_left, List.getElem?_append_right (Nat.le_refl _)]
    simp
  · rw [if_neg h1]
    by_cases h2 : j < off
    · rw [if_pos h2, if_pos h2]
    · rw [if_neg h2, if_neg h2]
      by_cases h3 : j < off + a.length
      · rw [if_pos h3, if_pos (by omega), List.getElem?_append_left (by omega)]
      · rw [if_neg h3, if_neg (by omega)]
theorem grown_setCell {w wr : World} {g : Nat} (h : w.grownBy wr (some g)) (j : Nat) (u : Value) : w.grownBy (wr.setCell ⟨g, j, none⟩ u) (some g) :=
  ⟨h.os, h.tape, h.output, by simpa using h.size, fun k hk hne => (heap_setCell_other wr ⟨g, j, none⟩ k u (fun e => hne (by simp [e]))).trans (h.block k hk hne)⟩
theorem le_snoc (x n : Nat) : le x (n + 1) = le x n ++ [x / 256 ^ n % 256] := by
  induction n generalizing x with
  | zero => simp [le]
  | succ n ih =>
    rw [le, ih, le, List.cons_append, Nat.div_div_eq_div_mul, Nat.pow_succ, Nat.mul_comm 256]
/-- A slice, nil or not, that reads as the Oct l. -/
def SliceIs (w : World) (a : Option Addr) (l : List Nat) : Prop := l = [] ∨ ∃ b off, a = some ⟨b, off, none⟩ ∧ Reads w b off l
theorem SliceIs.below {w w' : World} {a : Option Addr} {B : Nat} {l : List Nat} (h : SliceIs w a l) (hb : Below B w w') (hB : ∀ p, a = some p → p.block < B) : SliceIs w' a l := by
  rcases h with h | ⟨b, off, rfl, h⟩
  · exact .inl h
  · exact .inr ⟨b, off, rfl, h.below hb (hB _ rfl)⟩
theorem SliceIs.drewN {w : World} {a : Option Addr} {l : List Nat} (h : SliceIs w a l) (n : Nat) : SliceIs (w.drewN n) a l := h.imp id fun ⟨b, off, e, h⟩ => ⟨b, off, e, h.drewN n⟩
theorem Reads.keep {w w' : World} {b off : Nat} {l : List Nat} (h : Reads w b off l) (hb : Below w.heap.size w w') : Reads w' b off l :=
  fun j hj => (hb.cell (p := ⟨b, off + j, none⟩) (World.block_lt_of_cell? w _ (h j hj))).trans (h j hj)
theorem SliceIs.keep {w w' : World} {a : Option Addr} {l : List Nat} (h : SliceIs w a l) (hb : Below w.heap.size w w') : SliceIs w' a l :=
  h.imp id fun ⟨b, off, e, h⟩ => ⟨b, off, e, h.keep hb⟩
/-- Is the number a power of two? as seal asks it. -/
theorem pow_and_part : ∀ a : Fin 65, ∀ b : Fin 64, 64 ≤ 64 * a.val + b.val → 64 * a.val + b.val ≤ 4096 → (((64 * a.val + b.val) &&& (64 * a.val + b.val - 1)) = 0 ↔ pageOk (64 * a.val + b.val) = true) := by decide +kernel
theorem pow_and (p : Nat) (h0 : 64 ≤ p) (h1 : p ≤ 4096) : (p &&& (p - 1)) = 0 ↔ pageOk p = true := by
  have h := pow_and_part ⟨p / 64, by omega⟩ ⟨p % 64, Nat.mod_lt _ (by decide)⟩
  simp only at h
  rw [show 64 * (p / 64) + p % 64 = p by omega] at h
  exact h h0 h1
theorem i64_and_nat (a b : Nat) (ha : a < 9223372036854775808) (hb : b < 9223372036854775808) : bits .and .i64 (a : Int) (b : Int) = ((a &&& b : Nat) : Int) :=
  (bits_nat .i64 63 (by decide) (fun n h0 h1 => by rw [IntKind.wrap_i64]; omega) a b (by omega) (by omega)).1
end Go.Proofs.YtpklnhmhbaakhaaDoor
end
section
namespace Go.Proofs.YtpklnhmhbaakhaaDoor
open Go.ChangeShapes Go.WideShapes Go.ChangeAt Go.RowKit
def laidList : List (String × DataW Unit) := [("unicode/utf8.acceptRanges", Rows.laid_unicode_utf8_acceptRanges), ("unicode/utf8.first", Rows.laid_unicode_utf8_first)]
theorem laidList_eq : laidList = [("unicode/utf8.acceptRanges", Lib.acceptData), ("unicode/utf8.first", Lib.firstData)] := by kernel_rfl
noncomputable def laidWorld (os : Os) : World := World.laidAll Tryd.prog os laidList
theorem laid_met_all (os : Os) (args : Array Value) : laidMet Tryd.prog laidList ((laidWorld os).forCall (fun _ _ => 0) ⟨#[], args, []⟩).memory :=
  laidMet_laidAll args (by kernel_rfl) (by kernel_rfl)
end Go.Proofs.YtpklnhmhbaakhaaDoor
end
section
namespace Bson
open Go
theorem size_zero {s : ByteArray} (h : s.size = 0) : s = none_ := by
  apply bytes_inj
  have h1 := bytes_length s
  rw [h] at h1
  rw [List.length_eq_zero_iff.1 h1]
  rfl
theorem bare_n {k n : Int} {s : ByteArray} {b : List Nat} {f : List (ByteArray × Val)} {l : List Val} {sn ss sb sf sl : Bool} (h : bare (.mk k n s b f l) sn ss sb sf sl = true) :
    (sn = false → n = 0) ∧ (ss = false → s = none_) ∧ (sb = false → b = []) ∧ (sf = false → f = []) ∧ (sl = false → l = []) := by
  simp only [bare, Val.n, Val.s, Val.b, Val.f, Val.l, Bool.and_eq_true, Bool.or_eq_true, beq_iff_eq, List.isEmpty_iff] at h
  obtain ⟨⟨⟨⟨h1, h2⟩, h3⟩, h4⟩, h5⟩ := h
  refine ⟨fun e => ?_, fun e => ?_, fun e => ?_, fun e => ?_, fun e => ?_⟩
  · rcases h1 with h | h
    · rw [e] at h; cases h
    · exact h
  · rcases h2 with h | h
    · rw [e] at h; cases h
    · exact size_zero h
  · rcases h3 with h | h
    · rw [e] at h; cases h
    · exact h
  · rcases h4 with h | h
    · rw [e] at h; cases h
    · exact h
  · rcases h5 with h | h
    · rw [e] at h; cases h
    · exact h
theorem scalar_app {v : Val} {bs : List Nat} (h : scalar v = some bs) (hlen : bs.length < 2147483648) (r : List Nat) : scalarOf (code v.kind) (bs ++ r) = .ok v r ∧ known (code v.kind) = true := by
  obtain ⟨k, n, s, b, f, l⟩ := v
  change scalarP k n s b (.mk k n s b f l) = some bs at h
  unfold scalarP at h
  show scalarOf (code k) (bs ++ r) = _ ∧ known (code k) = true
  by_cases c : k = 1 ∨ k = 2 ∨ k = 12
  · rw [if_pos c] at h
    split at h
    · rename_i hb
      obtain ⟨h1, h2, h3, h4, h5⟩ := bare_n hb
      obtain rfl := h1 rfl; obtain rfl := h2 rfl; obtain rfl := h3 rfl; obtain rfl := h4 rfl; obtain rfl := h5 rfl
      injection h with h; subst h
      rcases c with rfl | rfl | rfl <;> exact ⟨by simp [scalarOf, code], rfl⟩
    · cases h
  rw [if_neg c] at h
  by_cases c : k = 3
  · rw [if_pos c] at h; subst c
    split at h
    · rename_i hb
      simp only [Bool.and_eq_true, decide_eq_true_eq] at hb
      obtain ⟨⟨hb, h6⟩, h7⟩ := hb
      obtain ⟨h1, h2, h3, h4, h5⟩ := bare_n hb
      obtain rfl := h2 rfl; obtain rfl := h3 rfl; obtain rfl := h4 rfl; obtain rfl := h5 rfl
      injection h with h; subst h
      refine ⟨?_, rfl⟩
      show number 3 4 (leI n 4 ++ r) = _
      unfold number
      rw [take_app (leI_length _ _)]
      simp only [Res.bind, signed_leI4 n h6 h7]
    · cases h
  rw [if_neg c] at h
  by_cases c : k = 4 ∨ k = 11
  · rw [if_pos c] at h
    split at h
    · rename_i hb
      simp only [Bool.and_eq_true, decide_eq_true_eq] at hb
      obtain ⟨⟨hb, h6⟩, h7⟩ := hb
      obtain ⟨h1, h2, h3, h4, h5⟩ := bare_n hb
      obtain rfl := h2 rfl; obtain rfl := h3 rfl; obtain rfl := h4 rfl; obtain rfl := h5 rfl
      injection h with h; subst h
      rcases c with rfl | rfl
      · refine ⟨?_, rfl⟩
        show number 4 8 (leI n 8 ++ r) = _
        unfold number
        rw [take_app (leI_length _ _)]
        simp only [Res.bind, signed_leI8 n h6 h7]
      · refine ⟨?_, rfl⟩
        show number 11 8 (leI n 8 ++ r) = _
        unfold number
        rw [take_app (leI_length _ _)]
        simp only [Res.bind, signed_leI8 n h6 h7]
    · cases h
  rw [if_neg c] at h
  by_cases c : k = 10
  · rw [if_pos c] at h; subst c
    split at h
    · rename_i hb
      simp only [Bool.and_eq_true, Bool.or_eq_true, beq_iff_eq] at hb
      obtain ⟨hb, h6⟩ := hb
      obtain ⟨h1, h2, h3, h4, h5⟩ := bare_n hb
      obtain rfl := h2 rfl; obtain rfl := h3 rfl; obtain rfl := h4 rfl; obtain rfl := h5 rfl
      injection h with h; subst h
      refine ⟨?_, rfl⟩
      show bool (leI n 1 ++ r) = _
      have h6' : n = 0 ∨ n = 1 := h6
      unfold bool
      rw [take_app (leI_length _ _)]
      simp only [Res.bind, signed_leI1 n (by omega) (by omega)]
      rw [if_neg (by omega)]
    · cases h
  rw [if_neg c] at h
  by_cases c : k = 5
  · rw [if_pos c] at h; subst c
    split at h
    · rename_i hb
      simp only [Bool.and_eq_true] at hb
      obtain ⟨hb, hu⟩ := hb
      have hu' : u8 s = true := hu
      obtain ⟨h1, h2, h3, h4, h5⟩ := bare_n hb
      obtain rfl := h1 rfl; obtain rfl := h3 rfl; obtain rfl := h4 rfl; obtain rfl := h5 rfl
      injection h with h
      subst h
      simp only [List.length_append, leI_length, bytes_length, List.length_singleton] at hlen
      refine ⟨?_, rfl⟩
      show text (leI ((s.size : Int) + 1) 4 ++ (bytes s ++ [0]) ++ r) = _
      unfold text
      rw [List.append_assoc, take_app (leI_length _ _)]
      simp only [Res.bind, signed_leI4 ((s.size : Int) + 1) (by omega) (by omega)]
      rw [if_neg (by omega), show ((s.size : Int) + 1).toNat = s.size + 1 by omega, take_app (by simp [bytes_length])]
      have e1 : (bytes s ++ [0]).length - 1 = (bytes s).length := by simp
      simp only [e1]
      have e2 : (bytes s ++ [0]).getD (bytes s).length 0 = 0 := by simp [List.getD_eq_getElem?_getD]
      have e3 : (bytes s ++ [0]).take (bytes s).length = bytes s := by simp
      rw [e2, e3, ofBytes_bytes, hu', if_neg (by simp), if_neg (by simp)]
    · cases h
  rw [if_neg c] at h
  by_cases c : k = 8
  · rw [if_pos c] at h; subst c
    split at h
    · rename_i hb
      obtain ⟨h1, h2, h3, h4, h5⟩ := bare_n hb
      obtain rfl := h1 rfl; obtain rfl := h2 rfl; obtain rfl := h4 rfl; obtain rfl := h5 rfl
      injection h with h
      subst h
      simp only [List.length_append, leI_length, List.length_cons] at hlen
      refine ⟨?_, rfl⟩
      show blob (leI (b.length : Int) 4 ++ (0 :: b) ++ r) = _
      unfold blob
      have e0 : leI (b.length : Int) 4 ++ (0 :: b) ++ r = (leI (b.length : Int) 4 ++ [0]) ++ (b ++ r) := by simp
      rw [e0, take_app (by simp [leI_length])]
      have e1 : (leI (b.length : Int) 4 ++ [0]).take 4 = leI (b.length : Int) 4 := by
        rw [List.take_append_of_le_length (by rw [leI_length]; omega), List.take_of_length_le (by rw [leI_length]; omega)]
      have e2 : (leI (b.length : Int) 4 ++ [0]).getD 4 0 = 0 := by
        have := leI_length (b.length : Int) 4
        rw [List.getD_eq_getElem?_getD, List.getElem?_append_right (by omega), this]; rfl
      simp only [Res.bind, e1, e2, signed_leI4 (b.length : Int) (by omega) (by omega)]
      rw [if_neg (by omega), show ((b.length : Int)).toNat = b.length by omega, take_app rfl]
    · cases h
  rw [if_neg c] at h
  by_cases c : k = 9
  · rw [if_pos c] at h; subst c
    split at h
    · rename_i hb
      simp only [Bool.and_eq_true, beq_iff_eq] at hb
      obtain ⟨hb, hl⟩ := hb
      have hl' : b.length = 12 := hl
      obtain ⟨h1, h2, h3, h4, h5⟩ := bare_n hb
      obtain rfl := h1 rfl; obtain rfl := h2 rfl; obtain rfl := h4 rfl; obtain rfl := h5 rfl
      injection h with h
      subst h
      refine ⟨?_, rfl⟩
      show ident (b ++ r) = _
      unfold ident
      rw [take_app hl']; rfl
    · cases h
  rw [if_neg c] at h
  cases h
theorem row_cons {e : Val → Option (List Nat)} {s : ByteArray} {v : Val} {fs : List (ByteArray × Val)} {bs : List Nat} (h : row e ((s, v) :: fs) = some bs) :
    ∃ x y, nameMay s = true ∧ e v = some x ∧ row e fs = some y ∧ bs = code v.kind :: (bytes s ++ (0 :: (x ++ y))) := by
  rw [row] at h
  cases h1 : nameMay s with
  | false => rw [h1] at h; simp at h
  | true =>
    cases h2 : e v with
    | none => rw [h1, h2] at h; simp at h
    | some x =>
      cases h3 : row e fs with
      | none => rw [h1, h2, h3] at h; simp at h
      | some y =>
        rw [h1, h2, h3] at h
        injection h with h
        exact ⟨x, y, rfl, rfl, rfl, h.symm⟩
theorem row_length {e : Val → Option (List Nat)} : ∀ {fs : List (ByteArray × Val)} {bs : List Nat}, row e fs = some bs → 2 * fs.length ≤ bs.length
  | [], _, h => by simp
  | (s, v) :: fs, bs, h => by
    obtain ⟨x, y, _, _, hy, rfl⟩ := row_cons h
    have := row_length hy
    simp; omega
theorem loop_app {val : Nat → List Nat → Res Val} {e : Val → Option (List Nat)} {M : Nat} (hv : ∀ v bs, e v = some bs → bs.length < M → ∀ r, val (code v.kind) (bs ++ r) = .ok v r ∧ known (code v.kind) = true) (list : Bool) :
    ∀ (fs : List (ByteArray × Val)) (bs : List Nat) (acc : List (ByteArray × Val)) (g : Nat) (r : List Nat), row e fs = some bs → bs.length < M → fs.length < g → ((acc ++ fs).map (·.1)).Nodup →
      (list = true → ∀ i, i < fs.length → (fs.map (·.1))[i]? = some (digits (acc.length + i))) → loop val list g acc (bs ++ (0 :: r)) = .ok (acc ++ fs) r
  | [], bs, acc, g, r, h, _, hg, _, _ => by
    injection h with h; subst h
    obtain ⟨g, rfl⟩ : ∃ g', g = g' + 1 := ⟨g - 1, by simp at hg; omega⟩
    simp [loop]
  | (s, v) :: fs, bs, acc, g, r, h, hM, hg, hnd, hli => by
    obtain ⟨x, y, hs, hx, hy, rfl⟩ := row_cons h
    obtain ⟨g, rfl⟩ : ∃ g', g = g' + 1 := ⟨g - 1, by simp at hg; omega⟩
    have hk := (hv v x hx (by simp at hM; omega) []).2
    have hk0 : code v.kind ≠ 0 := by intro e0; rw [e0] at hk; simp [known] at hk
    have e0 : code v.kind :: (bytes s ++ (0 :: (x ++ y))) ++ (0 :: r) = code v.kind :: (bytes s ++ (0 :: (x ++ (y ++ (0 :: r))))) := by simp
    rw [e0, loop, if_neg hk0, hk, if_neg (by simp), name_app hs]
    simp only [Res.bind]
    have hn : ¬ (list = true ∧ s ≠ digits acc.length) := by
      rintro ⟨h1, h2⟩
      have := hli h1 0 (by simp)
      simp at this
      exact h2 this
    have ht : ¬ (acc.any (fun p => decide (p.1 = s)) = true) := by
      rw [any_name]
      intro hm
      rw [List.map_append, List.nodup_append] at hnd
      exact hnd.2.2 s hm s (by simp) rfl
    rw [if_neg hn, if_neg ht, (hv v x hx (by simp at hM; omega) _).1]
    simp only
    rw [loop_app hv list fs y (acc ++ [(s, v)]) g r hy (by simp at hM; omega) (by simp at hg; omega) (by simpa using hnd) (fun h1 i hi => by
      have := hli h1 (i + 1) (by simpa using hi)
      simp only [List.map_cons, List.getElem?_cons_succ] at this
      rw [this]; congr 2; simp; omega)]
    simp
theorem named_names (l : List Val) : ∀ i, i < l.length → ((named l).map (·.1))[i]? = some (digits i) := by
  intro i hi
  simp [named, hi]
theorem named_vals (l : List Val) : (named l).map (·.2) = l := by
  unfold named
  apply List.ext_getElem
  · simp
  · intro i h1 h2; simp
theorem named_length (l : List Val) : (named l).length = l.length := by simp [named]
theorem named_nodup (l : List Val) : ((named l).map (·.1)).Nodup := by
  unfold List.Nodup
  rw [List.pairwise_iff_getElem]
  intro i j hi hj hij h
  have hj' : j < l.length := by simpa [named] using hj
  have e1 := named_names l i (by omega)
  have e2 := named_names l j hj'
  rw [List.getElem?_eq_getElem (by omega)] at e1
  rw [List.getElem?_eq_getElem (by omega)] at e2
  rw [h] at e1
  have := digits_inj (Option.some.inj (e1.symm.trans e2))
  omega
theorem wrap_take (l r : List Nat) : take 4 (wrap l ++ r) = .ok (leI ((l.length : Int) + 5) 4) (l ++ (0 :: r)) := by
  have : wrap l ++ r = leI ((l.length : Int) + 5) 4 ++ (l ++ (0 :: r)) := by simp [wrap]
  rw [this, take_app (leI_length _ _)]
mutual
theorem doc_app : ∀ (d : Nat) (v : Val) (bs : List Nat) (list : Bool) (outer : Option Nat), enc d v = some bs → bs.length < 2147483648 → v.kind = (if list then 7 else 6) → (∀ n, outer = some n → bs.length = n) → ∀ r, doc d list outer (bs ++ r) = .ok v r
  | 0, v, bs, list, outer, h, _, hk, _ => by
    have := scalar_kind h
    cases list <;> simp at hk <;> omega
  | d + 1, v, bs, list, outer, h, hlen, hk, ho => by
    intro r
    obtain ⟨k, n, s, b, f, l⟩ := v
    have hk' : k = (if list then 7 else 6) := hk
    have fin : ∀ fs y, bs = wrap y → row (enc d) fs = some y → (fs.map (·.1)).Nodup → (list = true → ∀ i, i < fs.length → (fs.map (·.1))[i]? = some (digits i)) → shut list fs = .mk k n s b f l → doc (d + 1) list outer (bs ++ r) = .ok (.mk k n s b f l) r := by
      intro fs y hbs hy hnd hnm hsh
      subst hbs
      rw [wrap_length] at hlen
      have hs : signed (leI ((y.length : Int) + 5) 4) = (y.length : Int) + 5 := signed_leI4 _ (by omega) (by omega)
      rw [doc, wrap_take]
      simp only [Res.bind, hs]
      have h1 : ¬ ((y.length : Int) + 5 < 5 ∨ ∃ n, outer = some n ∧ (y.length : Int) + 5 ≠ n) := by
        rintro (h | ⟨n, h1, h2⟩)
        · omega
        · have := ho n h1; rw [wrap_length] at this; omega
      have hg : fs.length < (y ++ (0 :: r)).length + 1 := by have := row_length hy; simp; omega
      rw [if_neg h1, loop_app (M := 2147483648) (fun v bs h1 h2 r => val_app d v bs h1 h2 r) list fs y [] _ r hy (by omega) hg (by simpa using hnd) (fun h i hi => by simpa using hnm h i hi)]
      simp only [List.nil_append]
      rw [if_neg (by simp [wrap_length]; try omega), hsh]
    cases list with
    | false =>
      obtain rfl : k = 6 := hk'
      rw [enc_doc _ _ rfl] at h
      split at h
      · rename_i hb
        simp only [Bool.and_eq_true, decide_eq_true_eq] at hb
        obtain ⟨hb, hnd⟩ := hb
        obtain ⟨h1, h2, h3, h4, h5⟩ := bare_n hb
        obtain rfl := h1 rfl; obtain rfl := h2 rfl; obtain rfl := h3 rfl; obtain rfl := h5 rfl
        cases hy : row (enc d) f with
        | none => have : (row (enc d) f).map wrap = some bs := h
                  rw [hy] at this; cases this
        | some y =>
          have : (row (enc d) f).map wrap = some bs := h
          rw [hy] at this
          injection this with this
          exact fin f y this.symm hy hnd (fun h => by cases h) rfl
      · cases h
    | true =>
      obtain rfl : k = 7 := hk'
      rw [enc_list _ _ rfl] at h
      split at h
      · rename_i hb
        obtain ⟨h1, h2, h3, h4, h5⟩ := bare_n hb
        obtain rfl := h1 rfl; obtain rfl := h2 rfl; obtain rfl := h3 rfl; obtain rfl := h4 rfl
        cases hy : row (enc d) (named l) with
        | none => have : (row (enc d) (named l)).map wrap = some bs := h
                  rw [hy] at this; cases this
        | some y =>
          have : (row (enc d) (named l)).map wrap = some bs := h
          rw [hy] at this
          injection this with this
          exact fin (named l) y this.symm hy (named_nodup l) (fun _ i hi => named_names l i (by rwa [named_length] at hi)) (by simp [shut, named_vals])
      · cases h
theorem val_app : ∀ (d : Nat) (v : Val) (bs : List Nat), enc d v = some bs → bs.length < 2147483648 → ∀ r, valOf (doc d false none) (doc d true none) (code v.kind) (bs ++ r) = .ok v r ∧ known (code v.kind) = true := by
  intro d v bs h hlen r
  by_cases c6 : v.kind = 6
  · have := doc_app d v bs false none h hlen (by simpa using c6) (fun n h => by cases h) r
    rw [c6]
    exact ⟨this, rfl⟩
  by_cases c7 : v.kind = 7
  · have := doc_app d v bs true none h hlen (by simpa using c7) (fun n h => by cases h) r
    rw [c7]
    exact ⟨this, rfl⟩
  · have hs : scalar v = some bs := by
      cases d with
      | zero => exact h
      | succ d => rwa [enc, if_neg c6, if_neg c7] at h
    obtain ⟨h1, h2⟩ := scalar_app hs hlen r
    refine ⟨?_, h2⟩
    have n3 : code v.kind ≠ 3 := by
      intro e; rw [e] at h1; simp [scalarOf] at h1
    have n4 : code v.kind ≠ 4 := by
      intro e; rw [e] at h1; simp [scalarOf] at h1
    rw [valOf, if_neg n3, if_neg n4, h1]
end
/-- WHAT IS ENCODED IS DECODED AS IT. -/
theorem enc_decode {v : Val} {bs : List Nat} (h : enc 32 v = some bs) (hk : v.kind = 6) (hlen : bs.length ≤ 65536) : decode bs = (0, v) := by
  unfold decode
  rw [if_neg (by omega)]
  have := doc_app 32 v bs false (some bs.length) h (by omega) (by simpa using hk) (fun n h => by injection h) []
  rw [List.append_nil] at this
  rw [this]
/-- A document's bytes, cut, or with one behind them. -/
theorem cut_short {l : List Nat} (h : l.length < 4) : decode l = (2, zero) := by
  unfold decode
  rw [if_neg (by omega), doc, take, if_pos h]; rfl
theorem cut_form {bs l : List Nat} {v : Val} (h : enc 32 v = some bs) (hk : v.kind = 6) (hlen : bs.length ≤ 65536) (hl : 4 ≤ l.length) (hh : l.take 4 = bs.take 4) (hne : l.length ≠ bs.length) (hm : l.length ≤ 65536) : decode l = (4, zero) := by
  obtain ⟨k, n, s, b, f, l'⟩ := v
  obtain rfl : k = 6 := hk
  rw [enc_doc _ _ rfl] at h
  split at h
  · cases hy : row (enc 31) f with
    | none => have : (row (enc 31) f).map wrap = some bs := h
              rw [hy] at this; cases this
    | some y =>
      have : (row (enc 31) f).map wrap = some bs := h
      rw [hy] at this
      injection this with this
      subst this
      rw [wrap_length] at hlen hne
      have e4 : (wrap y).take 4 = leI ((y.length : Int) + 5) 4 := by
        unfold wrap
        rw [List.take_append_of_le_length (by rw [leI_length]; omega), List.take_of_length_le (by rw [leI_length]; omega)]
      unfold decode
      rw [if_neg (by omega), doc, take, if_neg (by omega), hh, e4]
      simp only [Res.bind]
      rw [if_pos (.inr ⟨_, rfl, by rw [signed_leI4 _ (by omega) (by omega)]; omega⟩)]
  · cases h
end Bson
end
