/- aqueductlaw7.numbers, OrderNumbers. -/
import Derived.Test.YtngdjdhfciodjaaOrderAwake
import Derived.Test.YtngdjdhfciodjaaOrderBy
import Derived.Test.YtngdjdhfciodjaaOrderRowsIn
import Derived.Test.YtngdjdhfciodjaaBoxes
import Derived.Deep.RegionHeld3
import Derived.Deep.DeepCutAuto
namespace Go.Proofs.Ytngdjdhfciodjaa
open Go.RowKit
open Seal
open Bson (Val)
theorem less_lists : ∀ l m : List UInt8, (Lib.compareBytes l m = -1 ∧ Op.bytesLess l m = true ∧ l ≠ m) ∨ (Lib.compareBytes l m = 0 ∧ Op.bytesLess l m = false ∧ l = m) ∨ (Lib.compareBytes l m = 1 ∧ Op.bytesLess l m = false ∧ l ≠ m)
  | [], [] => .inr (.inl ⟨rfl, rfl, rfl⟩)
  | [], _ :: _ => .inl ⟨rfl, rfl, by simp⟩
  | _ :: _, [] => .inr (.inr ⟨rfl, rfl, by simp⟩)
  | a :: r, b :: q => by
    rw [Lib.compareBytes, Op.bytesLess]
    rcases less_lists r q with ⟨h1, h2, h3⟩ | ⟨h1, h2, h3⟩ | ⟨h1, h2, h3⟩
    all_goals
      by_cases hab : a < b
      · exact .inl ⟨by rw [if_pos hab], by simp [hab], fun e => by injection e with e _; subst e; exact absurd hab (UInt8.lt_irrefl a)⟩
      · by_cases hba : b < a
        · exact .inr (.inr ⟨by rw [if_neg hab, if_pos hba], by
            have : (a == b) = false := by rw [beq_eq_false_iff_ne]; intro e; subst e; exact absurd hba (UInt8.lt_irrefl a)
            simp [hab, this], fun e => by injection e with e _; subst e; exact absurd hba (UInt8.lt_irrefl a)⟩)
        · have e : a = b := UInt8.le_antisymm (UInt8.not_lt.1 hba) (UInt8.not_lt.1 hab)
          subst e
          first
            | exact .inl ⟨by rw [if_neg hab, if_neg hba]; exact h1, by simp [h2], fun x => h3 (by injection x)⟩
            | exact .inr (.inl ⟨by rw [if_neg hab, if_neg hba]; exact h1, by simp [h2], by rw [h3]⟩)
            | exact .inr (.inr ⟨by rw [if_neg hab, if_neg hba]; exact h1, by simp [h2], fun x => h3 (by injection x)⟩)
theorem less_text (s t : ByteArray) : (Order.text s t = -1 ∧ Op.bytesLess s.toList t.toList = true) ∨ (Order.text s t = 0 ∧ Op.bytesLess s.toList t.toList = false ∧ (s.toList == t.toList) = true) ∨ (Order.text s t = 1 ∧ Op.bytesLess s.toList t.toList = false ∧ (s.toList == t.toList) = false) := by
  have es : s.toList = s.data.toList := ByteArray.toList_eq ..
  have et : t.toList = t.data.toList := ByteArray.toList_eq ..
  rw [es, et, ← Order.compareBytes_text]
  rcases less_lists s.data.toList t.data.toList with ⟨h1, h2, h3⟩ | ⟨h1, h2, h3⟩ | ⟨h1, h2, h3⟩
  · exact .inl ⟨h1, h2⟩
  · exact .inr (.inl ⟨h1, h2, by simpa using h3⟩)
  · exact .inr (.inr ⟨h1, h2, by simpa using h3⟩)
def Six (x y : Int) (s t : ByteArray) (w W : World) : Prop := (IsBox W (w.heap.size) (.int .i64 4) (.int .i64 x) (.string ⟨#[]⟩) (.slice none 0 0) (.slice none 0 0) (.slice none 0 0) ∧ IsBox W (w.heap.size + 1) (.int .i64 4) (.int .i64 y) (.string ⟨#[]⟩) (.slice none 0 0) (.slice none 0 0) (.slice none 0 0) ∧ IsBox W (w.heap.size + 1 + 1) (.int .i64 11) (.int .i64 x) (.string ⟨#[]⟩) (.slice none 0 0) (.slice none 0 0) (.slice none 0 0) ∧ IsBox W (w.heap.size + 1 + 1 + 1) (.int .i64 11) (.int .i64 y) (.string ⟨#[]⟩) (.slice none 0 0) (.slice none 0 0) (.slice none 0 0) ∧ IsBox W (w.heap.size + 1 + 1 + 1 + 1) (.int .i64 5) (.int .i64 0) (.string s) (.slice none 0 0) (.slice none 0 0) (.slice none 0 0) ∧ IsBox W (w.heap.size + 1 + 1 + 1 + 1 + 1) (.int .i64 5) (.int .i64 0) (.string t) (.slice none 0 0) (.slice none 0 0) (.slice none 0 0)) ∧ Below w.heap.size w W ∧ w.heap.size + 6 ≤ W.heap.size
def RowOf (W : World) (R : Nat) (cs : Array Value) : Prop := W.heap[R]? = some (.cells cs 26 (0, 0))
theorem RowOf.keep {W W' : World} {R : Nat} {cs : Array Value} (h : RowOf W R cs) (hb : Below W.heap.size W W') : RowOf W' R cs := (hb.block _ (Array.getElem?_eq_some_iff.1 h).1).trans h
theorem RowOf.other {W : World} {R : Nat} {cs : Array Value} (h : RowOf W R cs) {m : Nat} (hm : R ≠ m) (o : Nat) (vs : List Value) : RowOf (puts W m o vs) R cs := (puts_other m R hm vs W o).trans h
theorem RowOf.lt {W : World} {R : Nat} {cs : Array Value} (h : RowOf W R cs) : R < W.heap.size := (Array.getElem?_eq_some_iff.1 h).1
theorem RowOf.new (w : World) (cs : Array Value) : RowOf (w.alloc (.cells cs 26)) w.heap.size cs := heap_alloc_new w _
theorem Six.keep {x y : Int} {s t : ByteArray} {w W W' : World} (h : Six x y s t w W) (hb : Below W.heap.size W W') : Six x y s t w W' := by
  obtain ⟨⟨h1, h2, h3, h4, h5, h6⟩, hb0, hs⟩ := h
  exact ⟨⟨h1.keep hb, h2.keep hb, h3.keep hb, h4.keep hb, h5.keep hb, h6.keep hb⟩, hb0.trans (hb.mono (by omega)), by have := hb.size; omega⟩
theorem Six.other {x y : Int} {s t : ByteArray} {w W : World} (h : Six x y s t w W) {m : Nat} (hm : w.heap.size + 6 ≤ m) (o : Nat) (vs : List Value) : Six x y s t w (puts W m o vs) := by
  obtain ⟨⟨h1, h2, h3, h4, h5, h6⟩, hb0, hs⟩ := h
  exact ⟨⟨h1.other (by omega) o vs, h2.other (by omega) o vs, h3.other (by omega) o vs, h4.other (by omega) o vs, h5.other (by omega) o vs, h6.other (by omega) o vs⟩, puts_below hb0 (by omega) _ _, by rw [puts_size]; exact hs⟩
theorem six_new (x y : Int) (s t : ByteArray) (w : World) : Six x y s t w ((((((w.alloc (.cells #[.int .i64 4, .int .i64 x, .string ⟨#[]⟩, .slice none 0 0, .slice none 0 0, .slice none 0 0] 26)).alloc (.cells #[.int .i64 4, .int .i64 y, .string ⟨#[]⟩, .slice none 0 0, .slice none 0 0, .slice none 0 0] 26)).alloc (.cells #[.int .i64 11, .int .i64 x, .string ⟨#[]⟩, .slice none 0 0, .slice none 0 0, .slice none 0 0] 26)).alloc (.cells #[.int .i64 11, .int .i64 y, .string ⟨#[]⟩, .slice none 0 0, .slice none 0 0, .slice none 0 0] 26)).alloc (.cells #[.int .i64 5, .int .i64 0, .string s, .slice none 0 0, .slice none 0 0, .slice none 0 0] 26)).alloc (.cells #[.int .i64 5, .int .i64 0, .string t, .slice none 0 0, .slice none 0 0, .slice none 0 0] 26)) := by
  have b : ∀ (W : World) (o : Obj), Below W.heap.size W (W.alloc o) := fun W o => (Below.refl _ _).alloc (Nat.le_refl _) _
  have h0 := IsBox.new w (.int .i64 4) (.int .i64 x) (.string ⟨#[]⟩) (.slice none 0 0) (.slice none 0 0) (.slice none 0 0)
  have h1 := IsBox.new (w.alloc (.cells #[.int .i64 4, .int .i64 x, .string ⟨#[]⟩, .slice none 0 0, .slice none 0 0, .slice none 0 0] 26)) (.int .i64 4) (.int .i64 y) (.string ⟨#[]⟩) (.slice none 0 0) (.slice none 0 0) (.slice none 0 0)
  have h0 := h0.keep (b (w.alloc (.cells #[.int .i64 4, .int .i64 x, .string ⟨#[]⟩, .slice none 0 0, .slice none 0 0, .slice none 0 0] 26)) (.cells #[.int .i64 4, .int .i64 y, .string ⟨#[]⟩, .slice none 0 0, .slice none 0 0, .slice none 0 0] 26))
  have h2 := IsBox.new ((w.alloc (.cells #[.int .i64 4, .int .i64 x, .string ⟨#[]⟩, .slice none 0 0, .slice none 0 0, .slice none 0 0] 26)).alloc (.cells #[.int .i64 4, .int .i64 y, .string ⟨#[]⟩, .slice none 0 0, .slice none 0 0, .slice none 0 0] 26)) (.int .i64 11) (.int .i64 x) (.string ⟨#[]⟩) (.slice none 0 0) (.slice none 0 0) (.slice none 0 0)
  have h0 := h0.keep (b ((w.alloc (.cells #[.int .i64 4, .int .i64 x, .string ⟨#[]⟩, .slice none 0 0, .slice none 0 0, .slice none 0 0] 26)).alloc (.cells #[.int .i64 4, .int .i64 y, .string ⟨#[]⟩, .slice none 0 0, .slice none 0 0, .slice none 0 0] 26)) (.cells #[.int .i64 11, .int .i64 x, .string ⟨#[]⟩, .slice none 0 0, .slice none 0 0, .slice none 0 0] 26))
  have h1 := h1.keep (b ((w.alloc (.cells #[.int .i64 4, .int .i64 x, .string ⟨#[]⟩, .slice none 0 0, .slice none 0 0, .slice none 0 0] 26)).alloc (.cells #[.int .i64 4, .int .i64 y, .string ⟨#[]⟩, .slice none 0 0, .slice none 0 0, .slice none 0 0] 26)) (.cells #[.int .i64 11, .int .i64 x, .string ⟨#[]⟩, .slice none 0 0, .slice none 0 0, .slice none 0 0] 26))
  have h3 := IsBox.new (((w.alloc (.cells #[.int .i64 4, .int .i64 x, .string ⟨#[]⟩, .slice none 0 0, .slice none 0 0, .slice none 0 0] 26)).alloc (.cells #[.int .i64 4, .int .i64 y, .string ⟨#[]⟩, .slice none 0 0, .slice none 0 0, .slice none 0 0] 26)).alloc (.cells #[.int .i64 11, .int .i64 x, .string ⟨#[]⟩, .slice none 0 0, .slice none 0 0, .slice none 0 0] 26)) (.int .i64 11) (.int .i64 y) (.string ⟨#[]⟩) (.slice none 0 0) (.slice none 0 0) (.slice none 0 0)
  have h0 := h0.keep (b (((w.alloc (.cells #[.int .i64 4, .int .i64 x, .string ⟨#[]⟩, .slice none 0 0, .slice none 0 0, .slice none 0 0] 26)).alloc (.cells #[.int .i64 4, .int .i64 y, .string ⟨#[]⟩, .slice none 0 0, .slice none 0 0, .slice none 0 0] 26)).alloc (.cells #[.int .i64 11, .int .i64 x, .string ⟨#[]⟩, .slice none 0 0, .slice none 0 0, .slice none 0 0] 26)) (.cells #[.int .i64 11, .int .i64 y, .string ⟨#[]⟩, .slice none 0 0, .slice none 0 0, .slice none 0 0] 26))
  have h1 := h1.keep (b (((w.alloc (.cells #[.int .i64 4, .int .i64 x, .string ⟨#[]⟩, .slice none 0 0, .slice none 0 0, .slice none 0 0] 26)).alloc (.cells #[.int .i64 4, .int .i64 y, .string ⟨#[]⟩, .slice none 0 0, .slice none 0 0, .slice none 0 0] 26)).alloc (.cells #[.int .i64 11, .int .i64 x, .string ⟨#[]⟩, .slice none 0 0, .slice none 0 0, .slice none 0 0] 26)) (.cells #[.int .i64 11, .int .i64 y, .string ⟨#[]⟩, .slice none 0 0, .slice none 0 0, .slice none 0 0] 26))
  have h2 := h2.keep (b (((w.alloc (.cells #[.int .i64 4, .int .i64 x, .string ⟨#[]⟩, .slice none 0 0, .slice none 0 0, .slice none 0 0] 26)).alloc (.cells #[.int .i64 4, .int .i64 y, .string ⟨#[]⟩, .slice none 0 0, .slice none 0 0, .slice none 0 0] 26)).alloc (.cells #[.int .i64 11, .int .i64 x, .string ⟨#[]⟩, .slice none 0 0, .slice none 0 0, .slice none 0 0] 26)) (.cells #[.int .i64 11, .int .i64 y, .string ⟨#[]⟩, .slice none 0 0, .slice none 0 0, .slice none 0 0] 26))
  have h4 := IsBox.new ((((w.alloc (.cells #[.int .i64 4, .int .i64 x, .string ⟨#[]⟩, .slice none 0 0, .slice none 0 0, .slice none 0 0] 26)).alloc (.cells #[.int .i64 4, .int .i64 y, .string ⟨#[]⟩, .slice none 0 0, .slice none 0 0, .slice none 0 0] 26)).alloc (.cells #[.int .i64 11, .int .i64 x, .string ⟨#[]⟩, .slice none 0 0, .slice none 0 0, .slice none 0 0] 26)).alloc (.cells #[.int .i64 11, .int .i64 y, .string ⟨#[]⟩, .slice none 0 0, .slice none 0 0, .slice none 0 0] 26)) (.int .i64 5) (.int .i64 0) (.string s) (.slice none 0 0) (.slice none 0 0) (.slice none 0 0)
  have h0 := h0.keep (b ((((w.alloc (.cells #[.int .i64 4, .int .i64 x, .string ⟨#[]⟩, .slice none 0 0, .slice none 0 0, .slice none 0 0] 26)).alloc (.cells #[.int .i64 4, .int .i64 y, .string ⟨#[]⟩, .slice none 0 0, .slice none 0 0, .slice none 0 0] 26)).alloc (.cells #[.int .i64 11, .int .i64 x, .string ⟨#[]⟩, .slice none 0 0, .slice none 0 0, .slice none 0 0] 26)).alloc (.cells #[.int .i64 11, .int .i64 y, .string ⟨#[]⟩, .slice none 0 0, .slice none 0 0, .slice none 0 0] 26)) (.cells #[.int .i64 5, .int .i64 0, .string s, .slice none 0 0, .slice none 0 0, .slice none 0 0] 26))
  have h1 := h1.keep (b ((((w.alloc (.cells #[.int .i64 4, .int .i64 x, .string ⟨#[]⟩, .slice none 0 0, .slice none 0 0, .slice none 0 0] 26)).alloc (.cells #[.int .i64 4, .int .i64 y, .string ⟨#[]⟩, .slice none 0 0, .slice none 0 0, .slice none 0 0] 26)).alloc (.cells #[.int .i64 11, .int .i64 x, .string ⟨#[]⟩, .slice none 0 0, .slice none 0 0, .slice none 0 0] 26)).alloc (.cells #[.int .i64 11, .int .i64 y, .string ⟨#[]⟩, .slice none 0 0, .slice none 0 0, .slice none 0 0] 26)) (.cells #[.int .i64 5, .int .i64 0, .string s, .slice none 0 0, .slice none 0 0, .slice none 0 0] 26))
  have h2 := h2.keep (b ((((w.alloc (.cells #[.int .i64 4, .int .i64 x, .string ⟨#[]⟩, .slice none 0 0, .slice none 0 0, .slice none 0 0] 26)).alloc (.cells #[.int .i64 4, .int .i64 y, .string ⟨#[]⟩, .slice none 0 0, .slice none 0 0, .slice none 0 0] 26)).alloc (.cells #[.int .i64 11, .int .i64 x, .string ⟨#[]⟩, .slice none 0 0, .slice none 0 0, .slice none 0 0] 26)).alloc (.cells #[.int .i64 11, .int .i64 y, .string ⟨#[]⟩, .slice none 0 0, .slice none 0 0, .slice none 0 0] 26)) (.cells #[.int .i64 5, .int .i64 0, .string s, .slice none 0 0, .slice none 0 0, .slice none 0 0] 26))
  have h3 := h3.keep (b ((((w.alloc (.cells #[.int .i64 4, .int .i64 x, .string ⟨#[]⟩, .slice none 0 0, .slice none 0 0, .slice none 0 0] 26)).alloc (.cells #[.int .i64 4, .int .i64 y, .string ⟨#[]⟩, .slice none 0 0, .slice none 0 0, .slice none 0 0] 26)).alloc (.cells #[.int .i64 11, .int .i64 x, .string ⟨#[]⟩, .slice none 0 0, .slice none 0 0, .slice none 0 0] 26)).alloc (.cells #[.int .i64 11, .int .i64 y, .string ⟨#[]⟩, .slice none 0 0, .slice none 0 0, .slice none 0 0] 26)) (.cells #[.int .i64 5, .int .i64 0, .string s, .slice none 0 0, .slice none 0 0, .slice none 0 0] 26))
  have h5 := IsBox.new (((((w.alloc (.cells #[.int .i64 4, .int .i64 x, .string ⟨#[]⟩, .slice none 0 0, .slice none 0 0, .slice none 0 0] 26)).alloc (.cells #[.int .i64 4, .int .i64 y, .string ⟨#[]⟩, .slice none 0 0, .slice none 0 0, .slice none 0 0] 26)).alloc (.cells #[.int .i64 11, .int .i64 x, .string ⟨#[]⟩, .slice none 0 0, .slice none 0 0, .slice none 0 0] 26)).alloc (.cells #[.int .i64 11, .int .i64 y, .string ⟨#[]⟩, .slice none 0 0, .slice none 0 0, .slice none 0 0] 26)).alloc (.cells #[.int .i64 5, .int .i64 0, .string s, .slice none 0 0, .slice none 0 0, .slice none 0 0] 26)) (.int .i64 5) (.int .i64 0) (.string t) (.slice none 0 0) (.slice none 0 0) (.slice none 0 0)
  have h0 := h0.keep (b (((((w.alloc (.cells #[.int .i64 4, .int .i64 x, .string ⟨#[]⟩, .slice none 0 0, .slice none 0 0, .slice none 0 0] 26)).alloc (.cells #[.int .i64 4, .int .i64 y, .string ⟨#[]⟩, .slice none 0 0, .slice none 0 0, .slice none 0 0] 26)).alloc (.cells #[.int .i64 11, .int .i64 x, .string ⟨#[]⟩, .slice none 0 0, .slice none 0 0, .slice none 0 0] 26)).alloc (.cells #[.int .i64 11, .int .i64 y, .string ⟨#[]⟩, .slice none 0 0, .slice none 0 0, .slice none 0 0] 26)).alloc (.cells #[.int .i64 5, .int .i64 0, .string s, .slice none 0 0, .slice none 0 0, .slice none 0 0] 26)) (.cells #[.int .i64 5, .int .i64 0, .string t, .slice none 0 0, .slice none 0 0, .slice none 0 0] 26))
  have h1 := h1.keep (b (((((w.alloc (.cells #[.int .i64 4, .int .i64 x, .string ⟨#[]⟩, .slice none 0 0, .slice none 0 0, .slice none 0 0] 26)).alloc (.cells #[.int .i64 4, .int .i64 y, .string ⟨#[]⟩, .slice none 0 0, .slice none 0 0, .slice none 0 0] 26)).alloc (.cells #[.int .i64 11, .int .i64 x, .string ⟨#[]⟩, .slice none 0 0, .slice none 0 0, .slice none 0 0] 26)).alloc (.cells #[.int .i64 11, .int .i64 y, .string ⟨#[]⟩, .slice none 0 0, .slice none 0 0, .slice none 0 0] 26)).alloc (.cells #[.int .i64 5, .int .i64 0, .string s, .slice none 0 0, .slice none 0 0, .slice none 0 0] 26)) (.cells #[.int .i64 5, .int .i64 0, .string t, .slice none 0 0, .slice none 0 0, .slice none 0 0] 26))
  have h2 := h2.keep (b (((((w.alloc (.cells #[.int .i64 4, .int .i64 x, .string ⟨#[]⟩, .slice none 0 0, .slice none 0 0, .slice none 0 0] 26)).alloc (.cells #[.int .i64 4, .int .i64 y, .string ⟨#[]⟩, .slice none 0 0, .slice none 0 0, .slice none 0 0] 26)).alloc (.cells #[.int .i64 11, .int .i64 x, .string ⟨#[]⟩, .slice none 0 0, .slice none 0 0, .slice none 0 0] 26)).alloc (.cells #[.int .i64 11, .int .i64 y, .string ⟨#[]⟩, .slice none 0 0, .slice none 0 0, .slice none 0 0] 26)).alloc (.cells #[.int .i64 5, .int .i64 0, .string s, .slice none 0 0, .slice none 0 0, .slice none 0 0] 26)) (.cells #[.int .i64 5, .int .i64 0, .string t, .slice none 0 0, .slice none 0 0, .slice none 0 0] 26))
  have h3 := h3.keep (b (((((w.alloc (.cells #[.int .i64 4, .int .i64 x, .string ⟨#[]⟩, .slice none 0 0, .slice none 0 0, .slice none 0 0] 26)).alloc (.cells #[.int .i64 4, .int .i64 y, .string ⟨#[]⟩, .slice none 0 0, .slice none 0 0, .slice none 0 0] 26)).alloc (.cells #[.int .i64 11, .int .i64 x, .string ⟨#[]⟩, .slice none 0 0, .slice none 0 0, .slice none 0 0] 26)).alloc (.cells #[.int .i64 11, .int .i64 y, .string ⟨#[]⟩, .slice none 0 0, .slice none 0 0, .slice none 0 0] 26)).alloc (.cells #[.int .i64 5, .int .i64 0, .string s, .slice none 0 0, .slice none 0 0, .slice none 0 0] 26)) (.cells #[.int .i64 5, .int .i64 0, .string t, .slice none 0 0, .slice none 0 0, .slice none 0 0] 26))
  have h4 := h4.keep (b (((((w.alloc (.cells #[.int .i64 4, .int .i64 x, .string ⟨#[]⟩, .slice none 0 0, .slice none 0 0, .slice none 0 0] 26)).alloc (.cells #[.int .i64 4, .int .i64 y, .string ⟨#[]⟩, .slice none 0 0, .slice none 0 0, .slice none 0 0] 26)).alloc (.cells #[.int .i64 11, .int .i64 x, .string ⟨#[]⟩, .slice none 0 0, .slice none 0 0, .slice none 0 0] 26)).alloc (.cells #[.int .i64 11, .int .i64 y, .string ⟨#[]⟩, .slice none 0 0, .slice none 0 0, .slice none 0 0] 26)).alloc (.cells #[.int .i64 5, .int .i64 0, .string s, .slice none 0 0, .slice none 0 0, .slice none 0 0] 26)) (.cells #[.int .i64 5, .int .i64 0, .string t, .slice none 0 0, .slice none 0 0, .slice none 0 0] 26))
  refine ⟨⟨h0, by simpa using h1, by simpa using h2, by simpa using h3, by simpa using h4, by simpa using h5⟩, ?_, by simp⟩
  exact ((((((Below.refl _ w).alloc (Nat.le_refl _) _).alloc (by simp) _).alloc (by simp; omega) _).alloc (by simp; omega) _).alloc (by simp; omega) _).alloc (by simp; omega) _
/-- What the region has made so far: rows (f1, f5), boxes (c7, c8: 0 none, 1 noughts, 2 filled). -/
structure Bun (x y : Int) (s t : ByteArray) (w W : World) (R1 R2 P7 P8 : Nat) (f1 f5 : Bool) (c7 c8 : Nat) : Prop where
  six : Six x y s t w W
  r1 : f1 = true → RowOf W R1 #[.int .i64 4, .int .i64 x, .string ⟨#[]⟩, .slice none 0 0, .slice none 0 0, .slice none 0 0]
  r5 : f5 = true → RowOf W R2 #[.int .i64 4, .int .i64 x, .string ⟨#[]⟩, .slice none 0 0, .slice none 0 0, .slice none 0 0, .int .i64 5, .int .i64 0, .string s, .slice none 0 0, .slice none 0 0, .slice none 0 0]
  z7 : c7 = 1 → IsBox W P7 (.int .i64 0) (.int .i64 0) (.string ⟨#[]⟩) (.slice none 0 0) (.slice none 0 0) (.slice none 0 0)
  z8 : c8 = 1 → IsBox W P8 (.int .i64 0) (.int .i64 0) (.string ⟨#[]⟩) (.slice none 0 0) (.slice none 0 0) (.slice none 0 0)
  s7 : c7 = 2 → IsBox W P7 (.int .i64 7) (.int .i64 0) (.string ⟨#[]⟩) (.slice none 0 0) (.slice none 0 0) (.slice (some ⟨R1, 0, none⟩) 1 1)
  s8 : c8 = 2 → IsBox W P8 (.int .i64 7) (.int .i64 0) (.string ⟨#[]⟩) (.slice none 0 0) (.slice none 0 0) (.slice (some ⟨R2, 0, none⟩) 2 2)
  l7 : c7 ≠ 0 → w.heap.size + 6 ≤ P7 ∧ P7 < W.heap.size
  l8 : c8 ≠ 0 → w.heap.size + 6 ≤ P8 ∧ P8 < W.heap.size
  d17 : f1 = true → c7 ≠ 0 → R1 ≠ P7
  d18 : f1 = true → c8 ≠ 0 → R1 ≠ P8
  d57 : f5 = true → c7 ≠ 0 → R2 ≠ P7
  d58 : f5 = true → c8 ≠ 0 → R2 ≠ P8
  d78 : c7 ≠ 0 → c8 ≠ 0 → P7 ≠ P8
section
variable {x y : Int} {s t : ByteArray} {w W W' : World} {R1 R2 P7 P8 : Nat} {f1 f5 : Bool} {c7 c8 : Nat}
theorem Bun.keep (h : Bun x y s t w W R1 R2 P7 P8 f1 f5 c7 c8) (hb : Below W.heap.size W W') : Bun x y s t w W' R1 R2 P7 P8 f1 f5 c7 c8 :=
  ⟨h.six.keep hb, fun e => (h.r1 e).keep hb, fun e => (h.r5 e).keep hb, fun e => (h.z7 e).keep hb, fun e => (h.z8 e).keep hb, fun e => (h.s7 e).keep hb, fun e => (h.s8 e).keep hb, fun e => ⟨(h.l7 e).1, Nat.lt_of_lt_of_le (h.l7 e).2 hb.size⟩, fun e => ⟨(h.l8 e).1, Nat.lt_of_lt_of_le (h.l8 e).2 hb.size⟩, h.d17, h.d18, h.d57, h.d58, h.d78⟩
theorem below_new (W : World) (o : Obj) : Below W.heap.size W (W.alloc o) := (Below.refl _ _).alloc (Nat.le_refl _) _
theorem Bun.ev1 (h : Bun x y s t w W R1 R2 P7 P8 false f5 c7 c8) (hc : c7 ≠ 2) : Bun x y s t w (W.alloc (.cells #[.int .i64 4, .int .i64 x, .string ⟨#[]⟩, .slice none 0 0, .slice none 0 0, .slice none 0 0] 26)) W.heap.size R2 P7 P8 true f5 c7 c8 := by
  have k := h.keep (below_new W (.cells #[.int .i64 4, .int .i64 x, .string ⟨#[]⟩, .slice none 0 0, .slice none 0 0, .slice none 0 0] 26))
  exact ⟨k.six, fun _ => RowOf.new W _, k.r5, k.z7, k.z8, fun e => absurd e hc, k.s8, k.l7, k.l8, fun _ e => by have := (h.l7 e).2; omega, fun _ e => by have := (h.l8 e).2; omega, k.d57, k.d58, k.d78⟩
theorem Bun.ev5 (h : Bun x y s t w W R1 R2 P7 P8 f1 false c7 c8) (hc : c8 ≠ 2) : Bun x y s t w (W.alloc (.cells #[.int .i64 4, .int .i64 x, .string ⟨#[]⟩, .slice none 0 0, .slice none 0 0, .slice none 0 0, .int .i64 5, .int .i64 0, .string s, .slice none 0 0, .slice none 0 0, .slice none 0 0] 26)) R1 W.heap.size P7 P8 f1 true c7 c8 := by
  have k := h.keep (below_new W (.cells #[.int .i64 4, .int .i64 x, .string ⟨#[]⟩, .slice none 0 0, .slice none 0 0, .slice none 0 0, .int .i64 5, .int .i64 0, .string s, .slice none 0 0, .slice none 0 0, .slice none 0 0] 26))
  exact ⟨k.six, k.r1, fun _ => RowOf.new W _, k.z7, k.z8, k.s7, fun e => absurd e hc, k.l7, k.l8, k.d17, k.d18, fun _ e => by have := (h.l7 e).2; omega, fun _ e => by have := (h.l8 e).2; omega, k.d78⟩
theorem Bun.ev7 (h : Bun x y s t w W R1 R2 P7 P8 f1 f5 0 c8) : Bun x y s t w (W.alloc (.cells #[.int .i64 0, .int .i64 0, .string ⟨#[]⟩, .slice none 0 0, .slice none 0 0, .slice none 0 0] 26)) R1 R2 W.heap.size P8 f1 f5 1 c8 := by
  have k := h.keep (below_new W (.cells #[.int .i64 0, .int .i64 0, .string ⟨#[]⟩, .slice none 0 0, .slice none 0 0, .slice none 0 0] 26))
  exact ⟨k.six, k.r1, k.r5, fun _ => IsBox.new W (.int .i64 0) (.int .i64 0) (.string ⟨#[]⟩) (.slice none 0 0) (.slice none 0 0) (.slice none 0 0), k.z8, fun e => absurd e (by decide), k.s8, fun _ => ⟨h.six.2.2, by simp⟩, k.l8, fun e _ => by have := (h.r1 e).lt; omega, k.d18, fun e _ => by have := (h.r5 e).lt; omega, k.d58, fun _ e => by have := (h.l8 e).2; omega⟩
theorem Bun.ev8 (h : Bun x y s t w W R1 R2 P7 P8 f1 f5 c7 0) : Bun x y s t w (W.alloc (.cells #[.int .i64 0, .int .i64 0, .string ⟨#[]⟩, .slice none 0 0, .slice none 0 0, .slice none 0 0] 26)) R1 R2 P7 W.heap.size f1 f5 c7 1 := by
  have k := h.keep (below_new W (.cells #[.int .i64 0, .int .i64 0, .string ⟨#[]⟩, .slice none 0 0, .slice none 0 0, .slice none 0 0] 26))
  exact ⟨k.six, k.r1, k.r5, k.z7, fun _ => IsBox.new W (.int .i64 0) (.int .i64 0) (.string ⟨#[]⟩) (.slice none 0 0) (.slice none 0 0) (.slice none 0 0), k.s7, fun e => absurd e (by decide), k.l7, fun _ => ⟨h.six.2.2, by simp⟩, k.d17, fun e _ => by have := (h.r1 e).lt; omega, k.d57, fun e _ => by have := (h.r5 e).lt; omega, fun e _ => by have := (h.l7 e).2; omega⟩
theorem Bun.st9 (h : Bun x y s t w W R1 R2 P7 P8 true f5 1 c8) : Bun x y s t w (puts W P7 0 [.int .i64 7, .int .i64 0, .string ⟨#[]⟩, .slice none 0 0, .slice none 0 0, .slice (some ⟨R1, 0, none⟩) 1 1]) R1 R2 P7 P8 true f5 2 c8 :=
  ⟨h.six.other (h.l7 (by decide)).1 0 _, fun e => (h.r1 e).other (h.d17 e (by decide)) 0 _, fun e => (h.r5 e).other (h.d57 e (by decide)) 0 _, fun e => absurd e (by decide), fun e => (h.z8 e).other (fun x => h.d78 (by decide) (by omega) x.symm) 0 _, fun _ => (h.z7 rfl).put (.int .i64 7) (.int .i64 0) (.string ⟨#[]⟩) (.slice none 0 0) (.slice none 0 0) (.slice (some ⟨R1, 0, none⟩) 1 1), fun e => (h.s8 e).other (fun x => h.d78 (by decide) (by omega) x.symm) 0 _, fun _ => by rw [puts_size]; exact h.l7 (by decide), fun e => by rw [puts_size]; exact h.l8 e, fun e _ => h.d17 e (by decide), h.d18, fun e _ => h.d57 e (by decide), h.d58, fun _ e => h.d78 (by decide) e⟩
theorem Bun.st10 (h : Bun x y s t w W R1 R2 P7 P8 f1 true c7 1) : Bun x y s t w (puts W P8 0 [.int .i64 7, .int .i64 0, .string ⟨#[]⟩, .slice none 0 0, .slice none 0 0, .slice (some ⟨R2, 0, none⟩) 2 2]) R1 R2 P7 P8 f1 true c7 2 :=
  ⟨h.six.other (h.l8 (by decide)).1 0 _, fun e => (h.r1 e).other (h.d18 e (by decide)) 0 _, fun e => (h.r5 e).other (h.d58 e (by decide)) 0 _, fun e => (h.z7 e).other (fun x => h.d78 (by omega) (by decide) x) 0 _, fun e => absurd e (by decide), fun e => (h.s7 e).other (fun x => h.d78 (by omega) (by decide) x) 0 _, fun _ => (h.z8 rfl).put (.int .i64 7) (.int .i64 0) (.string ⟨#[]⟩) (.slice none 0 0) (.slice none 0 0) (.slice (some ⟨R2, 0, none⟩) 2 2), fun e => by rw [puts_size]; exact h.l7 e, fun _ => by rw [puts_size]; exact h.l8 (by decide), h.d17, fun e _ => h.d18 e (by decide), h.d57, fun e _ => h.d58 e (by decide), fun e _ => h.d78 e (by decide)⟩
theorem Bun.held (h : Bun x y s t w W R1 R2 P7 P8 f1 f5 c7 c8) : (W.cell? ⟨w.heap.size, 0, none⟩ = some (.int .i64 4) ∧ W.cell? ⟨w.heap.size, 1, none⟩ = some (.int .i64 x) ∧ W.cell? ⟨w.heap.size, 2, none⟩ = some (.string ⟨#[]⟩) ∧ W.cell? ⟨w.heap.size, 3, none⟩ = some (.slice none 0 0) ∧ W.cell? ⟨w.heap.size, 4, none⟩ = some (.slice none 0 0) ∧ W.cell? ⟨w.heap.size, 5, none⟩ = some (.slice none 0 0)) ∧ W.cell? ⟨w.heap.size + 1 + 1 + 1 + 1, 0, none⟩ = some (.int .i64 5) ∧ W.cell? ⟨w.heap.size + 1 + 1 + 1 + 1, 1, none⟩ = some (.int .i64 0) ∧ W.cell? ⟨w.heap.size + 1 + 1 + 1 + 1, 2, none⟩ = some (.string s) ∧ W.cell? ⟨w.heap.size + 1 + 1 + 1 + 1, 3, none⟩ = some (.slice none 0 0) ∧ W.cell? ⟨w.heap.size + 1 + 1 + 1 + 1, 4, none⟩ = some (.slice none 0 0) ∧ W.cell? ⟨w.heap.size + 1 + 1 + 1 + 1, 5, none⟩ = some (.slice none 0 0) := ⟨h.six.1.1.cells, h.six.1.2.2.2.2.1.cells⟩
end
def NumSt (x y : Int) (s t : ByteArray) (w : World) (R1 R2 P7 P8 : Nat) (W : World) : Prop := RowOf W R1 #[.int .i64 4, .int .i64 x, .string ⟨#[]⟩, .slice none 0 0, .slice none 0 0, .slice none 0 0] ∧ RowOf W R2 #[.int .i64 4, .int .i64 x, .string ⟨#[]⟩, .slice none 0 0, .slice none 0 0, .slice none 0 0, .int .i64 5, .int .i64 0, .string s, .slice none 0 0, .slice none 0 0, .slice none 0 0] ∧ IsBox W P7 (.int .i64 7) (.int .i64 0) (.string ⟨#[]⟩) (.slice none 0 0) (.slice none 0 0) (.slice (some ⟨R1, 0, none⟩) 1 1) ∧ IsBox W P8 (.int .i64 7) (.int .i64 0) (.string ⟨#[]⟩) (.slice none 0 0) (.slice none 0 0) (.slice (some ⟨R2, 0, none⟩) 2 2) ∧ Six x y s t w W
theorem NumSt.keep {x y : Int} {s t : ByteArray} {w W W' : World} {R1 R2 P7 P8 : Nat} (h : NumSt x y s t w R1 R2 P7 P8 W) (hb : Below W.heap.size W W') : NumSt x y s t w R1 R2 P7 P8 W' := ⟨h.1.keep hb, h.2.1.keep hb, h.2.2.1.keep hb, h.2.2.2.1.keep hb, h.2.2.2.2.keep hb⟩
theorem txt_in (w : World) (Q : Nat → Prop) (s : ByteArray) (hs : s.size ≤ 140737488355328) (h : Nat) :
    VIn w Q (h + 1) (.mk 5 0 s [] [] []) (.agg #[.int .i64 5, .int .i64 0, .string s, .slice none 0 0, .slice none 0 0, .slice none 0 0]) :=
  ⟨none, none, none, 0, 0, 0, rfl, ⟨by show (-9223372036854775808 : Int) ≤ 5; omega, by show (5 : Int) ≤ _; omega, by show (-9223372036854775808 : Int) ≤ 0; omega, by show (0 : Int) ≤ _; omega, hs, by show 0 ≤ _; omega, by show 0 ≤ _; omega, by show 0 ≤ _; omega, fun c hc => by cases hc⟩, ⟨Nat.le_refl _, by omega⟩, ⟨Nat.le_refl _, by omega⟩, ⟨Nat.le_refl _, by omega⟩, .inl rfl, .inl rfl, .inl rfl⟩
theorem lst_in {w : World} {Q : Nat → Prop} {h : Nat} {a : Option Addr} {c : Nat} {l : List Val} (hI : ItemsIn w Q (VIn w Q h) a l) (hlb : l.length ≤ 1353245080339) (hc : l.length ≤ c) (hcm : c ≤ 9223372036854775807) :
    VIn w Q (h + 1) (.mk 7 0 ⟨#[]⟩ [] [] l) (.agg #[.int .i64 7, .int .i64 0, .string ⟨#[]⟩, .slice none 0 0, .slice none 0 0, .slice a l.length c]) :=
  ⟨none, none, a, 0, 0, c, rfl, plain_lim 7 0 [] l (by omega) (by omega) (by simp) hlb, ⟨Nat.le_refl _, by omega⟩, ⟨Nat.le_refl _, by omega⟩, ⟨hc, hcm⟩, .inl rfl, .inl rfl, hI⟩
theorem cmp_num (k : Int) (x y : Int) (hk : k = 4 ∨ k = 11) : Order.cmp 1 (lf k x) (lf k y) = Order.sgn x y := by
  rcases hk with rfl | rfl <;> rfl
theorem cmp_txt (s t : ByteArray) : Order.cmp 1 (.mk 5 0 s [] [] []) (.mk 5 0 t [] [] []) = Order.text s t := rfl
theorem cmp_short (X U : Val) : Order.cmp 2 (.mk 7 0 ⟨#[]⟩ [] [] [X]) (.mk 7 0 ⟨#[]⟩ [] [] [X, U]) = -1 := by
  have e : Order.cmp 2 (.mk 7 0 ⟨#[]⟩ [] [] [X]) (.mk 7 0 ⟨#[]⟩ [] [] [X, U]) = Order.lex (Order.cmp 1) [X] [X, U] := rfl
  rw [e, Order.lex, if_pos ((Order.cmp_cmp 1).refl X)]; rfl
theorem cmp_long (X U : Val) : Order.cmp 2 (.mk 7 0 ⟨#[]⟩ [] [] [X, U]) (.mk 7 0 ⟨#[]⟩ [] [] [X]) = 1 := by
  have e : Order.cmp 2 (.mk 7 0 ⟨#[]⟩ [] [] [X, U]) (.mk 7 0 ⟨#[]⟩ [] [] [X]) = Order.lex (Order.cmp 1) [X, U] [X] := rfl
  rw [e, Order.lex, if_pos ((Order.cmp_cmp 1).refl X)]; rfl
theorem by_one (x y : Int) : Order.rows (Order.cmp 1) Bson.zero [lf 4 x] [lf 4 y] [true] = - Order.sgn x y := by
  have e : Order.rows (Order.cmp 1) Bson.zero [lf 4 x] [lf 4 y] [true] = if Order.cmp 1 (lf 4 x) (lf 4 y) = 0 then 0 else - Order.cmp 1 (lf 4 x) (lf 4 y) := rfl
  rw [e, cmp_num 4 x y (.inl rfl)]
  split <;> omega
def NumAt (x y : Int) (s t : ByteArray) (w : World) (u17 u18 : Value) (W : World) : Prop := ∃ R1 R2 P7 P8 : Nat, u17 = .pointer (some ⟨P7, 0, none⟩) ∧ u18 = .pointer (some ⟨P8, 0, none⟩) ∧ RowOf W R1 #[.int .i64 4, .int .i64 x, .string ⟨#[]⟩, .slice none 0 0, .slice none 0 0, .slice none 0 0] ∧ RowOf W R2 #[.int .i64 4, .int .i64 x, .string ⟨#[]⟩, .slice none 0 0, .slice none 0 0, .slice none 0 0, .int .i64 5, .int .i64 0, .string s, .slice none 0 0, .slice none 0 0, .slice none 0 0] ∧ IsBox W P7 (.int .i64 7) (.int .i64 0) (.string ⟨#[]⟩) (.slice none 0 0) (.slice none 0 0) (.slice (some ⟨R1, 0, none⟩) 1 1) ∧ IsBox W P8 (.int .i64 7) (.int .i64 0) (.string ⟨#[]⟩) (.slice none 0 0) (.slice none 0 0) (.slice (some ⟨R2, 0, none⟩) 2 2) ∧ Six x y s t w W
set_option maxRecDepth 100000 in
set_option maxHeartbeats 20000000 in
theorem numbers_any (x y : Int) (s t : ByteArray) (w : World) (hx : -9223372036854775808 ≤ x ∧ x ≤ 9223372036854775807) (hy : -9223372036854775808 ≤ y ∧ y ≤ 9223372036854775807) (hs : s.size ≤ 140737488355328) (ht : t.size ≤ 140737488355328) :
    Calls Try.prog 20 #[.int .i64 x, .int .i64 y, .string s, .string t] w fun e w' => e = .returned (.bool true) ∧ Below w.heap.size w w' := by
  obtain ⟨hx0, hx1⟩ := hx
  obtain ⟨hy0, hy1⟩ := hy
  by_cases hbig : 1000 < s.size ∨ 1000 < t.size
  case pos =>
    rcases Nat.lt_or_ge 1000 s.size with h1 | h1
    · have hd : decide ((s.size : Int) > 1000) = true := by rw [decide_eq_true_eq]; omega
      go_enter Try.func20, Try.ntmps20
      go_wp2_with fail
      go_at_call 9
      refine (awake_any _).mono ?_
      rintro e w1 ⟨rfl, hb1⟩
      go_wp2_with fail
      go_ret
      exact ⟨rfl, hb1⟩
    · have hd : decide ((s.size : Int) > 1000) = false := by rw [decide_eq_false_iff_not]; omega
      have hd2 : decide ((t.size : Int) > 1000) = true := by rw [decide_eq_true_eq]; omega
      go_enter Try.func20, Try.ntmps20
      go_wp2_with fail
      go_at_call 9
      refine (awake_any _).mono ?_
      rintro e w1 ⟨rfl, hb1⟩
      go_wp2_with fail
      go_ret
      exact ⟨rfl, hb1⟩
  have hd : decide ((s.size : Int) > 1000) = false := by rw [decide_eq_false_iff_not]; omega
  have hd2 : decide ((t.size : Int) > 1000) = false := by rw [decide_eq_false_iff_not]; omega
  clear hbig
  have HSX0 := Lib.hid (six_new x y s t w)
  go_enter Try.func20, Try.ntmps20
  go_upto_if 30 with fail
  go_cut [9] (fun u W => u = .int .i64 (if x < y then -1 else 0) ∧ w = W)
  case first =>
    go_wp2_with fail
    all_goals
      go_meet
      first
        | exact ⟨by rw [if_pos (by omega)], rfl⟩
        | exact ⟨by rw [if_neg (by omega)], rfl⟩
  case rest =>
  obtain ⟨rfl, rfl⟩ := hcut
  go_upto_if 33 with fail
  go_cut [9] (fun u W => u = .int .i64 (Order.sgn x y) ∧ w = W)
  case first =>
    go_wp2_with fail
    all_goals
      go_meet
      first
        | (refine ⟨?_, rfl⟩; rw [Order.sgn_gt (by omega)]; done)
        | (refine ⟨?_, rfl⟩; unfold Order.sgn; rw [if_neg (show ¬ y < x by omega)]; done)
        | (refine ⟨?_, rfl⟩; unfold Order.sgn; rw [if_neg (show ¬ y < x by omega), if_pos (show x < y by omega)]; done)
        | (refine ⟨?_, rfl⟩; unfold Order.sgn; rw [if_neg (show ¬ y < x by omega), if_neg (show ¬ x < y by omega)]; done)
  case rest =>
  obtain ⟨rfl, rfl⟩ := hcut
  go_upto_if 36 with fail
  go_cut [10] (fun u W => u = .int .i64 (if Op.bytesLess s.toList t.toList = true then -1 else 0) ∧ w = W)
  case first =>
    go_wp2_with fail
    all_goals
      go_meet
      first
        | exact ⟨by rw [if_pos (by assumption)], rfl⟩
        | exact ⟨by rw [if_neg (by rw [‹Op.bytesLess s.toList t.toList = false›]; decide)], rfl⟩
  case rest =>
  obtain ⟨rfl, rfl⟩ := hcut
  go_upto_if 39 with fail
  go_cut [10] (fun u W => u = .int .i64 (Order.text s t) ∧ w = W)
  case first =>
    go_wp2_with fail
    all_goals
      go_meet
      first
        | exact ⟨by (rcases less_text s t with ⟨h, hz⟩ | ⟨h, hz, hz2⟩ | ⟨h, hz, hz2⟩ <;> simp_all), rfl⟩
  case rest =>
  obtain ⟨rfl, rfl⟩ := hcut
  go_wp2_with fail
  generalize hW : ((((((w.alloc (.cells #[.int .i64 4, .int .i64 x, .string ⟨#[]⟩, .slice none 0 0, .slice none 0 0, .slice none 0 0] 26)).alloc (.cells #[.int .i64 4, .int .i64 y, .string ⟨#[]⟩, .slice none 0 0, .slice none 0 0, .slice none 0 0] 26)).alloc (.cells #[.int .i64 11, .int .i64 x, .string ⟨#[]⟩, .slice none 0 0, .slice none 0 0, .slice none 0 0] 26)).alloc (.cells #[.int .i64 11, .int .i64 y, .string ⟨#[]⟩, .slice none 0 0, .slice none 0 0, .slice none 0 0] 26)).alloc (.cells #[.int .i64 5, .int .i64 0, .string s, .slice none 0 0, .slice none 0 0, .slice none 0 0] 26)).alloc (.cells #[.int .i64 5, .int .i64 0, .string t, .slice none 0 0, .slice none 0 0, .slice none 0 0] 26)) = W0 at *
  clear hW
  go_cut [17, 18] from 52 to 58 (fun u17 u18 W => NumAt x y s t w u17 u18 W)
  case first =>
    have hdr : Below W0.heap.size W0 W0.drew := (Below.refl _ W0).drew
    have BD : Hid (Bun x y s t w W0.drew 0 0 0 0 false false 0 0) := ⟨HSX0.out.keep hdr, fun e => absurd e (by decide), fun e => absurd e (by decide), fun e => absurd e (by decide), fun e => absurd e (by decide), fun e => absurd e (by decide), fun e => absurd e (by decide), fun e => absurd rfl e, fun e => absurd rfl e, fun e => absurd e (by decide), fun e => absurd e (by decide), fun e => absurd e (by decide), fun e => absurd e (by decide), fun e => absurd rfl e⟩
    clear hdr
    have hkeep := BD.out.held
    refine wp_region_held_drew (S := fun W => (W.cell? ⟨w.heap.size, 0, none⟩ = some (.int .i64 4) ∧ W.cell? ⟨w.heap.size, 1, none⟩ = some (.int .i64 x) ∧ W.cell? ⟨w.heap.size, 2, none⟩ = some (.string ⟨#[]⟩) ∧ W.cell? ⟨w.heap.size, 3, none⟩ = some (.slice none 0 0) ∧ W.cell? ⟨w.heap.size, 4, none⟩ = some (.slice none 0 0) ∧ W.cell? ⟨w.heap.size, 5, none⟩ = some (.slice none 0 0)) ∧ W.cell? ⟨w.heap.size + 1 + 1 + 1 + 1, 0, none⟩ = some (.int .i64 5) ∧ W.cell? ⟨w.heap.size + 1 + 1 + 1 + 1, 1, none⟩ = some (.int .i64 0) ∧ W.cell? ⟨w.heap.size + 1 + 1 + 1 + 1, 2, none⟩ = some (.string s) ∧ W.cell? ⟨w.heap.size + 1 + 1 + 1 + 1, 3, none⟩ = some (.slice none 0 0) ∧ W.cell? ⟨w.heap.size + 1 + 1 + 1 + 1, 4, none⟩ = some (.slice none 0 0) ∧ W.cell? ⟨w.heap.size + 1 + 1 + 1 + 1, 5, none⟩ = some (.slice none 0 0)) (by kernel_rfl) (by exact hkeep) (fun hHeld => ?_)
    clear hkeep
    generalize W0.drew = wd at *
    refine wpAnyH_take (i := 0) (v := ?_) rfl (by kernel_rfl) (by kernel_rfl) (by kernel_rfl) (fun _ _ _ h => h) (Or.inl ⟨by kernel_rfl, ?_⟩) (by assumption) ?_
    rotate_left
    · intro wS hSw
      (try dsimp only at hSw)
      go_simp
      try (with_reducible rfl)
    try simp only [List.getElem_toArray, List.getElem_cons_succ, List.getElem_cons_zero, Act.put, List.setIfInBounds_toArray, List.set_cons_zero, List.set_cons_succ]
    refine wpAnyH_take (i := 3) (v := ?_) rfl (by kernel_rfl) (by kernel_rfl) (by kernel_rfl) (fun _ _ _ h => h) (Or.inl ⟨by kernel_rfl, ?_⟩) (by assumption) ?_
    rotate_left
    · intro wS hSw
      (try dsimp only at hSw)
      go_simp
      try (with_reducible rfl)
    try simp only [List.getElem_toArray, List.getElem_cons_succ, List.getElem_cons_zero, Act.put, List.setIfInBounds_toArray, List.set_cons_zero, List.set_cons_succ]
    refine wpAnyH_take (i := 4) (v := ?_) rfl (by kernel_rfl) (by kernel_rfl) (by kernel_rfl) (fun _ _ _ h => h) (Or.inl ⟨by kernel_rfl, ?_⟩) (by assumption) ?_
    rotate_left
    · intro wS hSw
      (try dsimp only at hSw)
      go_simp
      try (with_reducible rfl)
    try simp only [List.getElem_toArray, List.getElem_cons_succ, List.getElem_cons_zero, Act.put, List.setIfInBounds_toArray, List.set_cons_zero, List.set_cons_succ]
    refine wpAnyH_ready (rs := [1, 5, 7, 8]) (by kernel_rfl) (by simp) ?_
    refine AllReadyH.cons rfl (fun K hK => ?_) (AllReadyH.cons rfl (fun K hK => ?_) (AllReadyH.cons rfl (fun K hK => ?_) (AllReadyH.cons rfl (fun K hK => ?_) (AllReadyH.nil))))
    · go_simp
      have B1 := Lib.hid (BD.out.ev1 (by decide))
      generalize wd.alloc (.cells #[.int .i64 4, .int .i64 x, .string ⟨#[]⟩, .slice none 0 0, .slice none 0 0, .slice none 0 0] 26) = u1 at *
      refine hK.out _ _ (by exact B1.out.held) (fun hHeld => ?_)
      clear hK K
      try simp only [List.getElem_toArray, List.getElem_cons_succ, List.getElem_cons_zero, Act.put, List.setIfInBounds_toArray, List.set_cons_zero, List.set_cons_succ]
      refine wpAnyH_take (i := 2) (v := ?_) rfl (by kernel_rfl) (by kernel_rfl) (by kernel_rfl) (fun _ _ _ h => h) (Or.inl ⟨by kernel_rfl, ?_⟩) (by assumption) ?_
      rotate_left
      · intro wS hSw
        (try dsimp only at hSw)
        go_simp
        try (with_reducible rfl)
      try simp only [List.getElem_toArray, List.getElem_cons_succ, List.getElem_cons_zero, Act.put, List.setIfInBounds_toArray, List.set_cons_zero, List.set_cons_succ]
      refine wpAnyH_ready (rs := [5, 7, 8]) (by kernel_rfl) (by simp) ?_
      refine AllReadyH.cons rfl (fun K hK => ?_) (AllReadyH.cons rfl (fun K hK => ?_) (AllReadyH.cons rfl (fun K hK => ?_) (AllReadyH.nil)))
      · go_simp
        have B2 := Lib.hid (B1.out.ev5 (by decide))
        generalize u1.alloc (.cells #[.int .i64 4, .int .i64 x, .string ⟨#[]⟩, .slice none 0 0, .slice none 0 0, .slice none 0 0, .int .i64 5, .int .i64 0, .string s, .slice none 0 0, .slice none 0 0, .slice none 0 0] 26) = u2 at *
        refine hK.out _ _ (by exact B2.out.held) (fun hHeld => ?_)
        clear hK K
        try simp only [List.getElem_toArray, List.getElem_cons_succ, List.getElem_cons_zero, Act.put, List.setIfInBounds_toArray, List.set_cons_zero, List.set_cons_succ]
        refine wpAnyH_take (i := 6) (v := ?_) rfl (by kernel_rfl) (by kernel_rfl) (by kernel_rfl) (fun _ _ _ h => h) (Or.inl ⟨by kernel_rfl, ?_⟩) (by assumption) ?_
        rotate_left
        · intro wS hSw
          (try dsimp only at hSw)
          go_simp
          try (with_reducible rfl)
        try simp only [List.getElem_toArray, List.getElem_cons_succ, List.getElem_cons_zero, Act.put, List.setIfInBounds_toArray, List.set_cons_zero, List.set_cons_succ]
        refine wpAnyH_ready (rs := [7, 8]) (by kernel_rfl) (by simp) ?_
        refine AllReadyH.cons rfl (fun K hK => ?_) (AllReadyH.cons rfl (fun K hK => ?_) (AllReadyH.nil))
        · go_simp
          have B3 := Lib.hid (B2.out.ev7)
          generalize u2.alloc (.cells #[.int .i64 0, .int .i64 0, .string ⟨#[]⟩, .slice none 0 0, .slice none 0 0, .slice none 0 0] 26) = u3 at *
          refine hK.out _ _ (by exact B3.out.held) (fun hHeld => ?_)
          clear hK K
          try simp only [List.getElem_toArray, List.getElem_cons_succ, List.getElem_cons_zero, Act.put, List.setIfInBounds_toArray, List.set_cons_zero, List.set_cons_succ]
          refine wpAnyH_ready (rs := [8]) (by kernel_rfl) (by simp) ?_
          refine AllReadyH.cons rfl (fun K hK => ?_) (AllReadyH.nil)
          go_simp
          have B4 := Lib.hid (B3.out.ev8)
          generalize u3.alloc (.cells #[.int .i64 0, .int .i64 0, .string ⟨#[]⟩, .slice none 0 0, .slice none 0 0, .slice none 0 0] 26) = u4 at *
          refine hK.out _ _ (by exact B4.out.held) (fun hHeld => ?_)
          clear hK K
          try simp only [List.getElem_toArray, List.getElem_cons_succ, List.getElem_cons_zero, Act.put, List.setIfInBounds_toArray, List.set_cons_zero, List.set_cons_succ]
          refine wpAnyH_ready (rs := [9]) (by kernel_rfl) (by simp) ?_
          refine AllReadyH.cons rfl (fun K hK => ?_) (AllReadyH.nil)
          obtain ⟨z0, z1, z2, z3, z4, z5⟩ := (B4.out.z7 rfl).cells
          obtain ⟨t0, t1, t2, t3, t4, t5⟩ := (B4.out.z7 rfl).thaw
          go_simp
          clear z0 z1 z2 z3 z4 z5 t0 t1 t2 t3 t4 t5
          obtain ⟨u5, hu5⟩ : ∃ q, q = ((((((u4.setCell ⟨u2.heap.size, 0, none⟩ (.int .i64 7)).setCell ⟨u2.heap.size, 1, none⟩ (.int .i64 0)).setCell ⟨u2.heap.size, 2, none⟩ (.string ⟨#[]⟩)).setCell ⟨u2.heap.size, 3, none⟩ (.slice none 0 0)).setCell ⟨u2.heap.size, 4, none⟩ (.slice none 0 0)).setCell ⟨u2.heap.size, 5, none⟩ (.slice (some ⟨wd.heap.size, 0, none⟩) 1 1)) := ⟨_, rfl⟩
          rw [← hu5]
          have B5 : Hid (Bun x y s t w u5 wd.heap.size u1.heap.size u2.heap.size u3.heap.size true true 2 1) := by rw [hu5]; exact B4.out.st9
          clear hu5
          refine hK.out _ _ (by exact B5.out.held) (fun hHeld => ?_)
          clear hK K
          try simp only [List.getElem_toArray, List.getElem_cons_succ, List.getElem_cons_zero, Act.put, List.setIfInBounds_toArray, List.set_cons_zero, List.set_cons_succ]
          refine wpAnyH_ready (rs := [10]) (by kernel_rfl) (by simp) ?_
          refine AllReadyH.cons rfl (fun K hK => ?_) (AllReadyH.nil)
          obtain ⟨z0, z1, z2, z3, z4, z5⟩ := (B5.out.z8 rfl).cells
          obtain ⟨t0, t1, t2, t3, t4, t5⟩ := (B5.out.z8 rfl).thaw
          go_simp
          clear z0 z1 z2 z3 z4 z5 t0 t1 t2 t3 t4 t5
          obtain ⟨u6, hu6⟩ : ∃ q, q = ((((((u5.setCell ⟨u3.heap.size, 0, none⟩ (.int .i64 7)).setCell ⟨u3.heap.size, 1, none⟩ (.int .i64 0)).setCell ⟨u3.heap.size, 2, none⟩ (.string ⟨#[]⟩)).setCell ⟨u3.heap.size, 3, none⟩ (.slice none 0 0)).setCell ⟨u3.heap.size, 4, none⟩ (.slice none 0 0)).setCell ⟨u3.heap.size, 5, none⟩ (.slice (some ⟨u1.heap.size, 0, none⟩) 2 2)) := ⟨_, rfl⟩
          rw [← hu6]
          have B6 : Hid (Bun x y s t w u6 wd.heap.size u1.heap.size u2.heap.size u3.heap.size true true 2 2) := by rw [hu6]; exact B5.out.st10
          clear hu6
          refine hK.out _ _ (by exact B6.out.held) (fun hHeld => ?_)
          clear hK K
          try simp only [List.getElem_toArray, List.getElem_cons_succ, List.getElem_cons_zero, Act.put, List.setIfInBounds_toArray, List.set_cons_zero, List.set_cons_succ]
          refine wpAnyH_done (by kernel_rfl) ?_ _
          go_wp2_with fail
          go_meet
          exact ⟨_, _, _, _, rfl, rfl, B6.out.r1 rfl, B6.out.r5 rfl, B6.out.s7 rfl, B6.out.s8 rfl, B6.out.six⟩
        · go_simp
          have B7 := Lib.hid (B2.out.ev8)
          generalize u2.alloc (.cells #[.int .i64 0, .int .i64 0, .string ⟨#[]⟩, .slice none 0 0, .slice none 0 0, .slice none 0 0] 26) = u7 at *
          refine hK.out _ _ (by exact B7.out.held) (fun hHeld => ?_)
          clear hK K
          try simp only [List.getElem_toArray, List.getElem_cons_succ, List.getElem_cons_zero, Act.put, List.setIfInBounds_toArray, List.set_cons_zero, List.set_cons_succ]
          refine wpAnyH_ready (rs := [7]) (by kernel_rfl) (by simp) ?_
          refine AllReadyH.cons rfl (fun K hK => ?_) (AllReadyH.nil)
          go_simp
          have B8 := Lib.hid (B7.out.ev7)
          generalize u7.alloc (.cells #[.int .i64 0, .int .i64 0, .string ⟨#[]⟩, .slice none 0 0, .slice none 0 0, .slice none 0 0] 26) = u8 at *
          refine hK.out _ _ (by exact B8.out.held) (fun hHeld => ?_)
          clear hK K
          try simp only [List.getElem_toArray, List.getElem_cons_succ, List.getElem_cons_zero, Act.put, List.setIfInBounds_toArray, List.set_cons_zero, List.set_cons_succ]
          refine wpAnyH_ready (rs := [9]) (by kernel_rfl) (by simp) ?_
          refine AllReadyH.cons rfl (fun K hK => ?_) (AllReadyH.nil)
          obtain ⟨z0, z1, z2, z3, z4, z5⟩ := (B8.out.z7 rfl).cells
          obtain ⟨t0, t1, t2, t3, t4, t5⟩ := (B8.out.z7 rfl).thaw
          go_simp
          clear z0 z1 z2 z3 z4 z5 t0 t1 t2 t3 t4 t5
          obtain ⟨u9, hu9⟩ : ∃ q, q = ((((((u8.setCell ⟨u7.heap.size, 0, none⟩ (.int .i64 7)).setCell ⟨u7.heap.size, 1, none⟩ (.int .i64 0)).setCell ⟨u7.heap.size, 2, none⟩ (.string ⟨#[]⟩)).setCell ⟨u7.heap.size, 3, none⟩ (.slice none 0 0)).setCell ⟨u7.heap.size, 4, none⟩ (.slice none 0 0)).setCell ⟨u7.heap.size, 5, none⟩ (.slice (some ⟨wd.heap.size, 0, none⟩) 1 1)) := ⟨_, rfl⟩
          rw [← hu9]
          have B9 : Hid (Bun x y s t w u9 wd.heap.size u1.heap.size u7.heap.size u2.heap.size true true 2 1) := by rw [hu9]; exact B8.out.st9
          clear hu9
          refine hK.out _ _ (by exact B9.out.held) (fun hHeld => ?_)
          clear hK K
          try simp only [List.getElem_toArray, List.getElem_cons_succ, List.getElem_cons_zero, Act.put, List.setIfInBounds_toArray, List.set_cons_zero, List.set_cons_succ]
          refine wpAnyH_ready (rs := [10]) (by kernel_rfl) (by simp) ?_
          refine AllReadyH.cons rfl (fun K hK => ?_) (AllReadyH.nil)
          obtain ⟨z0, z1, z2, z3, z4, z5⟩ := (B9.out.z8 rfl).cells
          obtain ⟨t0, t1, t2, t3, t4, t5⟩ := (B9.out.z8 rfl).thaw
          go_simp
          clear z0 z1 z2 z3 z4 z5 t0 t1 t2 t3 t4 t5
          obtain ⟨u10, hu10⟩ : ∃ q, q = ((((((u9.setCell ⟨u2.heap.size, 0, none⟩ (.int .i64 7)).setCell ⟨u2.heap.size, 1, none⟩ (.int .i64 0)).setCell ⟨u2.heap.size, 2, none⟩ (.string ⟨#[]⟩)).setCell ⟨u2.heap.size, 3, none⟩ (.slice none 0 0)).setCell ⟨u2.heap.size, 4, none⟩ (.slice none 0 0)).setCell ⟨u2.heap.size, 5, none⟩ (.slice (some ⟨u1.heap.size, 0, none⟩) 2 2)) := ⟨_, rfl⟩
          rw [← hu10]
          have B10 : Hid (Bun x y s t w u10 wd.heap.size u1.heap.size u7.heap.size u2.heap.size true true 2 2) := by rw [hu10]; exact B9.out.st10
          clear hu10
          refine hK.out _ _ (by exact B10.out.held) (fun hHeld => ?_)
          clear hK K
          try simp only [List.getElem_toArray, List.getElem_cons_succ, List.getElem_cons_zero, Act.put, List.setIfInBounds_toArray, List.set_cons_zero, List.set_cons_succ]
          refine wpAnyH_done (by kernel_rfl) ?_ _
          go_wp2_with fail
          go_meet
          exact ⟨_, _, _, _, rfl, rfl, B10.out.r1 rfl, B10.out.r5 rfl, B10.out.s7 rfl, B10.out.s8 rfl, B10.out.six⟩
      · go_simp
        have B11 := Lib.hid (B1.out.ev7)
        generalize u1.alloc (.cells #[.int .i64 0, .int .i64 0, .string ⟨#[]⟩, .slice none 0 0, .slice none 0 0, .slice none 0 0] 26) = u11 at *
        refine hK.out _ _ (by exact B11.out.held) (fun hHeld => ?_)
        clear hK K
        try simp only [List.getElem_toArray, List.getElem_cons_succ, List.getElem_cons_zero, Act.put, List.setIfInBounds_toArray, List.set_cons_zero, List.set_cons_succ]
        refine wpAnyH_ready (rs := [5, 8]) (by kernel_rfl) (by simp) ?_
        refine AllReadyH.cons rfl (fun K hK => ?_) (AllReadyH.cons rfl (fun K hK => ?_) (AllReadyH.nil))
        · go_simp
          have B12 := Lib.hid (B11.out.ev5 (by decide))
          generalize u11.alloc (.cells #[.int .i64 4, .int .i64 x, .string ⟨#[]⟩, .slice none 0 0, .slice none 0 0, .slice none 0 0, .int .i64 5, .int .i64 0, .string s, .slice none 0 0, .slice none 0 0, .slice none 0 0] 26) = u12 at *
          refine hK.out _ _ (by exact B12.out.held) (fun hHeld => ?_)
          clear hK K
          try simp only [List.getElem_toArray, List.getElem_cons_succ, List.getElem_cons_zero, Act.put, List.setIfInBounds_toArray, List.set_cons_zero, List.set_cons_succ]
          refine wpAnyH_take (i := 6) (v := ?_) rfl (by kernel_rfl) (by kernel_rfl) (by kernel_rfl) (fun _ _ _ h => h) (Or.inl ⟨by kernel_rfl, ?_⟩) (by assumption) ?_
          rotate_left
          · intro wS hSw
            (try dsimp only at hSw)
            go_simp
            try (with_reducible rfl)
          try simp only [List.getElem_toArray, List.getElem_cons_succ, List.getElem_cons_zero, Act.put, List.setIfInBounds_toArray, List.set_cons_zero, List.set_cons_succ]
          refine wpAnyH_ready (rs := [8]) (by kernel_rfl) (by simp) ?_
          refine AllReadyH.cons rfl (fun K hK => ?_) (AllReadyH.nil)
          go_simp
          have B13 := Lib.hid (B12.out.ev8)
          generalize u12.alloc (.cells #[.int .i64 0, .int .i64 0, .string ⟨#[]⟩, .slice none 0 0, .slice none 0 0, .slice none 0 0] 26) = u13 at *
          refine hK.out _ _ (by exact B13.out.held) (fun hHeld => ?_)
          clear hK K
          try simp only [List.getElem_toArray, List.getElem_cons_succ, List.getElem_cons_zero, Act.put, List.setIfInBounds_toArray, List.set_cons_zero, List.set_cons_succ]
          refine wpAnyH_ready (rs := [9]) (by kernel_rfl) (by simp) ?_
          refine AllReadyH.cons rfl (fun K hK => ?_) (AllReadyH.nil)
          obtain ⟨z0, z1, z2, z3, z4, z5⟩ := (B13.out.z7 rfl).cells
          obtain ⟨t0, t1, t2, t3, t4, t5⟩ := (B13.out.z7 rfl).thaw
          go_simp
          clear z0 z1 z2 z3 z4 z5 t0 t1 t2 t3 t4 t5
          obtain ⟨u14, hu14⟩ : ∃ q, q = ((((((u13.setCell ⟨u1.heap.size, 0, none⟩ (.int .i64 7)).setCell ⟨u1.heap.size, 1, none⟩ (.int .i64 0)).setCell ⟨u1.heap.size, 2, none⟩ (.string ⟨#[]⟩)).setCell ⟨u1.heap.size, 3, none⟩ (.slice none 0 0)).setCell ⟨u1.heap.size, 4, none⟩ (.slice none 0 0)).setCell ⟨u1.heap.size, 5, none⟩ (.slice (some ⟨wd.heap.size, 0, none⟩) 1 1)) := ⟨_, rfl⟩
          rw [← hu14]
          have B14 : Hid (Bun x y s t w u14 wd.heap.size u11.heap.size u1.heap.size u12.heap.size true true 2 1) := by rw [hu14]; exact B13.out.st9
          clear hu14
          refine hK.out _ _ (by exact B14.out.held) (fun hHeld => ?_)
          clear hK K
          try simp only [List.getElem_toArray, List.getElem_cons_succ, List.getElem_cons_zero, Act.put, List.setIfInBounds_toArray, List.set_cons_zero, List.set_cons_succ]
          refine wpAnyH_ready (rs := [10]) (by kernel_rfl) (by simp) ?_
          refine AllReadyH.cons rfl (fun K hK => ?_) (AllReadyH.nil)
          obtain ⟨z0, z1, z2, z3, z4, z5⟩ := (B14.out.z8 rfl).cells
          obtain ⟨t0, t1, t2, t3, t4, t5⟩ := (B14.out.z8 rfl).thaw
          go_simp
          clear z0 z1 z2 z3 z4 z5 t0 t1 t2 t3 t4 t5
          obtain ⟨u15, hu15⟩ : ∃ q, q = ((((((u14.setCell ⟨u12.heap.size, 0, none⟩ (.int .i64 7)).setCell ⟨u12.heap.size, 1, none⟩ (.int .i64 0)).setCell ⟨u12.heap.size, 2, none⟩ (.string ⟨#[]⟩)).setCell ⟨u12.heap.size, 3, none⟩ (.slice none 0 0)).setCell ⟨u12.heap.size, 4, none⟩ (.slice none 0 0)).setCell ⟨u12.heap.size, 5, none⟩ (.slice (some ⟨u11.heap.size, 0, none⟩) 2 2)) := ⟨_, rfl⟩
          rw [← hu15]
          have B15 : Hid (Bun x y s t w u15 wd.heap.size u11.heap.size u1.heap.size u12.heap.size true true 2 2) := by rw [hu15]; exact B14.out.st10
          clear hu15
          refine hK.out _ _ (by exact B15.out.held) (fun hHeld => ?_)
          clear hK K
          try simp only [List.getElem_toArray, List.getElem_cons_succ, List.getElem_cons_zero, Act.put, List.setIfInBounds_toArray, List.set_cons_zero, List.set_cons_succ]
          refine wpAnyH_done (by kernel_rfl) ?_ _
          go_wp2_with fail
          go_meet
          exact ⟨_, _, _, _, rfl, rfl, B15.out.r1 rfl, B15.out.r5 rfl, B15.out.s7 rfl, B15.out.s8 rfl, B15.out.six⟩
        · go_simp
          have B16 := Lib.hid (B11.out.ev8)
          generalize u11.alloc (.cells #[.int .i64 0, .int .i64 0, .string ⟨#[]⟩, .slice none 0 0, .slice none 0 0, .slice none 0 0] 26) = u16 at *
          refine hK.out _ _ (by exact B16.out.held) (fun hHeld => ?_)
          clear hK K
          try simp only [List.getElem_toArray, List.getElem_cons_succ, List.getElem_cons_zero, Act.put, List.setIfInBounds_toArray, List.set_cons_zero, List.set_cons_succ]
          refine wpAnyH_ready (rs := [5, 9]) (by kernel_rfl) (by simp) ?_
          refine AllReadyH.cons rfl (fun K hK => ?_) (AllReadyH.cons rfl (fun K hK => ?_) (AllReadyH.nil))
          · go_simp
            have B17 := Lib.hid (B16.out.ev5 (by decide))
            generalize u16.alloc (.cells #[.int .i64 4, .int .i64 x, .string ⟨#[]⟩, .slice none 0 0, .slice none 0 0, .slice none 0 0, .int .i64 5, .int .i64 0, .string s, .slice none 0 0, .slice none 0 0, .slice none 0 0] 26) = u17 at *
            refine hK.out _ _ (by exact B17.out.held) (fun hHeld => ?_)
            clear hK K
            try simp only [List.getElem_toArray, List.getElem_cons_succ, List.getElem_cons_zero, Act.put, List.setIfInBounds_toArray, List.set_cons_zero, List.set_cons_succ]
            refine wpAnyH_take (i := 6) (v := ?_) rfl (by kernel_rfl) (by kernel_rfl) (by kernel_rfl) (fun _ _ _ h => h) (Or.inl ⟨by kernel_rfl, ?_⟩) (by assumption) ?_
            rotate_left
            · intro wS hSw
              (try dsimp only at hSw)
              go_simp
              try (with_reducible rfl)
            try simp only [List.getElem_toArray, List.getElem_cons_succ, List.getElem_cons_zero, Act.put, List.setIfInBounds_toArray, List.set_cons_zero, List.set_cons_succ]
            refine wpAnyH_ready (rs := [9]) (by kernel_rfl) (by simp) ?_
            refine AllReadyH.cons rfl (fun K hK => ?_) (AllReadyH.nil)
            obtain ⟨z0, z1, z2, z3, z4, z5⟩ := (B17.out.z7 rfl).cells
            obtain ⟨t0, t1, t2, t3, t4, t5⟩ := (B17.out.z7 rfl).thaw
            go_simp
            clear z0 z1 z2 z3 z4 z5 t0 t1 t2 t3 t4 t5
            obtain ⟨u18, hu18⟩ : ∃ q, q = ((((((u17.setCell ⟨u1.heap.size, 0, none⟩ (.int .i64 7)).setCell ⟨u1.heap.size, 1, none⟩ (.int .i64 0)).setCell ⟨u1.heap.size, 2, none⟩ (.string ⟨#[]⟩)).setCell ⟨u1.heap.size, 3, none⟩ (.slice none 0 0)).setCell ⟨u1.heap.size, 4, none⟩ (.slice none 0 0)).setCell ⟨u1.heap.size, 5, none⟩ (.slice (some ⟨wd.heap.size, 0, none⟩) 1 1)) := ⟨_, rfl⟩
            rw [← hu18]
            have B18 : Hid (Bun x y s t w u18 wd.heap.size u16.heap.size u1.heap.size u11.heap.size true true 2 1) := by rw [hu18]; exact B17.out.st9
            clear hu18
            refine hK.out _ _ (by exact B18.out.held) (fun hHeld => ?_)
            clear hK K
            try simp only [List.getElem_toArray, List.getElem_cons_succ, List.getElem_cons_zero, Act.put, List.setIfInBounds_toArray, List.set_cons_zero, List.set_cons_succ]
            refine wpAnyH_ready (rs := [10]) (by kernel_rfl) (by simp) ?_
            refine AllReadyH.cons rfl (fun K hK => ?_) (AllReadyH.nil)
            obtain ⟨z0, z1, z2, z3, z4, z5⟩ := (B18.out.z8 rfl).cells
            obtain ⟨t0, t1, t2, t3, t4, t5⟩ := (B18.out.z8 rfl).thaw
            go_simp
            clear z0 z1 z2 z3 z4 z5 t0 t1 t2 t3 t4 t5
            obtain ⟨u19, hu19⟩ : ∃ q, q = ((((((u18.setCell ⟨u11.heap.size, 0, none⟩ (.int .i64 7)).setCell ⟨u11.heap.size, 1, none⟩ (.int .i64 0)).setCell ⟨u11.heap.size, 2, none⟩ (.string ⟨#[]⟩)).setCell ⟨u11.heap.size, 3, none⟩ (.slice none 0 0)).setCell ⟨u11.heap.size, 4, none⟩ (.slice none 0 0)).setCell ⟨u11.heap.size, 5, none⟩ (.slice (some ⟨u16.heap.size, 0, none⟩) 2 2)) := ⟨_, rfl⟩
            rw [← hu19]
            have B19 : Hid (Bun x y s t w u19 wd.heap.size u16.heap.size u1.heap.size u11.heap.size true true 2 2) := by rw [hu19]; exact B18.out.st10
            clear hu19
            refine hK.out _ _ (by exact B19.out.held) (fun hHeld => ?_)
            clear hK K
            try simp only [List.getElem_toArray, List.getElem_cons_succ, List.getElem_cons_zero, Act.put, List.setIfInBounds_toArray, List.set_cons_zero, List.set_cons_succ]
            refine wpAnyH_done (by kernel_rfl) ?_ _
            go_wp2_with fail
            go_meet
            exact ⟨_, _, _, _, rfl, rfl, B19.out.r1 rfl, B19.out.r5 rfl, B19.out.s7 rfl, B19.out.s8 rfl, B19.out.six⟩
          · obtain ⟨z0, z1, z2, z3, z4, z5⟩ := (B16.out.z7 rfl).cells
            obtain ⟨t0, t1, t2, t3, t4, t5⟩ := (B16.out.z7 rfl).thaw
            go_simp
            clear z0 z1 z2 z3 z4 z5 t0 t1 t2 t3 t4 t5
            obtain ⟨u20, hu20⟩ : ∃ q, q = ((((((u16.setCell ⟨u1.heap.size, 0, none⟩ (.int .i64 7)).setCell ⟨u1.heap.size, 1, none⟩ (.int .i64 0)).setCell ⟨u1.heap.size, 2, none⟩ (.string ⟨#[]⟩)).setCell ⟨u1.heap.size, 3, none⟩ (.slice none 0 0)).setCell ⟨u1.heap.size, 4, none⟩ (.slice none 0 0)).setCell ⟨u1.heap.size, 5, none⟩ (.slice (some ⟨wd.heap.size, 0, none⟩) 1 1)) := ⟨_, rfl⟩
            rw [← hu20]
            have B20 : Hid (Bun x y s t w u20 wd.heap.size 0 u1.heap.size u11.heap.size true false 2 1) := by rw [hu20]; exact B16.out.st9
            clear hu20
            refine hK.out _ _ (by exact B20.out.held) (fun hHeld => ?_)
            clear hK K
            try simp only [List.getElem_toArray, List.getElem_cons_succ, List.getElem_cons_zero, Act.put, List.setIfInBounds_toArray, List.set_cons_zero, List.set_cons_succ]
            refine wpAnyH_ready (rs := [5]) (by kernel_rfl) (by simp) ?_
            refine AllReadyH.cons rfl (fun K hK => ?_) (AllReadyH.nil)
            go_simp
            have B21 := Lib.hid (B20.out.ev5 (by decide))
            generalize u20.alloc (.cells #[.int .i64 4, .int .i64 x, .string ⟨#[]⟩, .slice none 0 0, .slice none 0 0, .slice none 0 0, .int .i64 5, .int .i64 0, .string s, .slice none 0 0, .slice none 0 0, .slice none 0 0] 26) = u21 at *
            refine hK.out _ _ (by exact B21.out.held) (fun hHeld => ?_)
            clear hK K
            try simp only [List.getElem_toArray, List.getElem_cons_succ, List.getElem_cons_zero, Act.put, List.setIfInBounds_toArray, List.set_cons_zero, List.set_cons_succ]
            refine wpAnyH_take (i := 6) (v := ?_) rfl (by kernel_rfl) (by kernel_rfl) (by kernel_rfl) (fun _ _ _ h => h) (Or.inl ⟨by kernel_rfl, ?_⟩) (by assumption) ?_
            rotate_left
            · intro wS hSw
              (try dsimp only at hSw)
              go_simp
              try (with_reducible rfl)
            try simp only [List.getElem_toArray, List.getElem_cons_succ, List.getElem_cons_zero, Act.put, List.setIfInBounds_toArray, List.set_cons_zero, List.set_cons_succ]
            refine wpAnyH_ready (rs := [10]) (by kernel_rfl) (by simp) ?_
            refine AllReadyH.cons rfl (fun K hK => ?_) (AllReadyH.nil)
            obtain ⟨z0, z1, z2, z3, z4, z5⟩ := (B21.out.z8 rfl).cells
            obtain ⟨t0, t1, t2, t3, t4, t5⟩ := (B21.out.z8 rfl).thaw
            go_simp
            clear z0 z1 z2 z3 z4 z5 t0 t1 t2 t3 t4 t5
            obtain ⟨u22, hu22⟩ : ∃ q, q = ((((((u21.setCell ⟨u11.heap.size, 0, none⟩ (.int .i64 7)).setCell ⟨u11.heap.size, 1, none⟩ (.int .i64 0)).setCell ⟨u11.heap.size, 2, none⟩ (.string ⟨#[]⟩)).setCell ⟨u11.heap.size, 3, none⟩ (.slice none 0 0)).setCell ⟨u11.heap.size, 4, none⟩ (.slice none 0 0)).setCell ⟨u11.heap.size, 5, none⟩ (.slice (some ⟨u20.heap.size, 0, none⟩) 2 2)) := ⟨_, rfl⟩
            rw [← hu22]
            have B22 : Hid (Bun x y s t w u22 wd.heap.size u20.heap.size u1.heap.size u11.heap.size true true 2 2) := by rw [hu22]; exact B21.out.st10
            clear hu22
            refine hK.out _ _ (by exact B22.out.held) (fun hHeld => ?_)
            clear hK K
            try simp only [List.getElem_toArray, List.getElem_cons_succ, List.getElem_cons_zero, Act.put, List.setIfInBounds_toArray, List.set_cons_zero, List.set_cons_succ]
            refine wpAnyH_done (by kernel_rfl) ?_ _
            go_wp2_with fail
            go_meet
            exact ⟨_, _, _, _, rfl, rfl, B22.out.r1 rfl, B22.out.r5 rfl, B22.out.s7 rfl, B22.out.s8 rfl, B22.out.six⟩
      · go_simp
        have B23 := Lib.hid (B1.out.ev8)
        generalize u1.alloc (.cells #[.int .i64 0, .int .i64 0, .string ⟨#[]⟩, .slice none 0 0, .slice none 0 0, .slice none 0 0] 26) = u23 at *
        refine hK.out _ _ (by exact B23.out.held) (fun hHeld => ?_)
        clear hK K
        try simp only [List.getElem_toArray, List.getElem_cons_succ, List.getElem_cons_zero, Act.put, List.setIfInBounds_toArray, List.set_cons_zero, List.set_cons_succ]
        refine wpAnyH_ready (rs := [5, 7]) (by kernel_rfl) (by simp) ?_
        refine AllReadyH.cons rfl (fun K hK => ?_) (AllReadyH.cons rfl (fun K hK => ?_) (AllReadyH.nil))
        · go_simp
          have B24 := Lib.hid (B23.out.ev5 (by decide))
          generalize u23.alloc (.cells #[.int .i64 4, .int .i64 x, .string ⟨#[]⟩, .slice none 0 0, .slice none 0 0, .slice none 0 0, .int .i64 5, .int .i64 0, .string s, .slice none 0 0, .slice none 0 0, .slice none 0 0] 26) = u24 at *
          refine hK.out _ _ (by exact B24.out.held) (fun hHeld => ?_)
          clear hK K
          try simp only [List.getElem_toArray, List.getElem_cons_succ, List.getElem_cons_zero, Act.put, List.setIfInBounds_toArray, List.set_cons_zero, List.set_cons_succ]
          refine wpAnyH_take (i := 6) (v := ?_) rfl (by kernel_rfl) (by kernel_rfl) (by kernel_rfl) (fun _ _ _ h => h) (Or.inl ⟨by kernel_rfl, ?_⟩) (by assumption) ?_
          rotate_left
          · intro wS hSw
            (try dsimp only at hSw)
            go_simp
            try (with_reducible rfl)
          try simp only [List.getElem_toArray, List.getElem_cons_succ, List.getElem_cons_zero, Act.put, List.setIfInBounds_toArray, List.set_cons_zero, List.set_cons_succ]
          refine wpAnyH_ready (rs := [7]) (by kernel_rfl) (by simp) ?_
          refine AllReadyH.cons rfl (fun K hK => ?_) (AllReadyH.nil)
          go_simp
          have B25 := Lib.hid (B24.out.ev7)
          generalize u24.alloc (.cells #[.int .i64 0, .int .i64 0, .string ⟨#[]⟩, .slice none 0 0, .slice none 0 0, .slice none 0 0] 26) = u25 at *
          refine hK.out _ _ (by exact B25.out.held) (fun hHeld => ?_)
          clear hK K
          try simp only [List.getElem_toArray, List.getElem_cons_succ, List.getElem_cons_zero, Act.put, List.setIfInBounds_toArray, List.set_cons_zero, List.set_cons_succ]
          refine wpAnyH_ready (rs := [9]) (by kernel_rfl) (by simp) ?_
          refine AllReadyH.cons rfl (fun K hK => ?_) (AllReadyH.nil)
          obtain ⟨z0, z1, z2, z3, z4, z5⟩ := (B25.out.z7 rfl).cells
          obtain ⟨t0, t1, t2, t3, t4, t5⟩ := (B25.out.z7 rfl).thaw
          go_simp
          clear z0 z1 z2 z3 z4 z5 t0 t1 t2 t3 t4 t5
          obtain ⟨u26, hu26⟩ : ∃ q, q = ((((((u25.setCell ⟨u24.heap.size, 0, none⟩ (.int .i64 7)).setCell ⟨u24.heap.size, 1, none⟩ (.int .i64 0)).setCell ⟨u24.heap.size, 2, none⟩ (.string ⟨#[]⟩)).setCell ⟨u24.heap.size, 3, none⟩ (.slice none 0 0)).setCell ⟨u24.heap.size, 4, none⟩ (.slice none 0 0)).setCell ⟨u24.heap.size, 5, none⟩ (.slice (some ⟨wd.heap.size, 0, none⟩) 1 1)) := ⟨_, rfl⟩
          rw [← hu26]
          have B26 : Hid (Bun x y s t w u26 wd.heap.size u23.heap.size u24.heap.size u1.heap.size true true 2 1) := by rw [hu26]; exact B25.out.st9
          clear hu26
          refine hK.out _ _ (by exact B26.out.held) (fun hHeld => ?_)
          clear hK K
          try simp only [List.getElem_toArray, List.getElem_cons_succ, List.getElem_cons_zero, Act.put, List.setIfInBounds_toArray, List.set_cons_zero, List.set_cons_succ]
          refine wpAnyH_ready (rs := [10]) (by kernel_rfl) (by simp) ?_
          refine AllReadyH.cons rfl (fun K hK => ?_) (AllReadyH.nil)
          obtain ⟨z0, z1, z2, z3, z4, z5⟩ := (B26.out.z8 rfl).cells
          obtain ⟨t0, t1, t2, t3, t4, t5⟩ := (B26.out.z8 rfl).thaw
          go_simp
          clear z0 z1 z2 z3 z4 z5 t0 t1 t2 t3 t4 t5
          obtain ⟨u27, hu27⟩ : ∃ q, q = ((((((u26.setCell ⟨u1.heap.size, 0, none⟩ (.int .i64 7)).setCell ⟨u1.heap.size, 1, none⟩ (.int .i64 0)).setCell ⟨u1.heap.size, 2, none⟩ (.string ⟨#[]⟩)).setCell ⟨u1.heap.size, 3, none⟩ (.slice none 0 0)).setCell ⟨u1.heap.size, 4, none⟩ (.slice none 0 0)).setCell ⟨u1.heap.size, 5, none⟩ (.slice (some ⟨u23.heap.size, 0, none⟩) 2 2)) := ⟨_, rfl⟩
          rw [← hu27]
          have B27 : Hid (Bun x y s t w u27 wd.heap.size u23.heap.size u24.heap.size u1.heap.size true true 2 2) := by rw [hu27]; exact B26.out.st10
          clear hu27
          refine hK.out _ _ (by exact B27.out.held) (fun hHeld => ?_)
          clear hK K
          try simp only [List.getElem_toArray, List.getElem_cons_succ, List.getElem_cons_zero, Act.put, List.setIfInBounds_toArray, List.set_cons_zero, List.set_cons_succ]
          refine wpAnyH_done (by kernel_rfl) ?_ _
          go_wp2_with fail
          go_meet
          exact ⟨_, _, _, _, rfl, rfl, B27.out.r1 rfl, B27.out.r5 rfl, B27.out.s7 rfl, B27.out.s8 rfl, B27.out.six⟩
        · go_simp
          have B28 := Lib.hid (B23.out.ev7)
          generalize u23.alloc (.cells #[.int .i64 0, .int .i64 0, .string ⟨#[]⟩, .slice none 0 0, .slice none 0 0, .slice none 0 0] 26) = u28 at *
          refine hK.out _ _ (by exact B28.out.held) (fun hHeld => ?_)
          clear hK K
          try simp only [List.getElem_toArray, List.getElem_cons_succ, List.getElem_cons_zero, Act.put, List.setIfInBounds_toArray, List.set_cons_zero, List.set_cons_succ]
          refine wpAnyH_ready (rs := [5, 9]) (by kernel_rfl) (by simp) ?_
          refine AllReadyH.cons rfl (fun K hK => ?_) (AllReadyH.cons rfl (fun K hK => ?_) (AllReadyH.nil))
          · go_simp
            have B29 := Lib.hid (B28.out.ev5 (by decide))
            generalize u28.alloc (.cells #[.int .i64 4, .int .i64 x, .string ⟨#[]⟩, .slice none 0 0, .slice none 0 0, .slice none 0 0, .int .i64 5, .int .i64 0, .string s, .slice none 0 0, .slice none 0 0, .slice none 0 0] 26) = u29 at *
            refine hK.out _ _ (by exact B29.out.held) (fun hHeld => ?_)
            clear hK K
            try simp only [List.getElem_toArray, List.getElem_cons_succ, List.getElem_cons_zero, Act.put, List.setIfInBounds_toArray, List.set_cons_zero, List.set_cons_succ]
            refine wpAnyH_take (i := 6) (v := ?_) rfl (by kernel_rfl) (by kernel_rfl) (by kernel_rfl) (fun _ _ _ h => h) (Or.inl ⟨by kernel_rfl, ?_⟩) (by assumption) ?_
            rotate_left
            · intro wS hSw
              (try dsimp only at hSw)
              go_simp
              try (with_reducible rfl)
            try simp only [List.getElem_toArray, List.getElem_cons_succ, List.getElem_cons_zero, Act.put, List.setIfInBounds_toArray, List.set_cons_zero, List.set_cons_succ]
            refine wpAnyH_ready (rs := [9]) (by kernel_rfl) (by simp) ?_
            refine AllReadyH.cons rfl (fun K hK => ?_) (AllReadyH.nil)
            obtain ⟨z0, z1, z2, z3, z4, z5⟩ := (B29.out.z7 rfl).cells
            obtain ⟨t0, t1, t2, t3, t4, t5⟩ := (B29.out.z7 rfl).thaw
            go_simp
            clear z0 z1 z2 z3 z4 z5 t0 t1 t2 t3 t4 t5
            obtain ⟨u30, hu30⟩ : ∃ q, q = ((((((u29.setCell ⟨u23.heap.size, 0, none⟩ (.int .i64 7)).setCell ⟨u23.heap.size, 1, none⟩ (.int .i64 0)).setCell ⟨u23.heap.size, 2, none⟩ (.string ⟨#[]⟩)).setCell ⟨u23.heap.size, 3, none⟩ (.slice none 0 0)).setCell ⟨u23.heap.size, 4, none⟩ (.slice none 0 0)).setCell ⟨u23.heap.size, 5, none⟩ (.slice (some ⟨wd.heap.size, 0, none⟩) 1 1)) := ⟨_, rfl⟩
            rw [← hu30]
            have B30 : Hid (Bun x y s t w u30 wd.heap.size u28.heap.size u23.heap.size u1.heap.size true true 2 1) := by rw [hu30]; exact B29.out.st9
            clear hu30
            refine hK.out _ _ (by exact B30.out.held) (fun hHeld => ?_)
            clear hK K
            try simp only [List.getElem_toArray, List.getElem_cons_succ, List.getElem_cons_zero, Act.put, List.setIfInBounds_toArray, List.set_cons_zero, List.set_cons_succ]
            refine wpAnyH_ready (rs := [10]) (by kernel_rfl) (by simp) ?_
            refine AllReadyH.cons rfl (fun K hK => ?_) (AllReadyH.nil)
            obtain ⟨z0, z1, z2, z3, z4, z5⟩ := (B30.out.z8 rfl).cells
            obtain ⟨t0, t1, t2, t3, t4, t5⟩ := (B30.out.z8 rfl).thaw
            go_simp
            clear z0 z1 z2 z3 z4 z5 t0 t1 t2 t3 t4 t5
            obtain ⟨u31, hu31⟩ : ∃ q, q = ((((((u30.setCell ⟨u1.heap.size, 0, none⟩ (.int .i64 7)).setCell ⟨u1.heap.size, 1, none⟩ (.int .i64 0)).setCell ⟨u1.heap.size, 2, none⟩ (.string ⟨#[]⟩)).setCell ⟨u1.heap.size, 3, none⟩ (.slice none 0 0)).setCell ⟨u1.heap.size, 4, none⟩ (.slice none 0 0)).setCell ⟨u1.heap.size, 5, none⟩ (.slice (some ⟨u28.heap.size, 0, none⟩) 2 2)) := ⟨_, rfl⟩
            rw [← hu31]
            have B31 : Hid (Bun x y s t w u31 wd.heap.size u28.heap.size u23.heap.size u1.heap.size true true 2 2) := by rw [hu31]; exact B30.out.st10
            clear hu31
            refine hK.out _ _ (by exact B31.out.held) (fun hHeld => ?_)
            clear hK K
            try simp only [List.getElem_toArray, List.getElem_cons_succ, List.getElem_cons_zero, Act.put, List.setIfInBounds_toArray, List.set_cons_zero, List.set_cons_succ]
            refine wpAnyH_done (by kernel_rfl) ?_ _
            go_wp2_with fail
            go_meet
            exact ⟨_, _, _, _, rfl, rfl, B31.out.r1 rfl, B31.out.r5 rfl, B31.out.s7 rfl, B31.out.s8 rfl, B31.out.six⟩
          · obtain ⟨z0, z1, z2, z3, z4, z5⟩ := (B28.out.z7 rfl).cells
            obtain ⟨t0, t1, t2, t3, t4, t5⟩ := (B28.out.z7 rfl).thaw
            go_simp
            clear z0 z1 z2 z3 z4 z5 t0 t1 t2 t3 t4 t5
            obtain ⟨u32, hu32⟩ : ∃ q, q = ((((((u28.setCell ⟨u23.heap.size, 0, none⟩ (.int .i64 7)).setCell ⟨u23.heap.size, 1, none⟩ (.int .i64 0)).setCell ⟨u23.heap.size, 2, none⟩ (.string ⟨#[]⟩)).setCell ⟨u23.heap.size, 3, none⟩ (.slice none 0 0)).setCell ⟨u23.heap.size, 4, none⟩ (.slice none 0 0)).setCell ⟨u23.heap.size, 5, none⟩ (.slice (some ⟨wd.heap.size, 0, none⟩) 1 1)) := ⟨_, rfl⟩
            rw [← hu32]
            have B32 : Hid (Bun x y s t w u32 wd.heap.size 0 u23.heap.size u1.heap.size true false 2 1) := by rw [hu32]; exact B28.out.st9
            clear hu32
            refine hK.out _ _ (by exact B32.out.held) (fun hHeld => ?_)
            clear hK K
            try simp only [List.getElem_toArray, List.getElem_cons_succ, List.getElem_cons_zero, Act.put, List.setIfInBounds_toArray, List.set_cons_zero, List.set_cons_succ]
            refine wpAnyH_ready (rs := [5]) (by kernel_rfl) (by simp) ?_
            refine AllReadyH.cons rfl (fun K hK => ?_) (AllReadyH.nil)
            go_simp
            have B33 := Lib.hid (B32.out.ev5 (by decide))
            generalize u32.alloc (.cells #[.int .i64 4, .int .i64 x, .string ⟨#[]⟩, .slice none 0 0, .slice none 0 0, .slice none 0 0, .int .i64 5, .int .i64 0, .string s, .slice none 0 0, .slice none 0 0, .slice none 0 0] 26) = u33 at *
            refine hK.out _ _ (by exact B33.out.held) (fun hHeld => ?_)
            clear hK K
            try simp only [List.getElem_toArray, List.getElem_cons_succ, List.getElem_cons_zero, Act.put, List.setIfInBounds_toArray, List.set_cons_zero, List.set_cons_succ]
            refine wpAnyH_take (i := 6) (v := ?_) rfl (by kernel_rfl) (by kernel_rfl) (by kernel_rfl) (fun _ _ _ h => h) (Or.inl ⟨by kernel_rfl, ?_⟩) (by assumption) ?_
            rotate_left
            · intro wS hSw
              (try dsimp only at hSw)
              go_simp
              try (with_reducible rfl)
            try simp only [List.getElem_toArray, List.getElem_cons_succ, List.getElem_cons_zero, Act.put, List.setIfInBounds_toArray, List.set_cons_zero, List.set_cons_succ]
            refine wpAnyH_ready (rs := [10]) (by kernel_rfl) (by simp) ?_
            refine AllReadyH.cons rfl (fun K hK => ?_) (AllReadyH.nil)
            obtain ⟨z0, z1, z2, z3, z4, z5⟩ := (B33.out.z8 rfl).cells
            obtain ⟨t0, t1, t2, t3, t4, t5⟩ := (B33.out.z8 rfl).thaw
            go_simp
            clear z0 z1 z2 z3 z4 z5 t0 t1 t2 t3 t4 t5
            obtain ⟨u34, hu34⟩ : ∃ q, q = ((((((u33.setCell ⟨u1.heap.size, 0, none⟩ (.int .i64 7)).setCell ⟨u1.heap.size, 1, none⟩ (.int .i64 0)).setCell ⟨u1.heap.size, 2, none⟩ (.string ⟨#[]⟩)).setCell ⟨u1.heap.size, 3, none⟩ (.slice none 0 0)).setCell ⟨u1.heap.size, 4, none⟩ (.slice none 0 0)).setCell ⟨u1.heap.size, 5, none⟩ (.slice (some ⟨u32.heap.size, 0, none⟩) 2 2)) := ⟨_, rfl⟩
            rw [← hu34]
            have B34 : Hid (Bun x y s t w u34 wd.heap.size u32.heap.size u23.heap.size u1.heap.size true true 2 2) := by rw [hu34]; exact B33.out.st10
            clear hu34
            refine hK.out _ _ (by exact B34.out.held) (fun hHeld => ?_)
            clear hK K
            try simp only [List.getElem_toArray, List.getElem_cons_succ, List.getElem_cons_zero, Act.put, List.setIfInBounds_toArray, List.set_cons_zero, List.set_cons_succ]
            refine wpAnyH_done (by kernel_rfl) ?_ _
            go_wp2_with fail
            go_meet
            exact ⟨_, _, _, _, rfl, rfl, B34.out.r1 rfl, B34.out.r5 rfl, B34.out.s7 rfl, B34.out.s8 rfl, B34.out.six⟩
    · go_simp
      have B35 := Lib.hid (BD.out.ev5 (by decide))
      generalize wd.alloc (.cells #[.int .i64 4, .int .i64 x, .string ⟨#[]⟩, .slice none 0 0, .slice none 0 0, .slice none 0 0, .int .i64 5, .int .i64 0, .string s, .slice none 0 0, .slice none 0 0, .slice none 0 0] 26) = u35 at *
      refine hK.out _ _ (by exact B35.out.held) (fun hHeld => ?_)
      clear hK K
      try simp only [List.getElem_toArray, List.getElem_cons_succ, List.getElem_cons_zero, Act.put, List.setIfInBounds_toArray, List.set_cons_zero, List.set_cons_succ]
      refine wpAnyH_take (i := 6) (v := ?_) rfl (by kernel_rfl) (by kernel_rfl) (by kernel_rfl) (fun _ _ _ h => h) (Or.inl ⟨by kernel_rfl, ?_⟩) (by assumption) ?_
      rotate_left
      · intro wS hSw
        (try dsimp only at hSw)
        go_simp
        try (with_reducible rfl)
      try simp only [List.getElem_toArray, List.getElem_cons_succ, List.getElem_cons_zero, Act.put, List.setIfInBounds_toArray, List.set_cons_zero, List.set_cons_succ]
      refine wpAnyH_ready (rs := [1, 7, 8]) (by kernel_rfl) (by simp) ?_
      refine AllReadyH.cons rfl (fun K hK => ?_) (AllReadyH.cons rfl (fun K hK => ?_) (AllReadyH.cons rfl (fun K hK => ?_) (AllReadyH.nil)))
      · go_simp
        have B36 := Lib.hid (B35.out.ev1 (by decide))
        generalize u35.alloc (.cells #[.int .i64 4, .int .i64 x, .string ⟨#[]⟩, .slice none 0 0, .slice none 0 0, .slice none 0 0] 26) = u36 at *
        refine hK.out _ _ (by exact B36.out.held) (fun hHeld => ?_)
        clear hK K
        try simp only [List.getElem_toArray, List.getElem_cons_succ, List.getElem_cons_zero, Act.put, List.setIfInBounds_toArray, List.set_cons_zero, List.set_cons_succ]
        refine wpAnyH_take (i := 2) (v := ?_) rfl (by kernel_rfl) (by kernel_rfl) (by kernel_rfl) (fun _ _ _ h => h) (Or.inl ⟨by kernel_rfl, ?_⟩) (by assumption) ?_
        rotate_left
        · intro wS hSw
          (try dsimp only at hSw)
          go_simp
          try (with_reducible rfl)
        try simp only [List.getElem_toArray, List.getElem_cons_succ, List.getElem_cons_zero, Act.put, List.setIfInBounds_toArray, List.set_cons_zero, List.set_cons_succ]
        refine wpAnyH_ready (rs := [7, 8]) (by kernel_rfl) (by simp) ?_
        refine AllReadyH.cons rfl (fun K hK => ?_) (AllReadyH.cons rfl (fun K hK => ?_) (AllReadyH.nil))
        · go_simp
          have B37 := Lib.hid (B36.out.ev7)
          generalize u36.alloc (.cells #[.int .i64 0, .int .i64 0, .string ⟨#[]⟩, .slice none 0 0, .slice none 0 0, .slice none 0 0] 26) = u37 at *
          refine hK.out _ _ (by exact B37.out.held) (fun hHeld => ?_)
          clear hK K
          try simp only [List.getElem_toArray, List.getElem_cons_succ, List.getElem_cons_zero, Act.put, List.setIfInBounds_toArray, List.set_cons_zero, List.set_cons_succ]
          refine wpAnyH_ready (rs := [8]) (by kernel_rfl) (by simp) ?_
          refine AllReadyH.cons rfl (fun K hK => ?_) (AllReadyH.nil)
          go_simp
          have B38 := Lib.hid (B37.out.ev8)
          generalize u37.alloc (.cells #[.int .i64 0, .int .i64 0, .string ⟨#[]⟩, .slice none 0 0, .slice none 0 0, .slice none 0 0] 26) = u38 at *
          refine hK.out _ _ (by exact B38.out.held) (fun hHeld => ?_)
          clear hK K
          try simp only [List.getElem_toArray, List.getElem_cons_succ, List.getElem_cons_zero, Act.put, List.setIfInBounds_toArray, List.set_cons_zero, List.set_cons_succ]
          refine wpAnyH_ready (rs := [9]) (by kernel_rfl) (by simp) ?_
          refine AllReadyH.cons rfl (fun K hK => ?_) (AllReadyH.nil)
          obtain ⟨z0, z1, z2, z3, z4, z5⟩ := (B38.out.z7 rfl).cells
          obtain ⟨t0, t1, t2, t3, t4, t5⟩ := (B38.out.z7 rfl).thaw
          go_simp
          clear z0 z1 z2 z3 z4 z5 t0 t1 t2 t3 t4 t5
          obtain ⟨u39, hu39⟩ : ∃ q, q = ((((((u38.setCell ⟨u36.heap.size, 0, none⟩ (.int .i64 7)).setCell ⟨u36.heap.size, 1, none⟩ (.int .i64 0)).setCell ⟨u36.heap.size, 2, none⟩ (.string ⟨#[]⟩)).setCell ⟨u36.heap.size, 3, none⟩ (.slice none 0 0)).setCell ⟨u36.heap.size, 4, none⟩ (.slice none 0 0)).setCell ⟨u36.heap.size, 5, none⟩ (.slice (some ⟨u35.heap.size, 0, none⟩) 1 1)) := ⟨_, rfl⟩
          rw [← hu39]
          have B39 : Hid (Bun x y s t w u39 u35.heap.size wd.heap.size u36.heap.size u37.heap.size true true 2 1) := by rw [hu39]; exact B38.out.st9
          clear hu39
          refine hK.out _ _ (by exact B39.out.held) (fun hHeld => ?_)
          clear hK K
          try simp only [List.getElem_toArray, List.getElem_cons_succ, List.getElem_cons_zero, Act.put, List.setIfInBounds_toArray, List.set_cons_zero, List.set_cons_succ]
          refine wpAnyH_ready (rs := [10]) (by kernel_rfl) (by simp) ?_
          refine AllReadyH.cons rfl (fun K hK => ?_) (AllReadyH.nil)
          obtain ⟨z0, z1, z2, z3, z4, z5⟩ := (B39.out.z8 rfl).cells
          obtain ⟨t0, t1, t2, t3, t4, t5⟩ := (B39.out.z8 rfl).thaw
          go_simp
          clear z0 z1 z2 z3 z4 z5 t0 t1 t2 t3 t4 t5
          obtain ⟨u40, hu40⟩ : ∃ q, q = ((((((u39.setCell ⟨u37.heap.size, 0, none⟩ (.int .i64 7)).setCell ⟨u37.heap.size, 1, none⟩ (.int .i64 0)).setCell ⟨u37.heap.size, 2, none⟩ (.string ⟨#[]⟩)).setCell ⟨u37.heap.size, 3, none⟩ (.slice none 0 0)).setCell ⟨u37.heap.size, 4, none⟩ (.slice none 0 0)).setCell ⟨u37.heap.size, 5, none⟩ (.slice (some ⟨wd.heap.size, 0, none⟩) 2 2)) := ⟨_, rfl⟩
          rw [← hu40]
          have B40 : Hid (Bun x y s t w u40 u35.heap.size wd.heap.size u36.heap.size u37.heap.size true true 2 2) := by rw [hu40]; exact B39.out.st10
          clear hu40
          refine hK.out _ _ (by exact B40.out.held) (fun hHeld => ?_)
          clear hK K
          try simp only [List.getElem_toArray, List.getElem_cons_succ, List.getElem_cons_zero, Act.put, List.setIfInBounds_toArray, List.set_cons_zero, List.set_cons_succ]
          refine wpAnyH_done (by kernel_rfl) ?_ _
          go_wp2_with fail
          go_meet
          exact ⟨_, _, _, _, rfl, rfl, B40.out.r1 rfl, B40.out.r5 rfl, B40.out.s7 rfl, B40.out.s8 rfl, B40.out.six⟩
        · go_simp
          have B41 := Lib.hid (B36.out.ev8)
          generalize u36.alloc (.cells #[.int .i64 0, .int .i64 0, .string ⟨#[]⟩, .slice none 0 0, .slice none 0 0, .slice none 0 0] 26) = u41 at *
          refine hK.out _ _ (by exact B41.out.held) (fun hHeld => ?_)
          clear hK K
          try simp only [List.getElem_toArray, List.getElem_cons_succ, List.getElem_cons_zero, Act.put, List.setIfInBounds_toArray, List.set_cons_zero, List.set_cons_succ]
          refine wpAnyH_ready (rs := [7]) (by kernel_rfl) (by simp) ?_
          refine AllReadyH.cons rfl (fun K hK => ?_) (AllReadyH.nil)
          go_simp
          have B42 := Lib.hid (B41.out.ev7)
          generalize u41.alloc (.cells #[.int .i64 0, .int .i64 0, .string ⟨#[]⟩, .slice none 0 0, .slice none 0 0, .slice none 0 0] 26) = u42 at *
          refine hK.out _ _ (by exact B42.out.held) (fun hHeld => ?_)
          clear hK K
          try simp only [List.getElem_toArray, List.getElem_cons_succ, List.getElem_cons_zero, Act.put, List.setIfInBounds_toArray, List.set_cons_zero, List.set_cons_succ]
          refine wpAnyH_ready (rs := [9]) (by kernel_rfl) (by simp) ?_
          refine AllReadyH.cons rfl (fun K hK => ?_) (AllReadyH.nil)
          obtain ⟨z0, z1, z2, z3, z4, z5⟩ := (B42.out.z7 rfl).cells
          obtain ⟨t0, t1, t2, t3, t4, t5⟩ := (B42.out.z7 rfl).thaw
          go_simp
          clear z0 z1 z2 z3 z4 z5 t0 t1 t2 t3 t4 t5
          obtain ⟨u43, hu43⟩ : ∃ q, q = ((((((u42.setCell ⟨u41.heap.size, 0, none⟩ (.int .i64 7)).setCell ⟨u41.heap.size, 1, none⟩ (.int .i64 0)).setCell ⟨u41.heap.size, 2, none⟩ (.string ⟨#[]⟩)).setCell ⟨u41.heap.size, 3, none⟩ (.slice none 0 0)).setCell ⟨u41.heap.size, 4, none⟩ (.slice none 0 0)).setCell ⟨u41.heap.size, 5, none⟩ (.slice (some ⟨u35.heap.size, 0, none⟩) 1 1)) := ⟨_, rfl⟩
          rw [← hu43]
          have B43 : Hid (Bun x y s t w u43 u35.heap.size wd.heap.size u41.heap.size u36.heap.size true true 2 1) := by rw [hu43]; exact B42.out.st9
          clear hu43
          refine hK.out _ _ (by exact B43.out.held) (fun hHeld => ?_)
          clear hK K
          try simp only [List.getElem_toArray, List.getElem_cons_succ, List.getElem_cons_zero, Act.put, List.setIfInBounds_toArray, List.set_cons_zero, List.set_cons_succ]
          refine wpAnyH_ready (rs := [10]) (by kernel_rfl) (by simp) ?_
          refine AllReadyH.cons rfl (fun K hK => ?_) (AllReadyH.nil)
          obtain ⟨z0, z1, z2, z3, z4, z5⟩ := (B43.out.z8 rfl).cells
          obtain ⟨t0, t1, t2, t3, t4, t5⟩ := (B43.out.z8 rfl).thaw
          go_simp
          clear z0 z1 z2 z3 z4 z5 t0 t1 t2 t3 t4 t5
          obtain ⟨u44, hu44⟩ : ∃ q, q = ((((((u43.setCell ⟨u36.heap.size, 0, none⟩ (.int .i64 7)).setCell ⟨u36.heap.size, 1, none⟩ (.int .i64 0)).setCell ⟨u36.heap.size, 2, none⟩ (.string ⟨#[]⟩)).setCell ⟨u36.heap.size, 3, none⟩ (.slice none 0 0)).setCell ⟨u36.heap.size, 4, none⟩ (.slice none 0 0)).setCell ⟨u36.heap.size, 5, none⟩ (.slice (some ⟨wd.heap.size, 0, none⟩) 2 2)) := ⟨_, rfl⟩
          rw [← hu44]
          have B44 : Hid (Bun x y s t w u44 u35.heap.size wd.heap.size u41.heap.size u36.heap.size true true 2 2) := by rw [hu44]; exact B43.out.st10
          clear hu44
          refine hK.out _ _ (by exact B44.out.held) (fun hHeld => ?_)
          clear hK K
          try simp only [List.getElem_toArray, List.getElem_cons_succ, List.getElem_cons_zero, Act.put, List.setIfInBounds_toArray, List.set_cons_zero, List.set_cons_succ]
          refine wpAnyH_done (by kernel_rfl) ?_ _
          go_wp2_with fail
          go_meet
          exact ⟨_, _, _, _, rfl, rfl, B44.out.r1 rfl, B44.out.r5 rfl, B44.out.s7 rfl, B44.out.s8 rfl, B44.out.six⟩
      · go_simp
        have B45 := Lib.hid (B35.out.ev7)
        generalize u35.alloc (.cells #[.int .i64 0, .int .i64 0, .string ⟨#[]⟩, .slice none 0 0, .slice none 0 0, .slice none 0 0] 26) = u45 at *
        refine hK.out _ _ (by exact B45.out.held) (fun hHeld => ?_)
        clear hK K
        try simp only [List.getElem_toArray, List.getElem_cons_succ, List.getElem_cons_zero, Act.put, List.setIfInBounds_toArray, List.set_cons_zero, List.set_cons_succ]
        refine wpAnyH_ready (rs := [1, 8]) (by kernel_rfl) (by simp) ?_
        refine AllReadyH.cons rfl (fun K hK => ?_) (AllReadyH.cons rfl (fun K hK => ?_) (AllReadyH.nil))
        · go_simp
          have B46 := Lib.hid (B45.out.ev1 (by decide))
          generalize u45.alloc (.cells #[.int .i64 4, .int .i64 x, .string ⟨#[]⟩, .slice none 0 0, .slice none 0 0, .slice none 0 0] 26) = u46 at *
          refine hK.out _ _ (by exact B46.out.held) (fun hHeld => ?_)
          clear hK K
          try simp only [List.getElem_toArray, List.getElem_cons_succ, List.getElem_cons_zero, Act.put, List.setIfInBounds_toArray, List.set_cons_zero, List.set_cons_succ]
          refine wpAnyH_take (i := 2) (v := ?_) rfl (by kernel_rfl) (by kernel_rfl) (by kernel_rfl) (fun _ _ _ h => h) (Or.inl ⟨by kernel_rfl, ?_⟩) (by assumption) ?_
          rotate_left
          · intro wS hSw
            (try dsimp only at hSw)
            go_simp
            try (with_reducible rfl)
          try simp only [List.getElem_toArray, List.getElem_cons_succ, List.getElem_cons_zero, Act.put, List.setIfInBounds_toArray, List.set_cons_zero, List.set_cons_succ]
          refine wpAnyH_ready (rs := [8]) (by kernel_rfl) (by simp) ?_
          refine AllReadyH.cons rfl (fun K hK => ?_) (AllReadyH.nil)
          go_simp
          have B47 := Lib.hid (B46.out.ev8)
          generalize u46.alloc (.cells #[.int .i64 0, .int .i64 0, .string ⟨#[]⟩, .slice none 0 0, .slice none 0 0, .slice none 0 0] 26) = u47 at *
          refine hK.out _ _ (by exact B47.out.held) (fun hHeld => ?_)
          clear hK K
          try simp only [List.getElem_toArray, List.getElem_cons_succ, List.getElem_cons_zero, Act.put, List.setIfInBounds_toArray, List.set_cons_zero, List.set_cons_succ]
          refine wpAnyH_ready (rs := [9]) (by kernel_rfl) (by simp) ?_
          refine AllReadyH.cons rfl (fun K hK => ?_) (AllReadyH.nil)
          obtain ⟨z0, z1, z2, z3, z4, z5⟩ := (B47.out.z7 rfl).cells
          obtain ⟨t0, t1, t2, t3, t4, t5⟩ := (B47.out.z7 rfl).thaw
          go_simp
          clear z0 z1 z2 z3 z4 z5 t0 t1 t2 t3 t4 t5
          obtain ⟨u48, hu48⟩ : ∃ q, q = ((((((u47.setCell ⟨u35.heap.size, 0, none⟩ (.int .i64 7)).setCell ⟨u35.heap.size, 1, none⟩ (.int .i64 0)).setCell ⟨u35.heap.size, 2, none⟩ (.string ⟨#[]⟩)).setCell ⟨u35.heap.size, 3, none⟩ (.slice none 0 0)).setCell ⟨u35.heap.size, 4, none⟩ (.slice none 0 0)).setCell ⟨u35.heap.size, 5, none⟩ (.slice (some ⟨u45.heap.size, 0, none⟩) 1 1)) := ⟨_, rfl⟩
          rw [← hu48]
          have B48 : Hid (Bun x y s t w u48 u45.heap.size wd.heap.size u35.heap.size u46.heap.size true true 2 1) := by rw [hu48]; exact B47.out.st9
          clear hu48
          refine hK.out _ _ (by exact B48.out.held) (fun hHeld => ?_)
          clear hK K
          try simp only [List.getElem_toArray, List.getElem_cons_succ, List.getElem_cons_zero, Act.put, List.setIfInBounds_toArray, List.set_cons_zero, List.set_cons_succ]
          refine wpAnyH_ready (rs := [10]) (by kernel_rfl) (by simp) ?_
          refine AllReadyH.cons rfl (fun K hK => ?_) (AllReadyH.nil)
          obtain ⟨z0, z1, z2, z3, z4, z5⟩ := (B48.out.z8 rfl).cells
          obtain ⟨t0, t1, t2, t3, t4, t5⟩ := (B48.out.z8 rfl).thaw
          go_simp
          clear z0 z1 z2 z3 z4 z5 t0 t1 t2 t3 t4 t5
          obtain ⟨u49, hu49⟩ : ∃ q, q = ((((((u48.setCell ⟨u46.heap.size, 0, none⟩ (.int .i64 7)).setCell ⟨u46.heap.size, 1, none⟩ (.int .i64 0)).setCell ⟨u46.heap.size, 2, none⟩ (.string ⟨#[]⟩)).setCell ⟨u46.heap.size, 3, none⟩ (.slice none 0 0)).setCell ⟨u46.heap.size, 4, none⟩ (.slice none 0 0)).setCell ⟨u46.heap.size, 5, none⟩ (.slice (some ⟨wd.heap.size, 0, none⟩) 2 2)) := ⟨_, rfl⟩
          rw [← hu49]
          have B49 : Hid (Bun x y s t w u49 u45.heap.size wd.heap.size u35.heap.size u46.heap.size true true 2 2) := by rw [hu49]; exact B48.out.st10
          clear hu49
          refine hK.out _ _ (by exact B49.out.held) (fun hHeld => ?_)
          clear hK K
          try simp only [List.getElem_toArray, List.getElem_cons_succ, List.getElem_cons_zero, Act.put, List.setIfInBounds_toArray, List.set_cons_zero, List.set_cons_succ]
          refine wpAnyH_done (by kernel_rfl) ?_ _
          go_wp2_with fail
          go_meet
          exact ⟨_, _, _, _, rfl, rfl, B49.out.r1 rfl, B49.out.r5 rfl, B49.out.s7 rfl, B49.out.s8 rfl, B49.out.six⟩
        · go_simp
          have B50 := Lib.hid (B45.out.ev8)
          generalize u45.alloc (.cells #[.int .i64 0, .int .i64 0, .string ⟨#[]⟩, .slice none 0 0, .slice none 0 0, .slice none 0 0] 26) = u50 at *
          refine hK.out _ _ (by exact B50.out.held) (fun hHeld => ?_)
          clear hK K
          try simp only [List.getElem_toArray, List.getElem_cons_succ, List.getElem_cons_zero, Act.put, List.setIfInBounds_toArray, List.set_cons_zero, List.set_cons_succ]
          refine wpAnyH_ready (rs := [1]) (by kernel_rfl) (by simp) ?_
          refine AllReadyH.cons rfl (fun K hK => ?_) (AllReadyH.nil)
          go_simp
          have B51 := Lib.hid (B50.out.ev1 (by decide))
          generalize u50.alloc (.cells #[.int .i64 4, .int .i64 x, .string ⟨#[]⟩, .slice none 0 0, .slice none 0 0, .slice none 0 0] 26) = u51 at *
          refine hK.out _ _ (by exact B51.out.held) (fun hHeld => ?_)
          clear hK K
          try simp only [List.getElem_toArray, List.getElem_cons_succ, List.getElem_cons_zero, Act.put, List.setIfInBounds_toArray, List.set_cons_zero, List.set_cons_succ]
          refine wpAnyH_take (i := 2) (v := ?_) rfl (by kernel_rfl) (by kernel_rfl) (by kernel_rfl) (fun _ _ _ h => h) (Or.inl ⟨by kernel_rfl, ?_⟩) (by assumption) ?_
          rotate_left
          · intro wS hSw
            (try dsimp only at hSw)
            go_simp
            try (with_reducible rfl)
          try simp only [List.getElem_toArray, List.getElem_cons_succ, List.getElem_cons_zero, Act.put, List.setIfInBounds_toArray, List.set_cons_zero, List.set_cons_succ]
          refine wpAnyH_ready (rs := [9]) (by kernel_rfl) (by simp) ?_
          refine AllReadyH.cons rfl (fun K hK => ?_) (AllReadyH.nil)
          obtain ⟨z0, z1, z2, z3, z4, z5⟩ := (B51.out.z7 rfl).cells
          obtain ⟨t0, t1, t2, t3, t4, t5⟩ := (B51.out.z7 rfl).thaw
          go_simp
          clear z0 z1 z2 z3 z4 z5 t0 t1 t2 t3 t4 t5
          obtain ⟨u52, hu52⟩ : ∃ q, q = ((((((u51.setCell ⟨u35.heap.size, 0, none⟩ (.int .i64 7)).setCell ⟨u35.heap.size, 1, none⟩ (.int .i64 0)).setCell ⟨u35.heap.size, 2, none⟩ (.string ⟨#[]⟩)).setCell ⟨u35.heap.size, 3, none⟩ (.slice none 0 0)).setCell ⟨u35.heap.size, 4, none⟩ (.slice none 0 0)).setCell ⟨u35.heap.size, 5, none⟩ (.slice (some ⟨u50.heap.size, 0, none⟩) 1 1)) := ⟨_, rfl⟩
          rw [← hu52]
          have B52 : Hid (Bun x y s t w u52 u50.heap.size wd.heap.size u35.heap.size u45.heap.size true true 2 1) := by rw [hu52]; exact B51.out.st9
          clear hu52
          refine hK.out _ _ (by exact B52.out.held) (fun hHeld => ?_)
          clear hK K
          try simp only [List.getElem_toArray, List.getElem_cons_succ, List.getElem_cons_zero, Act.put, List.setIfInBounds_toArray, List.set_cons_zero, List.set_cons_succ]
          refine wpAnyH_ready (rs := [10]) (by kernel_rfl) (by simp) ?_
          refine AllReadyH.cons rfl (fun K hK => ?_) (AllReadyH.nil)
          obtain ⟨z0, z1, z2, z3, z4, z5⟩ := (B52.out.z8 rfl).cells
          obtain ⟨t0, t1, t2, t3, t4, t5⟩ := (B52.out.z8 rfl).thaw
          go_simp
          clear z0 z1 z2 z3 z4 z5 t0 t1 t2 t3 t4 t5
          obtain ⟨u53, hu53⟩ : ∃ q, q = ((((((u52.setCell ⟨u45.heap.size, 0, none⟩ (.int .i64 7)).setCell ⟨u45.heap.size, 1, none⟩ (.int .i64 0)).setCell ⟨u45.heap.size, 2, none⟩ (.string ⟨#[]⟩)).setCell ⟨u45.heap.size, 3, none⟩ (.slice none 0 0)).setCell ⟨u45.heap.size, 4, none⟩ (.slice none 0 0)).setCell ⟨u45.heap.size, 5, none⟩ (.slice (some ⟨wd.heap.size, 0, none⟩) 2 2)) := ⟨_, rfl⟩
          rw [← hu53]
          have B53 : Hid (Bun x y s t w u53 u50.heap.size wd.heap.size u35.heap.size u45.heap.size true true 2 2) := by rw [hu53]; exact B52.out.st10
          clear hu53
          refine hK.out _ _ (by exact B53.out.held) (fun hHeld => ?_)
          clear hK K
          try simp only [List.getElem_toArray, List.getElem_cons_succ, List.getElem_cons_zero, Act.put, List.setIfInBounds_toArray, List.set_cons_zero, List.set_cons_succ]
          refine wpAnyH_done (by kernel_rfl) ?_ _
          go_wp2_with fail
          go_meet
          exact ⟨_, _, _, _, rfl, rfl, B53.out.r1 rfl, B53.out.r5 rfl, B53.out.s7 rfl, B53.out.s8 rfl, B53.out.six⟩
      · go_simp
        have B54 := Lib.hid (B35.out.ev8)
        generalize u35.alloc (.cells #[.int .i64 0, .int .i64 0, .string ⟨#[]⟩, .slice none 0 0, .slice none 0 0, .slice none 0 0] 26) = u54 at *
        refine hK.out _ _ (by exact B54.out.held) (fun hHeld => ?_)
        clear hK K
        try simp only [List.getElem_toArray, List.getElem_cons_succ, List.getElem_cons_zero, Act.put, List.setIfInBounds_toArray, List.set_cons_zero, List.set_cons_succ]
        refine wpAnyH_ready (rs := [1, 7]) (by kernel_rfl) (by simp) ?_
        refine AllReadyH.cons rfl (fun K hK => ?_) (AllReadyH.cons rfl (fun K hK => ?_) (AllReadyH.nil))
        · go_simp
          have B55 := Lib.hid (B54.out.ev1 (by decide))
          generalize u54.alloc (.cells #[.int .i64 4, .int .i64 x, .string ⟨#[]⟩, .slice none 0 0, .slice none 0 0, .slice none 0 0] 26) = u55 at *
          refine hK.out _ _ (by exact B55.out.held) (fun hHeld => ?_)
          clear hK K
          try simp only [List.getElem_toArray, List.getElem_cons_succ, List.getElem_cons_zero, Act.put, List.setIfInBounds_toArray, List.set_cons_zero, List.set_cons_succ]
          refine wpAnyH_take (i := 2) (v := ?_) rfl (by kernel_rfl) (by kernel_rfl) (by kernel_rfl) (fun _ _ _ h => h) (Or.inl ⟨by kernel_rfl, ?_⟩) (by assumption) ?_
          rotate_left
          · intro wS hSw
            (try dsimp only at hSw)
            go_simp
            try (with_reducible rfl)
          try simp only [List.getElem_toArray, List.getElem_cons_succ, List.getElem_cons_zero, Act.put, List.setIfInBounds_toArray, List.set_cons_zero, List.set_cons_succ]
          refine wpAnyH_ready (rs := [7]) (by kernel_rfl) (by simp) ?_
          refine AllReadyH.cons rfl (fun K hK => ?_) (AllReadyH.nil)
          go_simp
          have B56 := Lib.hid (B55.out.ev7)
          generalize u55.alloc (.cells #[.int .i64 0, .int .i64 0, .string ⟨#[]⟩, .slice none 0 0, .slice none 0 0, .slice none 0 0] 26) = u56 at *
          refine hK.out _ _ (by exact B56.out.held) (fun hHeld => ?_)
          clear hK K
          try simp only [List.getElem_toArray, List.getElem_cons_succ, List.getElem_cons_zero, Act.put, List.setIfInBounds_toArray, List.set_cons_zero, List.set_cons_succ]
          refine wpAnyH_ready (rs := [9]) (by kernel_rfl) (by simp) ?_
          refine AllReadyH.cons rfl (fun K hK => ?_) (AllReadyH.nil)
          obtain ⟨z0, z1, z2, z3, z4, z5⟩ := (B56.out.z7 rfl).cells
          obtain ⟨t0, t1, t2, t3, t4, t5⟩ := (B56.out.z7 rfl).thaw
          go_simp
          clear z0 z1 z2 z3 z4 z5 t0 t1 t2 t3 t4 t5
          obtain ⟨u57, hu57⟩ : ∃ q, q = ((((((u56.setCell ⟨u55.heap.size, 0, none⟩ (.int .i64 7)).setCell ⟨u55.heap.size, 1, none⟩ (.int .i64 0)).setCell ⟨u55.heap.size, 2, none⟩ (.string ⟨#[]⟩)).setCell ⟨u55.heap.size, 3, none⟩ (.slice none 0 0)).setCell ⟨u55.heap.size, 4, none⟩ (.slice none 0 0)).setCell ⟨u55.heap.size, 5, none⟩ (.slice (some ⟨u54.heap.size, 0, none⟩) 1 1)) := ⟨_, rfl⟩
          rw [← hu57]
          have B57 : Hid (Bun x y s t w u57 u54.heap.size wd.heap.size u55.heap.size u35.heap.size true true 2 1) := by rw [hu57]; exact B56.out.st9
          clear hu57
          refine hK.out _ _ (by exact B57.out.held) (fun hHeld => ?_)
          clear hK K
          try simp only [List.getElem_toArray, List.getElem_cons_succ, List.getElem_cons_zero, Act.put, List.setIfInBounds_toArray, List.set_cons_zero, List.set_cons_succ]
          refine wpAnyH_ready (rs := [10]) (by kernel_rfl) (by simp) ?_
          refine AllReadyH.cons rfl (fun K hK => ?_) (AllReadyH.nil)
          obtain ⟨z0, z1, z2, z3, z4, z5⟩ := (B57.out.z8 rfl).cells
          obtain ⟨t0, t1, t2, t3, t4, t5⟩ := (B57.out.z8 rfl).thaw
          go_simp
          clear z0 z1 z2 z3 z4 z5 t0 t1 t2 t3 t4 t5
          obtain ⟨u58, hu58⟩ : ∃ q, q = ((((((u57.setCell ⟨u35.heap.size, 0, none⟩ (.int .i64 7)).setCell ⟨u35.heap.size, 1, none⟩ (.int .i64 0)).setCell ⟨u35.heap.size, 2, none⟩ (.string ⟨#[]⟩)).setCell ⟨u35.heap.size, 3, none⟩ (.slice none 0 0)).setCell ⟨u35.heap.size, 4, none⟩ (.slice none 0 0)).setCell ⟨u35.heap.size, 5, none⟩ (.slice (some ⟨wd.heap.size, 0, none⟩) 2 2)) := ⟨_, rfl⟩
          rw [← hu58]
          have B58 : Hid (Bun x y s t w u58 u54.heap.size wd.heap.size u55.heap.size u35.heap.size true true 2 2) := by rw [hu58]; exact B57.out.st10
          clear hu58
          refine hK.out _ _ (by exact B58.out.held) (fun hHeld => ?_)
          clear hK K
          try simp only [List.getElem_toArray, List.getElem_cons_succ, List.getElem_cons_zero, Act.put, List.setIfInBounds_toArray, List.set_cons_zero, List.set_cons_succ]
          refine wpAnyH_done (by kernel_rfl) ?_ _
          go_wp2_with fail
          go_meet
          exact ⟨_, _, _, _, rfl, rfl, B58.out.r1 rfl, B58.out.r5 rfl, B58.out.s7 rfl, B58.out.s8 rfl, B58.out.six⟩
        · go_simp
          have B59 := Lib.hid (B54.out.ev7)
          generalize u54.alloc (.cells #[.int .i64 0, .int .i64 0, .string ⟨#[]⟩, .slice none 0 0, .slice none 0 0, .slice none 0 0] 26) = u59 at *
          refine hK.out _ _ (by exact B59.out.held) (fun hHeld => ?_)
          clear hK K
          try simp only [List.getElem_toArray, List.getElem_cons_succ, List.getElem_cons_zero, Act.put, List.setIfInBounds_toArray, List.set_cons_zero, List.set_cons_succ]
          refine wpAnyH_ready (rs := [1]) (by kernel_rfl) (by simp) ?_
          refine AllReadyH.cons rfl (fun K hK => ?_) (AllReadyH.nil)
          go_simp
          have B60 := Lib.hid (B59.out.ev1 (by decide))
          generalize u59.alloc (.cells #[.int .i64 4, .int .i64 x, .string ⟨#[]⟩, .slice none 0 0, .slice none 0 0, .slice none 0 0] 26) = u60 at *
          refine hK.out _ _ (by exact B60.out.held) (fun hHeld => ?_)
          clear hK K
          try simp only [List.getElem_toArray, List.getElem_cons_succ, List.getElem_cons_zero, Act.put, List.setIfInBounds_toArray, List.set_cons_zero, List.set_cons_succ]
          refine wpAnyH_take (i := 2) (v := ?_) rfl (by kernel_rfl) (by kernel_rfl) (by kernel_rfl) (fun _ _ _ h => h) (Or.inl ⟨by kernel_rfl, ?_⟩) (by assumption) ?_
          rotate_left
          · intro wS hSw
            (try dsimp only at hSw)
            go_simp
            try (with_reducible rfl)
          try simp only [List.getElem_toArray, List.getElem_cons_succ, List.getElem_cons_zero, Act.put, List.setIfInBounds_toArray, List.set_cons_zero, List.set_cons_succ]
          refine wpAnyH_ready (rs := [9]) (by kernel_rfl) (by simp) ?_
          refine AllReadyH.cons rfl (fun K hK => ?_) (AllReadyH.nil)
          obtain ⟨z0, z1, z2, z3, z4, z5⟩ := (B60.out.z7 rfl).cells
          obtain ⟨t0, t1, t2, t3, t4, t5⟩ := (B60.out.z7 rfl).thaw
          go_simp
          clear z0 z1 z2 z3 z4 z5 t0 t1 t2 t3 t4 t5
          obtain ⟨u61, hu61⟩ : ∃ q, q = ((((((u60.setCell ⟨u54.heap.size, 0, none⟩ (.int .i64 7)).setCell ⟨u54.heap.size, 1, none⟩ (.int .i64 0)).setCell ⟨u54.heap.size, 2, none⟩ (.string ⟨#[]⟩)).setCell ⟨u54.heap.size, 3, none⟩ (.slice none 0 0)).setCell ⟨u54.heap.size, 4, none⟩ (.slice none 0 0)).setCell ⟨u54.heap.size, 5, none⟩ (.slice (some ⟨u59.heap.size, 0, none⟩) 1 1)) := ⟨_, rfl⟩
          rw [← hu61]
          have B61 : Hid (Bun x y s t w u61 u59.heap.size wd.heap.size u54.heap.size u35.heap.size true true 2 1) := by rw [hu61]; exact B60.out.st9
          clear hu61
          refine hK.out _ _ (by exact B61.out.held) (fun hHeld => ?_)
          clear hK K
          try simp only [List.getElem_toArray, List.getElem_cons_succ, List.getElem_cons_zero, Act.put, List.setIfInBounds_toArray, List.set_cons_zero, List.set_cons_succ]
          refine wpAnyH_ready (rs := [10]) (by kernel_rfl) (by simp) ?_
          refine AllReadyH.cons rfl (fun K hK => ?_) (AllReadyH.nil)
          obtain ⟨z0, z1, z2, z3, z4, z5⟩ := (B61.out.z8 rfl).cells
          obtain ⟨t0, t1, t2, t3, t4, t5⟩ := (B61.out.z8 rfl).thaw
          go_simp
          clear z0 z1 z2 z3 z4 z5 t0 t1 t2 t3 t4 t5
          obtain ⟨u62, hu62⟩ : ∃ q, q = ((((((u61.setCell ⟨u35.heap.size, 0, none⟩ (.int .i64 7)).setCell ⟨u35.heap.size, 1, none⟩ (.int .i64 0)).setCell ⟨u35.heap.size, 2, none⟩ (.string ⟨#[]⟩)).setCell ⟨u35.heap.size, 3, none⟩ (.slice none 0 0)).setCell ⟨u35.heap.size, 4, none⟩ (.slice none 0 0)).setCell ⟨u35.heap.size, 5, none⟩ (.slice (some ⟨wd.heap.size, 0, none⟩) 2 2)) := ⟨_, rfl⟩
          rw [← hu62]
          have B62 : Hid (Bun x y s t w u62 u59.heap.size wd.heap.size u54.heap.size u35.heap.size true true 2 2) := by rw [hu62]; exact B61.out.st10
          clear hu62
          refine hK.out _ _ (by exact B62.out.held) (fun hHeld => ?_)
          clear hK K
          try simp only [List.getElem_toArray, List.getElem_cons_succ, List.getElem_cons_zero, Act.put, List.setIfInBounds_toArray, List.set_cons_zero, List.set_cons_succ]
          refine wpAnyH_done (by kernel_rfl) ?_ _
          go_wp2_with fail
          go_meet
          exact ⟨_, _, _, _, rfl, rfl, B62.out.r1 rfl, B62.out.r5 rfl, B62.out.s7 rfl, B62.out.s8 rfl, B62.out.six⟩
    · go_simp
      have B63 := Lib.hid (BD.out.ev7)
      generalize wd.alloc (.cells #[.int .i64 0, .int .i64 0, .string ⟨#[]⟩, .slice none 0 0, .slice none 0 0, .slice none 0 0] 26) = u63 at *
      refine hK.out _ _ (by exact B63.out.held) (fun hHeld => ?_)
      clear hK K
      try simp only [List.getElem_toArray, List.getElem_cons_succ, List.getElem_cons_zero, Act.put, List.setIfInBounds_toArray, List.set_cons_zero, List.set_cons_succ]
      refine wpAnyH_ready (rs := [1, 5, 8]) (by kernel_rfl) (by simp) ?_
      refine AllReadyH.cons rfl (fun K hK => ?_) (AllReadyH.cons rfl (fun K hK => ?_) (AllReadyH.cons rfl (fun K hK => ?_) (AllReadyH.nil)))
      · go_simp
        have B64 := Lib.hid (B63.out.ev1 (by decide))
        generalize u63.alloc (.cells #[.int .i64 4, .int .i64 x, .string ⟨#[]⟩, .slice none 0 0, .slice none 0 0, .slice none 0 0] 26) = u64 at *
        refine hK.out _ _ (by exact B64.out.held) (fun hHeld => ?_)
        clear hK K
        try simp only [List.getElem_toArray, List.getElem_cons_succ, List.getElem_cons_zero, Act.put, List.setIfInBounds_toArray, List.set_cons_zero, List.set_cons_succ]
        refine wpAnyH_take (i := 2) (v := ?_) rfl (by kernel_rfl) (by kernel_rfl) (by kernel_rfl) (fun _ _ _ h => h) (Or.inl ⟨by kernel_rfl, ?_⟩) (by assumption) ?_
        rotate_left
        · intro wS hSw
          (try dsimp only at hSw)
          go_simp
          try (with_reducible rfl)
        try simp only [List.getElem_toArray, List.getElem_cons_succ, List.getElem_cons_zero, Act.put, List.setIfInBounds_toArray, List.set_cons_zero, List.set_cons_succ]
        refine wpAnyH_ready (rs := [5, 8]) (by kernel_rfl) (by simp) ?_
        refine AllReadyH.cons rfl (fun K hK => ?_) (AllReadyH.cons rfl (fun K hK => ?_) (AllReadyH.nil))
        · go_simp
          have B65 := Lib.hid (B64.out.ev5 (by decide))
          generalize u64.alloc (.cells #[.int .i64 4, .int .i64 x, .string ⟨#[]⟩, .slice none 0 0, .slice none 0 0, .slice none 0 0, .int .i64 5, .int .i64 0, .string s, .slice none 0 0, .slice none 0 0, .slice none 0 0] 26) = u65 at *
          refine hK.out _ _ (by exact B65.out.held) (fun hHeld => ?_)
          clear hK K
          try simp only [List.getElem_toArray, List.getElem_cons_succ, List.getElem_cons_zero, Act.put, List.setIfInBounds_toArray, List.set_cons_zero, List.set_cons_succ]
          refine wpAnyH_take (i := 6) (v := ?_) rfl (by kernel_rfl) (by kernel_rfl) (by kernel_rfl) (fun _ _ _ h => h) (Or.inl ⟨by kernel_rfl, ?_⟩) (by assumption) ?_
          rotate_left
          · intro wS hSw
            (try dsimp only at hSw)
            go_simp
            try (with_reducible rfl)
          try simp only [List.getElem_toArray, List.getElem_cons_succ, List.getElem_cons_zero, Act.put, List.setIfInBounds_toArray, List.set_cons_zero, List.set_cons_succ]
          refine wpAnyH_ready (rs := [8]) (by kernel_rfl) (by simp) ?_
          refine AllReadyH.cons rfl (fun K hK => ?_) (AllReadyH.nil)
          go_simp
          have B66 := Lib.hid (B65.out.ev8)
          generalize u65.alloc (.cells #[.int .i64 0, .int .i64 0, .string ⟨#[]⟩, .slice none 0 0, .slice none 0 0, .slice none 0 0] 26) = u66 at *
          refine hK.out _ _ (by exact B66.out.held) (fun hHeld => ?_)
          clear hK K
          try simp only [List.getElem_toArray, List.getElem_cons_succ, List.getElem_cons_zero, Act.put, List.setIfInBounds_toArray, List.set_cons_zero, List.set_cons_succ]
          refine wpAnyH_ready (rs := [9]) (by kernel_rfl) (by simp) ?_
          refine AllReadyH.cons rfl (fun K hK => ?_) (AllReadyH.nil)
          obtain ⟨z0, z1, z2, z3, z4, z5⟩ := (B66.out.z7 rfl).cells
          obtain ⟨t0, t1, t2, t3, t4, t5⟩ := (B66.out.z7 rfl).thaw
          go_simp
          clear z0 z1 z2 z3 z4 z5 t0 t1 t2 t3 t4 t5
          obtain ⟨u67, hu67⟩ : ∃ q, q = ((((((u66.setCell ⟨wd.heap.size, 0, none⟩ (.int .i64 7)).setCell ⟨wd.heap.size, 1, none⟩ (.int .i64 0)).setCell ⟨wd.heap.size, 2, none⟩ (.string ⟨#[]⟩)).setCell ⟨wd.heap.size, 3, none⟩ (.slice none 0 0)).setCell ⟨wd.heap.size, 4, none⟩ (.slice none 0 0)).setCell ⟨wd.heap.size, 5, none⟩ (.slice (some ⟨u63.heap.size, 0, none⟩) 1 1)) := ⟨_, rfl⟩
          rw [← hu67]
          have B67 : Hid (Bun x y s t w u67 u63.heap.size u64.heap.size wd.heap.size u65.heap.size true true 2 1) := by rw [hu67]; exact B66.out.st9
          clear hu67
          refine hK.out _ _ (by exact B67.out.held) (fun hHeld => ?_)
          clear hK K
          try simp only [List.getElem_toArray, List.getElem_cons_succ, List.getElem_cons_zero, Act.put, List.setIfInBounds_toArray, List.set_cons_zero, List.set_cons_succ]
          refine wpAnyH_ready (rs := [10]) (by kernel_rfl) (by simp) ?_
          refine AllReadyH.cons rfl (fun K hK => ?_) (AllReadyH.nil)
          obtain ⟨z0, z1, z2, z3, z4, z5⟩ := (B67.out.z8 rfl).cells
          obtain ⟨t0, t1, t2, t3, t4, t5⟩ := (B67.out.z8 rfl).thaw
          go_simp
          clear z0 z1 z2 z3 z4 z5 t0 t1 t2 t3 t4 t5
          obtain ⟨u68, hu68⟩ : ∃ q, q = ((((((u67.setCell ⟨u65.heap.size, 0, none⟩ (.int .i64 7)).setCell ⟨u65.heap.size, 1, none⟩ (.int .i64 0)).setCell ⟨u65.heap.size, 2, none⟩ (.string ⟨#[]⟩)).setCell ⟨u65.heap.size, 3, none⟩ (.slice none 0 0)).setCell ⟨u65.heap.size, 4, none⟩ (.slice none 0 0)).setCell ⟨u65.heap.size, 5, none⟩ (.slice (some ⟨u64.heap.size, 0, none⟩) 2 2)) := ⟨_, rfl⟩
          rw [← hu68]
          have B68 : Hid (Bun x y s t w u68 u63.heap.size u64.heap.size wd.heap.size u65.heap.size true true 2 2) := by rw [hu68]; exact B67.out.st10
          clear hu68
          refine hK.out _ _ (by exact B68.out.held) (fun hHeld => ?_)
          clear hK K
          try simp only [List.getElem_toArray, List.getElem_cons_succ, List.getElem_cons_zero, Act.put, List.setIfInBounds_toArray, List.set_cons_zero, List.set_cons_succ]
          refine wpAnyH_done (by kernel_rfl) ?_ _
          go_wp2_with fail
          go_meet
          exact ⟨_, _, _, _, rfl, rfl, B68.out.r1 rfl, B68.out.r5 rfl, B68.out.s7 rfl, B68.out.s8 rfl, B68.out.six⟩
        · go_simp
          have B69 := Lib.hid (B64.out.ev8)
          generalize u64.alloc (.cells #[.int .i64 0, .int .i64 0, .string ⟨#[]⟩, .slice none 0 0, .slice none 0 0, .slice none 0 0] 26) = u69 at *
          refine hK.out _ _ (by exact B69.out.held) (fun hHeld => ?_)
          clear hK K
          try simp only [List.getElem_toArray, List.getElem_cons_succ, List.getElem_cons_zero, Act.put, List.setIfInBounds_toArray, List.set_cons_zero, List.set_cons_succ]
          refine wpAnyH_ready (rs := [5, 9]) (by kernel_rfl) (by simp) ?_
          refine AllReadyH.cons rfl (fun K hK => ?_) (AllReadyH.cons rfl (fun K hK => ?_) (AllReadyH.nil))
          · go_simp
            have B70 := Lib.hid (B69.out.ev5 (by decide))
            generalize u69.alloc (.cells #[.int .i64 4, .int .i64 x, .string ⟨#[]⟩, .slice none 0 0, .slice none 0 0, .slice none 0 0, .int .i64 5, .int .i64 0, .string s, .slice none 0 0, .slice none 0 0, .slice none 0 0] 26) = u70 at *
            refine hK.out _ _ (by exact B70.out.held) (fun hHeld => ?_)
            clear hK K
            try simp only [List.getElem_toArray, List.getElem_cons_succ, List.getElem_cons_zero, Act.put, List.setIfInBounds_toArray, List.set_cons_zero, List.set_cons_succ]
            refine wpAnyH_take (i := 6) (v := ?_) rfl (by kernel_rfl) (by kernel_rfl) (by kernel_rfl) (fun _ _ _ h => h) (Or.inl ⟨by kernel_rfl, ?_⟩) (by assumption) ?_
            rotate_left
            · intro wS hSw
              (try dsimp only at hSw)
              go_simp
              try (with_reducible rfl)
            try simp only [List.getElem_toArray, List.getElem_cons_succ, List.getElem_cons_zero, Act.put, List.setIfInBounds_toArray, List.set_cons_zero, List.set_cons_succ]
            refine wpAnyH_ready (rs := [9]) (by kernel_rfl) (by simp) ?_
            refine AllReadyH.cons rfl (fun K hK => ?_) (AllReadyH.nil)
            obtain ⟨z0, z1, z2, z3, z4, z5⟩ := (B70.out.z7 rfl).cells
            obtain ⟨t0, t1, t2, t3, t4, t5⟩ := (B70.out.z7 rfl).thaw
            go_simp
            clear z0 z1 z2 z3 z4 z5 t0 t1 t2 t3 t4 t5
            obtain ⟨u71, hu71⟩ : ∃ q, q = ((((((u70.setCell ⟨wd.heap.size, 0, none⟩ (.int .i64 7)).setCell ⟨wd.heap.size, 1, none⟩ (.int .i64 0)).setCell ⟨wd.heap.size, 2, none⟩ (.string ⟨#[]⟩)).setCell ⟨wd.heap.size, 3, none⟩ (.slice none 0 0)).setCell ⟨wd.heap.size, 4, none⟩ (.slice none 0 0)).setCell ⟨wd.heap.size, 5, none⟩ (.slice (some ⟨u63.heap.size, 0, none⟩) 1 1)) := ⟨_, rfl⟩
            rw [← hu71]
            have B71 : Hid (Bun x y s t w u71 u63.heap.size u69.heap.size wd.heap.size u64.heap.size true true 2 1) := by rw [hu71]; exact B70.out.st9
            clear hu71
            refine hK.out _ _ (by exact B71.out.held) (fun hHeld => ?_)
            clear hK K
            try simp only [List.getElem_toArray, List.getElem_cons_succ, List.getElem_cons_zero, Act.put, List.setIfInBounds_toArray, List.set_cons_zero, List.set_cons_succ]
            refine wpAnyH_ready (rs := [10]) (by kernel_rfl) (by simp) ?_
            refine AllReadyH.cons rfl (fun K hK => ?_) (AllReadyH.nil)
            obtain ⟨z0, z1, z2, z3, z4, z5⟩ := (B71.out.z8 rfl).cells
            obtain ⟨t0, t1, t2, t3, t4, t5⟩ := (B71.out.z8 rfl).thaw
            go_simp
            clear z0 z1 z2 z3 z4 z5 t0 t1 t2 t3 t4 t5
            obtain ⟨u72, hu72⟩ : ∃ q, q = ((((((u71.setCell ⟨u64.heap.size, 0, none⟩ (.int .i64 7)).setCell ⟨u64.heap.size, 1, none⟩ (.int .i64 0)).setCell ⟨u64.heap.size, 2, none⟩ (.string ⟨#[]⟩)).setCell ⟨u64.heap.size, 3, none⟩ (.slice none 0 0)).setCell ⟨u64.heap.size, 4, none⟩ (.slice none 0 0)).setCell ⟨u64.heap.size, 5, none⟩ (.slice (some ⟨u69.heap.size, 0, none⟩) 2 2)) := ⟨_, rfl⟩
            rw [← hu72]
            have B72 : Hid (Bun x y s t w u72 u63.heap.size u69.heap.size wd.heap.size u64.heap.size true true 2 2) := by rw [hu72]; exact B71.out.st10
            clear hu72
            refine hK.out _ _ (by exact B72.out.held) (fun hHeld => ?_)
            clear hK K
            try simp only [List.getElem_toArray, List.getElem_cons_succ, List.getElem_cons_zero, Act.put, List.setIfInBounds_toArray, List.set_cons_zero, List.set_cons_succ]
            refine wpAnyH_done (by kernel_rfl) ?_ _
            go_wp2_with fail
            go_meet
            exact ⟨_, _, _, _, rfl, rfl, B72.out.r1 rfl, B72.out.r5 rfl, B72.out.s7 rfl, B72.out.s8 rfl, B72.out.six⟩
          · obtain ⟨z0, z1, z2, z3, z4, z5⟩ := (B69.out.z7 rfl).cells
            obtain ⟨t0, t1, t2, t3, t4, t5⟩ := (B69.out.z7 rfl).thaw
            go_simp
            clear z0 z1 z2 z3 z4 z5 t0 t1 t2 t3 t4 t5
            obtain ⟨u73, hu73⟩ : ∃ q, q = ((((((u69.setCell ⟨wd.heap.size, 0, none⟩ (.int .i64 7)).setCell ⟨wd.heap.size, 1, none⟩ (.int .i64 0)).setCell ⟨wd.heap.size, 2, none⟩ (.string ⟨#[]⟩)).setCell ⟨wd.heap.size, 3, none⟩ (.slice none 0 0)).setCell ⟨wd.heap.size, 4, none⟩ (.slice none 0 0)).setCell ⟨wd.heap.size, 5, none⟩ (.slice (some ⟨u63.heap.size, 0, none⟩) 1 1)) := ⟨_, rfl⟩
            rw [← hu73]
            have B73 : Hid (Bun x y s t w u73 u63.heap.size 0 wd.heap.size u64.heap.size true false 2 1) := by rw [hu73]; exact B69.out.st9
            clear hu73
            refine hK.out _ _ (by exact B73.out.held) (fun hHeld => ?_)
            clear hK K
            try simp only [List.getElem_toArray, List.getElem_cons_succ, List.getElem_cons_zero, Act.put, List.setIfInBounds_toArray, List.set_cons_zero, List.set_cons_succ]
            refine wpAnyH_ready (rs := [5]) (by kernel_rfl) (by simp) ?_
            refine AllReadyH.cons rfl (fun K hK => ?_) (AllReadyH.nil)
            go_simp
            have B74 := Lib.hid (B73.out.ev5 (by decide))
            generalize u73.alloc (.cells #[.int .i64 4, .int .i64 x, .string ⟨#[]⟩, .slice none 0 0, .slice none 0 0, .slice none 0 0, .int .i64 5, .int .i64 0, .string s, .slice none 0 0, .slice none 0 0, .slice none 0 0] 26) = u74 at *
            refine hK.out _ _ (by exact B74.out.held) (fun hHeld => ?_)
            clear hK K
            try simp only [List.getElem_toArray, List.getElem_cons_succ, List.getElem_cons_zero, Act.put, List.setIfInBounds_toArray, List.set_cons_zero, List.set_cons_succ]
            refine wpAnyH_take (i := 6) (v := ?_) rfl (by kernel_rfl) (by kernel_rfl) (by kernel_rfl) (fun _ _ _ h => h) (Or.inl ⟨by kernel_rfl, ?_⟩) (by assumption) ?_
            rotate_left
            · intro wS hSw
              (try dsimp only at hSw)
              go_simp
              try (with_reducible rfl)
            try simp only [List.getElem_toArray, List.getElem_cons_succ, List.getElem_cons_zero, Act.put, List.setIfInBounds_toArray, List.set_cons_zero, List.set_cons_succ]
            refine wpAnyH_ready (rs := [10]) (by kernel_rfl) (by simp) ?_
            refine AllReadyH.cons rfl (fun K hK => ?_) (AllReadyH.nil)
            obtain ⟨z0, z1, z2, z3, z4, z5⟩ := (B74.out.z8 rfl).cells
            obtain ⟨t0, t1, t2, t3, t4, t5⟩ := (B74.out.z8 rfl).thaw
            go_simp
            clear z0 z1 z2 z3 z4 z5 t0 t1 t2 t3 t4 t5
            obtain ⟨u75, hu75⟩ : ∃ q, q = ((((((u74.setCell ⟨u64.heap.size, 0, none⟩ (.int .i64 7)).setCell ⟨u64.heap.size, 1, none⟩ (.int .i64 0)).setCell ⟨u64.heap.size, 2, none⟩ (.string ⟨#[]⟩)).setCell ⟨u64.heap.size, 3, none⟩ (.slice none 0 0)).setCell ⟨u64.heap.size, 4, none⟩ (.slice none 0 0)).setCell ⟨u64.heap.size, 5, none⟩ (.slice (some ⟨u73.heap.size, 0, none⟩) 2 2)) := ⟨_, rfl⟩
            rw [← hu75]
            have B75 : Hid (Bun x y s t w u75 u63.heap.size u73.heap.size wd.heap.size u64.heap.size true true 2 2) := by rw [hu75]; exact B74.out.st10
            clear hu75
            refine hK.out _ _ (by exact B75.out.held) (fun hHeld => ?_)
            clear hK K
            try simp only [List.getElem_toArray, List.getElem_cons_succ, List.getElem_cons_zero, Act.put, List.setIfInBounds_toArray, List.set_cons_zero, List.set_cons_succ]
            refine wpAnyH_done (by kernel_rfl) ?_ _
            go_wp2_with fail
            go_meet
            exact ⟨_, _, _, _, rfl, rfl, B75.out.r1 rfl, B75.out.r5 rfl, B75.out.s7 rfl, B75.out.s8 rfl, B75.out.six⟩
      · go_simp
        have B76 := Lib.hid (B63.out.ev5 (by decide))
        generalize u63.alloc (.cells #[.int .i64 4, .int .i64 x, .string ⟨#[]⟩, .slice none 0 0, .slice none 0 0, .slice none 0 0, .int .i64 5, .int .i64 0, .string s, .slice none 0 0, .slice none 0 0, .slice none 0 0] 26) = u76 at *
        refine hK.out _ _ (by exact B76.out.held) (fun hHeld => ?_)
        clear hK K
        try simp only [List.getElem_toArray, List.getElem_cons_succ, List.getElem_cons_zero, Act.put, List.setIfInBounds_toArray, List.set_cons_zero, List.set_cons_succ]
        refine wpAnyH_take (i := 6) (v := ?_) rfl (by kernel_rfl) (by kernel_rfl) (by kernel_rfl) (fun _ _ _ h => h) (Or.inl ⟨by kernel_rfl, ?_⟩) (by assumption) ?_
        rotate_left
        · intro wS hSw
          (try dsimp only at hSw)
          go_simp
          try (with_reducible rfl)
        try simp only [List.getElem_toArray, List.getElem_cons_succ, List.getElem_cons_zero, Act.put, List.setIfInBounds_toArray, List.set_cons_zero, List.set_cons_succ]
        refine wpAnyH_ready (rs := [1, 8]) (by kernel_rfl) (by simp) ?_
        refine AllReadyH.cons rfl (fun K hK => ?_) (AllReadyH.cons rfl (fun K hK => ?_) (AllReadyH.nil))
        · go_simp
          have B77 := Lib.hid (B76.out.ev1 (by decide))
          generalize u76.alloc (.cells #[.int .i64 4, .int .i64 x, .string ⟨#[]⟩, .slice none 0 0, .slice none 0 0, .slice none 0 0] 26) = u77 at *
          refine hK.out _ _ (by exact B77.out.held) (fun hHeld => ?_)
          clear hK K
          try simp only [List.getElem_toArray, List.getElem_cons_succ, List.getElem_cons_zero, Act.put, List.setIfInBounds_toArray, List.set_cons_zero, List.set_cons_succ]
          refine wpAnyH_take (i := 2) (v := ?_) rfl (by kernel_rfl) (by kernel_rfl) (by kernel_rfl) (fun _ _ _ h => h) (Or.inl ⟨by kernel_rfl, ?_⟩) (by assumption) ?_
          rotate_left
          · intro wS hSw
            (try dsimp only at hSw)
            go_simp
            try (with_reducible rfl)
          try simp only [List.getElem_toArray, List.getElem_cons_succ, List.getElem_cons_zero, Act.put, List.setIfInBounds_toArray, List.set_cons_zero, List.set_cons_succ]
          refine wpAnyH_ready (rs := [8]) (by kernel_rfl) (by simp) ?_
          refine AllReadyH.cons rfl (fun K hK => ?_) (AllReadyH.nil)
          go_simp
          have B78 := Lib.hid (B77.out.ev8)
          generalize u77.alloc (.cells #[.int .i64 0, .int .i64 0, .string ⟨#[]⟩, .slice none 0 0, .slice none 0 0, .slice none 0 0] 26) = u78 at *
          refine hK.out _ _ (by exact B78.out.held) (fun hHeld => ?_)
          clear hK K
          try simp only [List.getElem_toArray, List.getElem_cons_succ, List.getElem_cons_zero, Act.put, List.setIfInBounds_toArray, List.set_cons_zero, List.set_cons_succ]
          refine wpAnyH_ready (rs := [9]) (by kernel_rfl) (by simp) ?_
          refine AllReadyH.cons rfl (fun K hK => ?_) (AllReadyH.nil)
          obtain ⟨z0, z1, z2, z3, z4, z5⟩ := (B78.out.z7 rfl).cells
          obtain ⟨t0, t1, t2, t3, t4, t5⟩ := (B78.out.z7 rfl).thaw
          go_simp
          clear z0 z1 z2 z3 z4 z5 t0 t1 t2 t3 t4 t5
          obtain ⟨u79, hu79⟩ : ∃ q, q = ((((((u78.setCell ⟨wd.heap.size, 0, none⟩ (.int .i64 7)).setCell ⟨wd.heap.size, 1, none⟩ (.int .i64 0)).setCell ⟨wd.heap.size, 2, none⟩ (.string ⟨#[]⟩)).setCell ⟨wd.heap.size, 3, none⟩ (.slice none 0 0)).setCell ⟨wd.heap.size, 4, none⟩ (.slice none 0 0)).setCell ⟨wd.heap.size, 5, none⟩ (.slice (some ⟨u76.heap.size, 0, none⟩) 1 1)) := ⟨_, rfl⟩
          rw [← hu79]
          have B79 : Hid (Bun x y s t w u79 u76.heap.size u63.heap.size wd.heap.size u77.heap.size true true 2 1) := by rw [hu79]; exact B78.out.st9
          clear hu79
          refine hK.out _ _ (by exact B79.out.held) (fun hHeld => ?_)
          clear hK K
          try simp only [List.getElem_toArray, List.getElem_cons_succ, List.getElem_cons_zero, Act.put, List.setIfInBounds_toArray, List.set_cons_zero, List.set_cons_succ]
          refine wpAnyH_ready (rs := [10]) (by kernel_rfl) (by simp) ?_
          refine AllReadyH.cons rfl (fun K hK => ?_) (AllReadyH.nil)
          obtain ⟨z0, z1, z2, z3, z4, z5⟩ := (B79.out.z8 rfl).cells
          obtain ⟨t0, t1, t2, t3, t4, t5⟩ := (B79.out.z8 rfl).thaw
          go_simp
          clear z0 z1 z2 z3 z4 z5 t0 t1 t2 t3 t4 t5
          obtain ⟨u80, hu80⟩ : ∃ q, q = ((((((u79.setCell ⟨u77.heap.size, 0, none⟩ (.int .i64 7)).setCell ⟨u77.heap.size, 1, none⟩ (.int .i64 0)).setCell ⟨u77.heap.size, 2, none⟩ (.string ⟨#[]⟩)).setCell ⟨u77.heap.size, 3, none⟩ (.slice none 0 0)).setCell ⟨u77.heap.size, 4, none⟩ (.slice none 0 0)).setCell ⟨u77.heap.size, 5, none⟩ (.slice (some ⟨u63.heap.size, 0, none⟩) 2 2)) := ⟨_, rfl⟩
          rw [← hu80]
          have B80 : Hid (Bun x y s t w u80 u76.heap.size u63.heap.size wd.heap.size u77.heap.size true true 2 2) := by rw [hu80]; exact B79.out.st10
          clear hu80
          refine hK.out _ _ (by exact B80.out.held) (fun hHeld => ?_)
          clear hK K
          try simp only [List.getElem_toArray, List.getElem_cons_succ, List.getElem_cons_zero, Act.put, List.setIfInBounds_toArray, List.set_cons_zero, List.set_cons_succ]
          refine wpAnyH_done (by kernel_rfl) ?_ _
          go_wp2_with fail
          go_meet
          exact ⟨_, _, _, _, rfl, rfl, B80.out.r1 rfl, B80.out.r5 rfl, B80.out.s7 rfl, B80.out.s8 rfl, B80.out.six⟩
        · go_simp
          have B81 := Lib.hid (B76.out.ev8)
          generalize u76.alloc (.cells #[.int .i64 0, .int .i64 0, .string ⟨#[]⟩, .slice none 0 0, .slice none 0 0, .slice none 0 0] 26) = u81 at *
          refine hK.out _ _ (by exact B81.out.held) (fun hHeld => ?_)
          clear hK K
          try simp only [List.getElem_toArray, List.getElem_cons_succ, List.getElem_cons_zero, Act.put, List.setIfInBounds_toArray, List.set_cons_zero, List.set_cons_succ]
          refine wpAnyH_ready (rs := [1]) (by kernel_rfl) (by simp) ?_
          refine AllReadyH.cons rfl (fun K hK => ?_) (AllReadyH.nil)
          go_simp
          have B82 := Lib.hid (B81.out.ev1 (by decide))
          generalize u81.alloc (.cells #[.int .i64 4, .int .i64 x, .string ⟨#[]⟩, .slice none 0 0, .slice none 0 0, .slice none 0 0] 26) = u82 at *
          refine hK.out _ _ (by exact B82.out.held) (fun hHeld => ?_)
          clear hK K
          try simp only [List.getElem_toArray, List.getElem_cons_succ, List.getElem_cons_zero, Act.put, List.setIfInBounds_toArray, List.set_cons_zero, List.set_cons_succ]
          refine wpAnyH_take (i := 2) (v := ?_) rfl (by kernel_rfl) (by kernel_rfl) (by kernel_rfl) (fun _ _ _ h => h) (Or.inl ⟨by kernel_rfl, ?_⟩) (by assumption) ?_
          rotate_left
          · intro wS hSw
            (try dsimp only at hSw)
            go_simp
            try (with_reducible rfl)
          try simp only [List.getElem_toArray, List.getElem_cons_succ, List.getElem_cons_zero, Act.put, List.setIfInBounds_toArray, List.set_cons_zero, List.set_cons_succ]
          refine wpAnyH_ready (rs := [9]) (by kernel_rfl) (by simp) ?_
          refine AllReadyH.cons rfl (fun K hK => ?_) (AllReadyH.nil)
          obtain ⟨z0, z1, z2, z3, z4, z5⟩ := (B82.out.z7 rfl).cells
          obtain ⟨t0, t1, t2, t3, t4, t5⟩ := (B82.out.z7 rfl).thaw
          go_simp
          clear z0 z1 z2 z3 z4 z5 t0 t1 t2 t3 t4 t5
          obtain ⟨u83, hu83⟩ : ∃ q, q = ((((((u82.setCell ⟨wd.heap.size, 0, none⟩ (.int .i64 7)).setCell ⟨wd.heap.size, 1, none⟩ (.int .i64 0)).setCell ⟨wd.heap.size, 2, none⟩ (.string ⟨#[]⟩)).setCell ⟨wd.heap.size, 3, none⟩ (.slice none 0 0)).setCell ⟨wd.heap.size, 4, none⟩ (.slice none 0 0)).setCell ⟨wd.heap.size, 5, none⟩ (.slice (some ⟨u81.heap.size, 0, none⟩) 1 1)) := ⟨_, rfl⟩
          rw [← hu83]
          have B83 : Hid (Bun x y s t w u83 u81.heap.size u63.heap.size wd.heap.size u76.heap.size true true 2 1) := by rw [hu83]; exact B82.out.st9
          clear hu83
          refine hK.out _ _ (by exact B83.out.held) (fun hHeld => ?_)
          clear hK K
          try simp only [List.getElem_toArray, List.getElem_cons_succ, List.getElem_cons_zero, Act.put, List.setIfInBounds_toArray, List.set_cons_zero, List.set_cons_succ]
          refine wpAnyH_ready (rs := [10]) (by kernel_rfl) (by simp) ?_
          refine AllReadyH.cons rfl (fun K hK => ?_) (AllReadyH.nil)
          obtain ⟨z0, z1, z2, z3, z4, z5⟩ := (B83.out.z8 rfl).cells
          obtain ⟨t0, t1, t2, t3, t4, t5⟩ := (B83.out.z8 rfl).thaw
          go_simp
          clear z0 z1 z2 z3 z4 z5 t0 t1 t2 t3 t4 t5
          obtain ⟨u84, hu84⟩ : ∃ q, q = ((((((u83.setCell ⟨u76.heap.size, 0, none⟩ (.int .i64 7)).setCell ⟨u76.heap.size, 1, none⟩ (.int .i64 0)).setCell ⟨u76.heap.size, 2, none⟩ (.string ⟨#[]⟩)).setCell ⟨u76.heap.size, 3, none⟩ (.slice none 0 0)).setCell ⟨u76.heap.size, 4, none⟩ (.slice none 0 0)).setCell ⟨u76.heap.size, 5, none⟩ (.slice (some ⟨u63.heap.size, 0, none⟩) 2 2)) := ⟨_, rfl⟩
          rw [← hu84]
          have B84 : Hid (Bun x y s t w u84 u81.heap.size u63.heap.size wd.heap.size u76.heap.size true true 2 2) := by rw [hu84]; exact B83.out.st10
          clear hu84
          refine hK.out _ _ (by exact B84.out.held) (fun hHeld => ?_)
          clear hK K
          try simp only [List.getElem_toArray, List.getElem_cons_succ, List.getElem_cons_zero, Act.put, List.setIfInBounds_toArray, List.set_cons_zero, List.set_cons_succ]
          refine wpAnyH_done (by kernel_rfl) ?_ _
          go_wp2_with fail
          go_meet
          exact ⟨_, _, _, _, rfl, rfl, B84.out.r1 rfl, B84.out.r5 rfl, B84.out.s7 rfl, B84.out.s8 rfl, B84.out.six⟩
      · go_simp
        have B85 := Lib.hid (B63.out.ev8)
        generalize u63.alloc (.cells #[.int .i64 0, .int .i64 0, .string ⟨#[]⟩, .slice none 0 0, .slice none 0 0, .slice none 0 0] 26) = u85 at *
        refine hK.out _ _ (by exact B85.out.held) (fun hHeld => ?_)
        clear hK K
        try simp only [List.getElem_toArray, List.getElem_cons_succ, List.getElem_cons_zero, Act.put, List.setIfInBounds_toArray, List.set_cons_zero, List.set_cons_succ]
        refine wpAnyH_ready (rs := [1, 5]) (by kernel_rfl) (by simp) ?_
        refine AllReadyH.cons rfl (fun K hK => ?_) (AllReadyH.cons rfl (fun K hK => ?_) (AllReadyH.nil))
        · go_simp
          have B86 := Lib.hid (B85.out.ev1 (by decide))
          generalize u85.alloc (.cells #[.int .i64 4, .int .i64 x, .string ⟨#[]⟩, .slice none 0 0, .slice none 0 0, .slice none 0 0] 26) = u86 at *
          refine hK.out _ _ (by exact B86.out.held) (fun hHeld => ?_)
          clear hK K
          try simp only [List.getElem_toArray, List.getElem_cons_succ, List.getElem_cons_zero, Act.put, List.setIfInBounds_toArray, List.set_cons_zero, List.set_cons_succ]
          refine wpAnyH_take (i := 2) (v := ?_) rfl (by kernel_rfl) (by kernel_rfl) (by kernel_rfl) (fun _ _ _ h => h) (Or.inl ⟨by kernel_rfl, ?_⟩) (by assumption) ?_
          rotate_left
          · intro wS hSw
            (try dsimp only at hSw)
            go_simp
            try (with_reducible rfl)
          try simp only [List.getElem_toArray, List.getElem_cons_succ, List.getElem_cons_zero, Act.put, List.setIfInBounds_toArray, List.set_cons_zero, List.set_cons_succ]
          refine wpAnyH_ready (rs := [5, 9]) (by kernel_rfl) (by simp) ?_
          refine AllReadyH.cons rfl (fun K hK => ?_) (AllReadyH.cons rfl (fun K hK => ?_) (AllReadyH.nil))
          · go_simp
            have B87 := Lib.hid (B86.out.ev5 (by decide))
            generalize u86.alloc (.cells #[.int .i64 4, .int .i64 x, .string ⟨#[]⟩, .slice none 0 0, .slice none 0 0, .slice none 0 0, .int .i64 5, .int .i64 0, .string s, .slice none 0 0, .slice none 0 0, .slice none 0 0] 26) = u87 at *
            refine hK.out _ _ (by exact B87.out.held) (fun hHeld => ?_)
            clear hK K
            try simp only [List.getElem_toArray, List.getElem_cons_succ, List.getElem_cons_zero, Act.put, List.setIfInBounds_toArray, List.set_cons_zero, List.set_cons_succ]
            refine wpAnyH_take (i := 6) (v := ?_) rfl (by kernel_rfl) (by kernel_rfl) (by kernel_rfl) (fun _ _ _ h => h) (Or.inl ⟨by kernel_rfl, ?_⟩) (by assumption) ?_
            rotate_left
            · intro wS hSw
              (try dsimp only at hSw)
              go_simp
              try (with_reducible rfl)
            try simp only [List.getElem_toArray, List.getElem_cons_succ, List.getElem_cons_zero, Act.put, List.setIfInBounds_toArray, List.set_cons_zero, List.set_cons_succ]
            refine wpAnyH_ready (rs := [9]) (by kernel_rfl) (by simp) ?_
            refine AllReadyH.cons rfl (fun K hK => ?_) (AllReadyH.nil)
            obtain ⟨z0, z1, z2, z3, z4, z5⟩ := (B87.out.z7 rfl).cells
            obtain ⟨t0, t1, t2, t3, t4, t5⟩ := (B87.out.z7 rfl).thaw
            go_simp
            clear z0 z1 z2 z3 z4 z5 t0 t1 t2 t3 t4 t5
            obtain ⟨u88, hu88⟩ : ∃ q, q = ((((((u87.setCell ⟨wd.heap.size, 0, none⟩ (.int .i64 7)).setCell ⟨wd.heap.size, 1, none⟩ (.int .i64 0)).setCell ⟨wd.heap.size, 2, none⟩ (.string ⟨#[]⟩)).setCell ⟨wd.heap.size, 3, none⟩ (.slice none 0 0)).setCell ⟨wd.heap.size, 4, none⟩ (.slice none 0 0)).setCell ⟨wd.heap.size, 5, none⟩ (.slice (some ⟨u85.heap.size, 0, none⟩) 1 1)) := ⟨_, rfl⟩
            rw [← hu88]
            have B88 : Hid (Bun x y s t w u88 u85.heap.size u86.heap.size wd.heap.size u63.heap.size true true 2 1) := by rw [hu88]; exact B87.out.st9
            clear hu88
            refine hK.out _ _ (by exact B88.out.held) (fun hHeld => ?_)
            clear hK K
            try simp only [List.getElem_toArray, List.getElem_cons_succ, List.getElem_cons_zero, Act.put, List.setIfInBounds_toArray, List.set_cons_zero, List.set_cons_succ]
            refine wpAnyH_ready (rs := [10]) (by kernel_rfl) (by simp) ?_
            refine AllReadyH.cons rfl (fun K hK => ?_) (AllReadyH.nil)
            obtain ⟨z0, z1, z2, z3, z4, z5⟩ := (B88.out.z8 rfl).cells
            obtain ⟨t0, t1, t2, t3, t4, t5⟩ := (B88.out.z8 rfl).thaw
            go_simp
            clear z0 z1 z2 z3 z4 z5 t0 t1 t2 t3 t4 t5
            obtain ⟨u89, hu89⟩ : ∃ q, q = ((((((u88.setCell ⟨u63.heap.size, 0, none⟩ (.int .i64 7)).setCell ⟨u63.heap.size, 1, none⟩ (.int .i64 0)).setCell ⟨u63.heap.size, 2, none⟩ (.string ⟨#[]⟩)).setCell ⟨u63.heap.size, 3, none⟩ (.slice none 0 0)).setCell ⟨u63.heap.size, 4, none⟩ (.slice none 0 0)).setCell ⟨u63.heap.size, 5, none⟩ (.slice (some ⟨u86.heap.size, 0, none⟩) 2 2)) := ⟨_, rfl⟩
            rw [← hu89]
            have B89 : Hid (Bun x y s t w u89 u85.heap.size u86.heap.size wd.heap.size u63.heap.size true true 2 2) := by rw [hu89]; exact B88.out.st10
            clear hu89
            refine hK.out _ _ (by exact B89.out.held) (fun hHeld => ?_)
            clear hK K
            try simp only [List.getElem_toArray, List.getElem_cons_succ, List.getElem_cons_zero, Act.put, List.setIfInBounds_toArray, List.set_cons_zero, List.set_cons_succ]
            refine wpAnyH_done (by kernel_rfl) ?_ _
            go_wp2_with fail
            go_meet
            exact ⟨_, _, _, _, rfl, rfl, B89.out.r1 rfl, B89.out.r5 rfl, B89.out.s7 rfl, B89.out.s8 rfl, B89.out.six⟩
          · obtain ⟨z0, z1, z2, z3, z4, z5⟩ := (B86.out.z7 rfl).cells
            obtain ⟨t0, t1, t2, t3, t4, t5⟩ := (B86.out.z7 rfl).thaw
            go_simp
            clear z0 z1 z2 z3 z4 z5 t0 t1 t2 t3 t4 t5
            obtain ⟨u90, hu90⟩ : ∃ q, q = ((((((u86.setCell ⟨wd.heap.size, 0, none⟩ (.int .i64 7)).setCell ⟨wd.heap.size, 1, none⟩ (.int .i64 0)).setCell ⟨wd.heap.size, 2, none⟩ (.string ⟨#[]⟩)).setCell ⟨wd.heap.size, 3, none⟩ (.slice none 0 0)).setCell ⟨wd.heap.size, 4, none⟩ (.slice none 0 0)).setCell ⟨wd.heap.size, 5, none⟩ (.slice (some ⟨u85.heap.size, 0, none⟩) 1 1)) := ⟨_, rfl⟩
            rw [← hu90]
            have B90 : Hid (Bun x y s t w u90 u85.heap.size 0 wd.heap.size u63.heap.size true false 2 1) := by rw [hu90]; exact B86.out.st9
            clear hu90
            refine hK.out _ _ (by exact B90.out.held) (fun hHeld => ?_)
            clear hK K
            try simp only [List.getElem_toArray, List.getElem_cons_succ, List.getElem_cons_zero, Act.put, List.setIfInBounds_toArray, List.set_cons_zero, List.set_cons_succ]
            refine wpAnyH_ready (rs := [5]) (by kernel_rfl) (by simp) ?_
            refine AllReadyH.cons rfl (fun K hK => ?_) (AllReadyH.nil)
            go_simp
            have B91 := Lib.hid (B90.out.ev5 (by decide))
            generalize u90.alloc (.cells #[.int .i64 4, .int .i64 x, .string ⟨#[]⟩, .slice none 0 0, .slice none 0 0, .slice none 0 0, .int .i64 5, .int .i64 0, .string s, .slice none 0 0, .slice none 0 0, .slice none 0 0] 26) = u91 at *
            refine hK.out _ _ (by exact B91.out.held) (fun hHeld => ?_)
            clear hK K
            try simp only [List.getElem_toArray, List.getElem_cons_succ, List.getElem_cons_zero, Act.put, List.setIfInBounds_toArray, List.set_cons_zero, List.set_cons_succ]
            refine wpAnyH_take (i := 6) (v := ?_) rfl (by kernel_rfl) (by kernel_rfl) (by kernel_rfl) (fun _ _ _ h => h) (Or.inl ⟨by kernel_rfl, ?_⟩) (by assumption) ?_
            rotate_left
            · intro wS hSw
              (try dsimp only at hSw)
              go_simp
              try (with_reducible rfl)
            try simp only [List.getElem_toArray, List.getElem_cons_succ, List.getElem_cons_zero, Act.put, List.setIfInBounds_toArray, List.set_cons_zero, List.set_cons_succ]
            refine wpAnyH_ready (rs := [10]) (by kernel_rfl) (by simp) ?_
            refine AllReadyH.cons rfl (fun K hK => ?_) (AllReadyH.nil)
            obtain ⟨z0, z1, z2, z3, z4, z5⟩ := (B91.out.z8 rfl).cells
            obtain ⟨t0, t1, t2, t3, t4, t5⟩ := (B91.out.z8 rfl).thaw
            go_simp
            clear z0 z1 z2 z3 z4 z5 t0 t1 t2 t3 t4 t5
            obtain ⟨u92, hu92⟩ : ∃ q, q = ((((((u91.setCell ⟨u63.heap.size, 0, none⟩ (.int .i64 7)).setCell ⟨u63.heap.size, 1, none⟩ (.int .i64 0)).setCell ⟨u63.heap.size, 2, none⟩ (.string ⟨#[]⟩)).setCell ⟨u63.heap.size, 3, none⟩ (.slice none 0 0)).setCell ⟨u63.heap.size, 4, none⟩ (.slice none 0 0)).setCell ⟨u63.heap.size, 5, none⟩ (.slice (some ⟨u90.heap.size, 0, none⟩) 2 2)) := ⟨_, rfl⟩
            rw [← hu92]
            have B92 : Hid (Bun x y s t w u92 u85.heap.size u90.heap.size wd.heap.size u63.heap.size true true 2 2) := by rw [hu92]; exact B91.out.st10
            clear hu92
            refine hK.out _ _ (by exact B92.out.held) (fun hHeld => ?_)
            clear hK K
            try simp only [List.getElem_toArray, List.getElem_cons_succ, List.getElem_cons_zero, Act.put, List.setIfInBounds_toArray, List.set_cons_zero, List.set_cons_succ]
            refine wpAnyH_done (by kernel_rfl) ?_ _
            go_wp2_with fail
            go_meet
            exact ⟨_, _, _, _, rfl, rfl, B92.out.r1 rfl, B92.out.r5 rfl, B92.out.s7 rfl, B92.out.s8 rfl, B92.out.six⟩
        · go_simp
          have B93 := Lib.hid (B85.out.ev5 (by decide))
          generalize u85.alloc (.cells #[.int .i64 4, .int .i64 x, .string ⟨#[]⟩, .slice none 0 0, .slice none 0 0, .slice none 0 0, .int .i64 5, .int .i64 0, .string s, .slice none 0 0, .slice none 0 0, .slice none 0 0] 26) = u93 at *
          refine hK.out _ _ (by exact B93.out.held) (fun hHeld => ?_)
          clear hK K
          try simp only [List.getElem_toArray, List.getElem_cons_succ, List.getElem_cons_zero, Act.put, List.setIfInBounds_toArray, List.set_cons_zero, List.set_cons_succ]
          refine wpAnyH_take (i := 6) (v := ?_) rfl (by kernel_rfl) (by kernel_rfl) (by kernel_rfl) (fun _ _ _ h => h) (Or.inl ⟨by kernel_rfl, ?_⟩) (by assumption) ?_
          rotate_left
          · intro wS hSw
            (try dsimp only at hSw)
            go_simp
            try (with_reducible rfl)
          try simp only [List.getElem_toArray, List.getElem_cons_succ, List.getElem_cons_zero, Act.put, List.setIfInBounds_toArray, List.set_cons_zero, List.set_cons_succ]
          refine wpAnyH_ready (rs := [1]) (by kernel_rfl) (by simp) ?_
          refine AllReadyH.cons rfl (fun K hK => ?_) (AllReadyH.nil)
          go_simp
          have B94 := Lib.hid (B93.out.ev1 (by decide))
          generalize u93.alloc (.cells #[.int .i64 4, .int .i64 x, .string ⟨#[]⟩, .slice none 0 0, .slice none 0 0, .slice none 0 0] 26) = u94 at *
          refine hK.out _ _ (by exact B94.out.held) (fun hHeld => ?_)
          clear hK K
          try simp only [List.getElem_toArray, List.getElem_cons_succ, List.getElem_cons_zero, Act.put, List.setIfInBounds_toArray, List.set_cons_zero, List.set_cons_succ]
          refine wpAnyH_take (i := 2) (v := ?_) rfl (by kernel_rfl) (by kernel_rfl) (by kernel_rfl) (fun _ _ _ h => h) (Or.inl ⟨by kernel_rfl, ?_⟩) (by assumption) ?_
          rotate_left
          · intro wS hSw
            (try dsimp only at hSw)
            go_simp
            try (with_reducible rfl)
          try simp only [List.getElem_toArray, List.getElem_cons_succ, List.getElem_cons_zero, Act.put, List.setIfInBounds_toArray, List.set_cons_zero, List.set_cons_succ]
          refine wpAnyH_ready (rs := [9]) (by kernel_rfl) (by simp) ?_
          refine AllReadyH.cons rfl (fun K hK => ?_) (AllReadyH.nil)
          obtain ⟨z0, z1, z2, z3, z4, z5⟩ := (B94.out.z7 rfl).cells
          obtain ⟨t0, t1, t2, t3, t4, t5⟩ := (B94.out.z7 rfl).thaw
          go_simp
          clear z0 z1 z2 z3 z4 z5 t0 t1 t2 t3 t4 t5
          obtain ⟨u95, hu95⟩ : ∃ q, q = ((((((u94.setCell ⟨wd.heap.size, 0, none⟩ (.int .i64 7)).setCell ⟨wd.heap.size, 1, none⟩ (.int .i64 0)).setCell ⟨wd.heap.size, 2, none⟩ (.string ⟨#[]⟩)).setCell ⟨wd.heap.size, 3, none⟩ (.slice none 0 0)).setCell ⟨wd.heap.size, 4, none⟩ (.slice none 0 0)).setCell ⟨wd.heap.size, 5, none⟩ (.slice (some ⟨u93.heap.size, 0, none⟩) 1 1)) := ⟨_, rfl⟩
          rw [← hu95]
          have B95 : Hid (Bun x y s t w u95 u93.heap.size u85.heap.size wd.heap.size u63.heap.size true true 2 1) := by rw [hu95]; exact B94.out.st9
          clear hu95
          refine hK.out _ _ (by exact B95.out.held) (fun hHeld => ?_)
          clear hK K
          try simp only [List.getElem_toArray, List.getElem_cons_succ, List.getElem_cons_zero, Act.put, List.setIfInBounds_toArray, List.set_cons_zero, List.set_cons_succ]
          refine wpAnyH_ready (rs := [10]) (by kernel_rfl) (by simp) ?_
          refine AllReadyH.cons rfl (fun K hK => ?_) (AllReadyH.nil)
          obtain ⟨z0, z1, z2, z3, z4, z5⟩ := (B95.out.z8 rfl).cells
          obtain ⟨t0, t1, t2, t3, t4, t5⟩ := (B95.out.z8 rfl).thaw
          go_simp
          clear z0 z1 z2 z3 z4 z5 t0 t1 t2 t3 t4 t5
          obtain ⟨u96, hu96⟩ : ∃ q, q = ((((((u95.setCell ⟨u63.heap.size, 0, none⟩ (.int .i64 7)).setCell ⟨u63.heap.size, 1, none⟩ (.int .i64 0)).setCell ⟨u63.heap.size, 2, none⟩ (.string ⟨#[]⟩)).setCell ⟨u63.heap.size, 3, none⟩ (.slice none 0 0)).setCell ⟨u63.heap.size, 4, none⟩ (.slice none 0 0)).setCell ⟨u63.heap.size, 5, none⟩ (.slice (some ⟨u85.heap.size, 0, none⟩) 2 2)) := ⟨_, rfl⟩
          rw [← hu96]
          have B96 : Hid (Bun x y s t w u96 u93.heap.size u85.heap.size wd.heap.size u63.heap.size true true 2 2) := by rw [hu96]; exact B95.out.st10
          clear hu96
          refine hK.out _ _ (by exact B96.out.held) (fun hHeld => ?_)
          clear hK K
          try simp only [List.getElem_toArray, List.getElem_cons_succ, List.getElem_cons_zero, Act.put, List.setIfInBounds_toArray, List.set_cons_zero, List.set_cons_succ]
          refine wpAnyH_done (by kernel_rfl) ?_ _
          go_wp2_with fail
          go_meet
          exact ⟨_, _, _, _, rfl, rfl, B96.out.r1 rfl, B96.out.r5 rfl, B96.out.s7 rfl, B96.out.s8 rfl, B96.out.six⟩
    · go_simp
      have B97 := Lib.hid (BD.out.ev8)
      generalize wd.alloc (.cells #[.int .i64 0, .int .i64 0, .string ⟨#[]⟩, .slice none 0 0, .slice none 0 0, .slice none 0 0] 26) = u97 at *
      refine hK.out _ _ (by exact B97.out.held) (fun hHeld => ?_)
      clear hK K
      try simp only [List.getElem_toArray, List.getElem_cons_succ, List.getElem_cons_zero, Act.put, List.setIfInBounds_toArray, List.set_cons_zero, List.set_cons_succ]
      refine wpAnyH_ready (rs := [1, 5, 7]) (by kernel_rfl) (by simp) ?_
      refine AllReadyH.cons rfl (fun K hK => ?_) (AllReadyH.cons rfl (fun K hK => ?_) (AllReadyH.cons rfl (fun K hK => ?_) (AllReadyH.nil)))
      · go_simp
        have B98 := Lib.hid (B97.out.ev1 (by decide))
        generalize u97.alloc (.cells #[.int .i64 4, .int .i64 x, .string ⟨#[]⟩, .slice none 0 0, .slice none 0 0, .slice none 0 0] 26) = u98 at *
        refine hK.out _ _ (by exact B98.out.held) (fun hHeld => ?_)
        clear hK K
        try simp only [List.getElem_toArray, List.getElem_cons_succ, List.getElem_cons_zero, Act.put, List.setIfInBounds_toArray, List.set_cons_zero, List.set_cons_succ]
        refine wpAnyH_take (i := 2) (v := ?_) rfl (by kernel_rfl) (by kernel_rfl) (by kernel_rfl) (fun _ _ _ h => h) (Or.inl ⟨by kernel_rfl, ?_⟩) (by assumption) ?_
        rotate_left
        · intro wS hSw
          (try dsimp only at hSw)
          go_simp
          try (with_reducible rfl)
        try simp only [List.getElem_toArray, List.getElem_cons_succ, List.getElem_cons_zero, Act.put, List.setIfInBounds_toArray, List.set_cons_zero, List.set_cons_succ]
        refine wpAnyH_ready (rs := [5, 7]) (by kernel_rfl) (by simp) ?_
        refine AllReadyH.cons rfl (fun K hK => ?_) (AllReadyH.cons rfl (fun K hK => ?_) (AllReadyH.nil))
        · go_simp
          have B99 := Lib.hid (B98.out.ev5 (by decide))
          generalize u98.alloc (.cells #[.int .i64 4, .int .i64 x, .string ⟨#[]⟩, .slice none 0 0, .slice none 0 0, .slice none 0 0, .int .i64 5, .int .i64 0, .string s, .slice none 0 0, .slice none 0 0, .slice none 0 0] 26) = u99 at *
          refine hK.out _ _ (by exact B99.out.held) (fun hHeld => ?_)
          clear hK K
          try simp only [List.getElem_toArray, List.getElem_cons_succ, List.getElem_cons_zero, Act.put, List.setIfInBounds_toArray, List.set_cons_zero, List.set_cons_succ]
          refine wpAnyH_take (i := 6) (v := ?_) rfl (by kernel_rfl) (by kernel_rfl) (by kernel_rfl) (fun _ _ _ h => h) (Or.inl ⟨by kernel_rfl, ?_⟩) (by assumption) ?_
          rotate_left
          · intro wS hSw
            (try dsimp only at hSw)
            go_simp
            try (with_reducible rfl)
          try simp only [List.getElem_toArray, List.getElem_cons_succ, List.getElem_cons_zero, Act.put, List.setIfInBounds_toArray, List.set_cons_zero, List.set_cons_succ]
          refine wpAnyH_ready (rs := [7]) (by kernel_rfl) (by simp) ?_
          refine AllReadyH.cons rfl (fun K hK => ?_) (AllReadyH.nil)
          go_simp
          have B100 := Lib.hid (B99.out.ev7)
          generalize u99.alloc (.cells #[.int .i64 0, .int .i64 0, .string ⟨#[]⟩, .slice none 0 0, .slice none 0 0, .slice none 0 0] 26) = u100 at *
          refine hK.out _ _ (by exact B100.out.held) (fun hHeld => ?_)
          clear hK K
          try simp only [List.getElem_toArray, List.getElem_cons_succ, List.getElem_cons_zero, Act.put, List.setIfInBounds_toArray, List.set_cons_zero, List.set_cons_succ]
          refine wpAnyH_ready (rs := [9]) (by kernel_rfl) (by simp) ?_
          refine AllReadyH.cons rfl (fun K hK => ?_) (AllReadyH.nil)
          obtain ⟨z0, z1, z2, z3, z4, z5⟩ := (B100.out.z7 rfl).cells
          obtain ⟨t0, t1, t2, t3, t4, t5⟩ := (B100.out.z7 rfl).thaw
          go_simp
          clear z0 z1 z2 z3 z4 z5 t0 t1 t2 t3 t4 t5
          obtain ⟨u101, hu101⟩ : ∃ q, q = ((((((u100.setCell ⟨u99.heap.size, 0, none⟩ (.int .i64 7)).setCell ⟨u99.heap.size, 1, none⟩ (.int .i64 0)).setCell ⟨u99.heap.size, 2, none⟩ (.string ⟨#[]⟩)).setCell ⟨u99.heap.size, 3, none⟩ (.slice none 0 0)).setCell ⟨u99.heap.size, 4, none⟩ (.slice none 0 0)).setCell ⟨u99.heap.size, 5, none⟩ (.slice (some ⟨u97.heap.size, 0, none⟩) 1 1)) := ⟨_, rfl⟩
          rw [← hu101]
          have B101 : Hid (Bun x y s t w u101 u97.heap.size u98.heap.size u99.heap.size wd.heap.size true true 2 1) := by rw [hu101]; exact B100.out.st9
          clear hu101
          refine hK.out _ _ (by exact B101.out.held) (fun hHeld => ?_)
          clear hK K
          try simp only [List.getElem_toArray, List.getElem_cons_succ, List.getElem_cons_zero, Act.put, List.setIfInBounds_toArray, List.set_cons_zero, List.set_cons_succ]
          refine wpAnyH_ready (rs := [10]) (by kernel_rfl) (by simp) ?_
          refine AllReadyH.cons rfl (fun K hK => ?_) (AllReadyH.nil)
          obtain ⟨z0, z1, z2, z3, z4, z5⟩ := (B101.out.z8 rfl).cells
          obtain ⟨t0, t1, t2, t3, t4, t5⟩ := (B101.out.z8 rfl).thaw
          go_simp
          clear z0 z1 z2 z3 z4 z5 t0 t1 t2 t3 t4 t5
          obtain ⟨u102, hu102⟩ : ∃ q, q = ((((((u101.setCell ⟨wd.heap.size, 0, none⟩ (.int .i64 7)).setCell ⟨wd.heap.size, 1, none⟩ (.int .i64 0)).setCell ⟨wd.heap.size, 2, none⟩ (.string ⟨#[]⟩)).setCell ⟨wd.heap.size, 3, none⟩ (.slice none 0 0)).setCell ⟨wd.heap.size, 4, none⟩ (.slice none 0 0)).setCell ⟨wd.heap.size, 5, none⟩ (.slice (some ⟨u98.heap.size, 0, none⟩) 2 2)) := ⟨_, rfl⟩
          rw [← hu102]
          have B102 : Hid (Bun x y s t w u102 u97.heap.size u98.heap.size u99.heap.size wd.heap.size true true 2 2) := by rw [hu102]; exact B101.out.st10
          clear hu102
          refine hK.out _ _ (by exact B102.out.held) (fun hHeld => ?_)
          clear hK K
          try simp only [List.getElem_toArray, List.getElem_cons_succ, List.getElem_cons_zero, Act.put, List.setIfInBounds_toArray, List.set_cons_zero, List.set_cons_succ]
          refine wpAnyH_done (by kernel_rfl) ?_ _
          go_wp2_with fail
          go_meet
          exact ⟨_, _, _, _, rfl, rfl, B102.out.r1 rfl, B102.out.r5 rfl, B102.out.s7 rfl, B102.out.s8 rfl, B102.out.six⟩
        · go_simp
          have B103 := Lib.hid (B98.out.ev7)
          generalize u98.alloc (.cells #[.int .i64 0, .int .i64 0, .string ⟨#[]⟩, .slice none 0 0, .slice none 0 0, .slice none 0 0] 26) = u103 at *
          refine hK.out _ _ (by exact B103.out.held) (fun hHeld => ?_)
          clear hK K
          try simp only [List.getElem_toArray, List.getElem_cons_succ, List.getElem_cons_zero, Act.put, List.setIfInBounds_toArray, List.set_cons_zero, List.set_cons_succ]
          refine wpAnyH_ready (rs := [5, 9]) (by kernel_rfl) (by simp) ?_
          refine AllReadyH.cons rfl (fun K hK => ?_) (AllReadyH.cons rfl (fun K hK => ?_) (AllReadyH.nil))
          · go_simp
            have B104 := Lib.hid (B103.out.ev5 (by decide))
            generalize u103.alloc (.cells #[.int .i64 4, .int .i64 x, .string ⟨#[]⟩, .slice none 0 0, .slice none 0 0, .slice none 0 0, .int .i64 5, .int .i64 0, .string s, .slice none 0 0, .slice none 0 0, .slice none 0 0] 26) = u104 at *
            refine hK.out _ _ (by exact B104.out.held) (fun hHeld => ?_)
            clear hK K
            try simp only [List.getElem_toArray, List.getElem_cons_succ, List.getElem_cons_zero, Act.put, List.setIfInBounds_toArray, List.set_cons_zero, List.set_cons_succ]
            refine wpAnyH_take (i := 6) (v := ?_) rfl (by kernel_rfl) (by kernel_rfl) (by kernel_rfl) (fun _ _ _ h => h) (Or.inl ⟨by kernel_rfl, ?_⟩) (by assumption) ?_
            rotate_left
            · intro wS hSw
              (try dsimp only at hSw)
              go_simp
              try (with_reducible rfl)
            try simp only [List.getElem_toArray, List.getElem_cons_succ, List.getElem_cons_zero, Act.put, List.setIfInBounds_toArray, List.set_cons_zero, List.set_cons_succ]
            refine wpAnyH_ready (rs := [9]) (by kernel_rfl) (by simp) ?_
            refine AllReadyH.cons rfl (fun K hK => ?_) (AllReadyH.nil)
            obtain ⟨z0, z1, z2, z3, z4, z5⟩ := (B104.out.z7 rfl).cells
            obtain ⟨t0, t1, t2, t3, t4, t5⟩ := (B104.out.z7 rfl).thaw
            go_simp
            clear z0 z1 z2 z3 z4 z5 t0 t1 t2 t3 t4 t5
            obtain ⟨u105, hu105⟩ : ∃ q, q = ((((((u104.setCell ⟨u98.heap.size, 0, none⟩ (.int .i64 7)).setCell ⟨u98.heap.size, 1, none⟩ (.int .i64 0)).setCell ⟨u98.heap.size, 2, none⟩ (.string ⟨#[]⟩)).setCell ⟨u98.heap.size, 3, none⟩ (.slice none 0 0)).setCell ⟨u98.heap.size, 4, none⟩ (.slice none 0 0)).setCell ⟨u98.heap.size, 5, none⟩ (.slice (some ⟨u97.heap.size, 0, none⟩) 1 1)) := ⟨_, rfl⟩
            rw [← hu105]
            have B105 : Hid (Bun x y s t w u105 u97.heap.size u103.heap.size u98.heap.size wd.heap.size true true 2 1) := by rw [hu105]; exact B104.out.st9
            clear hu105
            refine hK.out _ _ (by exact B105.out.held) (fun hHeld => ?_)
            clear hK K
            try simp only [List.getElem_toArray, List.getElem_cons_succ, List.getElem_cons_zero, Act.put, List.setIfInBounds_toArray, List.set_cons_zero, List.set_cons_succ]
            refine wpAnyH_ready (rs := [10]) (by kernel_rfl) (by simp) ?_
            refine AllReadyH.cons rfl (fun K hK => ?_) (AllReadyH.nil)
            obtain ⟨z0, z1, z2, z3, z4, z5⟩ := (B105.out.z8 rfl).cells
            obtain ⟨t0, t1, t2, t3, t4, t5⟩ := (B105.out.z8 rfl).thaw
            go_simp
            clear z0 z1 z2 z3 z4 z5 t0 t1 t2 t3 t4 t5
            obtain ⟨u106, hu106⟩ : ∃ q, q = ((((((u105.setCell ⟨wd.heap.size, 0, none⟩ (.int .i64 7)).setCell ⟨wd.heap.size, 1, none⟩ (.int .i64 0)).setCell ⟨wd.heap.size, 2, none⟩ (.string ⟨#[]⟩)).setCell ⟨wd.heap.size, 3, none⟩ (.slice none 0 0)).setCell ⟨wd.heap.size, 4, none⟩ (.slice none 0 0)).setCell ⟨wd.heap.size, 5, none⟩ (.slice (some ⟨u103.heap.size, 0, none⟩) 2 2)) := ⟨_, rfl⟩
            rw [← hu106]
            have B106 : Hid (Bun x y s t w u106 u97.heap.size u103.heap.size u98.heap.size wd.heap.size true true 2 2) := by rw [hu106]; exact B105.out.st10
            clear hu106
            refine hK.out _ _ (by exact B106.out.held) (fun hHeld => ?_)
            clear hK K
            try simp only [List.getElem_toArray, List.getElem_cons_succ, List.getElem_cons_zero, Act.put, List.setIfInBounds_toArray, List.set_cons_zero, List.set_cons_succ]
            refine wpAnyH_done (by kernel_rfl) ?_ _
            go_wp2_with fail
            go_meet
            exact ⟨_, _, _, _, rfl, rfl, B106.out.r1 rfl, B106.out.r5 rfl, B106.out.s7 rfl, B106.out.s8 rfl, B106.out.six⟩
          · obtain ⟨z0, z1, z2, z3, z4, z5⟩ := (B103.out.z7 rfl).cells
            obtain ⟨t0, t1, t2, t3, t4, t5⟩ := (B103.out.z7 rfl).thaw
            go_simp
            clear z0 z1 z2 z3 z4 z5 t0 t1 t2 t3 t4 t5
            obtain ⟨u107, hu107⟩ : ∃ q, q = ((((((u103.setCell ⟨u98.heap.size, 0, none⟩ (.int .i64 7)).setCell ⟨u98.heap.size, 1, none⟩ (.int .i64 0)).setCell ⟨u98.heap.size, 2, none⟩ (.string ⟨#[]⟩)).setCell ⟨u98.heap.size, 3, none⟩ (.slice none 0 0)).setCell ⟨u98.heap.size, 4, none⟩ (.slice none 0 0)).setCell ⟨u98.heap.size, 5, none⟩ (.slice (some ⟨u97.heap.size, 0, none⟩) 1 1)) := ⟨_, rfl⟩
            rw [← hu107]
            have B107 : Hid (Bun x y s t w u107 u97.heap.size 0 u98.heap.size wd.heap.size true false 2 1) := by rw [hu107]; exact B103.out.st9
            clear hu107
            refine hK.out _ _ (by exact B107.out.held) (fun hHeld => ?_)
            clear hK K
            try simp only [List.getElem_toArray, List.getElem_cons_succ, List.getElem_cons_zero, Act.put, List.setIfInBounds_toArray, List.set_cons_zero, List.set_cons_succ]
            refine wpAnyH_ready (rs := [5]) (by kernel_rfl) (by simp) ?_
            refine AllReadyH.cons rfl (fun K hK => ?_) (AllReadyH.nil)
            go_simp
            have B108 := Lib.hid (B107.out.ev5 (by decide))
            generalize u107.alloc (.cells #[.int .i64 4, .int .i64 x, .string ⟨#[]⟩, .slice none 0 0, .slice none 0 0, .slice none 0 0, .int .i64 5, .int .i64 0, .string s, .slice none 0 0, .slice none 0 0, .slice none 0 0] 26) = u108 at *
            refine hK.out _ _ (by exact B108.out.held) (fun hHeld => ?_)
            clear hK K
            try simp only [List.getElem_toArray, List.getElem_cons_succ, List.getElem_cons_zero, Act.put, List.setIfInBounds_toArray, List.set_cons_zero, List.set_cons_succ]
            refine wpAnyH_take (i := 6) (v := ?_) rfl (by kernel_rfl) (by kernel_rfl) (by kernel_rfl) (fun _ _ _ h => h) (Or.inl ⟨by kernel_rfl, ?_⟩) (by assumption) ?_
            rotate_left
            · intro wS hSw
              (try dsimp only at hSw)
              go_simp
              try (with_reducible rfl)
            try simp only [List.getElem_toArray, List.getElem_cons_succ, List.getElem_cons_zero, Act.put, List.setIfInBounds_toArray, List.set_cons_zero, List.set_cons_succ]
            refine wpAnyH_ready (rs := [10]) (by kernel_rfl) (by simp) ?_
            refine AllReadyH.cons rfl (fun K hK => ?_) (AllReadyH.nil)
            obtain ⟨z0, z1, z2, z3, z4, z5⟩ := (B108.out.z8 rfl).cells
            obtain ⟨t0, t1, t2, t3, t4, t5⟩ := (B108.out.z8 rfl).thaw
            go_simp
            clear z0 z1 z2 z3 z4 z5 t0 t1 t2 t3 t4 t5
            obtain ⟨u109, hu109⟩ : ∃ q, q = ((((((u108.setCell ⟨wd.heap.size, 0, none⟩ (.int .i64 7)).setCell ⟨wd.heap.size, 1, none⟩ (.int .i64 0)).setCell ⟨wd.heap.size, 2, none⟩ (.string ⟨#[]⟩)).setCell ⟨wd.heap.size, 3, none⟩ (.slice none 0 0)).setCell ⟨wd.heap.size, 4, none⟩ (.slice none 0 0)).setCell ⟨wd.heap.size, 5, none⟩ (.slice (some ⟨u107.heap.size, 0, none⟩) 2 2)) := ⟨_, rfl⟩
            rw [← hu109]
            have B109 : Hid (Bun x y s t w u109 u97.heap.size u107.heap.size u98.heap.size wd.heap.size true true 2 2) := by rw [hu109]; exact B108.out.st10
            clear hu109
            refine hK.out _ _ (by exact B109.out.held) (fun hHeld => ?_)
            clear hK K
            try simp only [List.getElem_toArray, List.getElem_cons_succ, List.getElem_cons_zero, Act.put, List.setIfInBounds_toArray, List.set_cons_zero, List.set_cons_succ]
            refine wpAnyH_done (by kernel_rfl) ?_ _
            go_wp2_with fail
            go_meet
            exact ⟨_, _, _, _, rfl, rfl, B109.out.r1 rfl, B109.out.r5 rfl, B109.out.s7 rfl, B109.out.s8 rfl, B109.out.six⟩
      · go_simp
        have B110 := Lib.hid (B97.out.ev5 (by decide))
        generalize u97.alloc (.cells #[.int .i64 4, .int .i64 x, .string ⟨#[]⟩, .slice none 0 0, .slice none 0 0, .slice none 0 0, .int .i64 5, .int .i64 0, .string s, .slice none 0 0, .slice none 0 0, .slice none 0 0] 26) = u110 at *
        refine hK.out _ _ (by exact B110.out.held) (fun hHeld => ?_)
        clear hK K
        try simp only [List.getElem_toArray, List.getElem_cons_succ, List.getElem_cons_zero, Act.put, List.setIfInBounds_toArray, List.set_cons_zero, List.set_cons_succ]
        refine wpAnyH_take (i := 6) (v := ?_) rfl (by kernel_rfl) (by kernel_rfl) (by kernel_rfl) (fun _ _ _ h => h) (Or.inl ⟨by kernel_rfl, ?_⟩) (by assumption) ?_
        rotate_left
        · intro wS hSw
          (try dsimp only at hSw)
          go_simp
          try (with_reducible rfl)
        try simp only [List.getElem_toArray, List.getElem_cons_succ, List.getElem_cons_zero, Act.put, List.setIfInBounds_toArray, List.set_cons_zero, List.set_cons_succ]
        refine wpAnyH_ready (rs := [1, 7]) (by kernel_rfl) (by simp) ?_
        refine AllReadyH.cons rfl (fun K hK => ?_) (AllReadyH.cons rfl (fun K hK => ?_) (AllReadyH.nil))
        · go_simp
          have B111 := Lib.hid (B110.out.ev1 (by decide))
          generalize u110.alloc (.cells #[.int .i64 4, .int .i64 x, .string ⟨#[]⟩, .slice none 0 0, .slice none 0 0, .slice none 0 0] 26) = u111 at *
          refine hK.out _ _ (by exact B111.out.held) (fun hHeld => ?_)
          clear hK K
          try simp only [List.getElem_toArray, List.getElem_cons_succ, List.getElem_cons_zero, Act.put, List.setIfInBounds_toArray, List.set_cons_zero, List.set_cons_succ]
          refine wpAnyH_take (i := 2) (v := ?_) rfl (by kernel_rfl) (by kernel_rfl) (by kernel_rfl) (fun _ _ _ h => h) (Or.inl ⟨by kernel_rfl, ?_⟩) (by assumption) ?_
          rotate_left
          · intro wS hSw
            (try dsimp only at hSw)
            go_simp
            try (with_reducible rfl)
          try simp only [List.getElem_toArray, List.getElem_cons_succ, List.getElem_cons_zero, Act.put, List.setIfInBounds_toArray, List.set_cons_zero, List.set_cons_succ]
          refine wpAnyH_ready (rs := [7]) (by kernel_rfl) (by simp) ?_
          refine AllReadyH.cons rfl (fun K hK => ?_) (AllReadyH.nil)
          go_simp
          have B112 := Lib.hid (B111.out.ev7)
          generalize u111.alloc (.cells #[.int .i64 0, .int .i64 0, .string ⟨#[]⟩, .slice none 0 0, .slice none 0 0, .slice none 0 0] 26) = u112 at *
          refine hK.out _ _ (by exact B112.out.held) (fun hHeld => ?_)
          clear hK K
          try simp only [List.getElem_toArray, List.getElem_cons_succ, List.getElem_cons_zero, Act.put, List.setIfInBounds_toArray, List.set_cons_zero, List.set_cons_succ]
          refine wpAnyH_ready (rs := [9]) (by kernel_rfl) (by simp) ?_
          refine AllReadyH.cons rfl (fun K hK => ?_) (AllReadyH.nil)
          obtain ⟨z0, z1, z2, z3, z4, z5⟩ := (B112.out.z7 rfl).cells
          obtain ⟨t0, t1, t2, t3, t4, t5⟩ := (B112.out.z7 rfl).thaw
          go_simp
          clear z0 z1 z2 z3 z4 z5 t0 t1 t2 t3 t4 t5
          obtain ⟨u113, hu113⟩ : ∃ q, q = ((((((u112.setCell ⟨u111.heap.size, 0, none⟩ (.int .i64 7)).setCell ⟨u111.heap.size, 1, none⟩ (.int .i64 0)).setCell ⟨u111.heap.size, 2, none⟩ (.string ⟨#[]⟩)).setCell ⟨u111.heap.size, 3, none⟩ (.slice none 0 0)).setCell ⟨u111.heap.size, 4, none⟩ (.slice none 0 0)).setCell ⟨u111.heap.size, 5, none⟩ (.slice (some ⟨u110.heap.size, 0, none⟩) 1 1)) := ⟨_, rfl⟩
          rw [← hu113]
          have B113 : Hid (Bun x y s t w u113 u110.heap.size u97.heap.size u111.heap.size wd.heap.size true true 2 1) := by rw [hu113]; exact B112.out.st9
          clear hu113
          refine hK.out _ _ (by exact B113.out.held) (fun hHeld => ?_)
          clear hK K
          try simp only [List.getElem_toArray, List.getElem_cons_succ, List.getElem_cons_zero, Act.put, List.setIfInBounds_toArray, List.set_cons_zero, List.set_cons_succ]
          refine wpAnyH_ready (rs := [10]) (by kernel_rfl) (by simp) ?_
          refine AllReadyH.cons rfl (fun K hK => ?_) (AllReadyH.nil)
          obtain ⟨z0, z1, z2, z3, z4, z5⟩ := (B113.out.z8 rfl).cells
          obtain ⟨t0, t1, t2, t3, t4, t5⟩ := (B113.out.z8 rfl).thaw
          go_simp
          clear z0 z1 z2 z3 z4 z5 t0 t1 t2 t3 t4 t5
          obtain ⟨u114, hu114⟩ : ∃ q, q = ((((((u113.setCell ⟨wd.heap.size, 0, none⟩ (.int .i64 7)).setCell ⟨wd.heap.size, 1, none⟩ (.int .i64 0)).setCell ⟨wd.heap.size, 2, none⟩ (.string ⟨#[]⟩)).setCell ⟨wd.heap.size, 3, none⟩ (.slice none 0 0)).setCell ⟨wd.heap.size, 4, none⟩ (.slice none 0 0)).setCell ⟨wd.heap.size, 5, none⟩ (.slice (some ⟨u97.heap.size, 0, none⟩) 2 2)) := ⟨_, rfl⟩
          rw [← hu114]
          have B114 : Hid (Bun x y s t w u114 u110.heap.size u97.heap.size u111.heap.size wd.heap.size true true 2 2) := by rw [hu114]; exact B113.out.st10
          clear hu114
          refine hK.out _ _ (by exact B114.out.held) (fun hHeld => ?_)
          clear hK K
          try simp only [List.getElem_toArray, List.getElem_cons_succ, List.getElem_cons_zero, Act.put, List.setIfInBounds_toArray, List.set_cons_zero, List.set_cons_succ]
          refine wpAnyH_done (by kernel_rfl) ?_ _
          go_wp2_with fail
          go_meet
          exact ⟨_, _, _, _, rfl, rfl, B114.out.r1 rfl, B114.out.r5 rfl, B114.out.s7 rfl, B114.out.s8 rfl, B114.out.six⟩
        · go_simp
          have B115 := Lib.hid (B110.out.ev7)
          generalize u110.alloc (.cells #[.int .i64 0, .int .i64 0, .string ⟨#[]⟩, .slice none 0 0, .slice none 0 0, .slice none 0 0] 26) = u115 at *
          refine hK.out _ _ (by exact B115.out.held) (fun hHeld => ?_)
          clear hK K
          try simp only [List.getElem_toArray, List.getElem_cons_succ, List.getElem_cons_zero, Act.put, List.setIfInBounds_toArray, List.set_cons_zero, List.set_cons_succ]
          refine wpAnyH_ready (rs := [1]) (by kernel_rfl) (by simp) ?_
          refine AllReadyH.cons rfl (fun K hK => ?_) (AllReadyH.nil)
          go_simp
          have B116 := Lib.hid (B115.out.ev1 (by decide))
          generalize u115.alloc (.cells #[.int .i64 4, .int .i64 x, .string ⟨#[]⟩, .slice none 0 0, .slice none 0 0, .slice none 0 0] 26) = u116 at *
          refine hK.out _ _ (by exact B116.out.held) (fun hHeld => ?_)
          clear hK K
          try simp only [List.getElem_toArray, List.getElem_cons_succ, List.getElem_cons_zero, Act.put, List.setIfInBounds_toArray, List.set_cons_zero, List.set_cons_succ]
          refine wpAnyH_take (i := 2) (v := ?_) rfl (by kernel_rfl) (by kernel_rfl) (by kernel_rfl) (fun _ _ _ h => h) (Or.inl ⟨by kernel_rfl, ?_⟩) (by assumption) ?_
          rotate_left
          · intro wS hSw
            (try dsimp only at hSw)
            go_simp
            try (with_reducible rfl)
          try simp only [List.getElem_toArray, List.getElem_cons_succ, List.getElem_cons_zero, Act.put, List.setIfInBounds_toArray, List.set_cons_zero, List.set_cons_succ]
          refine wpAnyH_ready (rs := [9]) (by kernel_rfl) (by simp) ?_
          refine AllReadyH.cons rfl (fun K hK => ?_) (AllReadyH.nil)
          obtain ⟨z0, z1, z2, z3, z4, z5⟩ := (B116.out.z7 rfl).cells
          obtain ⟨t0, t1, t2, t3, t4, t5⟩ := (B116.out.z7 rfl).thaw
          go_simp
          clear z0 z1 z2 z3 z4 z5 t0 t1 t2 t3 t4 t5
          obtain ⟨u117, hu117⟩ : ∃ q, q = ((((((u116.setCell ⟨u110.heap.size, 0, none⟩ (.int .i64 7)).setCell ⟨u110.heap.size, 1, none⟩ (.int .i64 0)).setCell ⟨u110.heap.size, 2, none⟩ (.string ⟨#[]⟩)).setCell ⟨u110.heap.size, 3, none⟩ (.slice none 0 0)).setCell ⟨u110.heap.size, 4, none⟩ (.slice none 0 0)).setCell ⟨u110.heap.size, 5, none⟩ (.slice (some ⟨u115.heap.size, 0, none⟩) 1 1)) := ⟨_, rfl⟩
          rw [← hu117]
          have B117 : Hid (Bun x y s t w u117 u115.heap.size u97.heap.size u110.heap.size wd.heap.size true true 2 1) := by rw [hu117]; exact B116.out.st9
          clear hu117
          refine hK.out _ _ (by exact B117.out.held) (fun hHeld => ?_)
          clear hK K
          try simp only [List.getElem_toArray, List.getElem_cons_succ, List.getElem_cons_zero, Act.put, List.setIfInBounds_toArray, List.set_cons_zero, List.set_cons_succ]
          refine wpAnyH_ready (rs := [10]) (by kernel_rfl) (by simp) ?_
          refine AllReadyH.cons rfl (fun K hK => ?_) (AllReadyH.nil)
          obtain ⟨z0, z1, z2, z3, z4, z5⟩ := (B117.out.z8 rfl).cells
          obtain ⟨t0, t1, t2, t3, t4, t5⟩ := (B117.out.z8 rfl).thaw
          go_simp
          clear z0 z1 z2 z3 z4 z5 t0 t1 t2 t3 t4 t5
          obtain ⟨u118, hu118⟩ : ∃ q, q = ((((((u117.setCell ⟨wd.heap.size, 0, none⟩ (.int .i64 7)).setCell ⟨wd.heap.size, 1, none⟩ (.int .i64 0)).setCell ⟨wd.heap.size, 2, none⟩ (.string ⟨#[]⟩)).setCell ⟨wd.heap.size, 3, none⟩ (.slice none 0 0)).setCell ⟨wd.heap.size, 4, none⟩ (.slice none 0 0)).setCell ⟨wd.heap.size, 5, none⟩ (.slice (some ⟨u97.heap.size, 0, none⟩) 2 2)) := ⟨_, rfl⟩
          rw [← hu118]
          have B118 : Hid (Bun x y s t w u118 u115.heap.size u97.heap.size u110.heap.size wd.heap.size true true 2 2) := by rw [hu118]; exact B117.out.st10
          clear hu118
          refine hK.out _ _ (by exact B118.out.held) (fun hHeld => ?_)
          clear hK K
          try simp only [List.getElem_toArray, List.getElem_cons_succ, List.getElem_cons_zero, Act.put, List.setIfInBounds_toArray, List.set_cons_zero, List.set_cons_succ]
          refine wpAnyH_done (by kernel_rfl) ?_ _
          go_wp2_with fail
          go_meet
          exact ⟨_, _, _, _, rfl, rfl, B118.out.r1 rfl, B118.out.r5 rfl, B118.out.s7 rfl, B118.out.s8 rfl, B118.out.six⟩
      · go_simp
        have B119 := Lib.hid (B97.out.ev7)
        generalize u97.alloc (.cells #[.int .i64 0, .int .i64 0, .string ⟨#[]⟩, .slice none 0 0, .slice none 0 0, .slice none 0 0] 26) = u119 at *
        refine hK.out _ _ (by exact B119.out.held) (fun hHeld => ?_)
        clear hK K
        try simp only [List.getElem_toArray, List.getElem_cons_succ, List.getElem_cons_zero, Act.put, List.setIfInBounds_toArray, List.set_cons_zero, List.set_cons_succ]
        refine wpAnyH_ready (rs := [1, 5]) (by kernel_rfl) (by simp) ?_
        refine AllReadyH.cons rfl (fun K hK => ?_) (AllReadyH.cons rfl (fun K hK => ?_) (AllReadyH.nil))
        · go_simp
          have B120 := Lib.hid (B119.out.ev1 (by decide))
          generalize u119.alloc (.cells #[.int .i64 4, .int .i64 x, .string ⟨#[]⟩, .slice none 0 0, .slice none 0 0, .slice none 0 0] 26) = u120 at *
          refine hK.out _ _ (by exact B120.out.held) (fun hHeld => ?_)
          clear hK K
          try simp only [List.getElem_toArray, List.getElem_cons_succ, List.getElem_cons_zero, Act.put, List.setIfInBounds_toArray, List.set_cons_zero, List.set_cons_succ]
          refine wpAnyH_take (i := 2) (v := ?_) rfl (by kernel_rfl) (by kernel_rfl) (by kernel_rfl) (fun _ _ _ h => h) (Or.inl ⟨by kernel_rfl, ?_⟩) (by assumption) ?_
          rotate_left
          · intro wS hSw
            (try dsimp only at hSw)
            go_simp
            try (with_reducible rfl)
          try simp only [List.getElem_toArray, List.getElem_cons_succ, List.getElem_cons_zero, Act.put, List.setIfInBounds_toArray, List.set_cons_zero, List.set_cons_succ]
          refine wpAnyH_ready (rs := [5, 9]) (by kernel_rfl) (by simp) ?_
          refine AllReadyH.cons rfl (fun K hK => ?_) (AllReadyH.cons rfl (fun K hK => ?_) (AllReadyH.nil))
          · go_simp
            have B121 := Lib.hid (B120.out.ev5 (by decide))
            generalize u120.alloc (.cells #[.int .i64 4, .int .i64 x, .string ⟨#[]⟩, .slice none 0 0, .slice none 0 0, .slice none 0 0, .int .i64 5, .int .i64 0, .string s, .slice none 0 0, .slice none 0 0, .slice none 0 0] 26) = u121 at *
            refine hK.out _ _ (by exact B121.out.held) (fun hHeld => ?_)
            clear hK K
            try simp only [List.getElem_toArray, List.getElem_cons_succ, List.getElem_cons_zero, Act.put, List.setIfInBounds_toArray, List.set_cons_zero, List.set_cons_succ]
            refine wpAnyH_take (i := 6) (v := ?_) rfl (by kernel_rfl) (by kernel_rfl) (by kernel_rfl) (fun _ _ _ h => h) (Or.inl ⟨by kernel_rfl, ?_⟩) (by assumption) ?_
            rotate_left
            · intro wS hSw
              (try dsimp only at hSw)
              go_simp
              try (with_reducible rfl)
            try simp only [List.getElem_toArray, List.getElem_cons_succ, List.getElem_cons_zero, Act.put, List.setIfInBounds_toArray, List.set_cons_zero, List.set_cons_succ]
            refine wpAnyH_ready (rs := [9]) (by kernel_rfl) (by simp) ?_
            refine AllReadyH.cons rfl (fun K hK => ?_) (AllReadyH.nil)
            obtain ⟨z0, z1, z2, z3, z4, z5⟩ := (B121.out.z7 rfl).cells
            obtain ⟨t0, t1, t2, t3, t4, t5⟩ := (B121.out.z7 rfl).thaw
            go_simp
            clear z0 z1 z2 z3 z4 z5 t0 t1 t2 t3 t4 t5
            obtain ⟨u122, hu122⟩ : ∃ q, q = ((((((u121.setCell ⟨u97.heap.size, 0, none⟩ (.int .i64 7)).setCell ⟨u97.heap.size, 1, none⟩ (.int .i64 0)).setCell ⟨u97.heap.size, 2, none⟩ (.string ⟨#[]⟩)).setCell ⟨u97.heap.size, 3, none⟩ (.slice none 0 0)).setCell ⟨u97.heap.size, 4, none⟩ (.slice none 0 0)).setCell ⟨u97.heap.size, 5, none⟩ (.slice (some ⟨u119.heap.size, 0, none⟩) 1 1)) := ⟨_, rfl⟩
            rw [← hu122]
            have B122 : Hid (Bun x y s t w u122 u119.heap.size u120.heap.size u97.heap.size wd.heap.size true true 2 1) := by rw [hu122]; exact B121.out.st9
            clear hu122
            refine hK.out _ _ (by exact B122.out.held) (fun hHeld => ?_)
            clear hK K
            try simp only [List.getElem_toArray, List.getElem_cons_succ, List.getElem_cons_zero, Act.put, List.setIfInBounds_toArray, List.set_cons_zero, List.set_cons_succ]
            refine wpAnyH_ready (rs := [10]) (by kernel_rfl) (by simp) ?_
            refine AllReadyH.cons rfl (fun K hK => ?_) (AllReadyH.nil)
            obtain ⟨z0, z1, z2, z3, z4, z5⟩ := (B122.out.z8 rfl).cells
            obtain ⟨t0, t1, t2, t3, t4, t5⟩ := (B122.out.z8 rfl).thaw
            go_simp
            clear z0 z1 z2 z3 z4 z5 t0 t1 t2 t3 t4 t5
            obtain ⟨u123, hu123⟩ : ∃ q, q = ((((((u122.setCell ⟨wd.heap.size, 0, none⟩ (.int .i64 7)).setCell ⟨wd.heap.size, 1, none⟩ (.int .i64 0)).setCell ⟨wd.heap.size, 2, none⟩ (.string ⟨#[]⟩)).setCell ⟨wd.heap.size, 3, none⟩ (.slice none 0 0)).setCell ⟨wd.heap.size, 4, none⟩ (.slice none 0 0)).setCell ⟨wd.heap.size, 5, none⟩ (.slice (some ⟨u120.heap.size, 0, none⟩) 2 2)) := ⟨_, rfl⟩
            rw [← hu123]
            have B123 : Hid (Bun x y s t w u123 u119.heap.size u120.heap.size u97.heap.size wd.heap.size true true 2 2) := by rw [hu123]; exact B122.out.st10
            clear hu123
            refine hK.out _ _ (by exact B123.out.held) (fun hHeld => ?_)
            clear hK K
            try simp only [List.getElem_toArray, List.getElem_cons_succ, List.getElem_cons_zero, Act.put, List.setIfInBounds_toArray, List.set_cons_zero, List.set_cons_succ]
            refine wpAnyH_done (by kernel_rfl) ?_ _
            go_wp2_with fail
            go_meet
            exact ⟨_, _, _, _, rfl, rfl, B123.out.r1 rfl, B123.out.r5 rfl, B123.out.s7 rfl, B123.out.s8 rfl, B123.out.six⟩
          · obtain ⟨z0, z1, z2, z3, z4, z5⟩ := (B120.out.z7 rfl).cells
            obtain ⟨t0, t1, t2, t3, t4, t5⟩ := (B120.out.z7 rfl).thaw
            go_simp
            clear z0 z1 z2 z3 z4 z5 t0 t1 t2 t3 t4 t5
            obtain ⟨u124, hu124⟩ : ∃ q, q = ((((((u120.setCell ⟨u97.heap.size, 0, none⟩ (.int .i64 7)).setCell ⟨u97.heap.size, 1, none⟩ (.int .i64 0)).setCell ⟨u97.heap.size, 2, none⟩ (.string ⟨#[]⟩)).setCell ⟨u97.heap.size, 3, none⟩ (.slice none 0 0)).setCell ⟨u97.heap.size, 4, none⟩ (.slice none 0 0)).setCell ⟨u97.heap.size, 5, none⟩ (.slice (some ⟨u119.heap.size, 0, none⟩) 1 1)) := ⟨_, rfl⟩
            rw [← hu124]
            have B124 : Hid (Bun x y s t w u124 u119.heap.size 0 u97.heap.size wd.heap.size true false 2 1) := by rw [hu124]; exact B120.out.st9
            clear hu124
            refine hK.out _ _ (by exact B124.out.held) (fun hHeld => ?_)
            clear hK K
            try simp only [List.getElem_toArray, List.getElem_cons_succ, List.getElem_cons_zero, Act.put, List.setIfInBounds_toArray, List.set_cons_zero, List.set_cons_succ]
            refine wpAnyH_ready (rs := [5]) (by kernel_rfl) (by simp) ?_
            refine AllReadyH.cons rfl (fun K hK => ?_) (AllReadyH.nil)
            go_simp
            have B125 := Lib.hid (B124.out.ev5 (by decide))
            generalize u124.alloc (.cells #[.int .i64 4, .int .i64 x, .string ⟨#[]⟩, .slice none 0 0, .slice none 0 0, .slice none 0 0, .int .i64 5, .int .i64 0, .string s, .slice none 0 0, .slice none 0 0, .slice none 0 0] 26) = u125 at *
            refine hK.out _ _ (by exact B125.out.held) (fun hHeld => ?_)
            clear hK K
            try simp only [List.getElem_toArray, List.getElem_cons_succ, List.getElem_cons_zero, Act.put, List.setIfInBounds_toArray, List.set_cons_zero, List.set_cons_succ]
            refine wpAnyH_take (i := 6) (v := ?_) rfl (by kernel_rfl) (by kernel_rfl) (by kernel_rfl) (fun _ _ _ h => h) (Or.inl ⟨by kernel_rfl, ?_⟩) (by assumption) ?_
            rotate_left
            · intro wS hSw
              (try dsimp only at hSw)
              go_simp
              try (with_reducible rfl)
            try simp only [List.getElem_toArray, List.getElem_cons_succ, List.getElem_cons_zero, Act.put, List.setIfInBounds_toArray, List.set_cons_zero, List.set_cons_succ]
            refine wpAnyH_ready (rs := [10]) (by kernel_rfl) (by simp) ?_
            refine AllReadyH.cons rfl (fun K hK => ?_) (AllReadyH.nil)
            obtain ⟨z0, z1, z2, z3, z4, z5⟩ := (B125.out.z8 rfl).cells
            obtain ⟨t0, t1, t2, t3, t4, t5⟩ := (B125.out.z8 rfl).thaw
            go_simp
            clear z0 z1 z2 z3 z4 z5 t0 t1 t2 t3 t4 t5
            obtain ⟨u126, hu126⟩ : ∃ q, q = ((((((u125.setCell ⟨wd.heap.size, 0, none⟩ (.int .i64 7)).setCell ⟨wd.heap.size, 1, none⟩ (.int .i64 0)).setCell ⟨wd.heap.size, 2, none⟩ (.string ⟨#[]⟩)).setCell ⟨wd.heap.size, 3, none⟩ (.slice none 0 0)).setCell ⟨wd.heap.size, 4, none⟩ (.slice none 0 0)).setCell ⟨wd.heap.size, 5, none⟩ (.slice (some ⟨u124.heap.size, 0, none⟩) 2 2)) := ⟨_, rfl⟩
            rw [← hu126]
            have B126 : Hid (Bun x y s t w u126 u119.heap.size u124.heap.size u97.heap.size wd.heap.size true true 2 2) := by rw [hu126]; exact B125.out.st10
            clear hu126
            refine hK.out _ _ (by exact B126.out.held) (fun hHeld => ?_)
            clear hK K
            try simp only [List.getElem_toArray, List.getElem_cons_succ, List.getElem_cons_zero, Act.put, List.setIfInBounds_toArray, List.set_cons_zero, List.set_cons_succ]
            refine wpAnyH_done (by kernel_rfl) ?_ _
            go_wp2_with fail
            go_meet
            exact ⟨_, _, _, _, rfl, rfl, B126.out.r1 rfl, B126.out.r5 rfl, B126.out.s7 rfl, B126.out.s8 rfl, B126.out.six⟩
        · go_simp
          have B127 := Lib.hid (B119.out.ev5 (by decide))
          generalize u119.alloc (.cells #[.int .i64 4, .int .i64 x, .string ⟨#[]⟩, .slice none 0 0, .slice none 0 0, .slice none 0 0, .int .i64 5, .int .i64 0, .string s, .slice none 0 0, .slice none 0 0, .slice none 0 0] 26) = u127 at *
          refine hK.out _ _ (by exact B127.out.held) (fun hHeld => ?_)
          clear hK K
          try simp only [List.getElem_toArray, List.getElem_cons_succ, List.getElem_cons_zero, Act.put, List.setIfInBounds_toArray, List.set_cons_zero, List.set_cons_succ]
          refine wpAnyH_take (i := 6) (v := ?_) rfl (by kernel_rfl) (by kernel_rfl) (by kernel_rfl) (fun _ _ _ h => h) (Or.inl ⟨by kernel_rfl, ?_⟩) (by assumption) ?_
          rotate_left
          · intro wS hSw
            (try dsimp only at hSw)
            go_simp
            try (with_reducible rfl)
          try simp only [List.getElem_toArray, List.getElem_cons_succ, List.getElem_cons_zero, Act.put, List.setIfInBounds_toArray, List.set_cons_zero, List.set_cons_succ]
          refine wpAnyH_ready (rs := [1]) (by kernel_rfl) (by simp) ?_
          refine AllReadyH.cons rfl (fun K hK => ?_) (AllReadyH.nil)
          go_simp
          have B128 := Lib.hid (B127.out.ev1 (by decide))
          generalize u127.alloc (.cells #[.int .i64 4, .int .i64 x, .string ⟨#[]⟩, .slice none 0 0, .slice none 0 0, .slice none 0 0] 26) = u128 at *
          refine hK.out _ _ (by exact B128.out.held) (fun hHeld => ?_)
          clear hK K
          try simp only [List.getElem_toArray, List.getElem_cons_succ, List.getElem_cons_zero, Act.put, List.setIfInBounds_toArray, List.set_cons_zero, List.set_cons_succ]
          refine wpAnyH_take (i := 2) (v := ?_) rfl (by kernel_rfl) (by kernel_rfl) (by kernel_rfl) (fun _ _ _ h => h) (Or.inl ⟨by kernel_rfl, ?_⟩) (by assumption) ?_
          rotate_left
          · intro wS hSw
            (try dsimp only at hSw)
            go_simp
            try (with_reducible rfl)
          try simp only [List.getElem_toArray, List.getElem_cons_succ, List.getElem_cons_zero, Act.put, List.setIfInBounds_toArray, List.set_cons_zero, List.set_cons_succ]
          refine wpAnyH_ready (rs := [9]) (by kernel_rfl) (by simp) ?_
          refine AllReadyH.cons rfl (fun K hK => ?_) (AllReadyH.nil)
          obtain ⟨z0, z1, z2, z3, z4, z5⟩ := (B128.out.z7 rfl).cells
          obtain ⟨t0, t1, t2, t3, t4, t5⟩ := (B128.out.z7 rfl).thaw
          go_simp
          clear z0 z1 z2 z3 z4 z5 t0 t1 t2 t3 t4 t5
          obtain ⟨u129, hu129⟩ : ∃ q, q = ((((((u128.setCell ⟨u97.heap.size, 0, none⟩ (.int .i64 7)).setCell ⟨u97.heap.size, 1, none⟩ (.int .i64 0)).setCell ⟨u97.heap.size, 2, none⟩ (.string ⟨#[]⟩)).setCell ⟨u97.heap.size, 3, none⟩ (.slice none 0 0)).setCell ⟨u97.heap.size, 4, none⟩ (.slice none 0 0)).setCell ⟨u97.heap.size, 5, none⟩ (.slice (some ⟨u127.heap.size, 0, none⟩) 1 1)) := ⟨_, rfl⟩
          rw [← hu129]
          have B129 : Hid (Bun x y s t w u129 u127.heap.size u119.heap.size u97.heap.size wd.heap.size true true 2 1) := by rw [hu129]; exact B128.out.st9
          clear hu129
          refine hK.out _ _ (by exact B129.out.held) (fun hHeld => ?_)
          clear hK K
          try simp only [List.getElem_toArray, List.getElem_cons_succ, List.getElem_cons_zero, Act.put, List.setIfInBounds_toArray, List.set_cons_zero, List.set_cons_succ]
          refine wpAnyH_ready (rs := [10]) (by kernel_rfl) (by simp) ?_
          refine AllReadyH.cons rfl (fun K hK => ?_) (AllReadyH.nil)
          obtain ⟨z0, z1, z2, z3, z4, z5⟩ := (B129.out.z8 rfl).cells
          obtain ⟨t0, t1, t2, t3, t4, t5⟩ := (B129.out.z8 rfl).thaw
          go_simp
          clear z0 z1 z2 z3 z4 z5 t0 t1 t2 t3 t4 t5
          obtain ⟨u130, hu130⟩ : ∃ q, q = ((((((u129.setCell ⟨wd.heap.size, 0, none⟩ (.int .i64 7)).setCell ⟨wd.heap.size, 1, none⟩ (.int .i64 0)).setCell ⟨wd.heap.size, 2, none⟩ (.string ⟨#[]⟩)).setCell ⟨wd.heap.size, 3, none⟩ (.slice none 0 0)).setCell ⟨wd.heap.size, 4, none⟩ (.slice none 0 0)).setCell ⟨wd.heap.size, 5, none⟩ (.slice (some ⟨u119.heap.size, 0, none⟩) 2 2)) := ⟨_, rfl⟩
          rw [← hu130]
          have B130 : Hid (Bun x y s t w u130 u127.heap.size u119.heap.size u97.heap.size wd.heap.size true true 2 2) := by rw [hu130]; exact B129.out.st10
          clear hu130
          refine hK.out _ _ (by exact B130.out.held) (fun hHeld => ?_)
          clear hK K
          try simp only [List.getElem_toArray, List.getElem_cons_succ, List.getElem_cons_zero, Act.put, List.setIfInBounds_toArray, List.set_cons_zero, List.set_cons_succ]
          refine wpAnyH_done (by kernel_rfl) ?_ _
          go_wp2_with fail
          go_meet
          exact ⟨_, _, _, _, rfl, rfl, B130.out.r1 rfl, B130.out.r5 rfl, B130.out.s7 rfl, B130.out.s8 rfl, B130.out.six⟩
  case rest =>
    obtain ⟨R1, R2, P7, P8, rfl, rfl, k1, k2, k3, k4, k5⟩ := hcut
    have HS0 : Hid (NumSt x y s t w R1 R2 P7 P8 wc) := ⟨k1, k2, k3, k4, k5⟩
    have HB0 := Lib.hid k5.2.1
    clear k1 k2 k3 k4 k5
    obtain ⟨q, hq⟩ : ∃ q, q = Order.sgn x y := ⟨_, rfl⟩
    have h3 : q = -1 ∨ q = 0 ∨ q = 1 := by rw [hq]; exact Order.IsCmp.sgn.one _ _
    have HQ := Lib.hid hq
    rw [← hq]
    clear hq
    rcases h3 with rfl | rfl | rfl
    · go_wp2_with fail
      go_at_call 9
      refine (awake_any _).mono ?_
      rintro e w1 ⟨rfl, hb1⟩
      have HS1 := Lib.hid (HS0.out.keep hb1)
      have HB1 := Lib.hid (HB0.out.trans (hb1.mono HB0.out.size))
      clear hb1
      obtain ⟨p0, p1, p2, p3, p4, p5⟩ := HS1.out.2.2.2.2.1.1.cells
      obtain ⟨r0, r1, r2, r3, r4, r5⟩ := HS1.out.2.2.2.2.1.2.1.cells
      go_wp2_with fail
      go_at_call 11
      refine (lf_cmp 4 x 4 y (-1) w1 (by decide) ⟨hx0, hx1⟩ (by decide) ⟨hy0, hy1⟩ (by rw [cmp_num 4 x y (.inl rfl), HQ.out])).mono ?_
      rintro e w2 ⟨rfl, hb2⟩
      have HS2 := Lib.hid (HS1.out.keep hb2)
      have HB2 := Lib.hid (HB1.out.trans (hb2.mono HB1.out.size))
      clear hb2
      clear p0 p1 p2 p3 p4 p5 r0 r1 r2 r3 r4 r5
      obtain ⟨p0, p1, p2, p3, p4, p5⟩ := HS2.out.2.2.2.2.1.2.2.1.cells
      obtain ⟨r0, r1, r2, r3, r4, r5⟩ := HS2.out.2.2.2.2.1.2.2.2.1.cells
      go_wp2_with fail
      go_at_call 11
      refine (lf_cmp 11 x 11 y (-1) w2 (by decide) ⟨hx0, hx1⟩ (by decide) ⟨hy0, hy1⟩ (by rw [cmp_num 11 x y (.inr rfl), HQ.out])).mono ?_
      rintro e w3 ⟨rfl, hb3⟩
      have HS3 := Lib.hid (HS2.out.keep hb3)
      have HB3 := Lib.hid (HB2.out.trans (hb3.mono HB2.out.size))
      clear hb3
      clear p0 p1 p2 p3 p4 p5 r0 r1 r2 r3 r4 r5
      obtain ⟨p0, p1, p2, p3, p4, p5⟩ := HS3.out.2.2.2.2.1.2.2.2.2.1.cells
      obtain ⟨r0, r1, r2, r3, r4, r5⟩ := HS3.out.2.2.2.2.1.2.2.2.2.2.cells
      have HC3 := Lib.hid (compare_any 1 (fun _ => True) (fun _ => True) _ _ _ _ w3 (txt_in w3 _ s hs 0) (txt_in w3 _ t ht 0))
      rw [cmp_txt] at HC3
      go_wp2_with fail
      go_at_call 11
      refine HC3.out.mono ?_
      rintro e w4 ⟨rfl, hb4⟩
      clear HC3
      have HS4 := Lib.hid (HS3.out.keep hb4)
      have HB4 := Lib.hid (HB3.out.trans (hb4.mono HB3.out.size))
      clear hb4
      clear p0 p1 p2 p3 p4 p5 r0 r1 r2 r3 r4 r5
      obtain ⟨p0, p1, p2, p3, p4, p5⟩ := HS4.out.2.2.1.cells
      obtain ⟨r0, r1, r2, r3, r4, r5⟩ := HS4.out.2.2.2.1.cells
      have hsh4 := lst_in (w := w4) (c := 1) (one_items HS4.out.1 trivial (leaf_in w4 (fun _ => True) 4 x (by decide) ⟨hx0, hx1⟩ 0)) (by simp) (by simp) (by omega)
      have hlg4 := lst_in (w := w4) (c := 2) (two_items HS4.out.2.1 trivial (leaf_in w4 (fun _ => True) 4 x (by decide) ⟨hx0, hx1⟩ 0) (txt_in w4 (fun _ => True) s hs 0)) (by simp) (by simp) (by omega)
      have HC4 := Lib.hid (compare_any 2 _ _ _ _ _ _ w4 hsh4 hlg4)
      rw [cmp_short] at HC4
      clear hsh4 hlg4
      go_wp2_with fail
      go_at_call 11
      refine HC4.out.mono ?_
      rintro e w5 ⟨rfl, hb5⟩
      clear HC4
      have HS5 := Lib.hid (HS4.out.keep hb5)
      have HB5 := Lib.hid (HB4.out.trans (hb5.mono HB4.out.size))
      clear hb5
      clear p0 p1 p2 p3 p4 p5 r0 r1 r2 r3 r4 r5
      obtain ⟨p0, p1, p2, p3, p4, p5⟩ := HS5.out.2.2.1.cells
      obtain ⟨r0, r1, r2, r3, r4, r5⟩ := HS5.out.2.2.2.1.cells
      have hsh5 := lst_in (w := w5) (c := 1) (one_items HS5.out.1 trivial (leaf_in w5 (fun _ => True) 4 x (by decide) ⟨hx0, hx1⟩ 0)) (by simp) (by simp) (by omega)
      have hlg5 := lst_in (w := w5) (c := 2) (two_items HS5.out.2.1 trivial (leaf_in w5 (fun _ => True) 4 x (by decide) ⟨hx0, hx1⟩ 0) (txt_in w5 (fun _ => True) s hs 0)) (by simp) (by simp) (by omega)
      have HC5 := Lib.hid (compare_any 2 _ _ _ _ _ _ w5 hlg5 hsh5)
      rw [cmp_long] at HC5
      clear hsh5 hlg5
      go_wp2_with fail
      go_at_call 11
      refine HC5.out.mono ?_
      rintro e w6 ⟨rfl, hb6⟩
      clear HC5
      have HS6 := Lib.hid (HS5.out.keep hb6)
      have HB6 := Lib.hid (HB5.out.trans (hb6.mono HB5.out.size))
      clear hb6
      clear p0 p1 p2 p3 p4 p5 r0 r1 r2 r3 r4 r5
      obtain ⟨p0, p1, p2, p3, p4, p5⟩ := HS6.out.2.2.2.2.1.1.cells
      have HS6a := HS6.out.keep (W' := w6.alloc (.cells #[.int .i64 4, .int .i64 x, .string ⟨#[]⟩, .slice none 0 0, .slice none 0 0, .slice none 0 0] 26)) ((Below.refl _ _).alloc (Nat.le_refl _) _)
      obtain ⟨r0, r1, r2, r3, r4, r5⟩ := HS6a.2.2.2.2.1.2.1.cells
      clear HS6a
      have hb7 : Below w6.heap.size w6 (((w6.alloc (.cells #[.int .i64 4, .int .i64 x, .string ⟨#[]⟩, .slice none 0 0, .slice none 0 0, .slice none 0 0] 26)).alloc (.cells #[.int .i64 4, .int .i64 y, .string ⟨#[]⟩, .slice none 0 0, .slice none 0 0, .slice none 0 0] 26)).alloc (.cells #[.bool true] 4)) := (((Below.refl _ _).alloc (Nat.le_refl _) _).alloc (by simp) _).alloc (by simp; omega) _
      have hr1 : RowOf (((w6.alloc (.cells #[.int .i64 4, .int .i64 x, .string ⟨#[]⟩, .slice none 0 0, .slice none 0 0, .slice none 0 0] 26)).alloc (.cells #[.int .i64 4, .int .i64 y, .string ⟨#[]⟩, .slice none 0 0, .slice none 0 0, .slice none 0 0] 26)).alloc (.cells #[.bool true] 4)) w6.heap.size #[.int .i64 4, .int .i64 x, .string ⟨#[]⟩, .slice none 0 0, .slice none 0 0, .slice none 0 0] := ((RowOf.new w6 _).keep ((Below.refl _ _).alloc (Nat.le_refl _) _)).keep ((Below.refl _ _).alloc (Nat.le_refl _) _)
      have hr2 : RowOf (((w6.alloc (.cells #[.int .i64 4, .int .i64 x, .string ⟨#[]⟩, .slice none 0 0, .slice none 0 0, .slice none 0 0] 26)).alloc (.cells #[.int .i64 4, .int .i64 y, .string ⟨#[]⟩, .slice none 0 0, .slice none 0 0, .slice none 0 0] 26)).alloc (.cells #[.bool true] 4)) (w6.heap.size + 1) #[.int .i64 4, .int .i64 y, .string ⟨#[]⟩, .slice none 0 0, .slice none 0 0, .slice none 0 0] := by have z := (RowOf.new (w6.alloc (.cells #[.int .i64 4, .int .i64 x, .string ⟨#[]⟩, .slice none 0 0, .slice none 0 0, .slice none 0 0] 26)) #[.int .i64 4, .int .i64 y, .string ⟨#[]⟩, .slice none 0 0, .slice none 0 0, .slice none 0 0]).keep (W' := (((w6.alloc (.cells #[.int .i64 4, .int .i64 x, .string ⟨#[]⟩, .slice none 0 0, .slice none 0 0, .slice none 0 0] 26)).alloc (.cells #[.int .i64 4, .int .i64 y, .string ⟨#[]⟩, .slice none 0 0, .slice none 0 0, .slice none 0 0] 26)).alloc (.cells #[.bool true] 4))) ((Below.refl _ _).alloc (Nat.le_refl _) _); simpa using z
      have hr3 : BoolsIn (((w6.alloc (.cells #[.int .i64 4, .int .i64 x, .string ⟨#[]⟩, .slice none 0 0, .slice none 0 0, .slice none 0 0] 26)).alloc (.cells #[.int .i64 4, .int .i64 y, .string ⟨#[]⟩, .slice none 0 0, .slice none 0 0, .slice none 0 0] 26)).alloc (.cells #[.bool true] 4)) (fun _ => True) (some ⟨w6.heap.size + 2, 0, none⟩) [true] := .inr ⟨_, _, rfl, trivial, fun i hi => by
        have hz := heap_alloc_new ((w6.alloc (.cells #[.int .i64 4, .int .i64 x, .string ⟨#[]⟩, .slice none 0 0, .slice none 0 0, .slice none 0 0] 26)).alloc (.cells #[.int .i64 4, .int .i64 y, .string ⟨#[]⟩, .slice none 0 0, .slice none 0 0, .slice none 0 0] 26)) (.cells #[.bool true] 4)
        have e0 : i = 0 := by simp at hi; omega
        subst e0
        have := cell_of_row (((w6.alloc (.cells #[.int .i64 4, .int .i64 x, .string ⟨#[]⟩, .slice none 0 0, .slice none 0 0, .slice none 0 0] 26)).alloc (.cells #[.int .i64 4, .int .i64 y, .string ⟨#[]⟩, .slice none 0 0, .slice none 0 0, .slice none 0 0] 26)).alloc (.cells #[.bool true] 4)) (w6.heap.size + 2) 0 _ _ _ (by simpa using hz)
        exact this.trans rfl⟩
      have HBY := Lib.hid (by_any 0 (fun _ => True) (some ⟨w6.heap.size, 0, none⟩) (some ⟨w6.heap.size + 1, 0, none⟩) 1 1 1 1 [lf 4 x] [lf 4 y] (some ⟨w6.heap.size + 2, 0, none⟩) 1 1 [true] (((w6.alloc (.cells #[.int .i64 4, .int .i64 x, .string ⟨#[]⟩, .slice none 0 0, .slice none 0 0, .slice none 0 0] 26)).alloc (.cells #[.int .i64 4, .int .i64 y, .string ⟨#[]⟩, .slice none 0 0, .slice none 0 0, .slice none 0 0] 26)).alloc (.cells #[.bool true] 4)) rfl rfl (by decide) (by decide) (one_items hr1 trivial (leaf_in _ (fun _ => True) 4 x (by decide) ⟨hx0, hx1⟩ 0)) (one_items hr2 trivial (leaf_in _ (fun _ => True) 4 y (by decide) ⟨hy0, hy1⟩ 0)) rfl hr3)
      rw [by_one, ← HQ.out] at HBY
      have HB7 := Lib.hid (HB6.out.trans (hb7.mono HB6.out.size))
      clear hb7 hr1 hr2 hr3
      go_wp2_with fail
      go_at_call 15
      refine HBY.out.mono ?_
      rintro e w8 ⟨rfl, hb8⟩
      have HB8 := Lib.hid (HB7.out.trans (hb8.mono HB7.out.size))
      clear hb8 HBY
      go_wp2_with fail
      go_ret
      exact ⟨rfl, HB8.out⟩
    · go_wp2_with fail
      go_at_call 9
      refine (awake_any _).mono ?_
      rintro e w1 ⟨rfl, hb1⟩
      have HS1 := Lib.hid (HS0.out.keep hb1)
      have HB1 := Lib.hid (HB0.out.trans (hb1.mono HB0.out.size))
      clear hb1
      obtain ⟨p0, p1, p2, p3, p4, p5⟩ := HS1.out.2.2.2.2.1.1.cells
      obtain ⟨r0, r1, r2, r3, r4, r5⟩ := HS1.out.2.2.2.2.1.2.1.cells
      go_wp2_with fail
      go_at_call 11
      refine (lf_cmp 4 x 4 y (0) w1 (by decide) ⟨hx0, hx1⟩ (by decide) ⟨hy0, hy1⟩ (by rw [cmp_num 4 x y (.inl rfl), HQ.out])).mono ?_
      rintro e w2 ⟨rfl, hb2⟩
      have HS2 := Lib.hid (HS1.out.keep hb2)
      have HB2 := Lib.hid (HB1.out.trans (hb2.mono HB1.out.size))
      clear hb2
      clear p0 p1 p2 p3 p4 p5 r0 r1 r2 r3 r4 r5
      obtain ⟨p0, p1, p2, p3, p4, p5⟩ := HS2.out.2.2.2.2.1.2.2.1.cells
      obtain ⟨r0, r1, r2, r3, r4, r5⟩ := HS2.out.2.2.2.2.1.2.2.2.1.cells
      go_wp2_with fail
      go_at_call 11
      refine (lf_cmp 11 x 11 y (0) w2 (by decide) ⟨hx0, hx1⟩ (by decide) ⟨hy0, hy1⟩ (by rw [cmp_num 11 x y (.inr rfl), HQ.out])).mono ?_
      rintro e w3 ⟨rfl, hb3⟩
      have HS3 := Lib.hid (HS2.out.keep hb3)
      have HB3 := Lib.hid (HB2.out.trans (hb3.mono HB2.out.size))
      clear hb3
      clear p0 p1 p2 p3 p4 p5 r0 r1 r2 r3 r4 r5
      obtain ⟨p0, p1, p2, p3, p4, p5⟩ := HS3.out.2.2.2.2.1.2.2.2.2.1.cells
      obtain ⟨r0, r1, r2, r3, r4, r5⟩ := HS3.out.2.2.2.2.1.2.2.2.2.2.cells
      have HC3 := Lib.hid (compare_any 1 (fun _ => True) (fun _ => True) _ _ _ _ w3 (txt_in w3 _ s hs 0) (txt_in w3 _ t ht 0))
      rw [cmp_txt] at HC3
      go_wp2_with fail
      go_at_call 11
      refine HC3.out.mono ?_
      rintro e w4 ⟨rfl, hb4⟩
      clear HC3
      have HS4 := Lib.hid (HS3.out.keep hb4)
      have HB4 := Lib.hid (HB3.out.trans (hb4.mono HB3.out.size))
      clear hb4
      clear p0 p1 p2 p3 p4 p5 r0 r1 r2 r3 r4 r5
      obtain ⟨p0, p1, p2, p3, p4, p5⟩ := HS4.out.2.2.1.cells
      obtain ⟨r0, r1, r2, r3, r4, r5⟩ := HS4.out.2.2.2.1.cells
      have hsh4 := lst_in (w := w4) (c := 1) (one_items HS4.out.1 trivial (leaf_in w4 (fun _ => True) 4 x (by decide) ⟨hx0, hx1⟩ 0)) (by simp) (by simp) (by omega)
      have hlg4 := lst_in (w := w4) (c := 2) (two_items HS4.out.2.1 trivial (leaf_in w4 (fun _ => True) 4 x (by decide) ⟨hx0, hx1⟩ 0) (txt_in w4 (fun _ => True) s hs 0)) (by simp) (by simp) (by omega)
      have HC4 := Lib.hid (compare_any 2 _ _ _ _ _ _ w4 hsh4 hlg4)
      rw [cmp_short] at HC4
      clear hsh4 hlg4
      go_wp2_with fail
      go_at_call 11
      refine HC4.out.mono ?_
      rintro e w5 ⟨rfl, hb5⟩
      clear HC4
      have HS5 := Lib.hid (HS4.out.keep hb5)
      have HB5 := Lib.hid (HB4.out.trans (hb5.mono HB4.out.size))
      clear hb5
      clear p0 p1 p2 p3 p4 p5 r0 r1 r2 r3 r4 r5
      obtain ⟨p0, p1, p2, p3, p4, p5⟩ := HS5.out.2.2.1.cells
      obtain ⟨r0, r1, r2, r3, r4, r5⟩ := HS5.out.2.2.2.1.cells
      have hsh5 := lst_in (w := w5) (c := 1) (one_items HS5.out.1 trivial (leaf_in w5 (fun _ => True) 4 x (by decide) ⟨hx0, hx1⟩ 0)) (by simp) (by simp) (by omega)
      have hlg5 := lst_in (w := w5) (c := 2) (two_items HS5.out.2.1 trivial (leaf_in w5 (fun _ => True) 4 x (by decide) ⟨hx0, hx1⟩ 0) (txt_in w5 (fun _ => True) s hs 0)) (by simp) (by simp) (by omega)
      have HC5 := Lib.hid (compare_any 2 _ _ _ _ _ _ w5 hlg5 hsh5)
      rw [cmp_long] at HC5
      clear hsh5 hlg5
      go_wp2_with fail
      go_at_call 11
      refine HC5.out.mono ?_
      rintro e w6 ⟨rfl, hb6⟩
      clear HC5
      have HS6 := Lib.hid (HS5.out.keep hb6)
      have HB6 := Lib.hid (HB5.out.trans (hb6.mono HB5.out.size))
      clear hb6
      clear p0 p1 p2 p3 p4 p5 r0 r1 r2 r3 r4 r5
      obtain ⟨p0, p1, p2, p3, p4, p5⟩ := HS6.out.2.2.2.2.1.1.cells
      have HS6a := HS6.out.keep (W' := w6.alloc (.cells #[.int .i64 4, .int .i64 x, .string ⟨#[]⟩, .slice none 0 0, .slice none 0 0, .slice none 0 0] 26)) ((Below.refl _ _).alloc (Nat.le_refl _) _)
      obtain ⟨r0, r1, r2, r3, r4, r5⟩ := HS6a.2.2.2.2.1.2.1.cells
      clear HS6a
      have hb7 : Below w6.heap.size w6 (((w6.alloc (.cells #[.int .i64 4, .int .i64 x, .string ⟨#[]⟩, .slice none 0 0, .slice none 0 0, .slice none 0 0] 26)).alloc (.cells #[.int .i64 4, .int .i64 y, .string ⟨#[]⟩, .slice none 0 0, .slice none 0 0, .slice none 0 0] 26)).alloc (.cells #[.bool true] 4)) := (((Below.refl _ _).alloc (Nat.le_refl _) _).alloc (by simp) _).alloc (by simp; omega) _
      have hr1 : RowOf (((w6.alloc (.cells #[.int .i64 4, .int .i64 x, .string ⟨#[]⟩, .slice none 0 0, .slice none 0 0, .slice none 0 0] 26)).alloc (.cells #[.int .i64 4, .int .i64 y, .string ⟨#[]⟩, .slice none 0 0, .slice none 0 0, .slice none 0 0] 26)).alloc (.cells #[.bool true] 4)) w6.heap.size #[.int .i64 4, .int .i64 x, .string ⟨#[]⟩, .slice none 0 0, .slice none 0 0, .slice none 0 0] := ((RowOf.new w6 _).keep ((Below.refl _ _).alloc (Nat.le_refl _) _)).keep ((Below.refl _ _).alloc (Nat.le_refl _) _)
      have hr2 : RowOf (((w6.alloc (.cells #[.int .i64 4, .int .i64 x, .string ⟨#[]⟩, .slice none 0 0, .slice none 0 0, .slice none 0 0] 26)).alloc (.cells #[.int .i64 4, .int .i64 y, .string ⟨#[]⟩, .slice none 0 0, .slice none 0 0, .slice none 0 0] 26)).alloc (.cells #[.bool true] 4)) (w6.heap.size + 1) #[.int .i64 4, .int .i64 y, .string ⟨#[]⟩, .slice none 0 0, .slice none 0 0, .slice none 0 0] := by have z := (RowOf.new (w6.alloc (.cells #[.int .i64 4, .int .i64 x, .string ⟨#[]⟩, .slice none 0 0, .slice none 0 0, .slice none 0 0] 26)) #[.int .i64 4, .int .i64 y, .string ⟨#[]⟩, .slice none 0 0, .slice none 0 0, .slice none 0 0]).keep (W' := (((w6.alloc (.cells #[.int .i64 4, .int .i64 x, .string ⟨#[]⟩, .slice none 0 0, .slice none 0 0, .slice none 0 0] 26)).alloc (.cells #[.int .i64 4, .int .i64 y, .string ⟨#[]⟩, .slice none 0 0, .slice none 0 0, .slice none 0 0] 26)).alloc (.cells #[.bool true] 4))) ((Below.refl _ _).alloc (Nat.le_refl _) _); simpa using z
      have hr3 : BoolsIn (((w6.alloc (.cells #[.int .i64 4, .int .i64 x, .string ⟨#[]⟩, .slice none 0 0, .slice none 0 0, .slice none 0 0] 26)).alloc (.cells #[.int .i64 4, .int .i64 y, .string ⟨#[]⟩, .slice none 0 0, .slice none 0 0, .slice none 0 0] 26)).alloc (.cells #[.bool true] 4)) (fun _ => True) (some ⟨w6.heap.size + 2, 0, none⟩) [true] := .inr ⟨_, _, rfl, trivial, fun i hi => by
        have hz := heap_alloc_new ((w6.alloc (.cells #[.int .i64 4, .int .i64 x, .string ⟨#[]⟩, .slice none 0 0, .slice none 0 0, .slice none 0 0] 26)).alloc (.cells #[.int .i64 4, .int .i64 y, .string ⟨#[]⟩, .slice none 0 0, .slice none 0 0, .slice none 0 0] 26)) (.cells #[.bool true] 4)
        have e0 : i = 0 := by simp at hi; omega
        subst e0
        have := cell_of_row (((w6.alloc (.cells #[.int .i64 4, .int .i64 x, .string ⟨#[]⟩, .slice none 0 0, .slice none 0 0, .slice none 0 0] 26)).alloc (.cells #[.int .i64 4, .int .i64 y, .string ⟨#[]⟩, .slice none 0 0, .slice none 0 0, .slice none 0 0] 26)).alloc (.cells #[.bool true] 4)) (w6.heap.size + 2) 0 _ _ _ (by simpa using hz)
        exact this.trans rfl⟩
      have HBY := Lib.hid (by_any 0 (fun _ => True) (some ⟨w6.heap.size, 0, none⟩) (some ⟨w6.heap.size + 1, 0, none⟩) 1 1 1 1 [lf 4 x] [lf 4 y] (some ⟨w6.heap.size + 2, 0, none⟩) 1 1 [true] (((w6.alloc (.cells #[.int .i64 4, .int .i64 x, .string ⟨#[]⟩, .slice none 0 0, .slice none 0 0, .slice none 0 0] 26)).alloc (.cells #[.int .i64 4, .int .i64 y, .string ⟨#[]⟩, .slice none 0 0, .slice none 0 0, .slice none 0 0] 26)).alloc (.cells #[.bool true] 4)) rfl rfl (by decide) (by decide) (one_items hr1 trivial (leaf_in _ (fun _ => True) 4 x (by decide) ⟨hx0, hx1⟩ 0)) (one_items hr2 trivial (leaf_in _ (fun _ => True) 4 y (by decide) ⟨hy0, hy1⟩ 0)) rfl hr3)
      rw [by_one, ← HQ.out] at HBY
      have HB7 := Lib.hid (HB6.out.trans (hb7.mono HB6.out.size))
      clear hb7 hr1 hr2 hr3
      go_wp2_with fail
      go_at_call 15
      refine HBY.out.mono ?_
      rintro e w8 ⟨rfl, hb8⟩
      have HB8 := Lib.hid (HB7.out.trans (hb8.mono HB7.out.size))
      clear hb8 HBY
      go_wp2_with fail
      go_ret
      exact ⟨rfl, HB8.out⟩
    · go_wp2_with fail
      go_at_call 9
      refine (awake_any _).mono ?_
      rintro e w1 ⟨rfl, hb1⟩
      have HS1 := Lib.hid (HS0.out.keep hb1)
      have HB1 := Lib.hid (HB0.out.trans (hb1.mono HB0.out.size))
      clear hb1
      obtain ⟨p0, p1, p2, p3, p4, p5⟩ := HS1.out.2.2.2.2.1.1.cells
      obtain ⟨r0, r1, r2, r3, r4, r5⟩ := HS1.out.2.2.2.2.1.2.1.cells
      go_wp2_with fail
      go_at_call 11
      refine (lf_cmp 4 x 4 y (1) w1 (by decide) ⟨hx0, hx1⟩ (by decide) ⟨hy0, hy1⟩ (by rw [cmp_num 4 x y (.inl rfl), HQ.out])).mono ?_
      rintro e w2 ⟨rfl, hb2⟩
      have HS2 := Lib.hid (HS1.out.keep hb2)
      have HB2 := Lib.hid (HB1.out.trans (hb2.mono HB1.out.size))
      clear hb2
      clear p0 p1 p2 p3 p4 p5 r0 r1 r2 r3 r4 r5
      obtain ⟨p0, p1, p2, p3, p4, p5⟩ := HS2.out.2.2.2.2.1.2.2.1.cells
      obtain ⟨r0, r1, r2, r3, r4, r5⟩ := HS2.out.2.2.2.2.1.2.2.2.1.cells
      go_wp2_with fail
      go_at_call 11
      refine (lf_cmp 11 x 11 y (1) w2 (by decide) ⟨hx0, hx1⟩ (by decide) ⟨hy0, hy1⟩ (by rw [cmp_num 11 x y (.inr rfl), HQ.out])).mono ?_
      rintro e w3 ⟨rfl, hb3⟩
      have HS3 := Lib.hid (HS2.out.keep hb3)
      have HB3 := Lib.hid (HB2.out.trans (hb3.mono HB2.out.size))
      clear hb3
      clear p0 p1 p2 p3 p4 p5 r0 r1 r2 r3 r4 r5
      obtain ⟨p0, p1, p2, p3, p4, p5⟩ := HS3.out.2.2.2.2.1.2.2.2.2.1.cells
      obtain ⟨r0, r1, r2, r3, r4, r5⟩ := HS3.out.2.2.2.2.1.2.2.2.2.2.cells
      have HC3 := Lib.hid (compare_any 1 (fun _ => True) (fun _ => True) _ _ _ _ w3 (txt_in w3 _ s hs 0) (txt_in w3 _ t ht 0))
      rw [cmp_txt] at HC3
      go_wp2_with fail
      go_at_call 11
      refine HC3.out.mono ?_
      rintro e w4 ⟨rfl, hb4⟩
      clear HC3
      have HS4 := Lib.hid (HS3.out.keep hb4)
      have HB4 := Lib.hid (HB3.out.trans (hb4.mono HB3.out.size))
      clear hb4
      clear p0 p1 p2 p3 p4 p5 r0 r1 r2 r3 r4 r5
      obtain ⟨p0, p1, p2, p3, p4, p5⟩ := HS4.out.2.2.1.cells
      obtain ⟨r0, r1, r2, r3, r4, r5⟩ := HS4.out.2.2.2.1.cells
      have hsh4 := lst_in (w := w4) (c := 1) (one_items HS4.out.1 trivial (leaf_in w4 (fun _ => True) 4 x (by decide) ⟨hx0, hx1⟩ 0)) (by simp) (by simp) (by omega)
      have hlg4 := lst_in (w := w4) (c := 2) (two_items HS4.out.2.1 trivial (leaf_in w4 (fun _ => True) 4 x (by decide) ⟨hx0, hx1⟩ 0) (txt_in w4 (fun _ => True) s hs 0)) (by simp) (by simp) (by omega)
      have HC4 := Lib.hid (compare_any 2 _ _ _ _ _ _ w4 hsh4 hlg4)
      rw [cmp_short] at HC4
      clear hsh4 hlg4
      go_wp2_with fail
      go_at_call 11
      refine HC4.out.mono ?_
      rintro e w5 ⟨rfl, hb5⟩
      clear HC4
      have HS5 := Lib.hid (HS4.out.keep hb5)
      have HB5 := Lib.hid (HB4.out.trans (hb5.mono HB4.out.size))
      clear hb5
      clear p0 p1 p2 p3 p4 p5 r0 r1 r2 r3 r4 r5
      obtain ⟨p0, p1, p2, p3, p4, p5⟩ := HS5.out.2.2.1.cells
      obtain ⟨r0, r1, r2, r3, r4, r5⟩ := HS5.out.2.2.2.1.cells
      have hsh5 := lst_in (w := w5) (c := 1) (one_items HS5.out.1 trivial (leaf_in w5 (fun _ => True) 4 x (by decide) ⟨hx0, hx1⟩ 0)) (by simp) (by simp) (by omega)
      have hlg5 := lst_in (w := w5) (c := 2) (two_items HS5.out.2.1 trivial (leaf_in w5 (fun _ => True) 4 x (by decide) ⟨hx0, hx1⟩ 0) (txt_in w5 (fun _ => True) s hs 0)) (by simp) (by simp) (by omega)
      have HC5 := Lib.hid (compare_any 2 _ _ _ _ _ _ w5 hlg5 hsh5)
      rw [cmp_long] at HC5
      clear hsh5 hlg5
      go_wp2_with fail
      go_at_call 11
      refine HC5.out.mono ?_
      rintro e w6 ⟨rfl, hb6⟩
      clear HC5
      have HS6 := Lib.hid (HS5.out.keep hb6)
      have HB6 := Lib.hid (HB5.out.trans (hb6.mono HB5.out.size))
      clear hb6
      clear p0 p1 p2 p3 p4 p5 r0 r1 r2 r3 r4 r5
      obtain ⟨p0, p1, p2, p3, p4, p5⟩ := HS6.out.2.2.2.2.1.1.cells
      have HS6a := HS6.out.keep (W' := w6.alloc (.cells #[.int .i64 4, .int .i64 x, .string ⟨#[]⟩, .slice none 0 0, .slice none 0 0, .slice none 0 0] 26)) ((Below.refl _ _).alloc (Nat.le_refl _) _)
      obtain ⟨r0, r1, r2, r3, r4, r5⟩ := HS6a.2.2.2.2.1.2.1.cells
      clear HS6a
      have hb7 : Below w6.heap.size w6 (((w6.alloc (.cells #[.int .i64 4, .int .i64 x, .string ⟨#[]⟩, .slice none 0 0, .slice none 0 0, .slice none 0 0] 26)).alloc (.cells #[.int .i64 4, .int .i64 y, .string ⟨#[]⟩, .slice none 0 0, .slice none 0 0, .slice none 0 0] 26)).alloc (.cells #[.bool true] 4)) := (((Below.refl _ _).alloc (Nat.le_refl _) _).alloc (by simp) _).alloc (by simp; omega) _
      have hr1 : RowOf (((w6.alloc (.cells #[.int .i64 4, .int .i64 x, .string ⟨#[]⟩, .slice none 0 0, .slice none 0 0, .slice none 0 0] 26)).alloc (.cells #[.int .i64 4, .int .i64 y, .string ⟨#[]⟩, .slice none 0 0, .slice none 0 0, .slice none 0 0] 26)).alloc (.cells #[.bool true] 4)) w6.heap.size #[.int .i64 4, .int .i64 x, .string ⟨#[]⟩, .slice none 0 0, .slice none 0 0, .slice none 0 0] := ((RowOf.new w6 _).keep ((Below.refl _ _).alloc (Nat.le_refl _) _)).keep ((Below.refl _ _).alloc (Nat.le_refl _) _)
      have hr2 : RowOf (((w6.alloc (.cells #[.int .i64 4, .int .i64 x, .string ⟨#[]⟩, .slice none 0 0, .slice none 0 0, .slice none 0 0] 26)).alloc (.cells #[.int .i64 4, .int .i64 y, .string ⟨#[]⟩, .slice none 0 0, .slice none 0 0, .slice none 0 0] 26)).alloc (.cells #[.bool true] 4)) (w6.heap.size + 1) #[.int .i64 4, .int .i64 y, .string ⟨#[]⟩, .slice none 0 0, .slice none 0 0, .slice none 0 0] := by have z := (RowOf.new (w6.alloc (.cells #[.int .i64 4, .int .i64 x, .string ⟨#[]⟩, .slice none 0 0, .slice none 0 0, .slice none 0 0] 26)) #[.int .i64 4, .int .i64 y, .string ⟨#[]⟩, .slice none 0 0, .slice none 0 0, .slice none 0 0]).keep (W' := (((w6.alloc (.cells #[.int .i64 4, .int .i64 x, .string ⟨#[]⟩, .slice none 0 0, .slice none 0 0, .slice none 0 0] 26)).alloc (.cells #[.int .i64 4, .int .i64 y, .string ⟨#[]⟩, .slice none 0 0, .slice none 0 0, .slice none 0 0] 26)).alloc (.cells #[.bool true] 4))) ((Below.refl _ _).alloc (Nat.le_refl _) _); simpa using z
      have hr3 : BoolsIn (((w6.alloc (.cells #[.int .i64 4, .int .i64 x, .string ⟨#[]⟩, .slice none 0 0, .slice none 0 0, .slice none 0 0] 26)).alloc (.cells #[.int .i64 4, .int .i64 y, .string ⟨#[]⟩, .slice none 0 0, .slice none 0 0, .slice none 0 0] 26)).alloc (.cells #[.bool true] 4)) (fun _ => True) (some ⟨w6.heap.size + 2, 0, none⟩) [true] := .inr ⟨_, _, rfl, trivial, fun i hi => by
        have hz := heap_alloc_new ((w6.alloc (.cells #[.int .i64 4, .int .i64 x, .string ⟨#[]⟩, .slice none 0 0, .slice none 0 0, .slice none 0 0] 26)).alloc (.cells #[.int .i64 4, .int .i64 y, .string ⟨#[]⟩, .slice none 0 0, .slice none 0 0, .slice none 0 0] 26)) (.cells #[.bool true] 4)
        have e0 : i = 0 := by simp at hi; omega
        subst e0
        have := cell_of_row (((w6.alloc (.cells #[.int .i64 4, .int .i64 x, .string ⟨#[]⟩, .slice none 0 0, .slice none 0 0, .slice none 0 0] 26)).alloc (.cells #[.int .i64 4, .int .i64 y, .string ⟨#[]⟩, .slice none 0 0, .slice none 0 0, .slice none 0 0] 26)).alloc (.cells #[.bool true] 4)) (w6.heap.size + 2) 0 _ _ _ (by simpa using hz)
        exact this.trans rfl⟩
      have HBY := Lib.hid (by_any 0 (fun _ => True) (some ⟨w6.heap.size, 0, none⟩) (some ⟨w6.heap.size + 1, 0, none⟩) 1 1 1 1 [lf 4 x] [lf 4 y] (some ⟨w6.heap.size + 2, 0, none⟩) 1 1 [true] (((w6.alloc (.cells #[.int .i64 4, .int .i64 x, .string ⟨#[]⟩, .slice none 0 0, .slice none 0 0, .slice none 0 0] 26)).alloc (.cells #[.int .i64 4, .int .i64 y, .string ⟨#[]⟩, .slice none 0 0, .slice none 0 0, .slice none 0 0] 26)).alloc (.cells #[.bool true] 4)) rfl rfl (by decide) (by decide) (one_items hr1 trivial (leaf_in _ (fun _ => True) 4 x (by decide) ⟨hx0, hx1⟩ 0)) (one_items hr2 trivial (leaf_in _ (fun _ => True) 4 y (by decide) ⟨hy0, hy1⟩ 0)) rfl hr3)
      rw [by_one, ← HQ.out] at HBY
      have HB7 := Lib.hid (HB6.out.trans (hb7.mono HB6.out.size))
      clear hb7 hr1 hr2 hr3
      go_wp2_with fail
      go_at_call 15
      refine HBY.out.mono ?_
      rintro e w8 ⟨rfl, hb8⟩
      have HB8 := Lib.hid (HB7.out.trans (hb8.mono HB7.out.size))
      clear hb8 HBY
      go_wp2_with fail
      go_ret
      exact ⟨rfl, HB8.out⟩
set_option maxRecDepth 100000 in
set_option maxHeartbeats 4000000 in
theorem orderNumbers_any (x y : Int) (s t : ByteArray) (w : World) (hx : -9223372036854775808 ≤ x ∧ x ≤ 9223372036854775807) (hy : -9223372036854775808 ≤ y ∧ y ≤ 9223372036854775807) (hs : s.size ≤ 140737488355328) (ht : t.size ≤ 140737488355328) :
    Calls Try.prog 7 #[.agg #[.int .i64 x, .int .i64 y], .string s, .string t] w fun e w' => e = .returned (.bool true) ∧ Below w.heap.size w w' := by
  have HB0 : Hid (Below w.heap.size w (w.alloc (.cells #[.int .i64 x, .int .i64 y] 38))) := (Below.refl _ _).alloc (Nat.le_refl _) _
  have hz := heap_alloc_new w (.cells #[.int .i64 x, .int .i64 y] 38)
  have HZ := Lib.hid hz
  clear hz
  go_enter Try.func7, Try.ntmps7
  go_wp2_with fail
  go_at_call 9
  refine (awake_any _).mono ?_
  rintro e w1 ⟨rfl, hb1⟩
  have HB1 := Lib.hid (HB0.out.trans (hb1.mono HB0.out.size))
  have hz1 := (hb1.block _ (by simp : w.heap.size < (w.alloc (.cells #[.int .i64 x, .int .i64 y] 38)).heap.size)).trans HZ.out
  have c0 : w1.cell? ⟨w.heap.size, 0, none⟩ = some (.int .i64 x) := (cell_of_row _ _ 0 _ _ _ hz1).trans rfl
  have c1 : w1.cell? ⟨w.heap.size, 1, none⟩ = some (.int .i64 y) := (cell_of_row _ _ 1 _ _ _ hz1).trans rfl
  clear hb1 hz1
  go_wp2_with fail
  go_at_call 20
  refine (numbers_any x y s t w1 hx hy hs ht).mono ?_
  rintro e w2 ⟨rfl, hb2⟩
  have HB2 := Lib.hid (HB1.out.trans (hb2.mono HB1.out.size))
  clear hb2
  go_wp2_with fail
  go_ret
  exact ⟨rfl, HB2.out⟩
end Go.Proofs.Ytngdjdhfciodjaa
