/- A TEXT's NAMES BETWEEN POINTS (plain). -/
import Derived.Laws.AppendOwn
import Derived.Lib.IndexBytes
import Derived.Lib.CutLaws
import Derived.Test.YtfhbjinajloecaaDoorBsonMath
namespace Go.Proofs.YtfhbjinajloecaaDoor
open Go
namespace Path
/-- What lies between the points. -/
def split : List UInt8 → List (List UInt8)
  | [] => [[]]
  | c :: r => if c = 46 then [] :: split r else (c :: (split r).headD []) :: (split r).tail
theorem split_free : ∀ (a : List UInt8), 46 ∉ a → split a = [a]
  | [], _ => rfl
  | c :: r, h => by
    have hc : c ≠ 46 := fun e => h (by simp [e])
    have ih := split_free r (fun e => h (by simp [e]))
    simp [split, hc, ih]
theorem split_cut : ∀ (a b : List UInt8), 46 ∉ a → split (a ++ 46 :: b) = a :: split b
  | [], b, _ => by simp [split]
  | c :: r, b, h => by
    have hc : c ≠ 46 := fun e => h (by simp [e])
    have ih := split_cut r b (fun e => h (by simp [e]))
    simp [split, hc, ih]
theorem split_ne (s : List UInt8) : split s ≠ [] := by
  cases s with
  | nil => simp [split]
  | cons c r => unfold split; split <;> simp
theorem dot_index : ∀ (s : List UInt8), (46 ∉ s ∧ Lib.indexByte s 46 = -1) ∨ ∃ a b, s = a ++ 46 :: b ∧ 46 ∉ a ∧ Lib.indexByte s 46 = a.length
  | [] => .inl ⟨by simp, rfl⟩
  | c :: r => by
    by_cases hc : c = 46
    · subst hc
      exact .inr ⟨[], r, rfl, by simp, by simp [Lib.indexByte]⟩
    · rcases dot_index r with ⟨h1, h2⟩ | ⟨a, b, rfl, h1, h2⟩
      · refine .inl ⟨by simp [h1, Ne.symm hc], ?_⟩
        simp [Lib.indexByte, hc, h2]
      · refine .inr ⟨c :: a, b, rfl, by simp [h1, Ne.symm hc], ?_⟩
        have hn : ¬ ((a.length : Int) = -1) := by omega
        simp [Lib.indexByte, hc, h2, hn]
theorem cut_dot (s : List UInt8) : (46 ∉ s ∧ Lib.cut s [46] = (s, [], false)) ∨ ∃ a b, s = a ++ 46 :: b ∧ 46 ∉ a ∧ Lib.cut s [46] = (a, b, true) := by
  rcases dot_index s with ⟨h1, h2⟩ | ⟨a, b, rfl, h1, h2⟩
  · refine .inl ⟨h1, ?_⟩
    unfold Lib.cut
    rw [Lib.index_one, h2]; rfl
  · refine .inr ⟨a, b, rfl, h1, ?_⟩
    unfold Lib.cut
    rw [Lib.index_one, h2, if_pos (by omega)]
    simp
/-- May a path have such a name? -/
def may (x : List UInt8) : Bool := (!x.isEmpty) && (x.headD 0 != 36) && decide (x.length ≤ 120) && decide (0 ∉ x) && Lib.validD x
/-- The names of a text that is a path. -/
def parse (s : List UInt8) : Option (List (List UInt8)) := if (split s).all may = true ∧ (split s).length ≤ 16 then some (split s) else none
theorem index_none (x : List UInt8) (c : UInt8) : Lib.indexByte x c < 0 ↔ c ∉ x := by
  induction x with
  | nil => simp [Lib.indexByte]
  | cons d r ih =>
    have hg := Lib.indexByte_ge r c
    by_cases hd : d = c
    · subst hd; simp [Lib.indexByte]
    · by_cases h : Lib.indexByte r c = -1
      · have : c ∉ r := ih.1 (by omega)
        simp [Lib.indexByte, hd, h, Ne.symm hd, this]
      · have h2 : ¬ c ∉ r := fun e => h (by have := ih.2 e; omega)
        have h3 : c ∈ r := Classical.not_not.1 h2
        simp [Lib.indexByte, hd, h, h3]
        omega
/-- Texts as cells. -/
def strs (l : List (List UInt8)) : List Value := l.map fun x => .string ⟨x.toArray⟩
theorem strs_length (l : List (List UInt8)) : (strs l).length = l.length := by simp [strs]
theorem strs_append (a b : List (List UInt8)) : strs (a ++ b) = strs a ++ strs b := by simp [strs]
theorem strs_one (l : List (List UInt8)) : ∀ u ∈ strs l, u.oneCell' = true := by
  intro u hu
  obtain ⟨x, _, rfl⟩ := List.mem_map.1 hu
  rfl
/-- A text as a list of bytes, and back. -/
def chars (s : ByteArray) : List UInt8 := s.data.toList
theorem mk_chars (s : ByteArray) : (⟨(chars s).toArray⟩ : ByteArray) = s := by cases s; rfl
theorem chars_mk (l : List UInt8) : chars ⟨l.toArray⟩ = l := rfl
theorem chars_length (s : ByteArray) : (chars s).length = s.size := rfl
end Path
end Go.Proofs.YtfhbjinajloecaaDoor
