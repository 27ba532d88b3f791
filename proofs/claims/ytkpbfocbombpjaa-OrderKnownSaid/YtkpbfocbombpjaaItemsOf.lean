/- Rows of values that a literal lays (no walk). -/
import Derived.Test.YtkpbfocbombpjaaOrderRowsIn
namespace Go.Proofs.Ytkpbfocbombpjaa
open Go.RowKit
open Seal
open Bson (Val)
theorem flat_six {α : Type} : ∀ (vs : List (α × List Value)), (∀ p ∈ vs, p.2.length = 6) → ∀ (i : Nat) (hi : i < vs.length) (j : Nat), j < 6 → (vs.flatMap (·.2))[i * 6 + j]? = vs[i].2[j]?
  | [], _, i, hi, _, _ => by cases hi
  | p :: r, h, 0, _, j, hj => by
    rw [List.flatMap_cons, Nat.zero_mul, Nat.zero_add, List.getElem?_append_left (by rw [h p (by simp)]; exact hj)]
    rfl
  | p :: r, h, i + 1, hi, j, hj => by
    have hp := h p (by simp)
    rw [List.flatMap_cons, List.getElem?_append_right (by rw [hp]; omega), hp, show (i + 1) * 6 + j - 6 = i * 6 + j by omega]
    exact flat_six r (fun q hq => h q (by simp [hq])) i (by simpa using hi) j hj
theorem six_list {l : List Value} (h : l.length = 6) : ∃ a b c d e f, l = [a, b, c, d, e, f] := by
  match l, h with
  | [a, b, c, d, e, f], _ => exact ⟨a, b, c, d, e, f, rfl⟩
theorem items_of {w : World} {Q : Nat → Prop} {h g : Nat} {t : TypeId} (vs : List (Val × List Value)) (h6 : ∀ p ∈ vs, p.2.length = 6) (hr : w.heap[g]? = some (.cells (vs.flatMap (·.2)).toArray t (0, 0))) (hq : Q g) (hV : ∀ p ∈ vs, VIn w Q h p.1 (.agg p.2.toArray)) :
    ItemsIn w Q (VIn w Q h) (some ⟨g, 0, none⟩) (vs.map (·.1)) := by
  refine .inr ⟨g, 0, rfl, hq, fun i hi => ?_⟩
  have hi' : i < vs.length := by simpa using hi
  obtain ⟨a, b, c, d, e, f, hl⟩ := six_list (h6 _ (List.getElem_mem hi'))
  have hc : ∀ j u, j < 6 → vs[i].2[j]? = some u → w.cell? ⟨g, 0 + i * 6 + j, none⟩ = some u := fun j u hj hu => by
    rw [Nat.zero_add, cell_of_row w g _ _ _ _ hr, List.getElem?_toArray, flat_six vs h6 i hi' j hj, hu]
  refine ⟨.agg #[a, b, c, d, e, f], ⟨a, b, c, d, e, f, rfl, ?_, ?_, ?_, ?_, ?_, ?_⟩, ?_⟩
  · exact hc 0 a (by decide) (by rw [hl]; rfl)
  · exact hc 1 b (by decide) (by rw [hl]; rfl)
  · exact hc 2 c (by decide) (by rw [hl]; rfl)
  · exact hc 3 d (by decide) (by rw [hl]; rfl)
  · exact hc 4 e (by decide) (by rw [hl]; rfl)
  · exact hc 5 f (by decide) (by rw [hl]; rfl)
  · have := hV _ (List.getElem_mem hi')
    rw [hl] at this
    rw [List.getElem_map]
    exact this
/-- One item of a row, as a row. -/
theorem ItemsIn.one {w : World} {Q : Nat → Prop} {V : Val → Value → Prop} {g o : Nat} {l : List Val} (h : ItemsIn w Q V (some ⟨g, o, none⟩) l) (k : Nat) (hk : k < l.length) : ItemsIn w Q V (some ⟨g, o + k * 6, none⟩) [l[k]] := by
  rcases h with e | ⟨g', o', e, hq, h⟩
  · rw [e] at hk; cases hk
  · injection e with e; injection e with e1 e2 _
    subst e1; subst e2
    refine .inr ⟨g, o + k * 6, rfl, hq, fun i hi => ?_⟩
    obtain rfl : i = 0 := by simp at hi; omega
    obtain ⟨v, h1, h2⟩ := h k hk
    exact ⟨v, by rw [Nat.zero_mul, Nat.add_zero]; exact h1, h2⟩
/-- A value of a kind, a number and a text. -/
theorem text_in (w : World) (Q : Nat → Prop) (k n : Int) (s : ByteArray) (hs : s.size ≤ 140737488355328) (hk : -9223372036854775808 ≤ k ∧ k ≤ 9223372036854775807) (hn : -9223372036854775808 ≤ n ∧ n ≤ 9223372036854775807) (h : Nat) :
    VIn w Q (h + 1) (.mk k n s [] [] []) (.agg #[.int .i64 k, .int .i64 n, .string s, .slice none 0 0, .slice none 0 0, .slice none 0 0]) :=
  ⟨none, none, none, 0, 0, 0, rfl, ⟨hk.1, hk.2, hn.1, hn.2, hs, Nat.zero_le _, Nat.zero_le _, Nat.zero_le _, fun c hc => (by cases hc)⟩, ⟨Nat.le_refl _, by omega⟩, ⟨Nat.le_refl _, by omega⟩, ⟨Nat.le_refl _, by omega⟩, .inl rfl, .inl rfl, .inl rfl⟩
/-- Bytes in a block of their own. -/
theorem blob_in {w : World} {Q : Nat → Prop} {g : Nat} {l : List Nat} (k : Int) (hr : Row w g l) (hq : Q g) (ho : Oct l) (hl : l.length ≤ 140737488355328) (hk : -9223372036854775808 ≤ k ∧ k ≤ 9223372036854775807) (h : Nat) :
    VIn w Q (h + 1) (.mk k 0 ⟨#[]⟩ l [] []) (.agg #[.int .i64 k, .int .i64 0, .string ⟨#[]⟩, .slice (some ⟨g, 0, none⟩) l.length l.length, .slice none 0 0, .slice none 0 0]) :=
  ⟨some ⟨g, 0, none⟩, none, none, l.length, 0, 0, rfl, ⟨hk.1, hk.2, by show (-9223372036854775808 : Int) ≤ 0; omega, by show (0 : Int) ≤ _; omega, Nat.zero_le _, hl, Nat.zero_le _, Nat.zero_le _, ho⟩, ⟨Nat.le_refl _, by show l.length ≤ _; omega⟩, ⟨Nat.le_refl _, by omega⟩, ⟨Nat.le_refl _, by omega⟩,
    .inr ⟨g, 0, rfl, hq, fun j hj => by rw [Nat.zero_add]; exact hr.cell hj⟩, .inl rfl, .inl rfl⟩
/-- A List in a block of its own. -/
theorem list_in {w : World} {Q : Nat → Prop} {h g : Nat} {l : List Val} (hI : ItemsIn w Q (VIn w Q h) (some ⟨g, 0, none⟩) l) (hl : l.length ≤ 1353245080339) :
    VIn w Q (h + 1) (.mk 7 0 ⟨#[]⟩ [] [] l) (.agg #[.int .i64 7, .int .i64 0, .string ⟨#[]⟩, .slice none 0 0, .slice none 0 0, .slice (some ⟨g, 0, none⟩) l.length l.length]) :=
  ⟨none, none, some ⟨g, 0, none⟩, 0, 0, l.length, rfl, plain_lim 7 0 [] _ (by omega) (by omega) (by simp) hl, ⟨Nat.le_refl _, by omega⟩, ⟨Nat.le_refl _, by omega⟩, ⟨Nat.le_refl _, by show l.length ≤ _; omega⟩, .inl rfl, .inl rfl, hI⟩
end Go.Proofs.Ytkpbfocbombpjaa
