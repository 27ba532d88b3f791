/- PathField, PathAcc, PathFAcc. -/
import Derived.Test.YtpiookgkkaafeaaDoorMg19
import Derived.Test.YtpiookgkkaafeaaDoorMg5
import Derived.Test.YtpiookgkkaafeaaDoorMg6
import Derived.Test.YtpiookgkkaafeaaDoorMg4
set_option maxRecDepth 100000
section
namespace Go.Proofs.YtpiookgkkaafeaaDoor
open Go.RowKit
open Seal
open Bson (Val)
theorem fieldIn_none : ∀ (f : List (ByteArray × Val)) (a : ByteArray), (∀ i (hi : i < f.length), f[i].1 ≠ a) → Bson.fieldIn f a = Bson.zero
  | [], _, _ => rfl
  | (s, v) :: r, a, h => by
    rw [Bson.fieldIn, if_neg (show ¬ s = a from h 0 (by simp))]
    exact fieldIn_none r a (fun i hi => h (i + 1) (by simpa using hi))
theorem fieldIn_at : ∀ (f : List (ByteArray × Val)) (a : ByteArray) (k : Nat) (hk : k < f.length), (∀ i (hi : i < f.length), i < k → f[i].1 ≠ a) → f[k].1 = a → Bson.fieldIn f a = f[k].2
  | (s, v) :: r, a, 0, _, _, e => by rw [Bson.fieldIn, if_pos (show s = a from e)]; rfl
  | (s, v) :: r, a, k + 1, hk, h, e => by
    rw [Bson.fieldIn, if_neg (show ¬ s = a from h 0 (by simp) (by omega))]
    exact fieldIn_at r a k (by simpa using hk) (fun i hi hik => h (i + 1) (by simpa using hi) (by omega)) e
end Go.Proofs.YtpiookgkkaafeaaDoor
end
section
namespace Go.Proofs.YtpiookgkkaafeaaDoor
open Go.RowKit
open Seal
open Bson (Val)
/-- The row v of one's own holds the values ys, whose parts lie in blocks that QA names, not in the row's. -/
structure Acc (w : World) (base : Nat) (v : Value) (QA : Nat → Prop) (h : Nat) (ys : List Val) (xs : List Value) : Prop where
  own : w.ownsRow base 27 6 v ys.length xs
  at' : ∀ i (hi : i < ys.length), ∃ c0 c1 c2 c3 c4 c5, xs[i * 6]? = some c0 ∧ xs[i * 6 + 1]? = some c1 ∧ xs[i * 6 + 2]? = some c2 ∧ xs[i * 6 + 3]? = some c3 ∧ xs[i * 6 + 4]? = some c4 ∧ xs[i * 6 + 5]? = some c5 ∧ VIn w (fun g => QA g ∧ v.ownBlock ≠ some g) h ys[i] (.agg #[c0, c1, c2, c3, c4, c5])
section
variable {w w' : World} {base : Nat} {v v' : Value} {QA : Nat → Prop} {h : Nat} {ys : List Val} {xs : List Value}
theorem Acc.nil (w : World) (base : Nat) (QA : Nat → Prop) (h : Nat) : Acc w base (.slice none 0 0) QA h [] [] :=
  ⟨World.ownsRow_nil _ _ _ _, fun i hi => by simp at hi⟩
theorem Acc.keep (ha : Acc w base v QA h ys xs) (hb : Below w.heap.size w w') : Acc w' base v QA h ys xs :=
  ⟨owns_below ha.own hb, fun i hi => by
    obtain ⟨c0, c1, c2, c3, c4, c5, h0, h1, h2, h3, h4, h5, hv⟩ := ha.at' i hi
    exact ⟨c0, c1, c2, c3, c4, c5, h0, h1, h2, h3, h4, h5, hv.keep hb⟩⟩
/-- What is read beside the row reads the same behind an append. -/
theorem Wrote.vin {x : Val} {u : Value} (hw : Wrote w w' v v') (hv : VIn w (fun g => QA g ∧ v.ownBlock ≠ some g) h x u) : VIn w' (fun g => QA g ∧ v'.ownBlock ≠ some g) h x u := by
  refine hv.lt.kept (fun g hg hl => hw.1.block g hl (fun e => hg.1.2 e.symm)) (fun g hg => ⟨hg.1.1, ?_⟩)
  rcases hw.2 with h2 | ⟨b, h2, h3⟩
  · rw [h2]; exact hg.1.2
  · rw [h2]; intro e; have := Option.some.inj e; have := hg.2; omega
theorem Acc.push {y : Val} {c0 c1 c2 c3 c4 c5 : Value} (ha : Acc w base v QA h ys xs) (hw : Wrote w w' v v') (hown : w'.ownsRow base 27 6 v' (ys.length + 1) (xs ++ [c0, c1, c2, c3, c4, c5]))
    (hv : VIn w (fun g => QA g ∧ v.ownBlock ≠ some g) h y (.agg #[c0, c1, c2, c3, c4, c5])) : Acc w' base v' QA h (ys ++ [y]) (xs ++ [c0, c1, c2, c3, c4, c5]) := by
  have hxl : xs.length = ys.length * 6 := ha.own.1
  refine ⟨by rw [List.length_append]; exact hown, fun i hi => ?_⟩
  rw [List.length_append, List.length_singleton] at hi
  rcases Nat.lt_or_ge i ys.length with hlt | hge
  · obtain ⟨d0, d1, d2, d3, d4, d5, h0, h1, h2, h3, h4, h5, hd⟩ := ha.at' i hlt
    have e : ∀ j, j < 6 → (xs ++ [c0, c1, c2, c3, c4, c5])[i * 6 + j]? = xs[i * 6 + j]? := fun j hj => List.getElem?_append_left (by omega)
    refine ⟨d0, d1, d2, d3, d4, d5, (e 0 (by omega)).trans h0, (e 1 (by omega)).trans h1, (e 2 (by omega)).trans h2, (e 3 (by omega)).trans h3, (e 4 (by omega)).trans h4, (e 5 (by omega)).trans h5, ?_⟩
    rw [List.getElem_append_left hlt]
    exact hw.vin hd
  · obtain rfl : i = ys.length := by omega
    have e : ∀ j, (xs ++ [c0, c1, c2, c3, c4, c5])[ys.length * 6 + j]? = [c0, c1, c2, c3, c4, c5][j]? := fun j => by
      rw [List.getElem?_append_right (by omega)]; congr 1; omega
    refine ⟨c0, c1, c2, c3, c4, c5, e 0, e 1, e 2, e 3, e 4, e 5, ?_⟩
    rw [List.getElem_append_right (Nat.le_refl _)]
    simp only [Nat.sub_self, List.getElem_cons_zero]
    exact hw.vin hv
/-- The row as a slice of values. -/
theorem Acc.items {Q' : Nat → Prop} (ha : Acc w base v QA h ys xs) (hQ : ∀ g, QA g → Q' g) (hb : ∀ g, base ≤ g → g < w.heap.size → Q' g) :
    ∃ a c, v = .slice a ys.length c ∧ (ys.length ≤ c ∧ c ≤ 9223372036854775807) ∧ ItemsIn w Q' (VIn w Q' h) a ys := by
  obtain ⟨hxl, ⟨rfl, hn⟩ | ⟨g, cap, cur, rfl, hbg, hrow, hc, hm, hsz, htake⟩⟩ := ha.own
  · have hn' := List.eq_nil_of_length_eq_zero hn
    refine ⟨none, 0, by rw [hn], by rw [hn]; exact ⟨Nat.le_refl _, by omega⟩, .inl hn'⟩
  · refine ⟨some ⟨g, 0, none⟩, cap, rfl, ⟨hc, by unfold maxLen at hm; omega⟩, .inr ⟨g, 0, rfl, hb g hbg (Array.getElem?_eq_some_iff.1 hrow).1, fun i hi => ?_⟩⟩
    obtain ⟨c0, c1, c2, c3, c4, c5, h0, h1, h2, h3, h4, h5, hv⟩ := ha.at' i hi
    have e : ∀ j c, xs[j]? = some c → w.cell? ⟨g, 0 + j, none⟩ = some c := fun j c hj => by
      have hl : j < xs.length := (List.getElem?_eq_some_iff.1 hj).1
      rw [Nat.zero_add, cell_of_row w g j _ _ _ hrow, ← Array.getElem?_toList, ← hj, ← htake, List.getElem?_take_of_lt (by omega)]
    exact ⟨_, ⟨c0, c1, c2, c3, c4, c5, rfl, e _ _ h0, e _ _ h1, e _ _ h2, e _ _ h3, e _ _ h4, e _ _ h5⟩, hv.kept (Kept.of_below (Below.refl _ _)) (fun g hg => hQ g hg.1)⟩
end
/-- A row of texts in memory. -/
def StrsIn (w : World) (a : Option Addr) (p : List ByteArray) : Prop := p = [] ∨ ∃ g o, a = some ⟨g, o, none⟩ ∧ ∀ i (hi : i < p.length), w.cell? ⟨g, o + i, none⟩ = some (.string p[i])
theorem StrsIn.keep {w w' : World} {a : Option Addr} {p : List ByteArray} (h : StrsIn w a p) (hb : Below w.heap.size w w') : StrsIn w' a p := by
  rcases h with h | ⟨g, o, e, h⟩
  · exact .inl h
  · exact .inr ⟨g, o, e, fun i hi => cell_keep hb (h i hi)⟩
end Go.Proofs.YtpiookgkkaafeaaDoor
end
section
namespace Go.Proofs.YtpiookgkkaafeaaDoor
open Go.RowKit
open Seal
open Bson (Val)
/-- The row v of one's own holds the fields ys, whose values' parts lie in blocks that QA names, not in the row's. -/
structure FAcc (w : World) (base : Nat) (v : Value) (QA : Nat → Prop) (h : Nat) (ys : List (ByteArray × Val)) (xs : List Value) : Prop where
  own : w.ownsRow base 43 7 v ys.length xs
  at' : ∀ i (hi : i < ys.length), xs[i * 7]? = some (.string ys[i].1) ∧ ys[i].1.size ≤ 140737488355328 ∧ ∃ c0 c1 c2 c3 c4 c5, xs[i * 7 + 1]? = some c0 ∧ xs[i * 7 + 2]? = some c1 ∧ xs[i * 7 + 3]? = some c2 ∧ xs[i * 7 + 4]? = some c3 ∧ xs[i * 7 + 5]? = some c4 ∧ xs[i * 7 + 6]? = some c5 ∧ VIn w (fun g => QA g ∧ v.ownBlock ≠ some g) h ys[i].2 (.agg #[c0, c1, c2, c3, c4, c5])
section
variable {w w' : World} {base : Nat} {v v' : Value} {QA : Nat → Prop} {h : Nat} {ys : List (ByteArray × Val)} {xs : List Value}
theorem FAcc.nil (w : World) (base : Nat) (QA : Nat → Prop) (h : Nat) : FAcc w base (.slice none 0 0) QA h [] [] :=
  ⟨World.ownsRow_nil _ _ _ _, fun i hi => by simp at hi⟩
theorem FAcc.keep (ha : FAcc w base v QA h ys xs) (hb : Below w.heap.size w w') : FAcc w' base v QA h ys xs :=
  ⟨owns_below ha.own hb, fun i hi => by
    obtain ⟨hn, hs, c0, c1, c2, c3, c4, c5, h0, h1, h2, h3, h4, h5, hv⟩ := ha.at' i hi
    exact ⟨hn, hs, c0, c1, c2, c3, c4, c5, h0, h1, h2, h3, h4, h5, hv.keep hb⟩⟩
theorem FAcc.push {nm : ByteArray} {y : Val} {c0 c1 c2 c3 c4 c5 : Value} (ha : FAcc w base v QA h ys xs) (hw : Wrote w w' v v') (hown : w'.ownsRow base 43 7 v' (ys.length + 1) (xs ++ [.string nm, c0, c1, c2, c3, c4, c5]))
    (hs : nm.size ≤ 140737488355328) (hv : VIn w (fun g => QA g ∧ v.ownBlock ≠ some g) h y (.agg #[c0, c1, c2, c3, c4, c5])) : FAcc w' base v' QA h (ys ++ [(nm, y)]) (xs ++ [.string nm, c0, c1, c2, c3, c4, c5]) := by
  have hxl : xs.length = ys.length * 7 := ha.own.1
  refine ⟨by rw [List.length_append]; exact hown, fun i hi => ?_⟩
  rw [List.length_append, List.length_singleton] at hi
  rcases Nat.lt_or_ge i ys.length with hlt | hge
  · obtain ⟨hn, hs', d0, d1, d2, d3, d4, d5, h0, h1, h2, h3, h4, h5, hd⟩ := ha.at' i hlt
    have e : ∀ j, j < 7 → (xs ++ [.string nm, c0, c1, c2, c3, c4, c5])[i * 7 + j]? = xs[i * 7 + j]? := fun j hj => List.getElem?_append_left (by omega)
    rw [List.getElem_append_left hlt]
    exact ⟨(e 0 (by omega)).trans hn, hs', d0, d1, d2, d3, d4, d5, (e 1 (by omega)).trans h0, (e 2 (by omega)).trans h1, (e 3 (by omega)).trans h2, (e 4 (by omega)).trans h3, (e 5 (by omega)).trans h4, (e 6 (by omega)).trans h5, hw.vin hd⟩
  · obtain rfl : i = ys.length := by omega
    have e : ∀ j, (xs ++ [.string nm, c0, c1, c2, c3, c4, c5])[ys.length * 7 + j]? = [.string nm, c0, c1, c2, c3, c4, c5][j]? := fun j => by
      rw [List.getElem?_append_right (by omega)]; congr 1; omega
    rw [List.getElem_append_right (Nat.le_refl _)]
    simp only [Nat.sub_self, List.getElem_cons_zero]
    exact ⟨e 0, hs, c0, c1, c2, c3, c4, c5, e 1, e 2, e 3, e 4, e 5, e 6, hw.vin hv⟩
/-- The row as a slice of fields. -/
theorem FAcc.fields {Q' : Nat → Prop} (ha : FAcc w base v QA h ys xs) (hQ : ∀ g, QA g → Q' g) (hb : ∀ g, base ≤ g → g < w.heap.size → Q' g) :
    ∃ a c, v = .slice a ys.length c ∧ (ys.length ≤ c ∧ c ≤ 9223372036854775807) ∧ FieldsIn w Q' (VIn w Q' h) a ys := by
  obtain ⟨hxl, ⟨rfl, hn⟩ | ⟨g, cap, cur, rfl, hbg, hrow, hc, hm, hsz, htake⟩⟩ := ha.own
  · have hn' := List.eq_nil_of_length_eq_zero hn
    refine ⟨none, 0, by rw [hn], by rw [hn]; exact ⟨Nat.le_refl _, by omega⟩, .inl hn'⟩
  · refine ⟨some ⟨g, 0, none⟩, cap, rfl, ⟨hc, by unfold maxLen at hm; omega⟩, .inr ⟨g, 0, rfl, hb g hbg (Array.getElem?_eq_some_iff.1 hrow).1, fun i hi => ?_⟩⟩
    obtain ⟨hn, hs, c0, c1, c2, c3, c4, c5, h0, h1, h2, h3, h4, h5, hv⟩ := ha.at' i hi
    have e : ∀ j c, xs[j]? = some c → w.cell? ⟨g, 0 + j, none⟩ = some c := fun j c hj => by
      have hl : j < xs.length := (List.getElem?_eq_some_iff.1 hj).1
      rw [Nat.zero_add, cell_of_row w g j _ _ _ hrow, ← Array.getElem?_toList, ← hj, ← htake, List.getElem?_take_of_lt (by omega)]
    exact ⟨e _ _ hn, hs, _, ⟨c0, c1, c2, c3, c4, c5, rfl, e _ _ h0, e _ _ h1, e _ _ h2, e _ _ h3, e _ _ h4, e _ _ h5⟩, hv.kept (Kept.of_below (Below.refl _ _)) (fun g hg => hQ g hg.1)⟩
end
end Go.Proofs.YtpiookgkkaafeaaDoor
end
