/- VALUES GATHERED IN A ROW OF ONE's OWN (no walk). -/
import Derived.Test.YtfhbjinajloecaaDoorPathField
import Derived.Test.YtfhbjinajloecaaDoorAppendSz
namespace Go.Proofs.YtfhbjinajloecaaDoor
open Go.RowKit
open Seal
open Bson (Val)
/-- The row v of one's own holds the values ys, whose parts lie in blocks that QA names, not in the row's. -/
structure Acc (w : World) (base : Nat) (v : Value) (QA : Nat → Prop) (h : Nat) (ys : List Val) (xs : List Value) : Prop where
  own : w.ownsRow base 32 6 v ys.length xs
  at' : ∀ i (hi : i < ys.length), ∃ c0 c1 c2 c3 c4 c5, xs[i * 6]? = some c0 ∧ xs[i * 6 + 1]? = some c1 ∧ xs[i * 6 + 2]? = some c2 ∧ xs[i * 6 + 3]? = some c3 ∧ xs[i * 6 + 4]? = some c4 ∧ xs[i * 6 + 5]? = some c5 ∧ VIn w (fun g => QA g ∧ v.ownBlock ≠ some g) h ys[i] (.agg #[c0, c1, c2, c3, c4, c5])
/-- An operation wrote what the row v owns, and new blocks; v' lies in v's block or in a new one. -/
def Wrote (w w' : World) (v v' : Value) : Prop := w.grownBy w' v.ownBlock ∧ (v'.ownBlock = v.ownBlock ∨ ∃ g, v'.ownBlock = some g ∧ w.heap.size ≤ g)
theorem Wrote.of_lies {w w' : World} {v v' : Value} (h : Lies w w' v v') : Wrote w w' v v' := by
  rcases h with ⟨h1, h2⟩ | ⟨h1, h2⟩
  · exact ⟨h2, .inl h1⟩
  · exact ⟨⟨h2.os, h2.tape, h2.output, h2.size, fun g hg _ => h2.block g hg nofun⟩, .inr ⟨_, h1, Nat.le_refl _⟩⟩
theorem Wrote.refl (w : World) (v : Value) : Wrote w w v v := ⟨World.grownBy.refl w _, .inl rfl⟩
theorem Wrote.below {w w' w2 : World} {v v' : Value} (h : Wrote w w' v v') (hb : Below w'.heap.size w' w2) : Wrote w w2 v v' :=
  ⟨⟨hb.os.trans h.1.os, hb.tape.trans h.1.tape, hb.output.trans h.1.output, Nat.le_trans h.1.size hb.size, fun g hg hne => (hb.block g (Nat.lt_of_lt_of_le hg h.1.size)).trans (h.1.block g hg hne)⟩, h.2⟩
theorem Wrote.of_below {w w' w2 : World} {v v' : Value} (hb : Below w.heap.size w w') (h : Wrote w' w2 v v') : Wrote w w2 v v' :=
  ⟨⟨h.1.os.trans hb.os, h.1.tape.trans hb.tape, h.1.output.trans hb.output, Nat.le_trans hb.size h.1.size, fun g hg hne => (h.1.block g (Nat.lt_of_lt_of_le hg hb.size) hne).trans (hb.block g hg)⟩,
    by rcases h.2 with h2 | ⟨g, h2, h3⟩
       · exact .inl h2
       · exact .inr ⟨g, h2, Nat.le_trans hb.size h3⟩⟩
theorem Wrote.trans {w w1 w2 : World} {v v1 v2 : Value} (h : Wrote w w1 v v1) (h' : Wrote w1 w2 v1 v2) : Wrote w w2 v v2 := by
  refine ⟨⟨h'.1.os.trans h.1.os, h'.1.tape.trans h.1.tape, h'.1.output.trans h.1.output, Nat.le_trans h.1.size h'.1.size, fun g hg hne => ?_⟩, ?_⟩
  · refine (h'.1.block g (Nat.lt_of_lt_of_le hg h.1.size) ?_).trans (h.1.block g hg hne)
    rcases h.2 with h2 | ⟨g2, h2, h3⟩
    · rw [h2]; exact hne
    · rw [h2]; intro e; have := Option.some.inj e; omega
  · rcases h'.2 with h2 | ⟨g2, h2, h3⟩
    · rw [h2]; exact h.2
    · exact .inr ⟨g2, h2, Nat.le_trans h.1.size h3⟩
theorem owns_below {w w' : World} {base : Nat} {e : TypeId} {size : Nat} {v : Value} {n : Nat} {xs : List Value} (h : w.ownsRow base e size v n xs) (hb : Below w.heap.size w w') : w'.ownsRow base e size v n xs := by
  obtain ⟨h1, h2 | ⟨g, cap, cur, e, hg, hrow, h3⟩⟩ := h
  · exact ⟨h1, .inl h2⟩
  · exact ⟨h1, .inr ⟨g, cap, cur, e, hg, (hb.block g (Array.getElem?_eq_some_iff.1 hrow).1).trans hrow, h3⟩⟩
theorem owns_block {w : World} {base : Nat} {e : TypeId} {size : Nat} {v : Value} {n : Nat} {xs : List Value} (h : w.ownsRow base e size v n xs) {g : Nat} (hg : v.ownBlock = some g) : base ≤ g ∧ g < w.heap.size := by
  obtain ⟨_, ⟨rfl, _⟩ | ⟨b, cap, cur, rfl, hb, hrow, _⟩⟩ := h
  · cases hg
  · obtain rfl : b = g := Option.some.inj hg
    exact ⟨hb, (Array.getElem?_eq_some_iff.1 hrow).1⟩
section
variable {w w' : World} {base : Nat} {v v' : Value} {QA : Nat → Prop} {h : Nat} {ys : List Val} {xs : List Value}
theorem Acc.nil (w : World) (base : Nat) (QA : Nat → Prop) (h : Nat) : Acc w base (.slice none 0 0) QA h [] [] :=
  ⟨World.ownsRow_nil _ _ _ _, fun i hi => by simp at hi⟩
theorem Acc.keep (ha : Acc w base v QA h ys xs) (hb : Below w.heap.size w w') : Acc w' base v QA h ys xs :=
  ⟨owns_below ha.own hb, fun i hi => by
    obtain ⟨c0, c1, c2, c3, c4, c5, h0, h1, h2, h3, h4, h5, hv⟩ := ha.at' i hi
    exact ⟨c0, c1, c2, c3, c4, c5, h0, h1, h2, h3, h4, h5, hv.keep hb⟩⟩
/-- What is read beside the row reads the same behind an append. -/
theorem Wrote.vin {x : Val} {u : Value} (hw : Wrote w w' v v') (hv : VIn w (fun g => QA g ∧ v.ownBlock ≠ some g) h x u) : VIn w' (fun g => QA g ∧ v'.ownBlock ≠ some g) h x u := by
  refine hv.lt.kept (fun g hg hl => hw.1.block g hl (fun e => hg.1.2 e.symm)) (fun g hg => ⟨hg.1.1, ?_⟩)
  rcases hw.2 with h2 | ⟨b, h2, h3⟩
  · rw [h2]; exact hg.1.2
  · rw [h2]; intro e; have := Option.some.inj e; have := hg.2; omega
theorem Acc.push {y : Val} {c0 c1 c2 c3 c4 c5 : Value} (ha : Acc w base v QA h ys xs) (hw : Wrote w w' v v') (hown : w'.ownsRow base 32 6 v' (ys.length + 1) (xs ++ [c0, c1, c2, c3, c4, c5]))
    (hv : VIn w (fun g => QA g ∧ v.ownBlock ≠ some g) h y (.agg #[c0, c1, c2, c3, c4, c5])) : Acc w' base v' QA h (ys ++ [y]) (xs ++ [c0, c1, c2, c3, c4, c5]) := by
  have hxl : xs.length = ys.length * 6 := ha.own.1
  refine ⟨by rw [List.length_append]; exact hown, fun i hi => ?_⟩
  rw [List.length_append, List.length_singleton] at hi
  rcases Nat.lt_or_ge i ys.length with hlt | hge
  · obtain ⟨d0, d1, d2, d3, d4, d5, h0, h1, h2, h3, h4, h5, hd⟩ := ha.at' i hlt
    have e : ∀ j, j < 6 → (xs ++ [c0, c1, c2, c3, c4, c5])[i * 6 + j]? = xs[i * 6 + j]? := fun j hj => List.getElem?_append_left (by omega)
    refine ⟨d0, d1, d2, d3, d4, d5, (e 0 (by omega)).trans h0, (e 1 (by omega)).trans h1, (e 2 (by omega)).trans h2, (e 3 (by omega)).trans h3, (e 4 (by omega)).trans h4, (e 5 (by omega)).trans h5, ?_⟩
    rw [List.getElem_append_left hlt]
    exact hw.vin hd
  · obtain rfl : i = ys.length := by omega
    have e : ∀ j, (xs ++ [c0, c1, c2, c3, c4, c5])[ys.length * 6 + j]? = [c0, c1, c2, c3, c4, c5][j]? := fun j => by
      rw [List.getElem?_append_right (by omega)]; congr 1; omega
    refine ⟨c0, c1, c2, c3, c4, c5, e 0, e 1, e 2, e 3, e 4, e 5, ?_⟩
    rw [List.getElem_append_right (Nat.le_refl _)]
    simp only [Nat.sub_self, List.getElem_cons_zero]
    exact hw.vin hv
/-- The row as a slice of values. -/
theorem Acc.items {Q' : Nat → Prop} (ha : Acc w base v QA h ys xs) (hQ : ∀ g, QA g → Q' g) (hb : ∀ g, base ≤ g → g < w.heap.size → Q' g) :
    ∃ a c, v = .slice a ys.length c ∧ (ys.length ≤ c ∧ c ≤ 9223372036854775807) ∧ ItemsIn w Q' (VIn w Q' h) a ys := by
  obtain ⟨hxl, ⟨rfl, hn⟩ | ⟨g, cap, cur, rfl, hbg, hrow, hc, hm, hsz, htake⟩⟩ := ha.own
  · have hn' := List.eq_nil_of_length_eq_zero hn
    refine ⟨none, 0, by rw [hn], by rw [hn]; exact ⟨Nat.le_refl _, by omega⟩, .inl hn'⟩
  · refine ⟨some ⟨g, 0, none⟩, cap, rfl, ⟨hc, by unfold maxLen at hm; omega⟩, .inr ⟨g, 0, rfl, hb g hbg (Array.getElem?_eq_some_iff.1 hrow).1, fun i hi => ?_⟩⟩
    obtain ⟨c0, c1, c2, c3, c4, c5, h0, h1, h2, h3, h4, h5, hv⟩ := ha.at' i hi
    have e : ∀ j c, xs[j]? = some c → w.cell? ⟨g, 0 + j, none⟩ = some c := fun j c hj => by
      have hl : j < xs.length := (List.getElem?_eq_some_iff.1 hj).1
      rw [Nat.zero_add, cell_of_row w g j _ _ _ hrow, ← Array.getElem?_toList, ← hj, ← htake, List.getElem?_take_of_lt (by omega)]
    exact ⟨_, ⟨c0, c1, c2, c3, c4, c5, rfl, e _ _ h0, e _ _ h1, e _ _ h2, e _ _ h3, e _ _ h4, e _ _ h5⟩, hv.kept (Kept.of_below (Below.refl _ _)) (fun g hg => hQ g hg.1)⟩
end
/-- A row of texts in memory. -/
def StrsIn (w : World) (a : Option Addr) (p : List ByteArray) : Prop := p = [] ∨ ∃ g o, a = some ⟨g, o, none⟩ ∧ ∀ i (hi : i < p.length), w.cell? ⟨g, o + i, none⟩ = some (.string p[i])
theorem StrsIn.keep {w w' : World} {a : Option Addr} {p : List ByteArray} (h : StrsIn w a p) (hb : Below w.heap.size w w') : StrsIn w' a p := by
  rcases h with h | ⟨g, o, e, h⟩
  · exact .inl h
  · exact .inr ⟨g, o, e, fun i hi => cell_keep hb (h i hi)⟩
end Go.Proofs.YtfhbjinajloecaaDoor
