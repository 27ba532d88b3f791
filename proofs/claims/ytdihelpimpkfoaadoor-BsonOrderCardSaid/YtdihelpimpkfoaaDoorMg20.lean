/- PathAcc, PathFAcc, BsonWith. -/
import Derived.Test.YtdihelpimpkfoaaDoorMg19
import Derived.Test.YtdihelpimpkfoaaDoorMg5
import Derived.Test.YtdihelpimpkfoaaDoorMg3
import Derived.Test.YtdihelpimpkfoaaDoorMg9
import Derived.Test.YtdihelpimpkfoaaDoorMg2
set_option maxRecDepth 100000
section
namespace Go.Proofs.YtdihelpimpkfoaaDoor
open Go.RowKit
open Seal
open Bson (Val)
/-- The row v of one's own holds the values ys, whose parts lie in blocks that QA names, not in the row's. -/
structure Acc (w : World) (base : Nat) (v : Value) (QA : Nat → Prop) (h : Nat) (ys : List Val) (xs : List Value) : Prop where
  own : w.ownsRow base 28 6 v ys.length xs
  at' : ∀ i (hi : i < ys.length), ∃ c0 c1 c2 c3 c4 c5, xs[i * 6]? = some c0 ∧ xs[i * 6 + 1]? = some c1 ∧ xs[i * 6 + 2]? = some c2 ∧ xs[i * 6 + 3]? = some c3 ∧ xs[i * 6 + 4]? = some c4 ∧ xs[i * 6 + 5]? = some c5 ∧ VIn w (fun g => QA g ∧ v.ownBlock ≠ some g) h ys[i] (.agg #[c0, c1, c2, c3, c4, c5])
section
variable {w w' : World} {base : Nat} {v v' : Value} {QA : Nat → Prop} {h : Nat} {ys : List Val} {xs : List Value}
theorem Acc.nil (w : World) (base : Nat) (QA : Nat → Prop) (h : Nat) : Acc w base (.slice none 0 0) QA h [] [] :=
  ⟨World.ownsRow_nil _ _ _ _, fun i hi => by simp at hi⟩
theorem Acc.keep (ha : Acc w base v QA h ys xs) (hb : Below w.heap.size w w') : Acc w' base v QA h ys xs :=
  ⟨owns_below ha.own hb, fun i hi => by
    obtain ⟨c0, c1, c2, c3, c4, c5, h0, h1, h2, h3, h4, h5, hv⟩ := ha.at' i hi
    exact ⟨c0, c1, c2, c3, c4, c5, h0, h1, h2, h3, h4, h5, hv.keep hb⟩⟩
/-- What is read beside the row reads the same behind an append. -/
theorem Wrote.vin {x : Val} {u : Value} (hw : Wrote w w' v v') (hv : VIn w (fun g => QA g ∧ v.ownBlock ≠ some g) h x u) : VIn w' (fun g => QA g ∧ v'.ownBlock ≠ some g) h x u := by
  refine hv.lt.kept (fun g hg hl => hw.1.block g hl (fun e => hg.1.2 e.symm)) (fun g hg => ⟨hg.1.1, ?_⟩)
  rcases hw.2 with h2 | ⟨b, h2, h3⟩
  · rw [h2]; exact hg.1.2
  · rw [h2]; intro e; have := Option.some.inj e; have := hg.2; omega
theorem Acc.push {y : Val} {c0 c1 c2 c3 c4 c5 : Value} (ha : Acc w base v QA h ys xs) (hw : Wrote w w' v v') (hown : w'.ownsRow base 28 6 v' (ys.length + 1) (xs ++ [c0, c1, c2, c3, c4, c5]))
    (hv : VIn w (fun g => QA g ∧ v.ownBlock ≠ some g) h y (.agg #[c0, c1, c2, c3, c4, c5])) : Acc w' base v' QA h (ys ++ [y]) (xs ++ [c0, c1, c2, c3, c4, c5]) := by
  have hxl : xs.length = ys.length * 6 := ha.own.1
  refine ⟨by rw [List.length_append]; exact hown, fun i hi => ?_⟩
  rw [List.length_append, List.length_singleton] at hi
  rcases Nat.lt_or_ge i ys.length with hlt | hge
  · obtain ⟨d0, d1, d2, d3, d4, d5, h0, h1, h2, h3, h4, h5, hd⟩ := ha.at' i hlt
    have e : ∀ j, j < 6 → (xs ++ [c0, c1, c2, c3, c4, c5])[i * 6 + j]? = xs[i * 6 + j]? := fun j hj => List.getElem?_append_left (by omega)
    refine ⟨d0, d1, d2, d3, d4, d5, (e 0 (by omega)).trans h0, (e 1 (by omega)).trans h1, (e 2 (by omega)).trans h2, (e 3 (by omega)).trans h3, (e 4 (by omega)).trans h4, (e 5 (by omega)).trans h5, ?_⟩
    rw [List.getElem_append_left hlt]
    exact hw.vin hd
  · obtain rfl : i = ys.length := by omega
    have e : ∀ j, (xs ++ [c0, c1, c2, c3, c4, c5])[ys.length * 6 + j]? = [c0, c1, c2, c3, c4, c5][j]? := fun j => by
      rw [List.getElem?_append_right (by omega)]; congr 1; omega
    refine ⟨c0, c1, c2, c3, c4, c5, e 0, e 1, e 2, e 3, e 4, e 5, ?_⟩
    rw [List.getElem_append_right (Nat.le_refl _)]
    simp only [Nat.sub_self, List.getElem_cons_zero]
    exact hw.vin hv
/-- The row as a slice of values. -/
theorem Acc.items {Q' : Nat → Prop} (ha : Acc w base v QA h ys xs) (hQ : ∀ g, QA g → Q' g) (hb : ∀ g, base ≤ g → g < w.heap.size → Q' g) :
    ∃ a c, v = .slice a ys.length c ∧ (ys.length ≤ c ∧ c ≤ 9223372036854775807) ∧ ItemsIn w Q' (VIn w Q' h) a ys := by
  obtain ⟨hxl, ⟨rfl, hn⟩ | ⟨g, cap, cur, rfl, hbg, hrow, hc, hm, hsz, htake⟩⟩ := ha.own
  · have hn' := List.eq_nil_of_length_eq_zero hn
    refine ⟨none, 0, by rw [hn], by rw [hn]; exact ⟨Nat.le_refl _, by omega⟩, .inl hn'⟩
  · refine ⟨some ⟨g, 0, none⟩, cap, rfl, ⟨hc, by unfold maxLen at hm; omega⟩, .inr ⟨g, 0, rfl, hb g hbg (Array.getElem?_eq_some_iff.1 hrow).1, fun i hi => ?_⟩⟩
    obtain ⟨c0, c1, c2, c3, c4, c5, h0, h1, h2, h3, h4, h5, hv⟩ := ha.at' i hi
    have e : ∀ j c, xs[j]? = some c → w.cell? ⟨g, 0 + j, none⟩ = some c := fun j c hj => by
      have hl : j < xs.length := (List.getElem?_eq_some_iff.1 hj).1
      rw [Nat.zero_add, cell_of_row w g j _ _ _ hrow, ← Array.getElem?_toList, ← hj, ← htake, List.getElem?_take_of_lt (by omega)]
    exact ⟨_, ⟨c0, c1, c2, c3, c4, c5, rfl, e _ _ h0, e _ _ h1, e _ _ h2, e _ _ h3, e _ _ h4, e _ _ h5⟩, hv.kept (Kept.of_below (Below.refl _ _)) (fun g hg => hQ g hg.1)⟩
end
/-- A row of texts in memory. -/
def StrsIn (w : World) (a : Option Addr) (p : List ByteArray) : Prop := p = [] ∨ ∃ g o, a = some ⟨g, o, none⟩ ∧ ∀ i (hi : i < p.length), w.cell? ⟨g, o + i, none⟩ = some (.string p[i])
theorem StrsIn.keep {w w' : World} {a : Option Addr} {p : List ByteArray} (h : StrsIn w a p) (hb : Below w.heap.size w w') : StrsIn w' a p := by
  rcases h with h | ⟨g, o, e, h⟩
  · exact .inl h
  · exact .inr ⟨g, o, e, fun i hi => cell_keep hb (h i hi)⟩
end Go.Proofs.YtdihelpimpkfoaaDoor
end
section
namespace Go.Proofs.YtdihelpimpkfoaaDoor
open Go.RowKit
open Seal
open Bson (Val)
/-- The row v of one's own holds the fields ys, whose values' parts lie in blocks that QA names, not in the row's. -/
structure FAcc (w : World) (base : Nat) (v : Value) (QA : Nat → Prop) (h : Nat) (ys : List (ByteArray × Val)) (xs : List Value) : Prop where
  own : w.ownsRow base 35 7 v ys.length xs
  at' : ∀ i (hi : i < ys.length), xs[i * 7]? = some (.string ys[i].1) ∧ ys[i].1.size ≤ 140737488355328 ∧ ∃ c0 c1 c2 c3 c4 c5, xs[i * 7 + 1]? = some c0 ∧ xs[i * 7 + 2]? = some c1 ∧ xs[i * 7 + 3]? = some c2 ∧ xs[i * 7 + 4]? = some c3 ∧ xs[i * 7 + 5]? = some c4 ∧ xs[i * 7 + 6]? = some c5 ∧ VIn w (fun g => QA g ∧ v.ownBlock ≠ some g) h ys[i].2 (.agg #[c0, c1, c2, c3, c4, c5])
section
variable {w w' : World} {base : Nat} {v v' : Value} {QA : Nat → Prop} {h : Nat} {ys : List (ByteArray × Val)} {xs : List Value}
theorem FAcc.nil (w : World) (base : Nat) (QA : Nat → Prop) (h : Nat) : FAcc w base (.slice none 0 0) QA h [] [] :=
  ⟨World.ownsRow_nil _ _ _ _, fun i hi => by simp at hi⟩
theorem FAcc.keep (ha : FAcc w base v QA h ys xs) (hb : Below w.heap.size w w') : FAcc w' base v QA h ys xs :=
  ⟨owns_below ha.own hb, fun i hi => by
    obtain ⟨hn, hs, c0, c1, c2, c3, c4, c5, h0, h1, h2, h3, h4, h5, hv⟩ := ha.at' i hi
    exact ⟨hn, hs, c0, c1, c2, c3, c4, c5, h0, h1, h2, h3, h4, h5, hv.keep hb⟩⟩
theorem FAcc.push {nm : ByteArray} {y : Val} {c0 c1 c2 c3 c4 c5 : Value} (ha : FAcc w base v QA h ys xs) (hw : Wrote w w' v v') (hown : w'.ownsRow base 35 7 v' (ys.length + 1) (xs ++ [.string nm, c0, c1, c2, c3, c4, c5]))
    (hs : nm.size ≤ 140737488355328) (hv : VIn w (fun g => QA g ∧ v.ownBlock ≠ some g) h y (.agg #[c0, c1, c2, c3, c4, c5])) : FAcc w' base v' QA h (ys ++ [(nm, y)]) (xs ++ [.string nm, c0, c1, c2, c3, c4, c5]) := by
  have hxl : xs.length = ys.length * 7 := ha.own.1
  refine ⟨by rw [List.length_append]; exact hown, fun i hi => ?_⟩
  rw [List.length_append, List.length_singleton] at hi
  rcases Nat.lt_or_ge i ys.length with hlt | hge
  · obtain ⟨hn, hs', d0, d1, d2, d3, d4, d5, h0, h1, h2, h3, h4, h5, hd⟩ := ha.at' i hlt
    have e : ∀ j, j < 7 → (xs ++ [.string nm, c0, c1, c2, c3, c4, c5])[i * 7 + j]? = xs[i * 7 + j]? := fun j hj => List.getElem?_append_left (by omega)
    rw [List.getElem_append_left hlt]
    exact ⟨(e 0 (by omega)).trans hn, hs', d0, d1, d2, d3, d4, d5, (e 1 (by omega)).trans h0, (e 2 (by omega)).trans h1, (e 3 (by omega)).trans h2, (e 4 (by omega)).trans h3, (e 5 (by omega)).trans h4, (e 6 (by omega)).trans h5, hw.vin hd⟩
  · obtain rfl : i = ys.length := by omega
    have e : ∀ j, (xs ++ [.string nm, c0, c1, c2, c3, c4, c5])[ys.length * 7 + j]? = [.string nm, c0, c1, c2, c3, c4, c5][j]? := fun j => by
      rw [List.getElem?_append_right (by omega)]; congr 1; omega
    rw [List.getElem_append_right (Nat.le_refl _)]
    simp only [Nat.sub_self, List.getElem_cons_zero]
    exact ⟨e 0, hs, c0, c1, c2, c3, c4, c5, e 1, e 2, e 3, e 4, e 5, e 6, hw.vin hv⟩
/-- The row as a slice of fields. -/
theorem FAcc.fields {Q' : Nat → Prop} (ha : FAcc w base v QA h ys xs) (hQ : ∀ g, QA g → Q' g) (hb : ∀ g, base ≤ g → g < w.heap.size → Q' g) :
    ∃ a c, v = .slice a ys.length c ∧ (ys.length ≤ c ∧ c ≤ 9223372036854775807) ∧ FieldsIn w Q' (VIn w Q' h) a ys := by
  obtain ⟨hxl, ⟨rfl, hn⟩ | ⟨g, cap, cur, rfl, hbg, hrow, hc, hm, hsz, htake⟩⟩ := ha.own
  · have hn' := List.eq_nil_of_length_eq_zero hn
    refine ⟨none, 0, by rw [hn], by rw [hn]; exact ⟨Nat.le_refl _, by omega⟩, .inl hn'⟩
  · refine ⟨some ⟨g, 0, none⟩, cap, rfl, ⟨hc, by unfold maxLen at hm; omega⟩, .inr ⟨g, 0, rfl, hb g hbg (Array.getElem?_eq_some_iff.1 hrow).1, fun i hi => ?_⟩⟩
    obtain ⟨hn, hs, c0, c1, c2, c3, c4, c5, h0, h1, h2, h3, h4, h5, hv⟩ := ha.at' i hi
    have e : ∀ j c, xs[j]? = some c → w.cell? ⟨g, 0 + j, none⟩ = some c := fun j c hj => by
      have hl : j < xs.length := (List.getElem?_eq_some_iff.1 hj).1
      rw [Nat.zero_add, cell_of_row w g j _ _ _ hrow, ← Array.getElem?_toList, ← hj, ← htake, List.getElem?_take_of_lt (by omega)]
    exact ⟨e _ _ hn, hs, _, ⟨c0, c1, c2, c3, c4, c5, rfl, e _ _ h0, e _ _ h1, e _ _ h2, e _ _ h3, e _ _ h4, e _ _ h5⟩, hv.kept (Kept.of_below (Below.refl _ _)) (fun g hg => hQ g hg.1)⟩
end
end Go.Proofs.YtdihelpimpkfoaaDoor
end
section
namespace Go.Proofs.YtdihelpimpkfoaaDoor
open Go.RowKit
open Seal
open Bson (Val)
theorem withF_hit_set {nm : ByteArray} {y : Val} : ∀ {f : List (ByteArray × Val)} (_ : place f nm < f.length), withF nm y f = f.set (place f nm) (nm, y)
  | [], h => by simp at h
  | p :: r, h => by
    rw [withF]
    unfold place at h ⊢
    rw [List.findIdx_cons] at h ⊢
    by_cases e : p.1 = nm
    · simp [e]
    · simp only [e, decide_false, cond_false] at h ⊢
      rw [if_neg (by simp), withF_hit_set (by unfold place; simpa using h)]
      rfl
theorem withF_miss_app {nm : ByteArray} {y : Val} : ∀ {f : List (ByteArray × Val)} (_ : ¬ place f nm < f.length), withF nm y f = f ++ [(nm, y)]
  | [], _ => rfl
  | p :: r, h => by
    rw [withF]
    unfold place at h
    rw [List.findIdx_cons] at h
    by_cases e : p.1 = nm
    · simp [e] at h
    · simp only [e, decide_false, cond_false] at h
      rw [if_neg e, withF_miss_app (by unfold place; simpa using h)]
      rfl
/-- A copied row of fields, as a row of one's own. -/
theorem FSep.acc {w : World} {p h n base : Nat} {a : Option Addr} {f : List (ByteArray × Val)} (hf : FSep w p h a n f) (hn : n = f.length) (hb : base ≤ p) (hm : n ≤ 1172812402961) : ∃ zs, FAcc w base (.slice a n n) (fun g => base ≤ g ∧ (p < g ∨ a = none)) h f zs := by
  rcases hf with ⟨e, e2⟩ | ⟨e, ⟨cs, h1, h0⟩, h2, h3⟩
  · subst e; subst e2; subst hn
    exact ⟨[], FAcc.nil _ _ _ _⟩
  · subst e
    refine ⟨cs.toList, ⟨by rw [Array.length_toList, h0, hn], .inr ⟨p, n, cs, by rw [hn], hb, h1, by omega, by unfold maxLen; omega, by omega, by rw [← hn, ← h0, ← Array.length_toList, List.take_length]⟩⟩, fun i hi => ?_⟩
    obtain ⟨k0, v, ⟨c0, c1, c2, c3, c4, c5, rfl, k1, k2, k3, k4, k5, k6⟩, hv⟩ := h2 i hi (by omega)
    have key : ∀ j c, w.cell? ⟨p, j, none⟩ = some c → cs.toList[j]? = some c := fun j c hj => by
      rw [cell_of_row w p j _ _ _ h1] at hj
      rw [Array.getElem?_toList]; exact hj
    exact ⟨key _ _ k0, h3 i hi, c0, c1, c2, c3, c4, c5, key _ _ k1, key _ _ k2, key _ _ k3, key _ _ k4, key _ _ k5, key _ _ k6, hv.kept (Kept.of_below (Below.refl _ _)) (fun g hg => ⟨⟨by omega, .inl hg⟩, fun e => by have h5 : p = g := Option.some.inj e; omega⟩)⟩
theorem FSep.fin {w : World} {p h n : Nat} {a : Option Addr} {f : List (ByteArray × Val)} (hf : FSep w p h a n f) (hn : n = f.length) : FieldsIn w (fun g => p ≤ g) (VIn w (fun g => p ≤ g) h) a f := by
  rcases hf with ⟨e, _⟩ | ⟨e, h1, h2, h3⟩
  · exact .inl e
  · rw [e]; exact (fieldsTo_of hn h2 h3).fields (Nat.le_refl _) (fun g hg => Nat.le_of_lt hg)
theorem own_shape {w : World} {base : Nat} {e : TypeId} {size : Nat} {v : Value} {n : Nat} {xs : List Value} (h : w.ownsRow base e size v n xs) : ∃ a c, v = .slice a n c := by
  obtain ⟨_, ⟨rfl, rfl⟩ | ⟨g, cap, cur, rfl, _⟩⟩ := h
  · exact ⟨none, 0, rfl⟩
  · exact ⟨_, cap, rfl⟩
theorem FSep.base {w : World} {p h n : Nat} {a : Option Addr} {f : List (ByteArray × Val)} (hf : FSep w p h a n f) : a = none ∨ a = some ⟨p, 0, none⟩ := hf.imp (fun h => h.2) (fun h => h.1)
theorem withF_hit_len {nm : ByteArray} {y : Val} {f : List (ByteArray × Val)} {i : Nat} (h : withF nm y f = f.set i (nm, y)) : (withF nm y f).length = f.length := by rw [h, List.length_set]
set_option maxRecDepth 100000 in
theorem with_boxes (w : World) (xn yk yn : Int) (xs ys : ByteArray) (ba fa la yb yf yl : Option Addr) (bn bc fn fc ln lc bm bz fm fz lm lz : Nat) (W0 : World) (hW0 : W0 = (((w.alloc (Obj.cells #[.int .i64 6, .int .i64 xn, .string xs, .slice ba bn bc, .slice fa fn fc, .slice la ln lc] 28)).alloc (Obj.cells #[.int .i64 yk, .int .i64 yn, .string ys, .slice yb bm bz, .slice yf fm fz, .slice yl lm lz] 28)).alloc (Obj.cells #[.int .i64 0, .int .i64 0, .string { data := #[] }, .slice none 0 0, .slice none 0 0, .slice none 0 0] 28))) :
    Below w.heap.size w W0 ∧ W0.heap.size = w.heap.size + 3 ∧ IsBox W0 w.heap.size (.int .i64 6) (.int .i64 xn) (.string xs) (.slice ba bn bc) (.slice fa fn fc) (.slice la ln lc) ∧ IsBox W0 (w.heap.size + 1) (.int .i64 yk) (.int .i64 yn) (.string ys) (.slice yb bm bz) (.slice yf fm fz) (.slice yl lm lz) ∧ IsBox W0 (w.heap.size + 1 + 1) (.int .i64 0) (.int .i64 0) (.string { data := #[] }) (.slice none 0 0) (.slice none 0 0) (.slice none 0 0) := by
  have b1 := (Below.refl w.heap.size w).alloc (Nat.le_refl _) (Obj.cells #[.int .i64 6, .int .i64 xn, .string xs, .slice ba bn bc, .slice fa fn fc, .slice la ln lc] 28)
  have b2 := b1.alloc b1.size (Obj.cells #[.int .i64 yk, .int .i64 yn, .string ys, .slice yb bm bz, .slice yf fm fz, .slice yl lm lz] 28)
  have b3 := b2.alloc b2.size (Obj.cells #[.int .i64 0, .int .i64 0, .string { data := #[] }, .slice none 0 0, .slice none 0 0, .slice none 0 0] 28)
  subst hW0
  refine ⟨b3, by simp, ?_, ?_, ?_⟩
  · have := IsBox.new w (.int .i64 6) (.int .i64 xn) (.string xs) (.slice ba bn bc) (.slice fa fn fc) (.slice la ln lc)
    exact (this.keep ((Below.refl _ _).alloc (Nat.le_refl _) (Obj.cells #[.int .i64 yk, .int .i64 yn, .string ys, .slice yb bm bz, .slice yf fm fz, .slice yl lm lz] 28))).keep ((Below.refl _ _).alloc (Nat.le_refl _) (Obj.cells #[.int .i64 0, .int .i64 0, .string { data := #[] }, .slice none 0 0, .slice none 0 0, .slice none 0 0] 28))
  · exact (IsBox.new2 w (Obj.cells #[.int .i64 6, .int .i64 xn, .string xs, .slice ba bn bc, .slice fa fn fc, .slice la ln lc] 28) (.int .i64 yk) (.int .i64 yn) (.string ys) (.slice yb bm bz) (.slice yf fm fz) (.slice yl lm lz)).keep ((Below.refl _ _).alloc (Nat.le_refl _) (Obj.cells #[.int .i64 0, .int .i64 0, .string { data := #[] }, .slice none 0 0, .slice none 0 0, .slice none 0 0] 28))
  · have := IsBox.new ((w.alloc (Obj.cells #[.int .i64 6, .int .i64 xn, .string xs, .slice ba bn bc, .slice fa fn fc, .slice la ln lc] 28)).alloc (Obj.cells #[.int .i64 yk, .int .i64 yn, .string ys, .slice yb bm bz, .slice yf fm fz, .slice yl lm lz] 28)) (.int .i64 0) (.int .i64 0) (.string { data := #[] }) (.slice none 0 0) (.slice none 0 0) (.slice none 0 0)
    simpa using this
set_option maxRecDepth 100000 in
set_option maxHeartbeats 500000 in
theorem with5_any (Q Q2 : Nat → Prop) (k : Nat) (x y : Val) (v u : Value) (nm : ByteArray) (w : World) (hv : VIn w Q (k + 2) x v) (hu : VIn w Q2 (k + 1) y u) (hk : x.kind = 6) (hyk : y.kind ≠ 0) (hfl : x.f.length ≤ 3000) (hnm : nm.size ≤ 140737488355328) :
    Calls Tryd.prog 5 #[v, .string nm, u] w (ValPost (fun g => w.heap.size ≤ g) w (k + 2) (.mk x.kind x.n x.s x.b (withF nm y x.f) x.l)) := by
  obtain ⟨xk, xn, xs, ba, fa, la, bn, bc, fn, fc, ln, lc, rfl, hxk, hxn, hxs, hbn, hfn, hln, hL, -, -⟩ := hv.letters
  obtain rfl : xk = 6 := by rw [hxk, hk]
  obtain ⟨yk, yn, ys, yb, yf, yl, bm, bz, fm, fz, lm, lz, rfl, hyk1, -, -, -, -, -, -, -, -⟩ := hu.letters
  have hyk0 : (yk == 0) = false := by rw [beq_eq_false_iff_ne]; rw [hyk1]; exact hyk
  obtain ⟨i0, hi, hz0, hz1, hz2⟩ := info_parts infoField
  obtain ⟨W0, hW0⟩ : ∃ W0, W0 = (((w.alloc (Obj.cells #[.int .i64 6, .int .i64 xn, .string xs, .slice ba bn bc, .slice fa fn fc, .slice la ln lc] 28)).alloc (Obj.cells #[.int .i64 yk, .int .i64 yn, .string ys, .slice yb bm bz, .slice yf fm fz, .slice yl lm lz] 28)).alloc (Obj.cells #[.int .i64 0, .int .i64 0, .string { data := #[] }, .slice none 0 0, .slice none 0 0, .slice none 0 0] 28)) := ⟨_, rfl⟩
  obtain ⟨b3, hsz, k0, k1, k2⟩ := with_boxes w xn yk yn xs ys ba fa la yb yf yl bn bc fn fc ln lc bm bz fm fz lm lz W0 hW0
  have HL := Lib.hid hL
  have HX := Lib.hid (And.intro hxk (And.intro hxn (And.intro hxs (And.intro hbn (And.intro hfn hln)))))
  have HFL : Hid (fn ≤ 3000) := by rw [hfn]; exact hfl
  have HNM := Lib.hid hnm
  have HB0 := Lib.hid b3
  have HSZ := Lib.hid hsz
  have K0 := Lib.hid k0; have K1 := Lib.hid k1; have K2 := Lib.hid k2
  have CC := Lib.hid (copy_cap Q (k + 1) x _ W0 (VIn.keep b3 hv))
  have hu0 := hu.lt
  obtain ⟨z, hz⟩ : ∃ z, z = Bson.Val.mk x.kind x.n x.s x.b (withF nm y x.f) x.l := ⟨_, rfl⟩
  rw [← hz]
  have HZ := Lib.hid hz
  clear hv hu hL hk b3 hsz k0 k1 k2 hxk hxn hxs hbn hfn hln hz hyk hyk1 hfl hnm
  go_enter Tryd.func5, Tryd.ntmps5
  go_wp2_with fail
  rw [← hW0]
  have y0 := K1.out.cells.1
  go_wp2_with fail
  refine CC.out.mono ?_
  rintro e w1 ⟨v1, rfl, hA, hcap, hb1⟩
  obtain ⟨a1, a2, a3, n1, n2, n3, p1, p2, hv1, -, hn1, hn2, hn3, hp1, hp12, hB, hp12', hF, hI⟩ := hA
  obtain rfl : n2 = x.f.length := by
    obtain ⟨c0, c1, c2, c3, c5, a, m, hc⟩ := hcap
    rw [hv1] at hc
    simp only [Value.agg.injEq, Array.mk.injEq, List.cons.injEq, Value.slice.injEq, and_true] at hc
    exact hc.2.2.2.2.1.2.2
  obtain ⟨e1, e2, e3, e4, e5, e6⟩ := HX.out
  rw [← e4, ← e5, ← e6, ← e1, ← e2, ← e3] at hv1
  rw [← e4] at hn1
  rw [← e5] at hn2 hF
  rw [← e6] at hn3
  subst hv1
  have HA := Lib.hid (And.intro hn1 (And.intro hn3 (And.intro hp1 (And.intro hp12 (And.intro hB (And.intro hp12' (And.intro hF hI)))))))
  have HB1 := Lib.hid hb1
  have K0' := Lib.hid (K0.out.keep hb1)
  have KP := Lib.hid (K0'.out.put (.int .i64 6) (.int .i64 xn) (.string xs) (.slice a1 bn n1) (.slice a2 fn fn) (.slice a3 ln n3))
  have K1' := Lib.hid (K1.out.keep hb1)
  have K2' := Lib.hid (K2.out.keep hb1)
  have HKP : Hid (Kept (fun g => W0.heap.size ≤ g) w1 (puts w1 w.heap.size 0 [.int .i64 6, .int .i64 xn, .string xs, .slice a1 bn n1, .slice a2 fn fn, .slice a3 ln n3])) := puts_kept _ (by have := HSZ.out; omega) _ _
  have K1p : Hid (IsBox (puts w1 w.heap.size 0 [.int .i64 6, .int .i64 xn, .string xs, .slice a1 bn n1, .slice a2 fn fn, .slice a3 ln n3]) (w.heap.size + 1) (.int .i64 yk) (.int .i64 yn) (.string ys) (.slice yb bm bz) (.slice yf fm fz) (.slice yl lm lz)) := K1'.out.other (by omega) 0 _
  have K2p : Hid (IsBox (puts w1 w.heap.size 0 [.int .i64 6, .int .i64 xn, .string xs, .slice a1 bn n1, .slice a2 fn fn, .slice a3 ln n3]) (w.heap.size + 1 + 1) (.int .i64 0) (.int .i64 0) (.string { data := #[] }) (.slice none 0 0) (.slice none 0 0) (.slice none 0 0)) := K2'.out.other (by omega) 0 _
  have HUP : Hid (VIn (puts w1 w.heap.size 0 [.int .i64 6, .int .i64 xn, .string xs, .slice a1 bn n1, .slice a2 fn fn, .slice a3 ln n3]) (fun g => Q2 g ∧ g < w.heap.size) (k + 1) y (.agg #[.int .i64 yk, .int .i64 yn, .string ys, .slice yb bm bz, .slice yf fm fz, .slice yl lm lz])) := by
    have h1 := (hu0 : VIn w (fun g => Q2 g ∧ g < w.heap.size) (k + 1) y (.agg #[.int .i64 yk, .int .i64 yn, .string ys, .slice yb bm bz, .slice yf fm fz, .slice yl lm lz]))
    refine h1.kept (fun g hg hl => ?_) (fun _ z => z)
    exact (puts_other _ _ (by omega) _ _ _).trans ((HB1.out.block g (by have := HSZ.out; omega)).trans (HB0.out.block g hl))
  have HFP := Lib.hid (hF.kept (w' := (puts w1 w.heap.size 0 [.int .i64 6, .int .i64 xn, .string xs, .slice a1 bn n1, .slice a2 fn fn, .slice a3 ln n3])) (fun g hg hl => HKP.out g (by omega) hl))
  have HZP : Hid ((puts w1 w.heap.size 0 [.int .i64 6, .int .i64 xn, .string xs, .slice a1 bn n1, .slice a2 fn fn, .slice a3 ln n3]).heap.size = w1.heap.size) := puts_size _ _ _ _
  obtain ⟨z0, z1, z2, z3, z4, z5⟩ := K0'.out.cells
  obtain ⟨f0, f1, f2, f3, f4, f5⟩ := K0'.out.thaw
  clear hn1 hn2 hn3 hp1 hp12 hB hp12' hF hI hcap hb1 CC e1 e2 e3 e4 e5 e6 hW0 y0
  obtain ⟨r0, r1, r2, r3, r4, r5⟩ := K1'.out.cells
  have CY := Lib.hid (copy_any _ (k + 1) y _ (puts w1 w.heap.size 0 [.int .i64 6, .int .i64 xn, .string xs, .slice a1 bn n1, .slice a2 fn fn, .slice a3 ln n3]) HUP.out)
  go_wp2_with fail
  clear z0 z1 z2 z3 z4 z5 f0 f1 f2 f3 f4 f5 r0 r1 r2 r3 r4 r5
  refine CY.out.mono ?_
  rintro e w2 ⟨v2, rfl, hv2, hb2⟩
  obtain ⟨zk, zn, zs, zb, zf, zl, b1, c1, b2, c2, b3, c3, rfl⟩ := hv2.shape
  have HV2 := Lib.hid hv2
  have HPL : Hid (∀ g, w1.heap.size ≤ g → (puts w1 w.heap.size 0 [.int .i64 6, .int .i64 xn, .string xs, .slice a1 bn n1, .slice a2 fn fn, .slice a3 ln n3]).heap.size ≤ g) := fun g hg => by rw [HZP.out]; exact hg
  have HPG : Hid (∀ g, (puts w1 w.heap.size 0 [.int .i64 6, .int .i64 xn, .string xs, .slice a1 bn n1, .slice a2 fn fn, .slice a3 ln n3]).heap.size ≤ g → w1.heap.size ≤ g) := fun g hg => by rw [← HZP.out]; exact hg
  have hb3 : Below w2.heap.size w2 (w2.alloc (.cells #[.string nm, .int .i64 zk, .int .i64 zn, .string zs, .slice zb b1 c1, .slice zf b2 c2, .slice zl b3 c3] 35)) := (Below.refl _ _).alloc (Nat.le_refl _) _
  have KB3 := Lib.hid ((KP.out.keep hb2).keep hb3)
  have KR3 := Lib.hid ((K2p.out.keep hb2).keep hb3)
  have HFS3 := Lib.hid ((HFP.out.kept (fun g _ hl => hb2.block g hl)).kept (fun g _ hl => hb3.block g hl))
  have CF := Lib.hid (find_any (fun g => p1 ≤ g) (k + 1) (w2.alloc (.cells #[.string nm, .int .i64 zk, .int .i64 zn, .string zs, .slice zb b1 c1, .slice zf b2 c2, .slice zl b3 c3] 35)) a2 fn fn x.f nm HX.out.2.2.2.2.1.symm (by have := HFL.out; omega) (HFS3.out.fin HX.out.2.2.2.2.1))
  have K13 : Hid (Kept (fun g => W0.heap.size ≤ g) w1 (w2.alloc (.cells #[.string nm, .int .i64 zk, .int .i64 zn, .string zs, .slice zb b1 c1, .slice zf b2 c2, .slice zl b3 c3] 35))) := fun g hg hl => (hb3.block g (by have := hb2.size; rw [HZP.out] at this; omega)).trans ((hb2.block g (by rw [HZP.out]; exact hl)).trans (HKP.out g hg hl))
  have HB3 : Hid (Below w.heap.size w (w2.alloc (.cells #[.string nm, .int .i64 zk, .int .i64 zn, .string zs, .slice zb b1 c1, .slice zf b2 c2, .slice zl b3 c3] 35))) := by
    have h1 : Below w.heap.size w w1 := HB0.out.trans (HB1.out.mono HB0.out.size)
    have h2 := puts_below h1 (Nat.le_refl _) [.int .i64 6, .int .i64 xn, .string xs, .slice a1 bn n1, .slice a2 fn fn, .slice a3 ln n3] 0
    have h3 := h2.trans (hb2.mono h2.size)
    exact h3.alloc h3.size _
  have HZ2 : Hid (w1.heap.size ≤ w2.heap.size) := by have := hb2.size; rw [HZP.out] at this; exact this
  have HV3 := Lib.hid (hv2.keep hb3)
  have T3 := Lib.hid (heap_alloc_new w2 (.cells #[.string nm, .int .i64 zk, .int .i64 zn, .string zs, .slice zb b1 c1, .slice zf b2 c2, .slice zl b3 c3] 35))
  obtain ⟨z0, z1, z2, z3, z4, z5⟩ := KB3.out.cells
  clear hv2 hb2 hb3 CY
  go_wp2_with fail
  clear z0 z1 z2 z3 z4 z5
  refine CF.out.mono ?_
  rintro e w4 ⟨rfl, hb4⟩
  have h34 : (w2.alloc (.cells #[.string nm, .int .i64 zk, .int .i64 zn, .string zs, .slice zb b1 c1, .slice zf b2 c2, .slice zl b3 c3] 35)).heap.size = w2.heap.size + 1 := by simp
  have KB4 := Lib.hid (KB3.out.keep hb4)
  have KR4 := Lib.hid (KR3.out.keep hb4)
  have HFS4 := Lib.hid (HFS3.out.kept (fun g _ hl => hb4.block g hl))
  have K14 : Hid (Kept (fun g => W0.heap.size ≤ g) w1 w4) := fun g hg hl => (hb4.block g (by rw [h34]; have := HZ2.out; omega)).trans (K13.out g hg hl)
  have HB4 := Lib.hid (HB3.out.trans (hb4.mono HB3.out.size))
  have HV4 := Lib.hid (HV3.out.keep hb4)
  have T4 : Hid (w4.heap[w2.heap.size]? = some (.cells #[.string nm, .int .i64 zk, .int .i64 zn, .string zs, .slice zb b1 c1, .slice zf b2 c2, .slice zl b3 c3] 35 (0, 0))) := (hb4.block _ (by rw [h34]; omega)).trans T3.out
  have HZ4 : Hid (w2.heap.size + 1 ≤ w4.heap.size) := by have := hb4.size; rw [h34] at this; exact this
  have t0 := cell_of_row w4 _ 0 _ _ _ T4.out
  have t1 := cell_of_row w4 _ 1 _ _ _ T4.out
  have t2 := cell_of_row w4 _ 2 _ _ _ T4.out
  have t3 := cell_of_row w4 _ 3 _ _ _ T4.out
  have t4 := cell_of_row w4 _ 4 _ _ _ T4.out
  have t5 := cell_of_row w4 _ 5 _ _ _ T4.out
  have t6 := cell_of_row w4 _ 6 _ _ _ T4.out
  clear CF hb4 h34 HV2 HFS3 KB3 KR3 T3 HV3 K13 HB3
  obtain ⟨z0, z1, z2, z3, z4, z5⟩ := KB4.out.cells
  obtain ⟨f0, f1, f2, f3, f4, f5⟩ := KB4.out.thaw
  obtain ⟨r0, r1, r2, r3, r4, r5⟩ := KR4.out.cells
  obtain ⟨g0, g1, g2, g3, g4, g5⟩ := KR4.out.thaw
  by_cases hp : place x.f nm < x.f.length
  · have hpi : placeI x.f nm = (place x.f nm : Int) := by unfold placeI; rw [if_pos hp]
    rw [hpi]
    have HWF : Hid (withF nm y x.f = x.f.set (place x.f nm) (nm, y)) := withF_hit_set hp
    obtain ⟨i, hie⟩ : ∃ i, i = place x.f nm := ⟨_, rfl⟩
    rw [← hie] at HWF hp ⊢
    have HIE : Hid (i < x.f.length) := hp
    have hin : i < fn := by rw [HX.out.2.2.2.2.1]; exact hp
    obtain ⟨ha2, hrow, hfl4, hfs4⟩ := HFS4.out.resolve_left (fun e => by rw [e.1] at hp; cases hp)
    subst ha2
    have HROW := Lib.hid hrow
    have HFT := Lib.hid (fieldsTo_of HX.out.2.2.2.2.1 hfl4 hfs4)
    have hp1 := HA.out.2.2.1
    have hsz := HSZ.out
    have hne1 : ¬ p1 = w.heap.size := by omega
    have hne2 : ¬ w.heap.size = p1 := by omega
    have hne3 : ¬ p1 = w.heap.size + 1 + 1 := by omega
    have hne4 : ¬ w.heap.size + 1 + 1 = p1 := by omega
    obtain ⟨⟨x0, o0⟩, b0⟩ := hrow.at (j := i * 7) (by omega)
    obtain ⟨⟨x1, o1⟩, b1'⟩ := hrow.at (j := i * 7 + 1) (by omega)
    obtain ⟨⟨x2, o2⟩, b2'⟩ := hrow.at (j := i * 7 + 2) (by omega)
    obtain ⟨⟨x3, o3⟩, b3'⟩ := hrow.at (j := i * 7 + 3) (by omega)
    obtain ⟨⟨x4, o4⟩, b4'⟩ := hrow.at (j := i * 7 + 4) (by omega)
    obtain ⟨⟨x5, o5⟩, b5'⟩ := hrow.at (j := i * 7 + 5) (by omega)
    obtain ⟨⟨x6, o6⟩, b6'⟩ := hrow.at (j := i * 7 + 6) (by omega)
    have HEND : Hid (VIn (puts (puts w4 p1 (i * 7) [.string nm, .int .i64 zk, .int .i64 zn, .string zs, .slice zb b1 c1, .slice zf b2 c2, .slice zl b3 c3]) (w.heap.size + 1 + 1) 0 [.int .i64 6, .int .i64 xn, .string xs, .slice a1 bn n1, .slice (some ⟨p1, 0, none⟩) fn fn, .slice a3 ln n3]) (fun g => w.heap.size ≤ g) (k + 2) z (.agg #[.int .i64 6, .int .i64 xn, .string xs, .slice a1 bn n1, .slice (some ⟨p1, 0, none⟩) fn fn, .slice a3 ln n3]) ∧ Below w.heap.size w (puts (puts w4 p1 (i * 7) [.string nm, .int .i64 zk, .int .i64 zn, .string zs, .slice zb b1 c1, .slice zf b2 c2, .slice zl b3 c3]) (w.heap.size + 1 + 1) 0 [.int .i64 6, .int .i64 xn, .string xs, .slice a1 bn n1, .slice (some ⟨p1, 0, none⟩) fn fn, .slice a3 ln n3])) := by
      obtain ⟨hn1, hn3, hp1, hp12, hB, hp12', hF, hI⟩ := HA.out
      have hp2 : p1 < p2 := hp12'.resolve_left (fun e => by rw [e.1] at hp; cases hp)
      obtain ⟨e1, e2, e3, e4, e5, e6⟩ := HX.out
      have hlt : p1 < w1.heap.size := by
        rcases hF with e | e
        · rw [e.1] at hp; cases hp
        · exact e.2.1.lt
      have ko : Kept (fun g => W0.heap.size ≤ g) (puts w4 p1 (i * 7) [.string nm, .int .i64 zk, .int .i64 zn, .string zs, .slice zb b1 c1, .slice zf b2 c2, .slice zl b3 c3]) (puts (puts w4 p1 (i * 7) [.string nm, .int .i64 zk, .int .i64 zn, .string zs, .slice zb b1 c1, .slice zf b2 c2, .slice zl b3 c3]) (w.heap.size + 1 + 1) 0 [.int .i64 6, .int .i64 xn, .string xs, .slice a1 bn n1, .slice (some ⟨p1, 0, none⟩) fn fn, .slice a3 ln n3]) := fun g hg hl => puts_other _ g (by omega) _ _ _
      have h5 := HFT.out.set HROW.out (by omega) hp HNM.out (HV4.out.kept (Kept.of_below (Below.refl _ _)) (fun g hg => by have := HPG.out g hg; omega)) (nm := nm) (y := y)
      refine ⟨?_, puts_below (puts_below HB4.out (by omega) _ _) (by omega) _ _⟩
      have h1 := Apart.fields (w := W0) (W' := puts (puts w4 p1 (i * 7) [.string nm, .int .i64 zk, .int .i64 zn, .string zs, .slice zb b1 c1, .slice zf b2 c2, .slice zl b3 c3]) (w.heap.size + 1 + 1) 0 [.int .i64 6, .int .i64 xn, .string xs, .slice a1 bn n1, .slice (some ⟨p1, 0, none⟩) fn fn, .slice a3 ln n3]) (f := x.f.set i (nm, y)) HL.out (by rw [← e4]; exact hn1) (n2 := fn) (by rw [List.length_set]; have := HFL.out; omega) (by rw [← e6]; exact hn3) hp1 hp12 hB hI
        (by rw [List.length_set]; exact HL.out.f)
        (fun g hg hl => (ko g hg.1 (by rw [puts_size]; have := HZ4.out; have := HZ2.out; omega)).trans ((puts_other p1 g (by omega) _ _ _).trans (K14.out g hg.1 hl)))
        (fun g hg hl => (ko g (by omega) (by rw [puts_size]; have := HZ4.out; have := HZ2.out; omega)).trans ((puts_other p1 g (by omega) _ _ _).trans (K14.out g (by omega) hl)))
        ((h5.fields (Q := fun g => W0.heap.size ≤ g) hp1 (fun g hg => by omega)).kept ko (fun _ z => z) (fun _ _ hv => hv.kept ko (fun _ z => z)))
      rw [← HWF.out, ← HZ.out, withF_hit_len HWF.out, ← e1, ← e2, ← e3, ← e4, ← e5, ← e6] at h1
      exact h1.kept (Kept.of_below (Below.refl _ _)) (fun g hg => by omega)
    clear hp hrow hfl4 hfs4 hp1 hsz hpi hie
    go_wp2_with fail
    exact bodyPost_ret (v := .agg #[.int .i64 6, .int .i64 xn, .string xs, .slice a1 bn n1, .slice (some ⟨p1, 0, none⟩) fn fn, .slice a3 ln n3]) (by simp [results, Tryd.results5, go_sem, r0, r1, r2, r3, r4, r5]) rfl ⟨_, rfl, HEND.out⟩
  · have hpi : placeI x.f nm = -1 := by unfold placeI; rw [if_neg hp]
    rw [hpi]
    have HWF : Hid (withF nm y x.f = x.f ++ [(nm, y)]) := withF_miss_app hp
    obtain ⟨xs9, hacc⟩ := HFS4.out.acc (base := W0.heap.size) HX.out.2.2.2.2.1 HA.out.2.2.1 (by have := HFL.out; omega)
    have hb5 : Below w4.heap.size w4 (w4.alloc (.cells #[.string nm, .int .i64 zk, .int .i64 zn, .string zs, .slice zb b1 c1, .slice zf b2 c2, .slice zl b3 c3] 35)) := (Below.refl _ _).alloc (Nat.le_refl _) _
    have HAC := Lib.hid (hacc.keep hb5)
    have HBASE := Lib.hid HFS4.out.base
    have KB5 := Lib.hid (KB4.out.keep hb5)
    have KR5 := Lib.hid (KR4.out.keep hb5)
    have HB5 := Lib.hid (HB4.out.trans (hb5.mono HB4.out.size))
    have HV5 := Lib.hid (HV4.out.keep hb5)
    have K15 : Hid (Kept (fun g => W0.heap.size ≤ g) w1 (w4.alloc (.cells #[.string nm, .int .i64 zk, .int .i64 zn, .string zs, .slice zb b1 c1, .slice zf b2 c2, .slice zl b3 c3] 35))) := fun g hg hl => (hb5.block g (by have := HZ4.out; have := HZ2.out; omega)).trans (K14.out g hg hl)
    have HNW : Hid (∀ j u, ([.string nm, .int .i64 zk, .int .i64 zn, .string zs, .slice zb b1 c1, .slice zf b2 c2, .slice zl b3 c3] : List Value)[j]? = some u → (w4.alloc (.cells #[.string nm, .int .i64 zk, .int .i64 zn, .string zs, .slice zb b1 c1, .slice zf b2 c2, .slice zl b3 c3] 35)).cell? (Addr.add ⟨w4.heap.size, 0, none⟩ j) = some u) := seven_new w4 (.string nm) (.int .i64 zk) (.int .i64 zn) (.string zs) (.slice zb b1 c1) (.slice zf b2 c2) (.slice zl b3 c3) 35
    have HOWN : Hid ((w4.alloc (.cells #[.string nm, .int .i64 zk, .int .i64 zn, .string zs, .slice zb b1 c1, .slice zf b2 c2, .slice zl b3 c3] 35)).ownsRow W0.heap.size 35 7 (.slice a2 fn fn) fn xs9) := by have := HAC.out.own; rw [← HX.out.2.2.2.2.1] at this; exact this
    have hfn3 : fn ≤ 3000 := HFL.out
    have HSB : Hid (W0.heap.size ≤ (w4.alloc (.cells #[.string nm, .int .i64 zk, .int .i64 zn, .string zs, .slice zb b1 c1, .slice zf b2 c2, .slice zl b3 c3] 35)).heap.size) := by show _ ≤ _; rw [show (w4.alloc (.cells #[.string nm, .int .i64 zk, .int .i64 zn, .string zs, .slice zb b1 c1, .slice zf b2 c2, .slice zl b3 c3] 35)).heap.size = w4.heap.size + 1 by simp]; have := HZ4.out; have := HZ2.out; have := HB1.out.size; omega
    have HZ5 : Hid (w1.heap.size ≤ (w4.alloc (.cells #[.string nm, .int .i64 zk, .int .i64 zn, .string zs, .slice zb b1 c1, .slice zf b2 c2, .slice zl b3 c3] 35)).heap.size) := by show _ ≤ _; rw [show (w4.alloc (.cells #[.string nm, .int .i64 zk, .int .i64 zn, .string zs, .slice zb b1 c1, .slice zf b2 c2, .slice zl b3 c3] 35)).heap.size = w4.heap.size + 1 by simp]; have := HZ4.out; have := HZ2.out; omega
    clear hb5 hpi hacc
    go_wp2_with (at_builtin; refine wpList_append_sz _ rfl (.tmp 37) (.tmp 39) 25 rfl W0.heap.size 35 i0 (.agg #[.string ⟨#[]⟩, .int .i64 0, .int .i64 0, .string ⟨#[]⟩, .slice none 0 0, .slice none 0 0, .slice none 0 0]) 7 120 Tryd.underlying25 hi hz0 hz1 hz2 rfl (.slice a2 fn fn) fn xs9 rfl HOWN.out ⟨w4.heap.size, 0, none⟩ 1 1 [.string nm, .int .i64 zk, .int .i64 zn, .string zs, .slice zb b1 c1, .slice zf b2 c2, .slice zl b3 c3] rfl rfl (by decide) (by decide) HNW.out (seven_one _ _ _ _ _ _ _ _ _ _ _ _ _) (by unfold maxLen; omega) (by omega) HSB.out ?_)
    intro v5 w6 hown6 hlies6
    obtain ⟨a5, c5, rfl⟩ := own_shape hown6
    have hpush := FAcc.push HAC.out (nm := nm) (y := y) (Wrote.of_lies hlies6) (by rw [← HX.out.2.2.2.2.1]; exact hown6) HNM.out (HV5.out.kept (Kept.of_below (Below.refl _ _)) (fun g hg => by
      have h9 := HPG.out g hg
      have h8 : p1 < w1.heap.size ∨ a2 = none := by
        rcases HA.out.2.2.2.2.2.2.1 with e | e
        · exact .inr e.2
        · exact .inl e.2.1.lt
      refine ⟨⟨by have := HB1.out.size; omega, ?_⟩, fun e => ?_⟩
      · rcases h8 with h8 | h8
        · exact .inl (by omega)
        · exact .inr h8
      · rcases HBASE.out with e7 | e7
        · rw [e7] at e; cases e
        · rw [e7] at e
          have e10 : p1 = g := Option.some.inj e
          rcases h8 with h8 | h8
          · omega
          · rw [h8] at e7; cases e7))
    have HG6 : Hid ((∀ g, g < (w4.alloc (.cells #[.string nm, .int .i64 zk, .int .i64 zn, .string zs, .slice zb b1 c1, .slice zf b2 c2, .slice zl b3 c3] 35)).heap.size → (g ≠ p1 ∨ a2 = none) → w6.heap[g]? = (w4.alloc (.cells #[.string nm, .int .i64 zk, .int .i64 zn, .string zs, .slice zb b1 c1, .slice zf b2 c2, .slice zl b3 c3] 35)).heap[g]?) ∧ (w4.alloc (.cells #[.string nm, .int .i64 zk, .int .i64 zn, .string zs, .slice zb b1 c1, .slice zf b2 c2, .slice zl b3 c3] 35)).heap.size ≤ w6.heap.size ∧ w6.os = (w4.alloc (.cells #[.string nm, .int .i64 zk, .int .i64 zn, .string zs, .slice zb b1 c1, .slice zf b2 c2, .slice zl b3 c3] 35)).os ∧ w6.tape = (w4.alloc (.cells #[.string nm, .int .i64 zk, .int .i64 zn, .string zs, .slice zb b1 c1, .slice zf b2 c2, .slice zl b3 c3] 35)).tape ∧ w6.output = (w4.alloc (.cells #[.string nm, .int .i64 zk, .int .i64 zn, .string zs, .slice zb b1 c1, .slice zf b2 c2, .slice zl b3 c3] 35)).output) := by
      rcases hlies6 with ⟨_, hg⟩ | ⟨_, hg⟩
      · refine ⟨fun g hl hne => hg.block g hl (fun e => ?_), hg.size, hg.os, hg.tape, hg.output⟩
        rcases HBASE.out with e7 | e7
        · rw [e7] at e; cases e
        · rw [e7] at e
          have e10 : g = p1 := Option.some.inj e
          rcases hne with h | h
          · exact h e10
          · rw [h] at e7; cases e7
      · exact ⟨fun g hl _ => hg.block g hl (by simp), hg.size, hg.os, hg.tape, hg.output⟩
    have HPU := Lib.hid hpush
    have hp1 := HA.out.2.2.1
    have hsz := HSZ.out
    have KB6 : Hid (IsBox w6 w.heap.size (.int .i64 6) (.int .i64 xn) (.string xs) (.slice a1 bn n1) (.slice a2 fn fn) (.slice a3 ln n3)) := (HG6.out.1 _ KB5.out.lt (.inl (by omega))).trans KB5.out
    have KR6 : Hid (IsBox w6 (w.heap.size + 1 + 1) (.int .i64 0) (.int .i64 0) (.string { data := #[] }) (.slice none 0 0) (.slice none 0 0) (.slice none 0 0)) := (HG6.out.1 _ KR5.out.lt (.inl (by omega))).trans KR5.out
    have K16 : Hid (∀ g, W0.heap.size ≤ g → g < w1.heap.size → (g ≠ p1 ∨ a2 = none) → w6.heap[g]? = w1.heap[g]?) := fun g hg hl hne => (HG6.out.1 g (by have := HZ5.out; omega) hne).trans (K15.out g hg hl)
    have HB6 : Hid (Below w.heap.size w w6) := ⟨HG6.out.2.2.1.trans HB5.out.os, HG6.out.2.2.2.1.trans HB5.out.tape, HG6.out.2.2.2.2.trans HB5.out.output, Nat.le_trans HB5.out.size HG6.out.2.1, fun g hg => (HG6.out.1 g (by have := HSB.out; omega) (.inl (by omega))).trans (HB5.out.block g hg)⟩
    clear z0 z1 z2 z3 z4 z5 f0 f1 f2 f3 f4 f5 r0 r1 r2 r3 r4 r5 g0 g1 g2 g3 g4 g5 t0 t1 t2 t3 t4 t5 t6
    obtain ⟨z0, z1, z2, z3, z4, z5⟩ := KB6.out.cells
    obtain ⟨f0, f1, f2, f3, f4, f5⟩ := KB6.out.thaw
    obtain ⟨r0, r1, r2, r3, r4, r5⟩ := KR6.out.cells
    obtain ⟨g0, g1, g2, g3, g4, g5⟩ := KR6.out.thaw
    have HEND : Hid (VIn (puts (w6.setCell ⟨w.heap.size, 4, none⟩ (.slice a5 (fn + 1) c5)) (w.heap.size + 1 + 1) 0 [.int .i64 6, .int .i64 xn, .string xs, .slice a1 bn n1, .slice a5 (fn + 1) c5, .slice a3 ln n3]) (fun g => w.heap.size ≤ g) (k + 2) z (.agg #[.int .i64 6, .int .i64 xn, .string xs, .slice a1 bn n1, .slice a5 (fn + 1) c5, .slice a3 ln n3]) ∧ Below w.heap.size w (puts (w6.setCell ⟨w.heap.size, 4, none⟩ (.slice a5 (fn + 1) c5)) (w.heap.size + 1 + 1) 0 [.int .i64 6, .int .i64 xn, .string xs, .slice a1 bn n1, .slice a5 (fn + 1) c5, .slice a3 ln n3])) := by
      obtain ⟨hn1, hn3, hp1, hp12, hB, hp12', hF, hI⟩ := HA.out
      obtain ⟨e1, e2, e3, e4, e5, e6⟩ := HX.out
      have ko : Kept (fun g => W0.heap.size ≤ g) w6 (puts (w6.setCell ⟨w.heap.size, 4, none⟩ (.slice a5 (fn + 1) c5)) (w.heap.size + 1 + 1) 0 [.int .i64 6, .int .i64 xn, .string xs, .slice a1 bn n1, .slice a5 (fn + 1) c5, .slice a3 ln n3]) := fun g hg hl => (puts_other _ g (by omega) _ _ _).trans (puts_other w.heap.size g (by omega) [.slice a5 (fn + 1) c5] w6 4)
      obtain ⟨a9, c9, h9, hc9, hF9⟩ := HPU.out.fields (Q' := fun g => W0.heap.size ≤ g) (fun g hg => hg.1) (fun g hg _ => hg)
      have hlen : (x.f ++ [(nm, y)]).length = fn + 1 := by rw [List.length_append, e5]; rfl
      rw [hlen] at h9 hc9
      simp only [Value.slice.injEq] at h9
      obtain ⟨rfl, -, rfl⟩ := h9
      refine ⟨?_, puts_below (puts_below HB6.out (Nat.le_refl _) [.slice a5 (fn + 1) c5] 4) (by omega) _ _⟩
      have h1 := Apart.fields (w := W0) (W' := (puts (w6.setCell ⟨w.heap.size, 4, none⟩ (.slice a5 (fn + 1) c5)) (w.heap.size + 1 + 1) 0 [.int .i64 6, .int .i64 xn, .string xs, .slice a1 bn n1, .slice a5 (fn + 1) c5, .slice a3 ln n3])) (f := x.f ++ [(nm, y)]) HL.out (by rw [← e4]; exact hn1) (n2 := c5) (by rw [hlen]; exact hc9) (by rw [← e6]; exact hn3) hp1 hp12 hB hI (by rw [hlen]; have := HFL.out; omega)
        (fun g hg hl => (ko g hg.1 (by have := HZ5.out; have := HG6.out.2.1; omega)).trans (K16.out g hg.1 hl (.inl (by omega))))
        (fun g hg hl => (ko g (by omega) (by have := HZ5.out; have := HG6.out.2.1; omega)).trans (K16.out g (by omega) hl (by
          rcases hp12' with e | e
          · exact .inr e.2
          · exact .inl (by omega))))
        (hF9.kept ko (fun _ z => z) (fun _ _ hv => hv.kept ko (fun _ z => z)))
      rw [hlen, ← HWF.out, ← HZ.out, ← e1, ← e2, ← e3, ← e4, ← e6] at h1
      exact h1.kept (Kept.of_below (Below.refl _ _)) (fun g hg => by omega)
    clear hp1 hsz hpush hown6 hlies6 hp
    go_wp2_with fail
    exact bodyPost_ret (v := .agg #[.int .i64 6, .int .i64 xn, .string xs, .slice a1 bn n1, .slice a5 (fn + 1) c5, .slice a3 ln n3]) (by simp [results, Tryd.results5, go_sem, r0, r1, r2, r3, r4, r5]) rfl ⟨_, rfl, HEND.out⟩
end Go.Proofs.YtdihelpimpkfoaaDoor
end
