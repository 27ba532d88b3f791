/- PathListsMath, ValBuild, PathDocsMem, PathEachF, PathEachV. -/
import Derived.WalkSpells
import Derived.Test.YtdgncpoephdboaaDoorMg5
import Derived.Test.YtdgncpoephdboaaDoorMg7
import Derived.Test.YtdgncpoephdboaaDoorMg8
set_option maxRecDepth 100000
section
namespace Bson
open Go
/-- What an expression gathers of a row of items. -/
def gotten (k : Nat) (a : ByteArray) (l : List Val) : List Val := (l.map fun y => reach k y [a]).filter fun y => decide (y.kind ≠ 0)
/-- What a query asks of a row of items. -/
def asked (a : ByteArray) (l : List Val) : List Val := (l.filter fun y => decide (y.kind = 6)).flatMap fun y => itself (fieldIn y.f a)
theorem gotten_nil (k : Nat) (a : ByteArray) : gotten k a [] = [] := rfl
theorem asked_nil (a : ByteArray) : asked a [] = [] := rfl
theorem gotten_snoc (k : Nat) (a : ByteArray) (l : List Val) (y : Val) : gotten k a (l ++ [y]) = gotten k a l ++ (if (reach k y [a]).kind ≠ 0 then [reach k y [a]] else []) := by
  unfold gotten
  rw [List.map_append, List.filter_append]
  congr 1
  simp only [List.map_cons, List.map_nil, List.filter_cons, List.filter_nil]
  split <;> split <;> simp_all
theorem asked_snoc (a : ByteArray) (l : List Val) (y : Val) : asked a (l ++ [y]) = asked a l ++ (if y.kind = 6 then itself (fieldIn y.f a) else []) := by
  unfold asked
  rw [List.filter_append, List.flatMap_append]
  congr 1
  by_cases h : y.kind = 6 <;> simp [h]
theorem gotten_next (k : Nat) (a : ByteArray) (l : List Val) (i : Nat) (hi : i < l.length) : gotten k a (l.take (i + 1)) = gotten k a (l.take i) ++ (if (reach k l[i] [a]).kind ≠ 0 then [reach k l[i] [a]] else []) := by
  rw [List.take_succ_eq_append_getElem hi, gotten_snoc]
theorem asked_next (a : ByteArray) (l : List Val) (i : Nat) (hi : i < l.length) : asked a (l.take (i + 1)) = asked a (l.take i) ++ (if l[i].kind = 6 then itself (fieldIn l[i].f a) else []) := by
  rw [List.take_succ_eq_append_getElem hi, asked_snoc]
theorem asked_part (a : ByteArray) (l : List Val) (i : Nat) : ∃ r, asked a l = asked a (l.take i) ++ r := by
  refine ⟨asked a (l.drop i), ?_⟩
  conv => lhs; rw [← List.take_append_drop i l]
  unfold asked
  rw [List.filter_append, List.flatMap_append]
theorem asked_none {a : ByteArray} {l : List Val} : asked a l = [] ↔ (l.filter fun y => decide (y.kind = 6)) = [] := by
  unfold asked
  constructor
  · intro h
    cases hf : l.filter fun y => decide (y.kind = 6) with
    | nil => rfl
    | cons y r =>
      rw [hf, List.flatMap_cons, List.append_eq_nil_iff] at h
      have := h.1
      unfold itself at this
      cases this
  · intro h; rw [h]; rfl
/-- A field of a legal document: there is none, or it is no Missing. -/
theorem field_legal {L : Nat} : ∀ (f : List (ByteArray × Val)) (a : ByteArray), (∀ p ∈ f, Key.legal L p.2) → fieldIn f a = zero ∨ (fieldIn f a).kind ≠ 0
  | [], _, _ => .inl rfl
  | (s, v) :: r, a, h => by
    rw [fieldIn]
    split
    · have := (h (s, v) (List.mem_cons_self)).kind
      exact .inr (by show v.kind ≠ 0; have h2 : 1 ≤ v.kind := this.1; omega)
    · exact field_legal r a (fun p hp => h p (List.mem_cons_of_mem _ hp))
theorem all_one {L : Nat} (k : Nat) (y : Val) (a : ByteArray) (h6 : y.kind = 6) (hl : ∀ p ∈ y.f, Key.legal L p.2) : all (k + 1) y [a] = itself (fieldIn y.f a) := by
  rcases field_legal y.f a hl with h | h
  · rw [all_missing k y a [] h6 (by rw [h]; rfl), h]; rfl
  · rw [all_doc k y a [] h6 h, all_nil]
/-- The document whose one field holds the list. -/
theorem reach_lists (k : Nat) (n a : ByteArray) (l : List Val) (d : Val) (hd : d.kind = 6) (hf : d.f = [(n, listOf l)]) : reach (k + 2) d [n, a] = listOf (gotten k a l) := by
  rw [reach_doc (k + 1) d n [a] hd, hf, fieldIn, if_pos rfl, reach_list k (listOf l) a [] rfl]
  rfl
theorem all_lists {L : Nat} (k : Nat) (n a : ByteArray) (l : List Val) (d : Val) (hd : d.kind = 6) (hf : d.f = [(n, listOf l)]) (hl : ∀ y ∈ l, y.kind = 6 → ∀ p ∈ y.f, Key.legal L p.2) :
    all (k + 3) d [n, a] = if asked a l = [] then [zero] else asked a l := by
  have e : fieldIn d.f n = listOf l := by rw [hf, fieldIn, if_pos rfl]
  rw [all_doc (k + 2) d n [a] hd (by rw [e]; show (7 : Int) ≠ 0; decide), e]
  by_cases h : asked a l = []
  · rw [if_pos h, all_none (k + 1) (listOf l) a [] rfl (asked_none.1 h)]
  · rw [if_neg h]
    have hne : (l.filter fun y => decide (y.kind = 6)).isEmpty = false := by
      rw [Bool.eq_false_iff]
      intro hh
      exact h (asked_none.2 (List.isEmpty_iff.1 hh))
    have e2 : all (k + 1 + 1) (listOf l) [a] = (l.filter fun y => decide (y.kind = 6)).flatMap fun y => all (k + 1) y [a] := by
      rw [all, if_neg (show ¬ (listOf l).kind = 6 from (by show ¬ (7 : Int) = 6; decide)), if_pos (show (listOf l).kind = 7 from rfl)]
      show (if (l.filter fun y => decide (y.kind = 6)).isEmpty = true then _ else _) = _
      rw [hne]; rfl
    rw [e2]
    unfold asked
    have key : ∀ m : List Val, (∀ y ∈ m, y.kind = 6 ∧ ∀ p ∈ y.f, Key.legal L p.2) → (m.flatMap fun y => all (k + 1) y [a]) = m.flatMap fun y => itself (fieldIn y.f a) := by
      intro m
      induction m with
      | nil => intro _; rfl
      | cons y r ih =>
        intro hm
        obtain ⟨h6, hp⟩ := hm y List.mem_cons_self
        rw [List.flatMap_cons, List.flatMap_cons, all_one k y a h6 hp, ih (fun z hz => hm z (List.mem_cons_of_mem _ hz))]
    exact key _ (fun y hy => by
      have hm := List.mem_filter.1 hy
      have h6 : y.kind = 6 := by simpa using hm.2
      exact ⟨h6, hl y hm.1 h6⟩)
/-- The answers that an item of the list gives the query, one by one. -/
theorem asked_at (a : ByteArray) (l : List Val) (i : Nat) (hi : i < l.length) (h6 : l[i].kind = 6) (j : Nat) (v : Val) (hj : (itself (fieldIn l[i].f a))[j]? = some v) : (asked a l)[(asked a (l.take i)).length + j]? = some v := by
  obtain ⟨r, hr⟩ := asked_part a l (i + 1)
  rw [hr, asked_next a l i hi, if_pos h6, List.append_assoc, List.getElem?_append_right (by omega), Nat.add_sub_cancel_left, List.getElem?_append_left ((List.getElem?_eq_some_iff.1 hj).1)]
  exact hj
theorem itself_first (v : Val) : (itself v)[0]? = some v := rfl
theorem itself_next (v : Val) (h7 : v.kind = 7) (j : Nat) (hj : j < v.l.length) : (itself v)[j + 1]? = some v.l[j] := by
  unfold itself
  rw [if_pos h7, List.getElem?_cons_succ]
  exact List.getElem?_eq_getElem hj
theorem itself_length (v : Val) : (itself v).length = 1 + (if v.kind = 7 then v.l.length else 0) := by
  unfold itself
  split <;> simp <;> omega
theorem asked_take (a : ByteArray) (l : List Val) (i : Nat) (hi : i < l.length) (h6 : l[i].kind = 6) : (asked a (l.take (i + 1))).length = (asked a (l.take i)).length + 1 + (if (fieldIn l[i].f a).kind = 7 then (fieldIn l[i].f a).l.length else 0) := by
  rw [asked_next a l i hi, if_pos h6, List.length_append, itself_length]
  omega
theorem asked_le (a : ByteArray) (l : List Val) (i : Nat) : (asked a (l.take i)).length ≤ (asked a l).length := by
  obtain ⟨r, hr⟩ := asked_part a l i
  rw [hr, List.length_append]
  omega
/-- What the query asks, by its place: an item of the row that it brings. -/
theorem asked_all (a : ByteArray) (l al : List Val) (hal : al = if asked a l = [] then [zero] else asked a l) (i : Nat) (hi : i < l.length) (h6 : l[i].kind = 6) (j : Nat) (v : Val) (hj : (itself (fieldIn l[i].f a))[j]? = some v) : al[(asked a (l.take i)).length + j]? = some v := by
  have h := asked_at a l i hi h6 j v hj
  have hne : asked a l ≠ [] := fun e => by rw [e] at h; simp at h
  rw [hal, if_neg hne]
  exact h
theorem asked_fits (a : ByteArray) (l al : List Val) (hal : al = if asked a l = [] then [zero] else asked a l) (i : Nat) : (asked a (l.take i)).length ≤ al.length := by
  have h := asked_le a l i
  rw [hal]
  split
  · rename_i e; rw [e] at h; simp at h; simp [h]
  · exact h
theorem reach_one (k : Nat) (y : Val) (a : ByteArray) (h6 : y.kind = 6) : reach (k + 1) y [a] = fieldIn y.f a := by rw [reach_doc k y a [] h6, reach_nil]
theorem reach_one_list (k : Nat) (y : Val) (a : ByteArray) (h7 : y.kind = 7) : (reach (k + 1) y [a]).kind = 7 := by rw [reach_list k y a [] h7]; rfl
end Bson
end
section
namespace Go.Proofs.YtdgncpoephdboaaDoor
open Go.RowKit
open Seal
open Bson (Val)
theorem plain_lim (k n : Int) (f : List (ByteArray × Val)) (l : List Val) (hk : -9223372036854775808 ≤ k ∧ k ≤ 9223372036854775807) (hn : -9223372036854775808 ≤ n ∧ n ≤ 9223372036854775807) (hf : f.length ≤ 1172812402961) (hl : l.length ≤ 1353245080339) : Lim (.mk k n ⟨#[]⟩ [] f l) :=
  ⟨hk.1, hk.2, hn.1, hn.2, by show (0 : Nat) ≤ _; omega, by show (0 : Nat) ≤ _; omega, hf, hl, fun c hc => by cases hc⟩
theorem leaf_in (w : World) (Q : Nat → Prop) (k n : Int) (hk : -9223372036854775808 ≤ k ∧ k ≤ 9223372036854775807) (hn : -9223372036854775808 ≤ n ∧ n ≤ 9223372036854775807) (h : Nat) :
    VIn w Q (h + 1) (.mk k n ⟨#[]⟩ [] [] []) (.agg #[.int .i64 k, .int .i64 n, .string ⟨#[]⟩, .slice none 0 0, .slice none 0 0, .slice none 0 0]) :=
  ⟨none, none, none, 0, 0, 0, rfl, plain_lim k n [] [] hk hn (by simp) (by simp), ⟨Nat.le_refl _, by omega⟩, ⟨Nat.le_refl _, by omega⟩, ⟨Nat.le_refl _, by omega⟩, .inl rfl, .inl rfl, .inl rfl⟩
theorem doc_in {w : World} {Q : Nat → Prop} {h g : Nat} {nm : ByteArray} {x : Val} {c0 c1 c2 c3 c4 c5 : Value} {t : TypeId} (hr : w.heap[g]? = some (.cells #[.string nm, c0, c1, c2, c3, c4, c5] t (0, 0))) (hq : Q g) (hnm : nm.size ≤ 140737488355328) (hx : VIn w Q h x (.agg #[c0, c1, c2, c3, c4, c5])) :
    VIn w Q (h + 1) (.mk 6 0 ⟨#[]⟩ [] [(nm, x)] []) (.agg #[.int .i64 6, .int .i64 0, .string ⟨#[]⟩, .slice none 0 0, .slice (some ⟨g, 0, none⟩) 1 1, .slice none 0 0]) := by
  refine ⟨none, some ⟨g, 0, none⟩, none, 0, 1, 0, rfl, plain_lim 6 0 _ [] (by omega) (by omega) (by simp) (by simp), ⟨Nat.le_refl _, by omega⟩, ⟨Nat.le_refl _, by omega⟩, ⟨Nat.le_refl _, by omega⟩, .inl rfl, .inr ⟨g, 0, rfl, hq, fun i hi => ?_⟩, .inl rfl⟩
  obtain rfl : i = 0 := by simp [Val.f] at hi; omega
  refine ⟨(cell_of_row _ _ 0 _ _ _ hr).trans rfl, hnm, _, ⟨c0, c1, c2, c3, c4, c5, rfl, ?_, ?_, ?_, ?_, ?_, ?_⟩, hx⟩
  · exact (cell_of_row _ _ 1 _ _ _ hr).trans rfl
  · exact (cell_of_row _ _ 2 _ _ _ hr).trans rfl
  · exact (cell_of_row _ _ 3 _ _ _ hr).trans rfl
  · exact (cell_of_row _ _ 4 _ _ _ hr).trans rfl
  · exact (cell_of_row _ _ 5 _ _ _ hr).trans rfl
  · exact (cell_of_row _ _ 6 _ _ _ hr).trans rfl
theorem three_in {w : World} {Q : Nat → Prop} {h g : Nat} {x y z : Val} {a0 a1 a2 a3 a4 a5 b0 b1 b2 b3 b4 b5 c0 c1 c2 c3 c4 c5 : Value} {t : TypeId}
    (hr : w.heap[g]? = some (.cells #[a0, a1, a2, a3, a4, a5, b0, b1, b2, b3, b4, b5, c0, c1, c2, c3, c4, c5] t (0, 0))) (hq : Q g) (hx : VIn w Q h x (.agg #[a0, a1, a2, a3, a4, a5])) (hy : VIn w Q h y (.agg #[b0, b1, b2, b3, b4, b5])) (hz : VIn w Q h z (.agg #[c0, c1, c2, c3, c4, c5])) :
    VIn w Q (h + 1) (.mk 7 0 ⟨#[]⟩ [] [] [x, y, z]) (.agg #[.int .i64 7, .int .i64 0, .string ⟨#[]⟩, .slice none 0 0, .slice none 0 0, .slice (some ⟨g, 0, none⟩) 3 3]) := by
  have e : ∀ j c, (#[a0, a1, a2, a3, a4, a5, b0, b1, b2, b3, b4, b5, c0, c1, c2, c3, c4, c5] : Array Value)[j]? = some c → w.cell? ⟨g, j, none⟩ = some c := fun j c hc => (cell_of_row _ _ j _ _ _ hr).trans hc
  refine ⟨none, none, some ⟨g, 0, none⟩, 0, 0, 3, rfl, plain_lim 7 0 [] _ (by omega) (by omega) (by simp) (by simp), ⟨Nat.le_refl _, by omega⟩, ⟨Nat.le_refl _, by omega⟩, ⟨Nat.le_refl _, by omega⟩, .inl rfl, .inl rfl, .inr ⟨g, 0, rfl, hq, fun i hi => ?_⟩⟩
  match i, hi with
  | 0, _ => exact ⟨_, ⟨a0, a1, a2, a3, a4, a5, rfl, e _ _ rfl, e _ _ rfl, e _ _ rfl, e _ _ rfl, e _ _ rfl, e _ _ rfl⟩, hx⟩
  | 1, _ => exact ⟨_, ⟨b0, b1, b2, b3, b4, b5, rfl, e _ _ rfl, e _ _ rfl, e _ _ rfl, e _ _ rfl, e _ _ rfl, e _ _ rfl⟩, hy⟩
  | 2, _ => exact ⟨_, ⟨c0, c1, c2, c3, c4, c5, rfl, e _ _ rfl, e _ _ rfl, e _ _ rfl, e _ _ rfl, e _ _ rfl, e _ _ rfl⟩, hz⟩
end Go.Proofs.YtdgncpoephdboaaDoor
end
section
namespace Go.Proofs.YtdgncpoephdboaaDoor
open Go.RowKit
open Seal
open Bson (Val)
theorem doc2_in {w : World} {Q : Nat → Prop} {h g : Nat} {na nb : ByteArray} {x y : Val} {a0 a1 a2 a3 a4 a5 b0 b1 b2 b3 b4 b5 : Value} {t : TypeId}
    (hr : w.heap[g]? = some (.cells #[.string na, a0, a1, a2, a3, a4, a5, .string nb, b0, b1, b2, b3, b4, b5] t (0, 0))) (hq : Q g) (hna : na.size ≤ 140737488355328) (hnb : nb.size ≤ 140737488355328) (hx : VIn w Q h x (.agg #[a0, a1, a2, a3, a4, a5])) (hy : VIn w Q h y (.agg #[b0, b1, b2, b3, b4, b5])) :
    VIn w Q (h + 1) (.mk 6 0 ⟨#[]⟩ [] [(na, x), (nb, y)] []) (.agg #[.int .i64 6, .int .i64 0, .string ⟨#[]⟩, .slice none 0 0, .slice (some ⟨g, 0, none⟩) 2 2, .slice none 0 0]) := by
  have e : ∀ j c, (#[.string na, a0, a1, a2, a3, a4, a5, .string nb, b0, b1, b2, b3, b4, b5] : Array Value)[j]? = some c → w.cell? ⟨g, j, none⟩ = some c := fun j c hc => (cell_of_row _ _ j _ _ _ hr).trans hc
  refine ⟨none, some ⟨g, 0, none⟩, none, 0, 2, 0, rfl, plain_lim 6 0 _ [] (by omega) (by omega) (by simp) (by simp), ⟨Nat.le_refl _, by omega⟩, ⟨Nat.le_refl _, by omega⟩, ⟨Nat.le_refl _, by omega⟩, .inl rfl, .inr ⟨g, 0, rfl, hq, fun i hi => ?_⟩, .inl rfl⟩
  match i, hi with
  | 0, _ => exact ⟨e _ _ rfl, hna, _, ⟨a0, a1, a2, a3, a4, a5, rfl, e _ _ rfl, e _ _ rfl, e _ _ rfl, e _ _ rfl, e _ _ rfl, e _ _ rfl⟩, hx⟩
  | 1, _ => exact ⟨e _ _ rfl, hnb, _, ⟨b0, b1, b2, b3, b4, b5, rfl, e _ _ rfl, e _ _ rfl, e _ _ rfl, e _ _ rfl, e _ _ rfl, e _ _ rfl⟩, hy⟩
/-- While the documents are built: the box g holds y; what y reaches lies elsewhere. -/
structure NSt (wb W : World) (g hh : Nat) (y : Val) (c0 c1 c2 c3 c4 c5 : Value) : Prop where
  below : Below g wb W
  box : IsBox W g c0 c1 c2 c3 c4 c5
  val : VIn W (fun b => b ≠ g) (hh + 2) y (.agg #[c0, c1, c2, c3, c4, c5])
theorem NSt.step {wb wd W5 : World} {g hh : Nat} {y : Val} {c0 c1 c2 c3 c4 c5 : Value} (s : NSt wb wd g hh y c0 c1 c2 c3 c4 c5) {na nb : ByteArray} (hna : na.size ≤ 140737488355328) (hnb : nb.size ≤ 140737488355328) (t : TypeId)
    (hW : W5 = puts wd g 0 [.int .i64 6, .int .i64 0, .string ⟨#[]⟩, .slice none 0 0, .slice (some ⟨wd.heap.size, 0, none⟩) 2 2, .slice none 0 0]) :
    NSt wb (W5.alloc (.cells #[.string na, .int .i64 2, .int .i64 0, .string ⟨#[]⟩, .slice none 0 0, .slice none 0 0, .slice none 0 0, .string nb, c0, c1, c2, c3, c4, c5] t)) g (hh + 1) (.mk 6 0 ⟨#[]⟩ [] [(na, .mk 2 0 ⟨#[]⟩ [] [] []), (nb, y)] [])
      (.int .i64 6) (.int .i64 0) (.string ⟨#[]⟩) (.slice none 0 0) (.slice (some ⟨wd.heap.size, 0, none⟩) 2 2) (.slice none 0 0) := by
  have hsz : W5.heap.size = wd.heap.size := by rw [hW]; exact puts_size g _ wd 0
  have hg := s.box.lt
  have hbox : IsBox W5 g (.int .i64 6) (.int .i64 0) (.string ⟨#[]⟩) (.slice none 0 0) (.slice (some ⟨wd.heap.size, 0, none⟩) 2 2) (.slice none 0 0) := by rw [hW]; exact s.box.put _ _ _ _ _ _
  have hb1 : Below g wb W5 := by rw [hW]; exact puts_below s.below (Nat.le_refl _) _ _
  have hk : Kept (fun b => b ≠ g) wd W5 := fun b hb _ => by rw [hW]; exact puts_other g b hb _ _ _
  have hb2 : Below W5.heap.size W5 (W5.alloc (.cells #[.string na, .int .i64 2, .int .i64 0, .string ⟨#[]⟩, .slice none 0 0, .slice none 0 0, .slice none 0 0, .string nb, c0, c1, c2, c3, c4, c5] t)) := (Below.refl _ _).alloc (Nat.le_refl _) _
  have hv : VIn (W5.alloc (.cells #[.string na, .int .i64 2, .int .i64 0, .string ⟨#[]⟩, .slice none 0 0, .slice none 0 0, .slice none 0 0, .string nb, c0, c1, c2, c3, c4, c5] t)) (fun b => b ≠ g) (hh + 2) y (.agg #[c0, c1, c2, c3, c4, c5]) := VIn.keep hb2 (VIn.kept hk (fun _ z => z) s.val)
  refine ⟨hb1.alloc (by omega) _, hbox.keep hb2, ?_⟩
  have hnew := heap_alloc_new W5 (.cells #[.string na, .int .i64 2, .int .i64 0, .string ⟨#[]⟩, .slice none 0 0, .slice none 0 0, .slice none 0 0, .string nb, c0, c1, c2, c3, c4, c5] t)
  rw [hsz] at hnew
  exact doc2_in (h := hh + 2) (t := t) hnew (show wd.heap.size ≠ g by omega) hna hnb (leaf_in _ _ 2 0 (by omega) (by omega) (hh + 1)) hv
theorem step_cell {wd W5 : World} {g b q : Nat} {u : Value} {d : List Value} (o : Obj) (hb : b ≠ g) (h : wd.cell? ⟨b, q, none⟩ = some u) (hW : W5 = puts wd g 0 d) : (W5.alloc o).cell? ⟨b, q, none⟩ = some u := by
  have hk : Kept (fun b => b ≠ g) wd W5 := fun b hb _ => by rw [hW]; exact puts_other g b hb _ _ _
  exact cell_keep ((Below.refl _ W5).alloc (Nat.le_refl _) _) (hk.cell hb h)
end Go.Proofs.YtdgncpoephdboaaDoor
end
section
namespace Go.Proofs.YtdgncpoephdboaaDoor
open Go.RowKit
open Seal
open Bson (Val)
theorem infoF7 : (Tryd.prog.info? 32).map (fun i => (i.zero, i.size, i.bytes)) = some (some (.agg #[.string ⟨#[]⟩, .int .i64 0, .int .i64 0, .string ⟨#[]⟩, .slice none 0 0, .slice none 0 0, .slice none 0 0]), 7, 120) := by kernel_rfl
theorem run_makeFlds (n : Nat) (hn : n ≤ 1172812402961) (u : World) : (Instr.makeSlice 24 (.int .i64 (n : Int)) (.int .i64 (n : Int))).run Tryd.prog u = .ok (.slice (some ⟨u.heap.size, 0, none⟩) n n) (u.alloc (.cells (madeCells #[.string ⟨#[]⟩, .int .i64 0, .int .i64 0, .string ⟨#[]⟩, .slice none 0 0, .slice none 0 0, .slice none 0 0] (n * 7)) 32)) := by
  obtain ⟨i0, hi, hz0, hz1, hz2⟩ := info_parts infoF7
  have h := run_make (P := Tryd.prog) u 24 32 i0 (.agg #[.string ⟨#[]⟩, .int .i64 0, .int .i64 0, .string ⟨#[]⟩, .slice none 0 0, .slice none 0 0, .slice none 0 0]) Tryd.underlying24 hi hz0 .i64 .i64 (n : Int) (n : Int) (by omega) (Int.le_refl _) (by rw [hz2]; omega) (by omega)
  rw [Int.toNat_natCast] at h
  simpa [hz1, Value.cells] using h
set_option maxRecDepth 100000 in
set_option maxHeartbeats 1000000 in
theorem eachF_any (Q : Nat → Prop) (h : Nat) (IH0 : CopyAt Q h) (a : Option Addr) (n c : Nat) (f : List (ByteArray × Val)) (w : World) (hn : f.length = n) (hnb : n ≤ 1172812402961) (hI : FieldsIn w Q (VIn w Q h) a f) :
    Calls Tryd.prog 39 #[.slice a n c, .func (.func 40) #[] #[]] w fun e w' => ∃ a' c', e = .returned (.slice a' n c') ∧ (n ≤ c' ∧ c' ≤ 9223372036854775807) ∧ FieldsIn w' (fun g => w.heap.size ≤ g) (VIn w' (fun g => w.heap.size ≤ g) h) a' f ∧ Below w.heap.size w w' := by
  have IH := Lib.hid (fun nm x c0 c1 c2 c3 c4 c5 w hv => copyfield_any Q h IH0 nm x c0 c1 c2 c3 c4 c5 w hv)
  have HI := Lib.hid hI
  have HN := Lib.hid hn
  have HNL : Hid (∀ i (hi : i < f.length), f[i].1.size ≤ 140737488355328) := by
    intro i hi
    rcases hI with h | ⟨g, o, _, _, h⟩
    · rw [h] at hi; simp at hi
    · exact (h i hi).2.1
  clear hI IH0 hn
  have hmk := run_makeFlds n hnb
  have he := fun u : World => Lib.run_eql_slice_nil (P := Tryd.prog) u 24 32 a n c 0 0 Tryd.underlying24
  cases a with
  | none =>
    have hnil : f = [] := by
      rcases HI.out with h | ⟨g, o, e, _⟩
      · exact h
      · cases e
    have hn0 : n = 0 := by rw [← HN.out, hnil]; rfl
    subst hn0
    have HNIL := Lib.hid hnil
    clear hnil
    go_enter Tryd.func39, Tryd.ntmps39
    go_wp2_with fail
    go_ret
    exact ⟨none, 0, rfl, ⟨Nat.le_refl _, by omega⟩, .inl HNIL.out, Below.refl _ _⟩
  | some p =>
    go_enter Tryd.func39, Tryd.ntmps39
    go_wp2_with fail
    go_loopw [15] (fun i wr => ∃ k : Nat, i = .int .i64 k ∧ k ≤ n ∧ Hid (Row6 wr w.heap.size 32 (n * 7)) ∧ Hid (Flds wr w.heap.size h f k) ∧ Hid (Below w.heap.size w wr)) (fun i _ => n - (intOf i).toNat)
    case atStart => exact ⟨0, rfl, Nat.zero_le _, ⟨_, heap_alloc_new w _, size_madeCells _ _⟩, Flds.none _ _ _ _, (Below.refl _ w).alloc (Nat.le_refl _) _⟩
    case round =>
      obtain ⟨k, rfl, hk, HR, HVS, HB⟩ := hrel
      by_cases hlt : k < n
      · obtain ⟨g, o, hla, _, hall⟩ := HI.out.resolve_left (fun e => by have := HN.out; rw [e] at this; simp at this; omega)
        obtain ⟨hnm, hns, v', hsix, hV⟩ := hall k (by have := HN.out; omega)
        obtain rfl := Option.some.inj hla
        obtain ⟨ka, na, sa, ba, fa, la, bl, bc, fl, fc, ll, lc, rfl⟩ := hV.shape
        have HV := Lib.hid (VIn.keep HB.out hV)
        obtain ⟨s0, s1, s2, s3, s4, s5⟩ := (hsix.keep HB.out).cells
        obtain ⟨nm, hnme⟩ : ∃ nm, nm = (f[k]'(by have := HN.out; omega)).1 := ⟨_, rfl⟩
        have HNM := Lib.hid hnme
        clear hnme
        have s6 : wr.cell? ⟨g, o + k * 7, none⟩ = some (.string nm) := by rw [HNM.out]; exact cell_keep HB.out hnm
        have HNS : Hid (nm.size ≤ 140737488355328) := by rw [HNM.out]; exact hns
        clear hall hsix hV hnm hns
        go_wp2_with fail
        have HVa := Lib.hid (VIn.keep ((Below.refl _ wr).alloc (Nat.le_refl _) (.cells #[.string nm, .int .i64 ka, .int .i64 na, .string sa, .slice ba bl bc, .slice fa fl fc, .slice la ll lc] 32)) HV.out)
        refine (IH.out nm _ _ _ _ _ _ _ _ HVa.out).mono ?_
        rintro e w2 ⟨e0, e1, e2, e3, e4, e5, rfl, hv2, hb2⟩
        obtain ⟨kd, nd, sd, bd, fd, ld, bm, bz, fm, fz, lm, lz, hsh⟩ := hv2.shape
        injection hsh with hsh
        injection hsh with hsh
        injection hsh with x0 hsh; injection hsh with x1 hsh; injection hsh with x2 hsh; injection hsh with x3 hsh; injection hsh with x4 hsh; injection hsh with x5 hsh
        subst x0 x1 x2 x3 x4 x5
        clear hsh
        have HB2 : Hid (Below wr.heap.size wr w2) := ((Below.refl _ wr).alloc (Nat.le_refl _) _).trans (hb2.mono (by simp))
        have HR2 := Lib.hid (HR.out.keep HB2.out)
        have HVS2 := Lib.hid (HVS.out.keep HB2.out)
        have HBw2 : Hid (Below w.heap.size w w2) := HB.out.trans (HB2.out.mono HB.out.size)
        have hGlt : w.heap.size < wr.heap.size := HR.out.lt
        have HV2 : Hid (VIn w2 (fun g => w.heap.size < g) h (f[k]'(by have := HN.out; omega)).2 (.agg #[.int .i64 kd, .int .i64 nd, .string sd, .slice bd bm bz, .slice fd fm fz, .slice ld lm lz])) := hv2.kept (Kept.of_below (Below.refl _ _)) (fun g hg => by simp at hg; omega)
        clear hv2 hb2
        obtain ⟨⟨z0, g0⟩, f0⟩ := HR2.out.at (j := k * 7) (by omega)
        obtain ⟨⟨z1, g1⟩, f1⟩ := HR2.out.at (j := k * 7 + 1) (by omega)
        obtain ⟨⟨z2, g2⟩, f2⟩ := HR2.out.at (j := k * 7 + 2) (by omega)
        obtain ⟨⟨z3, g3⟩, f3⟩ := HR2.out.at (j := k * 7 + 3) (by omega)
        obtain ⟨⟨z4, g4⟩, f4⟩ := HR2.out.at (j := k * 7 + 4) (by omega)
        obtain ⟨⟨z5, g5⟩, f5⟩ := HR2.out.at (j := k * 7 + 5) (by omega)
        obtain ⟨⟨z6, g6⟩, f6⟩ := HR2.out.at (j := k * 7 + 6) (by omega)
        have HN2 : Hid (Flds (puts w2 w.heap.size (k * 7) [.string nm, .int .i64 kd, .int .i64 nd, .string sd, .slice bd bm bz, .slice fd fm fz, .slice ld lm lz]) w.heap.size h f (k + 1)) := by
          have := HVS2.out.put HR2.out (by have := HN.out; omega) (by rw [HN.out]) HV2.out
          rw [← HNM.out] at this
          exact this
        have HR3 := Lib.hid (HR2.out.puts (k * 7) [.string nm, .int .i64 kd, .int .i64 nd, .string sd, .slice bd bm bz, .slice fd fm fz, .slice ld lm lz] (by simp; omega)).1
        have HB3 := Lib.hid (puts_below HBw2.out (G := w.heap.size) (Nat.le_refl _) [.string nm, .int .i64 kd, .int .i64 nd, .string sd, .slice bd bm bz, .slice fd fm fz, .slice ld lm lz] (k * 7))
        clear s0 s1 s2 s3 s4 s5 s6 HV HVa HVS HR HB
        go_wp2_with fail
        go_roundw
        case rel => exact ⟨k + 1, by go_num, by omega, HR3, HN2, HB3⟩
        case measure => simp [intOf]; omega
      · have hkk : k = n := by omega
        subst hkk
        go_wp2_with fail
        go_ret
        refine ⟨some ⟨w.heap.size, 0, none⟩, k, rfl, ⟨Nat.le_refl _, by omega⟩, .inr ⟨w.heap.size, 0, rfl, Nat.le_refl _, fun i hi => ?_⟩, HB.out⟩
        obtain ⟨h0, v, h1, h2⟩ := HVS.out i hi (by rw [← HN.out]; exact hi)
        rw [Nat.zero_add]
        exact ⟨h0, HNL.out i hi, v, h1, h2.kept (Kept.of_below (Below.refl _ _)) (fun g hg => Nat.le_of_lt hg)⟩
end Go.Proofs.YtdgncpoephdboaaDoor
end
section
namespace Go.Proofs.YtdgncpoephdboaaDoor
open Go.RowKit
open Seal
open Bson (Val)
theorem infoV6 : (Tryd.prog.info? 27).map (fun i => (i.zero, i.size, i.bytes)) = some (some (.agg #[.int .i64 0, .int .i64 0, .string ⟨#[]⟩, .slice none 0 0, .slice none 0 0, .slice none 0 0]), 6, 104) := by kernel_rfl
theorem run_makeVals (n : Nat) (hn : n ≤ 1353245080339) (u : World) : (Instr.makeSlice 25 (.int .i64 (n : Int)) (.int .i64 (n : Int))).run Tryd.prog u = .ok (.slice (some ⟨u.heap.size, 0, none⟩) n n) (u.alloc (.cells (madeCells #[.int .i64 0, .int .i64 0, .string ⟨#[]⟩, .slice none 0 0, .slice none 0 0, .slice none 0 0] (n * 6)) 27)) := by
  obtain ⟨i0, hi, hz0, hz1, hz2⟩ := info_parts infoV6
  have h := run_make (P := Tryd.prog) u 25 27 i0 (.agg #[.int .i64 0, .int .i64 0, .string ⟨#[]⟩, .slice none 0 0, .slice none 0 0, .slice none 0 0]) Tryd.underlying25 hi hz0 .i64 .i64 (n : Int) (n : Int) (by omega) (Int.le_refl _) (by rw [hz2]; omega) (by omega)
  rw [Int.toNat_natCast] at h
  simpa [hz1, Value.cells] using h
set_option maxRecDepth 100000 in
set_option maxHeartbeats 1000000 in
theorem eachV_any (Q : Nat → Prop) (h : Nat) (IH0 : CopyAt Q h) (a : Option Addr) (n c : Nat) (l : List Val) (w : World) (hn : l.length = n) (hnb : n ≤ 1353245080339) (hI : ItemsIn w Q (VIn w Q h) a l) :
    Calls Tryd.prog 41 #[.slice a n c, .func (.func 21) #[] #[]] w fun e w' => ∃ a' c', e = .returned (.slice a' n c') ∧ (n ≤ c' ∧ c' ≤ 9223372036854775807) ∧ ItemsIn w' (fun g => w.heap.size ≤ g) (VIn w' (fun g => w.heap.size ≤ g) h) a' l ∧ Below w.heap.size w w' := by
  have IH := Lib.hid IH0
  have HI := Lib.hid hI
  have HN := Lib.hid hn
  clear hI IH0 hn
  have hmk := run_makeVals n hnb
  have he := fun u : World => Lib.run_eql_slice_nil (P := Tryd.prog) u 25 27 a n c 0 0 Tryd.underlying25
  cases a with
  | none =>
    have hnil : l = [] := by
      rcases HI.out with h | ⟨g, o, e, _⟩
      · exact h
      · cases e
    have hn0 : n = 0 := by rw [← HN.out, hnil]; rfl
    subst hn0
    have HNIL := Lib.hid hnil
    clear hnil
    go_enter Tryd.func41, Tryd.ntmps41
    go_wp2_with fail
    go_ret
    exact ⟨none, 0, rfl, ⟨Nat.le_refl _, by omega⟩, .inl HNIL.out, Below.refl _ _⟩
  | some p =>
    go_enter Tryd.func41, Tryd.ntmps41
    go_wp2_with fail
    go_loopw [15] (fun i wr => ∃ k : Nat, i = .int .i64 k ∧ k ≤ n ∧ Hid (Row6 wr w.heap.size 27 (n * 6)) ∧ Hid (Vals wr w.heap.size h l k) ∧ Hid (Below w.heap.size w wr)) (fun i _ => n - (intOf i).toNat)
    case atStart => exact ⟨0, rfl, Nat.zero_le _, ⟨_, heap_alloc_new w _, size_madeCells _ _⟩, Vals.none _ _ _ _, (Below.refl _ w).alloc (Nat.le_refl _) _⟩
    case round =>
      obtain ⟨k, rfl, hk, HR, HVS, HB⟩ := hrel
      by_cases hlt : k < n
      · obtain ⟨g, o, hla, _, hall⟩ := HI.out.resolve_left (fun e => by have := HN.out; rw [e] at this; simp at this; omega)
        obtain ⟨v', hsix, hV⟩ := hall k (by have := HN.out; omega)
        obtain rfl := Option.some.inj hla
        obtain ⟨ka, na, sa, ba, fa, la, bl, bc, fl, fc, ll, lc, rfl⟩ := hV.shape
        have HV := Lib.hid (VIn.keep HB.out hV)
        obtain ⟨s0, s1, s2, s3, s4, s5⟩ := (hsix.keep HB.out).cells
        clear hall hsix hV
        go_wp2_with fail
        have HVa := Lib.hid (VIn.keep ((Below.refl _ wr).alloc (Nat.le_refl _) (.cells #[.int .i64 ka, .int .i64 na, .string sa, .slice ba bl bc, .slice fa fl fc, .slice la ll lc] 27)) HV.out)
        refine (IH.out _ _ _ HVa.out).mono ?_
        rintro e w2 ⟨v2, rfl, hv2, hb2⟩
        obtain ⟨kd, nd, sd, bd, fd, ld, bm, bz, fm, fz, lm, lz, rfl⟩ := hv2.shape
        have HB2 : Hid (Below wr.heap.size wr w2) := ((Below.refl _ wr).alloc (Nat.le_refl _) _).trans (hb2.mono (by simp))
        have HR2 := Lib.hid (HR.out.keep HB2.out)
        have HVS2 := Lib.hid (HVS.out.keep HB2.out)
        have HBw2 : Hid (Below w.heap.size w w2) := HB.out.trans (HB2.out.mono HB.out.size)
        have hGlt : w.heap.size < wr.heap.size := HR.out.lt
        have HV2 : Hid (VIn w2 (fun g => w.heap.size < g) h (l[k]'(by have := HN.out; omega)) (.agg #[.int .i64 kd, .int .i64 nd, .string sd, .slice bd bm bz, .slice fd fm fz, .slice ld lm lz])) := hv2.kept (Kept.of_below (Below.refl _ _)) (fun g hg => by simp at hg; omega)
        clear hv2 hb2
        obtain ⟨⟨z0, g0⟩, f0⟩ := HR2.out.at (j := k * 6) (by omega)
        obtain ⟨⟨z1, g1⟩, f1⟩ := HR2.out.at (j := k * 6 + 1) (by omega)
        obtain ⟨⟨z2, g2⟩, f2⟩ := HR2.out.at (j := k * 6 + 2) (by omega)
        obtain ⟨⟨z3, g3⟩, f3⟩ := HR2.out.at (j := k * 6 + 3) (by omega)
        obtain ⟨⟨z4, g4⟩, f4⟩ := HR2.out.at (j := k * 6 + 4) (by omega)
        obtain ⟨⟨z5, g5⟩, f5⟩ := HR2.out.at (j := k * 6 + 5) (by omega)
        have HN2 : Hid (Vals (puts w2 w.heap.size (k * 6) [.int .i64 kd, .int .i64 nd, .string sd, .slice bd bm bz, .slice fd fm fz, .slice ld lm lz]) w.heap.size h l (k + 1)) := HVS2.out.put HR2.out (by have := HN.out; omega) (by rw [HN.out]) HV2.out
        have HR3 := Lib.hid (HR2.out.puts (k * 6) [.int .i64 kd, .int .i64 nd, .string sd, .slice bd bm bz, .slice fd fm fz, .slice ld lm lz] (by simp; omega)).1
        have HB3 := Lib.hid (puts_below HBw2.out (G := w.heap.size) (Nat.le_refl _) [.int .i64 kd, .int .i64 nd, .string sd, .slice bd bm bz, .slice fd fm fz, .slice ld lm lz] (k * 6))
        clear s0 s1 s2 s3 s4 s5 HV HVa HVS HR HB
        go_wp2_with fail
        go_roundw
        case rel => exact ⟨k + 1, by go_num, by omega, HR3, HN2, HB3⟩
        case measure => simp [intOf]; omega
      · have hkk : k = n := by omega
        subst hkk
        go_wp2_with fail
        go_ret
        refine ⟨some ⟨w.heap.size, 0, none⟩, k, rfl, ⟨Nat.le_refl _, by omega⟩, .inr ⟨w.heap.size, 0, rfl, Nat.le_refl _, fun i hi => ?_⟩, HB.out⟩
        obtain ⟨v, h1, h2⟩ := HVS.out i hi (by rw [← HN.out]; exact hi)
        rw [Nat.zero_add]
        exact ⟨v, h1, h2.kept (Kept.of_below (Below.refl _ _)) (fun g hg => Nat.le_of_lt hg)⟩
end Go.Proofs.YtdgncpoephdboaaDoor
end
