/- AN ITEM, A PILE OF THEM, A TOP: what stands in memory (no walk). -/
import Derived.Test.YtfkkckadnookoaaTopMath
import Derived.Test.YtfkkckadnookoaaBytesStr
import Derived.Test.YtfkkckadnookoaaWrote
import Derived.Test.YtfkkckadnookoaaRm
import Derived.Test.YtfkkckadnookoaaPuts
namespace Go.Proofs.Ytfkkckadnookoaa
open Go.RowKit
open Seal
/-- v is a slice of the bytes l, which lie where Q says. -/
structure SlQ (w : World) (Q : Nat → Prop) (v : Value) (l : List Nat) : Prop where
  shp : ∃ a c, v = .slice a l.length c ∧ (l.length ≤ c ∧ c ≤ 9223372036854775807) ∧ (l = [] ∨ ∃ g o, a = some ⟨g, o, none⟩ ∧ Q g ∧ Reads w g o l)
  oct : Oct l
  lim : l.length ≤ 10000
section
variable {w w' : World} {Q Q' : Nat → Prop} {v : Value} {l : List Nat}
theorem SlQ.keep (h : SlQ w Q v l) (hb : ∀ g, Q g → g < w.heap.size → w'.heap[g]? = w.heap[g]?) (hq : ∀ g, Q g → g < w.heap.size → Q' g) : SlQ w' Q' v l := by
  obtain ⟨⟨a, c, e, hc, hr⟩, ho, hl⟩ := h
  refine ⟨⟨a, c, e, hc, ?_⟩, ho, hl⟩
  rcases hr with rfl | ⟨g, o, rfl, hg, hr⟩
  · exact .inl rfl
  · by_cases h0 : l = []
    · exact .inl h0
    · have hlen : 0 < l.length := List.length_pos_iff.2 h0
      have hgs : g < w.heap.size := World.block_lt_of_cell? w _ (hr 0 hlen)
      exact .inr ⟨g, o, rfl, hq g hg hgs, fun j hj => (World.cell?_of_block (a := ⟨g, o + j, none⟩) (hb g hg hgs)).trans (hr j hj)⟩
theorem SlQ.below (h : SlQ w Q v l) (hb : Below w.heap.size w w') : SlQ w' Q v l := h.keep (fun g _ hg => hb.block g hg) (fun _ h _ => h)
theorem SlQ.mono (h : SlQ w Q v l) (hq : ∀ g, Q g → g < w.heap.size → Q' g) : SlQ w Q' v l := h.keep (fun _ _ _ => rfl) hq
theorem SlQ.is (h : SlQ w Q v l) : ∃ a c, v = .slice a l.length c ∧ SliceIs w a l := by
  obtain ⟨⟨a, c, e, hc, hr⟩, ho, hl⟩ := h
  refine ⟨a, c, e, ?_⟩
  rcases hr with rfl | ⟨g, o, rfl, hg, hr⟩
  · exact .inl rfl
  · exact .inr ⟨g, o, rfl, hr⟩
end
/-- An item that is kept: its key's and its data's slices, what they hold, when it came. -/
structure Rk where
  kv : Value
  dv : Value
  c : Nat
  k : List Nat
  d : List Nat
instance : Inhabited Rk := ⟨⟨.slice none 0 0, .slice none 0 0, 0, [], []⟩⟩
def Rk.cells (r : Rk) : List Value := [r.kv, r.dv, .int .i64 r.c]
def Rk.it (r : Rk) : List Nat × List Nat := (r.k, r.d)
def flat (d : List Rk) : List Value := d.flatMap Rk.cells
theorem flat_length : ∀ d : List Rk, (flat d).length = d.length * 3
  | [] => rfl
  | r :: d => by
    show (r.cells ++ flat d).length = _
    rw [List.length_append, flat_length d, List.length_cons]
    show 3 + _ = _
    omega
theorem flat_get : ∀ (d : List Rk) (k j : Nat), j < 3 → (flat d)[k * 3 + j]? = d[k]?.bind fun r => r.cells[j]?
  | [], _, _, _ => rfl
  | r :: d, 0, j, hj => by
    show (r.cells ++ flat d)[0 * 3 + j]? = _
    rw [Nat.zero_mul, Nat.zero_add, List.getElem?_append_left (show j < 3 from hj)]; rfl
  | r :: d, k + 1, j, hj => by
    show (r.cells ++ flat d)[(k + 1) * 3 + j]? = _
    rw [List.getElem?_append_right (show (3 : Nat) ≤ _ by omega), show (k + 1) * 3 + j - r.cells.length = k * 3 + j by show _ - 3 = _; omega, flat_get d k j hj]
    rfl
theorem flat_append (a b : List Rk) : flat (a ++ b) = flat a ++ flat b := by unfold flat; rw [List.flatMap_append]
open Order in
def cf (a b : Rk) : Int := if octs a.k b.k = 0 then sgn (a.c : Int) (b.c : Int) else octs a.k b.k
open Order in
theorem cf_cmp : IsCmp cf :=
  IsCmp.next (c := fun a b : Rk => octs a.k b.k) (d := fun (_ : Unit) (a b : Rk) => sgn (a.c : Int) (b.c : Int)) (octs_cmp.on Rk.k) (fun _ => IsCmp.sgn.on fun r : Rk => (r.c : Int)) (fun _ => ()) (fun _ _ _ => rfl)
def ck (a b : List Nat × List Nat) : Int := Order.octs a.1 b.1
theorem ck_cmp : Order.IsCmp ck := Order.octs_cmp.on Prod.fst
structure RkIn (w : World) (Q : Nat → Prop) (r : Rk) : Prop where
  k : SlQ w Q r.kv r.k
  d : SlQ w Q r.dv r.d
  c : r.c ≤ 1000000
/-- A row of kept items in block g, with room for cap. -/
structure RowAt (w : World) (g cap : Nat) (d : List Rk) : Prop where
  cur : ∃ cs, w.heap[g]? = some (.cells cs 49 (0, 0)) ∧ cs.size = cap * 3 ∧ ∀ k j, k < d.length → j < 3 → cs[k * 3 + j]? = d[k]?.bind fun r => r.cells[j]?
  cap : d.length ≤ cap ∧ cap ≤ maxLen
section
variable {w w' : World} {g cap base n : Nat} {d : List Rk} {v : Value}
theorem row_of (h : w.ownsRow base 49 3 (.slice (some ⟨g, 0, none⟩) n cap) d.length (flat d)) : RowAt w g cap d ∧ n = d.length ∧ base ≤ g := by
  obtain ⟨hx, ⟨h0, _⟩ | ⟨b, c, cs, e, hg, hr, hc, hm, hs, ht⟩⟩ := h
  · cases h0
  · cases e
    refine ⟨⟨⟨cs, hr, hs, fun k j hk hj => ?_⟩, hc, hm⟩, rfl, hg⟩
    rw [← flat_get d k j hj, ← ht, List.getElem?_take_of_lt (by omega), Array.getElem?_toList]
theorem RowAt.owns (h : RowAt w g cap d) (hb : base ≤ g) : w.ownsRow base 49 3 (.slice (some ⟨g, 0, none⟩) d.length cap) d.length (flat d) := by
  obtain ⟨⟨cs, hr, hs, ha⟩, hc, hm⟩ := h
  refine ⟨flat_length d, .inr ⟨g, cap, cs, rfl, hb, hr, hc, hm, hs, ?_⟩⟩
  apply List.ext_getElem?
  intro i
  rw [List.getElem?_take, Array.getElem?_toList]
  by_cases hi : i < d.length * 3
  · rw [if_pos hi]
    have := ha (i / 3) (i % 3) (by omega) (by omega)
    rw [← flat_get d (i / 3) (i % 3) (by omega)] at this
    rwa [show i / 3 * 3 + i % 3 = i by omega] at this
  · rw [if_neg hi, List.getElem?_eq_none (by rw [flat_length]; omega)]
theorem RowAt.cell (h : RowAt w g cap d) {i : Nat} (hi : i < d.length) : w.cell? ⟨g, i * 3, none⟩ = some d[i].kv ∧ w.cell? ⟨g, i * 3 + 1, none⟩ = some d[i].dv ∧ w.cell? ⟨g, i * 3 + 2, none⟩ = some (.int .i64 d[i].c) := by
  obtain ⟨⟨cs, hr, hs, ha⟩, hc, hm⟩ := h
  have e : ∀ j, j < 3 → w.cell? ⟨g, i * 3 + j, none⟩ = d[i].cells[j]? := fun j hj => by
    rw [cell_of_row w g _ _ _ _ hr, ha i j hi hj, List.getElem?_eq_getElem hi]; rfl
  exact ⟨e 0 (by omega), e 1 (by omega), e 2 (by omega)⟩
theorem RowAt.frozen (h : RowAt w g cap d) (o : Nat) : w.frozen? ⟨g, o, none⟩ = false := by
  obtain ⟨⟨cs, hr, _⟩, _⟩ := h
  exact frozen_of_row w g o _ _ hr
theorem RowAt.same (h : RowAt w g cap d) (e : w'.heap[g]? = w.heap[g]?) : RowAt w' g cap d := by
  obtain ⟨⟨cs, hr, h1⟩, h2⟩ := h
  exact ⟨⟨cs, e.trans hr, h1⟩, h2⟩
theorem RowAt.lt (h : RowAt w g cap d) : g < w.heap.size := by
  obtain ⟨⟨cs, hr, h1⟩, h2⟩ := h
  exact (Array.getElem?_eq_some_iff.1 hr).1
theorem RowAt.set (h : RowAt w g cap d) {i : Nat} (hi : i < d.length) (r : Rk) : RowAt (puts w g (i * 3) [r.kv, r.dv, .int .i64 r.c]) g cap (d.set i r) := by
  obtain ⟨⟨cs, hr, hs, ha⟩, hc, hm⟩ := h
  obtain ⟨ds, h1, h2, h3, h4, h5⟩ := puts_same g 49 [r.kv, r.dv, .int .i64 r.c] w (i * 3) cs hr
  refine ⟨⟨ds, h1, h2.trans hs, fun k j hk hj => ?_⟩, by rw [List.length_set]; exact hc, hm⟩
  rw [List.length_set] at hk
  rw [List.getElem?_set]
  by_cases e : i = k
  · subst e
    rw [if_pos rfl, if_pos hi, h5 (by rw [hs]; show i * 3 + 3 ≤ _; omega) j hj]; rfl
  · rw [if_neg e, ← ha k j hk hj]
    rcases Nat.lt_or_ge k i with hlt | hge
    · exact h3 _ (by omega)
    · exact h4 _ (by show i * 3 + 3 ≤ _; omega)
end
/-- What a pile's changes write. -/
def PF (p : Nat) (v : Value) (g : Nat) : Prop := g = p ∨ v.ownBlock = some g
/-- A Top in block p: how many at most, the row of what is kept, how many came, the size. -/
structure PileAt (w : World) (p : Nat) (m c s : Int) (v : Value) (d : List Rk) : Prop where
  blk : w.heap[p]? = some (.cells #[.int .i64 m, v, .int .i64 c, .int .i64 s] 45 (0, 0))
  own : w.ownsRow (p + 1) 49 3 v d.length (flat d)
  el : ∀ r ∈ d, RkIn w (fun g => ¬ PF p v g) r
section
variable {w w' : World} {p : Nat} {m c s : Int} {v v' : Value} {d : List Rk}
theorem RkIn.keep {Q Q' : Nat → Prop} {r : Rk} (h : RkIn w Q r) (hb : ∀ g, Q g → g < w.heap.size → w'.heap[g]? = w.heap[g]?) (hq : ∀ g, Q g → g < w.heap.size → Q' g) : RkIn w' Q' r := ⟨h.k.keep hb hq, h.d.keep hb hq, h.c⟩
theorem PileAt.keep (h : PileAt w p m c s v d) (hb : Below w.heap.size w w') : PileAt w' p m c s v d :=
  ⟨(hb.block p (Array.getElem?_eq_some_iff.1 h.blk).1).trans h.blk, owns_below h.own hb, fun r hr => (h.el r hr).keep (fun g _ hg => hb.block g hg) (fun _ h _ => h)⟩
theorem PileAt.lt (h : PileAt w p m c s v d) : p < w.heap.size := (Array.getElem?_eq_some_iff.1 h.blk).1
theorem PileAt.cells (h : PileAt w p m c s v d) : w.cell? ⟨p, 0, none⟩ = some (.int .i64 m) ∧ w.cell? ⟨p, 1, none⟩ = some v ∧ w.cell? ⟨p, 2, none⟩ = some (.int .i64 c) ∧ w.cell? ⟨p, 3, none⟩ = some (.int .i64 s) :=
  ⟨(cell_of_row w p 0 _ _ _ h.blk).trans rfl, (cell_of_row w p 1 _ _ _ h.blk).trans rfl, (cell_of_row w p 2 _ _ _ h.blk).trans rfl, (cell_of_row w p 3 _ _ _ h.blk).trans rfl⟩
theorem PileAt.frozen (h : PileAt w p m c s v d) (o : Nat) : w.frozen? ⟨p, o, none⟩ = false := frozen_of_row w p o _ _ h.blk
theorem PileAt.row (h : PileAt w p m c s v d) (h0 : 0 < d.length) : ∃ g cap, v = .slice (some ⟨g, 0, none⟩) d.length cap ∧ p < g ∧ RowAt w g cap d := by
  have h1 := h.own
  obtain ⟨hx, ⟨h2, h3⟩ | ⟨b, cap, cs, e, hg, hr⟩⟩ := h.own
  · omega
  · subst e
    obtain ⟨q1, _, q3⟩ := row_of h1
    exact ⟨b, cap, rfl, by omega, q1⟩
theorem PileAt.shape (h : PileAt w p m c s v d) : ∃ a cap, v = .slice a d.length cap := by
  obtain ⟨hx, ⟨h2, h3⟩ | ⟨b, cap, cs, e, hg, hr⟩⟩ := h.own
  · exact ⟨none, 0, by rw [h2, h3]⟩
  · exact ⟨_, cap, e⟩
/-- The row is another one in the same block, of the same items. -/
theorem PileAt.turned {g cap : Nat} {d' : List Rk} (h : PileAt w p m c s (.slice (some ⟨g, 0, none⟩) d.length cap) d) (hr : RowAt w' g cap d') (hl : d'.length = d.length) (hm : ∀ r ∈ d', r ∈ d) (hg : p < g)
    (hb : RM (fun k => k = g) w w') : PileAt w' p m c s (.slice (some ⟨g, 0, none⟩) d.length cap) d' := by
  have hF : ∀ k, ¬ PF p (.slice (some ⟨g, 0, none⟩) d.length cap) k → k ≠ g := fun k hk e => hk (.inr (by rw [e]; rfl))
  refine ⟨(hb.block p h.lt (by omega)).trans h.blk, by have := hr.owns (base := p + 1) (by omega); rw [hl] at this; rw [hl]; exact this, fun r hx => (h.el r (hm r hx)).keep (fun k hk hk2 => hb.block k hk2 (hF k hk)) (fun _ h _ => h)⟩
end
end Go.Proofs.Ytfkkckadnookoaa
