/- PathAcc, PathItems, PathAccMany, PathAItems. -/
import Derived.Test.YtngllchoiffniaaDoorRows
import Derived.Maps.AppendAt
import Derived.Laws.AppendOwn
import Derived.Laws.OwnMore
import Derived.OwnWalk
import Derived.WalkKit
import Derived.Test.YtngllchoiffniaaDoorMk10
import Derived.Test.YtngllchoiffniaaDoorMk2
import Derived.Test.YtngllchoiffniaaDoorMk1
set_option maxRecDepth 100000
set_option maxHeartbeats 20000000
section
namespace Go.Proofs.YtngllchoiffniaaDoor
open Go.RowKit
open Seal
open Bson (Val)
structure Acc (w : World) (base : Nat) (v : Value) (QA : Nat → Prop) (h : Nat) (ys : List Val) (xs : List Value) : Prop where
 own : w.ownsRow base 32 6 v ys.length xs
 at' : ∀ i (hi : i < ys.length), ∃ c0 c1 c2 c3 c4 c5, xs[i * 6]? = some c0 ∧ xs[i * 6 + 1]? = some c1 ∧ xs[i * 6 + 2]? = some c2 ∧ xs[i * 6 + 3]? = some c3 ∧ xs[i * 6 + 4]? = some c4 ∧ xs[i * 6 + 5]? = some c5 ∧ VIn w (fun g => QA g ∧ v.ownBlock ≠ some g) h ys[i] (.agg #[c0, c1, c2, c3, c4, c5])
section
variable {w w' : World} {base : Nat} {v v' : Value} {QA : Nat → Prop} {h : Nat} {ys : List Val} {xs : List Value}
theorem Acc.nil (w : World) (base : Nat) (QA : Nat → Prop) (h : Nat) : Acc w base (.slice none 0 0) QA h [] [] :=
 ⟨World.ownsRow_nil _ _ _ _, fun i hi => by simp at hi⟩
theorem Acc.keep (ha : Acc w base v QA h ys xs) (hb : Below w.heap.size w w') : Acc w' base v QA h ys xs :=
 ⟨owns_below ha.own hb, fun i hi => by
  obtain ⟨c0, c1, c2, c3, c4, c5, h0, h1, h2, h3, h4, h5, hv⟩ := ha.at' i hi
  exact ⟨c0, c1, c2, c3, c4, c5, h0, h1, h2, h3, h4, h5, hv.keep hb⟩⟩
theorem Wrote.vin {x : Val} {u : Value} (hw : Wrote w w' v v') (hv : VIn w (fun g => QA g ∧ v.ownBlock ≠ some g) h x u) : VIn w' (fun g => QA g ∧ v'.ownBlock ≠ some g) h x u := by
 refine hv.lt.kept (fun g hg hl => hw.1.block g hl (fun e => hg.1.2 e.symm)) (fun g hg => ⟨hg.1.1, ?_⟩)
 rcases hw.2 with h2 | ⟨b, h2, h3⟩
 ·rw [h2]; exact hg.1.2
 ·rw [h2]; intro e; have := Option.some.inj e; have := hg.2; omega
theorem Acc.push {y : Val} {c0 c1 c2 c3 c4 c5 : Value} (ha : Acc w base v QA h ys xs) (hw : Wrote w w' v v') (hown : w'.ownsRow base 32 6 v' (ys.length + 1) (xs ++ [c0, c1, c2, c3, c4, c5]))
  (hv : VIn w (fun g => QA g ∧ v.ownBlock ≠ some g) h y (.agg #[c0, c1, c2, c3, c4, c5])) : Acc w' base v' QA h (ys ++ [y]) (xs ++ [c0, c1, c2, c3, c4, c5]) := by
 have hxl : xs.length = ys.length * 6 := ha.own.1
 refine ⟨by rw [List.length_append]; exact hown, fun i hi => ?_⟩
 rw [List.length_append, List.length_singleton] at hi
 rcases Nat.lt_or_ge i ys.length with hlt | hge
 ·obtain ⟨d0, d1, d2, d3, d4, d5, h0, h1, h2, h3, h4, h5, hd⟩ := ha.at' i hlt
  have e : ∀ j, j < 6 → (xs ++ [c0, c1, c2, c3, c4, c5])[i * 6 + j]? = xs[i * 6 + j]? := fun j hj => List.getElem?_append_left (by omega)
  refine ⟨d0, d1, d2, d3, d4, d5, (e 0 (by omega)).trans h0, (e 1 (by omega)).trans h1, (e 2 (by omega)).trans h2, (e 3 (by omega)).trans h3, (e 4 (by omega)).trans h4, (e 5 (by omega)).trans h5, ?_⟩
  rw [List.getElem_append_left hlt]
  exact hw.vin hd
 ·obtain rfl : i = ys.length := by omega
  have e : ∀ j, (xs ++ [c0, c1, c2, c3, c4, c5])[ys.length * 6 + j]? = [c0, c1, c2, c3, c4, c5][j]? := fun j => by
   rw [List.getElem?_append_right (by omega)]; congr 1; omega
  refine ⟨c0, c1, c2, c3, c4, c5, e 0, e 1, e 2, e 3, e 4, e 5, ?_⟩
  rw [List.getElem_append_right (Nat.le_refl _)]
  simp only [Nat.sub_self, List.getElem_cons_zero]
  exact hw.vin hv
theorem Acc.items {Q' : Nat → Prop} (ha : Acc w base v QA h ys xs) (hQ : ∀ g, QA g → Q' g) (hb : ∀ g, base ≤ g → g < w.heap.size → Q' g) :
  ∃ a c, v = .slice a ys.length c ∧ (ys.length ≤ c ∧ c ≤ 9223372036854775807) ∧ ItemsIn w Q' (VIn w Q' h) a ys := by
 obtain ⟨hxl, ⟨rfl, hn⟩ | ⟨g, cap, cur, rfl, hbg, hrow, hc, hm, hsz, htake⟩⟩ := ha.own
 ·have hn' := List.eq_nil_of_length_eq_zero hn
  refine ⟨none, 0, by rw [hn], by rw [hn]; exact ⟨Nat.le_refl _, by omega⟩, .inl hn'⟩
 ·refine ⟨some ⟨g, 0, none⟩, cap, rfl, ⟨hc, by unfold maxLen at hm; omega⟩, .inr ⟨g, 0, rfl, hb g hbg (Array.getElem?_eq_some_iff.1 hrow).1, fun i hi => ?_⟩⟩
  obtain ⟨c0, c1, c2, c3, c4, c5, h0, h1, h2, h3, h4, h5, hv⟩ := ha.at' i hi
  have e : ∀ j c, xs[j]? = some c → w.cell? ⟨g, 0 + j, none⟩ = some c := fun j c hj => by
   have hl : j < xs.length := (List.getElem?_eq_some_iff.1 hj).1
   rw [Nat.zero_add, cell_of_row w g j _ _ _ hrow, ← Array.getElem?_toList, ← hj, ← htake, List.getElem?_take_of_lt (by omega)]
  exact ⟨_, ⟨c0, c1, c2, c3, c4, c5, rfl, e _ _ h0, e _ _ h1, e _ _ h2, e _ _ h3, e _ _ h4, e _ _ h5⟩, hv.kept (Kept.of_below (Below.refl _ _)) (fun g hg => hQ g hg.1)⟩
end
def StrsIn (w : World) (a : Option Addr) (p : List ByteArray) : Prop := p = [] ∨ ∃ g o, a = some ⟨g, o, none⟩ ∧ ∀ i (hi : i < p.length), w.cell? ⟨g, o + i, none⟩ = some (.string p[i])
theorem StrsIn.keep {w w' : World} {a : Option Addr} {p : List ByteArray} (h : StrsIn w a p) (hb : Below w.heap.size w w') : StrsIn w' a p := by
 rcases h with h | ⟨g, o, e, h⟩
 ·exact .inl h
 ·exact .inr ⟨g, o, e, fun i hi => cell_keep hb (h i hi)⟩
end Go.Proofs.YtngllchoiffniaaDoor
end
section
namespace Go.Proofs.YtngllchoiffniaaDoor
open Go.RowKit
open Seal
open Bson (Val)
theorem VIn.kind {w : World} {Q : Nat → Prop} {h : Nat} {x : Val} {k n : Int} {s : ByteArray} {v3 v4 v5 : Value} (hv : VIn w Q h x (.agg #[.int .i64 k, .int .i64 n, .string s, v3, v4, v5])) : k = x.kind := by
 cases h with
 | zero => exact hv.elim
 | succ h =>
  obtain ⟨ba, fa, la, bc, fc, lc, e, _⟩ := hv
  unfold agg at e
  injection e with e; injection e with e; injection e with e _; injection e with _ e
end Go.Proofs.YtngllchoiffniaaDoor
end
section
namespace Go.Proofs.YtngllchoiffniaaDoor
open Go.RowKit
open Seal
open Bson (Val)
def CellsAt (w : World) (Q : Nat → Prop) (h : Nat) (l : List Val) (news : List Value) : Prop := ∀ i (hi : i < l.length), ∃ c0 c1 c2 c3 c4 c5, news[i * 6]? = some c0 ∧ news[i * 6 + 1]? = some c1 ∧ news[i * 6 + 2]? = some c2 ∧ news[i * 6 + 3]? = some c3 ∧ news[i * 6 + 4]? = some c4 ∧ news[i * 6 + 5]? = some c5 ∧ VIn w Q h l[i] (.agg #[c0, c1, c2, c3, c4, c5])
theorem Acc.append {w w' : World} {base : Nat} {v v' : Value} {QA : Nat → Prop} {h : Nat} {ys zs : List Val} {xs news : List Value} (ha : Acc w base v QA h ys xs) (hw : Wrote w w' v v') (hown : w'.ownsRow base 32 6 v' (ys.length + zs.length) (xs ++ news))
  (hv : CellsAt w (fun g => QA g ∧ v.ownBlock ≠ some g) h zs news) (_hl : news.length = zs.length * 6) : Acc w' base v' QA h (ys ++ zs) (xs ++ news) := by
 have hxl : xs.length = ys.length * 6 := ha.own.1
 refine ⟨by rw [List.length_append]; exact hown, fun i hi => ?_⟩
 rw [List.length_append] at hi
 rcases Nat.lt_or_ge i ys.length with hlt | hge
 ·obtain ⟨d0, d1, d2, d3, d4, d5, h0, h1, h2, h3, h4, h5, hd⟩ := ha.at' i hlt
  have e : ∀ j, j < 6 → (xs ++ news)[i * 6 + j]? = xs[i * 6 + j]? := fun j hj => List.getElem?_append_left (by omega)
  refine ⟨d0, d1, d2, d3, d4, d5, (e 0 (by omega)).trans h0, (e 1 (by omega)).trans h1, (e 2 (by omega)).trans h2, (e 3 (by omega)).trans h3, (e 4 (by omega)).trans h4, (e 5 (by omega)).trans h5, ?_⟩
  rw [List.getElem_append_left hlt]
  exact hw.vin hd
 ·obtain ⟨j, rfl⟩ : ∃ j, i = ys.length + j := ⟨i - ys.length, by omega⟩
  obtain ⟨d0, d1, d2, d3, d4, d5, h0, h1, h2, h3, h4, h5, hd⟩ := hv j (by omega)
  have e : ∀ r, (xs ++ news)[(ys.length + j) * 6 + r]? = news[j * 6 + r]? := fun r => by
   rw [List.getElem?_append_right (by omega)]; congr 1; omega
  refine ⟨d0, d1, d2, d3, d4, d5, (e 0).trans h0, (e 1).trans h1, (e 2).trans h2, (e 3).trans h3, (e 4).trans h4, (e 5).trans h5, ?_⟩
  rw [List.getElem_append_right (by omega)]
  simp only [Nat.add_sub_cancel_left]
  exact hw.vin hd
theorem VIn.items {w : World} {Q : Nat → Prop} {h : Nat} {x : Val} {c0 c1 c2 c3 c4 : Value} {la : Option Addr} {ln lc : Nat} (hv : VIn w Q (h + 1) x (.agg #[c0, c1, c2, c3, c4, .slice la ln lc])) : ln = x.l.length ∧ ItemsIn w Q (VIn w Q h) la x.l := by
 obtain ⟨ba, fa, la', bc, fc, lc', e, _, _, _, _, _, _, hI⟩ := hv
 unfold agg at e
 injection e with e; injection e with e
 injection e with _ e; injection e with _ e; injection e with _ e; injection e with _ e; injection e with _ e; injection e with e _
 injection e with e1 e2 _
 subst e1
 exact ⟨e2, hI⟩
section
variable {P : Program}
end
end Go.Proofs.YtngllchoiffniaaDoor
end
section
namespace Go.Proofs.YtngllchoiffniaaDoor
open Go.RowKit
open Seal
open Bson (Val)
def StrsBy (w : World) (v : Value) (a : Option Addr) (p : List ByteArray) : Prop := p = [] ∨ ∃ g o, a = some ⟨g, o, none⟩ ∧ v.ownBlock ≠ some g ∧ ∀ i (hi : i < p.length), w.cell? ⟨g, o + i, none⟩ = some (.string p[i])
theorem StrsBy.keep {w w' : World} {v : Value} {a : Option Addr} {p : List ByteArray} (h : StrsBy w v a p) (hb : Below w.heap.size w w') : StrsBy w' v a p := by
 rcases h with h | ⟨g, o, e, hg, h⟩
 ·exact .inl h
 ·exact .inr ⟨g, o, e, hg, fun i hi => cell_keep hb (h i hi)⟩
theorem StrsBy.wrote {w w' : World} {v v' : Value} {a : Option Addr} {p : List ByteArray} (hw : Wrote w w' v v') (h : StrsBy w v a p) : StrsBy w' v' a p := by
 rcases h with h | ⟨g, o, rfl, hg, h⟩
 ·exact .inl h
 ·cases p with
  | nil => exact .inl rfl
  | cons s r =>
   refine .inr ⟨g, o, rfl, ?_, fun i hi => ?_⟩
   ·have hlt := World.block_lt_of_cell? w _ (h 0 (by simp))
    rcases hw.2 with h2 | ⟨b, h2, h3⟩
    ·rw [h2]; exact hg
    ·rw [h2]; intro e; have := Option.some.inj e; simp at hlt; omega
   ·have hc := h i hi
    exact (World.cell?_of_block (a := ⟨g, o + i, none⟩) (hw.1.block g (World.block_lt_of_cell? w _ hc) (fun e => hg e.symm))).trans hc
end Go.Proofs.YtngllchoiffniaaDoor
end
