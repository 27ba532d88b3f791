/- OrderClass, PathMem, SixIs, ValByt, Boxes, BsonHold, BsonMeter, NumLeaf, OrderLeaf, PathCopyF, Seven. -/
import Derived.Laws.Externs
import Derived.BigQuiet
import Derived.Laws.Rows
import Derived.OwnWalk
import Derived.Deep.MidRow
import Derived.Maps.OwnSet
import Derived.Maps.OwnOps
import Derived.Maps.Views
import Derived.StillTailTactics
import Derived.WalkSpells
import Derived.IntWalk
import Derived.Deep.QuietTactic
import Derived.Lib.BytesEntry
import Derived.Lib.Bytealg
import Derived.Test.YtngllchoiffniaaGreatDoorMo0
import Derived.Test.YtngllchoiffniaaGreatDoorMo2
import Derived.Test.YtngllchoiffniaaGreatDoorMo1
set_option maxRecDepth 100000
set_option maxHeartbeats 20000000
section
namespace Go.Proofs.YtngllchoiffniaaGreatDoor
open Go.RowKit
open Seal
theorem kinds (k : Int) (h0 : ¬ k < 0) (h1 : ¬ 12 < k) : k = 0 ∨ k = 1 ∨ k = 2 ∨ k = 3 ∨ k = 4 ∨ k = 5 ∨ k = 6 ∨ k = 7 ∨ k = 8 ∨ k = 9 ∨ k = 10 ∨ k = 11 ∨ k = 12 := by omega
theorem class_any (k : Int) (w : World) : Calls Tryz.prog 78 #[.int .i64 k] w (IntPost (Order.cls k) w) := by
 by_cases h : k < 0 ∨ 12 < k
 ·have HC := Lib.hid (show Order.cls k = -1 from if_pos h)
  have e0 : (k == 0) = false := by rw [beq_eq_false_iff_ne]; omega
  have e1 : (k == 1) = false := by rw [beq_eq_false_iff_ne]; omega
  have e2 : (k == 2) = false := by rw [beq_eq_false_iff_ne]; omega
  have e3 : (k == 3) = false := by rw [beq_eq_false_iff_ne]; omega
  have e4 : (k == 4) = false := by rw [beq_eq_false_iff_ne]; omega
  have e5 : (k == 5) = false := by rw [beq_eq_false_iff_ne]; omega
  have e6 : (k == 6) = false := by rw [beq_eq_false_iff_ne]; omega
  have e7 : (k == 7) = false := by rw [beq_eq_false_iff_ne]; omega
  have e8 : (k == 8) = false := by rw [beq_eq_false_iff_ne]; omega
  have e9 : (k == 9) = false := by rw [beq_eq_false_iff_ne]; omega
  have e10 : (k == 10) = false := by rw [beq_eq_false_iff_ne]; omega
  have e11 : (k == 11) = false := by rw [beq_eq_false_iff_ne]; omega
  have e12 : (k == 12) = false := by rw [beq_eq_false_iff_ne]; omega
  clear h
  go_enter Tryz.func78, Tryz.ntmps78
  go_wp2
  go_ret
  exact ⟨ret_i HC.out.symm, rfl⟩
 ·rcases kinds k (by omega) (by omega) with rfl | rfl | rfl | rfl | rfl | rfl | rfl | rfl | rfl | rfl | rfl | rfl | rfl
  all_goals
   clear h
   go_enter Tryz.func78, Tryz.ntmps78
   go_wp2
   go_ret
   exact ⟨rfl, rfl⟩
end Go.Proofs.YtngllchoiffniaaGreatDoor
end
section
namespace Go.Proofs.YtngllchoiffniaaGreatDoor
open Go.RowKit
open Seal
open Bson (Val)
theorem puts_kept (Q : Nat → Prop) {w : World} {G : Nat} (hQ : ¬ Q G) (o : Nat) (vs : List Value) : Kept Q w (puts w G o vs) :=
 fun g hg _ => puts_other G g (fun e => hQ (e ▸ hg)) vs w o
def Row6 (w : World) (G : Nat) (t : TypeId) (len : Nat) : Prop := ∃ cs, w.heap[G]? = some (.cells cs t (0, 0)) ∧ cs.size = len
theorem Row6.lt {w : World} {G : Nat} {t : TypeId} {len : Nat} (h : Row6 w G t len) : G < w.heap.size := by
 obtain ⟨cs, h, _⟩ := h
 exact (Array.getElem?_eq_some_iff.1 h).1
theorem Row6.at {w : World} {G : Nat} {t : TypeId} {len : Nat} (h : Row6 w G t len) {j : Nat} (hj : j < len) : (∃ v, w.cell? ⟨G, j, none⟩ = some v) ∧ w.frozen? ⟨G, j, none⟩ = false := by
 obtain ⟨cs, h, hl⟩ := h
 exact ⟨⟨cs[j]'(by omega), (cell_of_row w G j cs t _ h).trans (Array.getElem?_eq_getElem (by omega))⟩, frozen_of_row w G j _ _ h⟩
theorem Row6.puts {w : World} {G : Nat} {t : TypeId} {len : Nat} (h : Row6 w G t len) (o : Nat) (vs : List Value) (ho : o + vs.length ≤ len) :
  Row6 (puts w G o vs) G t len ∧ (∀ j, j < o ∨ o + vs.length ≤ j → (Go.Proofs.YtngllchoiffniaaGreatDoor.puts w G o vs).cell? ⟨G, j, none⟩ = w.cell? ⟨G, j, none⟩) ∧ ∀ j, j < vs.length → (Go.Proofs.YtngllchoiffniaaGreatDoor.puts w G o vs).cell? ⟨G, o + j, none⟩ = vs[j]? := by
 obtain ⟨cs, h, hl⟩ := h
 obtain ⟨ds, h2, h3, h4, h5, h6⟩ := puts_same G t vs w o cs h
 refine ⟨⟨ds, h2, by omega⟩, fun j hj => ?_, fun j hj => ?_⟩
 ·rw [cell_of_row _ G j _ _ _ h2, cell_of_row _ G j _ _ _ h]
  rcases hj with hj | hj
  ·exact h4 j hj
  ·exact h5 j hj
 ·rw [cell_of_row _ G _ _ _ _ h2, h6 (by omega) j hj]
theorem Row6.keep {w w' : World} {G : Nat} {t : TypeId} {len : Nat} (h : Row6 w G t len) (hb : Below w.heap.size w w') : Row6 w' G t len := by
 have hlt := h.lt
 obtain ⟨cs, h, hl⟩ := h
 exact ⟨cs, (hb.block G hlt).trans h, hl⟩
theorem SixAt.of_puts {w : World} {G : Nat} {t : TypeId} {len : Nat} (h : Row6 w G t len) (o p : Nat) (vs : List Value) (ho : o + vs.length ≤ len) (c0 c1 c2 c3 c4 c5 : Value)
  (h0 : vs[p]? = some c0) (h1 : vs[p + 1]? = some c1) (h2 : vs[p + 2]? = some c2) (h3 : vs[p + 3]? = some c3) (h4 : vs[p + 4]? = some c4) (h5 : vs[p + 5]? = some c5) : SixAt (puts w G o vs) G (o + p) (.agg #[c0, c1, c2, c3, c4, c5]) := by
 obtain ⟨_, _, h7⟩ := h.puts o vs ho
 have hl : p + 5 < vs.length := (List.getElem?_eq_some_iff.1 h5).1
 exact ⟨c0, c1, c2, c3, c4, c5, rfl, (h7 p (by omega)).trans h0, (h7 (p + 1) (by omega)).trans h1, (h7 (p + 2) (by omega)).trans h2, (h7 (p + 3) (by omega)).trans h3, (h7 (p + 4) (by omega)).trans h4, (h7 (p + 5) (by omega)).trans h5⟩
theorem SixAt.puts_before {w : World} {G : Nat} {t : TypeId} {len : Nat} (h : Row6 w G t len) {q : Nat} {v : Value} (hs : SixAt w G q v) (o : Nat) (vs : List Value) (ho : o + vs.length ≤ len) (hq : q + 6 ≤ o) : SixAt (puts w G o vs) G q v := by
 obtain ⟨c0, c1, c2, c3, c4, c5, e, h0, h1, h2, h3, h4, h5⟩ := hs
 obtain ⟨_, h6, _⟩ := h.puts o vs ho
 exact ⟨c0, c1, c2, c3, c4, c5, e, (h6 q (by omega)).trans h0, (h6 (q + 1) (by omega)).trans h1, (h6 (q + 2) (by omega)).trans h2, (h6 (q + 3) (by omega)).trans h3, (h6 (q + 4) (by omega)).trans h4, (h6 (q + 5) (by omega)).trans h5⟩
theorem VIn.shape {w : World} {Q : Nat → Prop} {h : Nat} {x : Val} {v : Value} (hv : VIn w Q h x v) : ∃ (k n : Int) (s : ByteArray) (ba fa la : Option Addr) (bl bc fl fc ll lc : Nat), v = .agg #[.int .i64 k, .int .i64 n, .string s, .slice ba bl bc, .slice fa fl fc, .slice la ll lc] := by
 cases h with
 | zero => exact hv.elim
 | succ h =>
  obtain ⟨ba, fa, la, bc, fc, lc, rfl, _⟩ := hv
  exact ⟨_, _, _, _, _, _, _, _, _, _, _, _, rfl⟩
theorem Row6.there {w : World} {G : Nat} {t : TypeId} {len : Nat} (h : Row6 w G t len) (o n : Nat) (hl : o + n ≤ len) : w.there G o n := fun j hj => by
 obtain ⟨⟨v, h1⟩, h2⟩ := h.at (j := o + j) (by omega)
 exact ⟨by rw [h1]; rfl, h2⟩
theorem SixAt.range {w : World} {g p : Nat} {c0 c1 c2 c3 c4 c5 : Value} (h : SixAt w g p (.agg #[c0, c1, c2, c3, c4, c5])) : w.rangeAt g p [c0, c1, c2, c3, c4, c5] := by
 obtain ⟨d0, d1, d2, d3, d4, d5, e, h0, h1, h2, h3, h4, h5⟩ := h
 injection e with e
 injection e with e
 injection e with e0 e; injection e with e1 e; injection e with e2 e; injection e with e3 e; injection e with e4 e; injection e with e5 e
 subst e0 e1 e2 e3 e4 e5
 intro j v hv
 match j with
 | 0 => obtain rfl := Option.some.inj hv; exact h0
 | 1 => obtain rfl := Option.some.inj hv; exact h1
 | 2 => obtain rfl := Option.some.inj hv; exact h2
 | 3 => obtain rfl := Option.some.inj hv; exact h3
 | 4 => obtain rfl := Option.some.inj hv; exact h4
 | 5 => obtain rfl := Option.some.inj hv; exact h5
 | j + 6 => simp at hv
theorem SixAt.cells {w : World} {g p : Nat} {c0 c1 c2 c3 c4 c5 : Value} (h : SixAt w g p (.agg #[c0, c1, c2, c3, c4, c5])) : w.cell? ⟨g, p, none⟩ = some c0 ∧ w.cell? ⟨g, p + 1, none⟩ = some c1 ∧ w.cell? ⟨g, p + 2, none⟩ = some c2 ∧ w.cell? ⟨g, p + 3, none⟩ = some c3 ∧ w.cell? ⟨g, p + 4, none⟩ = some c4 ∧ w.cell? ⟨g, p + 5, none⟩ = some c5 :=
 ⟨h.range 0 _ rfl, h.range 1 _ rfl, h.range 2 _ rfl, h.range 3 _ rfl, h.range 4 _ rfl, h.range 5 _ rfl⟩
def Vals (w : World) (G h : Nat) (l : List Val) (k : Nat) : Prop := ∀ i (hi : i < l.length), i < k → ∃ v, SixAt w G (i * 6) v ∧ VIn w (fun g => G < g) h l[i] v
theorem Vals.none (w : World) (G h : Nat) (l : List Val) : Vals w G h l 0 := fun _ _ hi => absurd hi (Nat.not_lt_zero _)
theorem Vals.keep {w w' : World} {G h : Nat} {l : List Val} {k : Nat} (hv : Vals w G h l k) (hb : Below w.heap.size w w') : Vals w' G h l k := fun i hi hk => by
 obtain ⟨v, h1, h2⟩ := hv i hi hk
 exact ⟨v, h1.keep hb, h2.keep hb⟩
theorem Vals.put {w : World} {G h : Nat} {t : TypeId} {len : Nat} {l : List Val} {k : Nat} (hv : Vals w G h l k) (hr : Row6 w G t len) (hk : k < l.length) (hlen : l.length * 6 = len) {c0 c1 c2 c3 c4 c5 : Value} (hn : VIn w (fun g => G < g) h l[k] (.agg #[c0, c1, c2, c3, c4, c5])) :
  Vals (puts w G (k * 6) [c0, c1, c2, c3, c4, c5]) G h l (k + 1) := by
 intro i hi hik
 have hkp : Kept (fun g => G < g) w (puts w G (k * 6) [c0, c1, c2, c3, c4, c5]) := puts_kept _ (Nat.lt_irrefl G) _ _
 have hfit : k * 6 + [c0, c1, c2, c3, c4, c5].length ≤ len := by simp; omega
 rcases Nat.lt_or_ge i k with hlt | hge
 ·obtain ⟨v, h1, h2⟩ := hv i hi hlt
  exact ⟨v, h1.puts_before hr _ _ hfit (by omega), h2.kept hkp (fun _ h => h)⟩
 ·obtain rfl : i = k := by omega
  exact ⟨_, SixAt.of_puts hr _ 0 _ hfit _ _ _ _ _ _ rfl rfl rfl rfl rfl rfl, hn.kept hkp (fun _ h => h)⟩
def Flds (w : World) (G h : Nat) (f : List (ByteArray × Val)) (k : Nat) : Prop := ∀ i (hi : i < f.length), i < k → w.cell? ⟨G, i * 7, none⟩ = some (.string f[i].1) ∧ ∃ v, SixAt w G (i * 7 + 1) v ∧ VIn w (fun g => G < g) h f[i].2 v
theorem Flds.none (w : World) (G h : Nat) (l : List (ByteArray × Val)) : Flds w G h l 0 := fun _ _ hi => absurd hi (Nat.not_lt_zero _)
theorem Flds.keep {w w' : World} {G h : Nat} {f : List (ByteArray × Val)} {k : Nat} (hv : Flds w G h f k) (hb : Below w.heap.size w w') : Flds w' G h f k := fun i hi hk => by
 obtain ⟨h0, v, h1, h2⟩ := hv i hi hk
 exact ⟨cell_keep hb h0, v, h1.keep hb, h2.keep hb⟩
theorem Flds.put {w : World} {G h : Nat} {t : TypeId} {len : Nat} {f : List (ByteArray × Val)} {k : Nat} (hv : Flds w G h f k) (hr : Row6 w G t len) (hk : k < f.length) (hlen : f.length * 7 = len) {c0 c1 c2 c3 c4 c5 : Value} (hn : VIn w (fun g => G < g) h f[k].2 (.agg #[c0, c1, c2, c3, c4, c5])) :
  Flds (puts w G (k * 7) [.string f[k].1, c0, c1, c2, c3, c4, c5]) G h f (k + 1) := by
 intro i hi hik
 have hkp : Kept (fun g => G < g) w (puts w G (k * 7) [.string f[k].1, c0, c1, c2, c3, c4, c5]) := puts_kept _ (Nat.lt_irrefl G) _ _
 have hfit : k * 7 + [Value.string f[k].1, c0, c1, c2, c3, c4, c5].length ≤ len := by simp; omega
 obtain ⟨_, hb4, hat⟩ := hr.puts (k * 7) [.string f[k].1, c0, c1, c2, c3, c4, c5] hfit
 rcases Nat.lt_or_ge i k with hlt | hge
 ·obtain ⟨h0, v, h1, h2⟩ := hv i hi hlt
  exact ⟨(hb4 _ (.inl (by omega))).trans h0, v, h1.puts_before hr _ _ hfit (by omega), h2.kept hkp (fun _ h => h)⟩
 ·obtain rfl : i = k := by omega
  exact ⟨hat 0 (by simp), _, SixAt.of_puts hr _ 1 _ hfit _ _ _ _ _ _ rfl rfl rfl rfl rfl rfl, hn.kept hkp (fun _ h => h)⟩
end Go.Proofs.YtngllchoiffniaaGreatDoor
end
section
namespace Go.Proofs.YtngllchoiffniaaGreatDoor
open Go.RowKit
open Seal
def SixIs (W : World) (n : Nat) (c0 c1 c2 c3 c4 c5 : Value) : Prop := W.cell? ⟨n, 0, none⟩ = some c0 ∧ W.cell? ⟨n, 1, none⟩ = some c1 ∧ W.cell? ⟨n, 2, none⟩ = some c2 ∧ W.cell? ⟨n, 3, none⟩ = some c3 ∧ W.cell? ⟨n, 4, none⟩ = some c4 ∧ W.cell? ⟨n, 5, none⟩ = some c5
theorem SixIs.keep {W W' : World} {n : Nat} {c0 c1 c2 c3 c4 c5 : Value} (h : SixIs W n c0 c1 c2 c3 c4 c5) (hb : Below W.heap.size W W') : SixIs W' n c0 c1 c2 c3 c4 c5 := by
 obtain ⟨h0, h1, h2, h3, h4, h5⟩ := h
 exact ⟨cell_keep hb h0, cell_keep hb h1, cell_keep hb h2, cell_keep hb h3, cell_keep hb h4, cell_keep hb h5⟩
theorem SixIs.new (w : World) (c0 c1 c2 c3 c4 c5 : Value) (t : TypeId) : SixIs (w.alloc (.cells #[c0, c1, c2, c3, c4, c5] t)) w.heap.size c0 c1 c2 c3 c4 c5 := by
 have e := heap_alloc_new w (.cells #[c0, c1, c2, c3, c4, c5] t)
 exact ⟨(cell_of_row _ _ 0 _ _ _ e).trans rfl, (cell_of_row _ _ 1 _ _ _ e).trans rfl, (cell_of_row _ _ 2 _ _ _ e).trans rfl, (cell_of_row _ _ 3 _ _ _ e).trans rfl, (cell_of_row _ _ 4 _ _ _ e).trans rfl, (cell_of_row _ _ 5 _ _ _ e).trans rfl⟩
end Go.Proofs.YtngllchoiffniaaGreatDoor
end
section
namespace Go.Proofs.YtngllchoiffniaaGreatDoor
open Go.RowKit
open Seal
open Bson (Val)
theorem VIn.byt {w : World} {Q : Nat → Prop} {h : Nat} {x : Val} {k n : Int} {s : ByteArray} {ba fa la : Option Addr} {bn bc fn fc ln lc : Nat} (hv : VIn w Q (h + 1) x (.agg #[.int .i64 k, .int .i64 n, .string s, .slice ba bn bc, .slice fa fn fc, .slice la ln lc])) : Oct x.b ∧ SliceIs w ba x.b := by
 obtain ⟨ba', fa', la', bc', fc', lc', e, hL, _, _, _, hB, _⟩ := hv
 unfold agg at e
 injection e with e; injection e with e; injection e with _ e; injection e with _ e; injection e with _ e; injection e with e3 _
 injection e3 with e3 _ _
 subst e3
 refine ⟨hL.o, ?_⟩
 rcases hB with h | ⟨g, o, e, _, h⟩
 ·exact .inl h
 ·exact .inr ⟨g, o, e, h⟩
end Go.Proofs.YtngllchoiffniaaGreatDoor
end
section
namespace Go.Proofs.YtngllchoiffniaaGreatDoor
open Go.RowKit
open Seal
open Bson (Val)
def IsBox (W : World) (n : Nat) (c0 c1 c2 c3 c4 c5 : Value) : Prop := W.heap[n]? = some (.cells #[c0, c1, c2, c3, c4, c5] 35 (0, 0))
section
variable {W W' : World} {n : Nat} {c0 c1 c2 c3 c4 c5 : Value}
theorem IsBox.lt (h : IsBox W n c0 c1 c2 c3 c4 c5) : n < W.heap.size := (Array.getElem?_eq_some_iff.1 h).1
theorem IsBox.cells (h : IsBox W n c0 c1 c2 c3 c4 c5) : W.cell? ⟨n, 0, none⟩ = some c0 ∧ W.cell? ⟨n, 1, none⟩ = some c1 ∧ W.cell? ⟨n, 2, none⟩ = some c2 ∧ W.cell? ⟨n, 3, none⟩ = some c3 ∧ W.cell? ⟨n, 4, none⟩ = some c4 ∧ W.cell? ⟨n, 5, none⟩ = some c5 :=
 ⟨(cell_of_row W _ 0 _ _ _ h).trans rfl, (cell_of_row W _ 1 _ _ _ h).trans rfl, (cell_of_row W _ 2 _ _ _ h).trans rfl, (cell_of_row W _ 3 _ _ _ h).trans rfl, (cell_of_row W _ 4 _ _ _ h).trans rfl, (cell_of_row W _ 5 _ _ _ h).trans rfl⟩
theorem IsBox.thaw (h : IsBox W n c0 c1 c2 c3 c4 c5) : W.frozen? ⟨n, 0, none⟩ = false ∧ W.frozen? ⟨n, 1, none⟩ = false ∧ W.frozen? ⟨n, 2, none⟩ = false ∧ W.frozen? ⟨n, 3, none⟩ = false ∧ W.frozen? ⟨n, 4, none⟩ = false ∧ W.frozen? ⟨n, 5, none⟩ = false :=
 ⟨frozen_of_row W _ 0 _ _ h, frozen_of_row W _ 1 _ _ h, frozen_of_row W _ 2 _ _ h, frozen_of_row W _ 3 _ _ h, frozen_of_row W _ 4 _ _ h, frozen_of_row W _ 5 _ _ h⟩
theorem IsBox.keep (h : IsBox W n c0 c1 c2 c3 c4 c5) (hb : Below W.heap.size W W') : IsBox W' n c0 c1 c2 c3 c4 c5 := (hb.block _ h.lt).trans h
theorem IsBox.new (w : World) (c0 c1 c2 c3 c4 c5 : Value) : IsBox (w.alloc (.cells #[c0, c1, c2, c3, c4, c5] 35)) w.heap.size c0 c1 c2 c3 c4 c5 := heap_alloc_new w _
theorem IsBox.other (h : IsBox W n c0 c1 c2 c3 c4 c5) {m : Nat} (hm : n ≠ m) (o : Nat) (vs : List Value) : IsBox (puts W m o vs) n c0 c1 c2 c3 c4 c5 := (puts_other m n hm vs W o).trans h
theorem IsBox.put (h : IsBox W n c0 c1 c2 c3 c4 c5) (d0 d1 d2 d3 d4 d5 : Value) : IsBox (puts W n 0 [d0, d1, d2, d3, d4, d5]) n d0 d1 d2 d3 d4 d5 := by
 obtain ⟨ds, h1, h2, _, _, h3⟩ := puts_same n 35 [d0, d1, d2, d3, d4, d5] W 0 _ h
 have e : ds = #[d0, d1, d2, d3, d4, d5] := by
  apply Array.ext_getElem?
  intro j
  by_cases hj : j < 6
  ·have := h3 (by simp) j (by simpa using hj)
   rw [Nat.zero_add] at this
   rw [this]
   match j, hj with | 0, _ => rfl | 1, _ => rfl | 2, _ => rfl | 3, _ => rfl | 4, _ => rfl | 5, _ => rfl
  ·rw [Array.getElem?_eq_none (by rw [h2]; simp; omega), Array.getElem?_eq_none (by simp; omega)]
 unfold IsBox
 rw [h1, e]
end
end Go.Proofs.YtngllchoiffniaaGreatDoor
end
section
namespace Go.Proofs.YtngllchoiffniaaGreatDoor
open Go.RowKit
open Seal
open Bson (Val)
def keyS (s : ByteArray) : Lit := .string s.data.toList
def setNms (f : List (ByteArray × Val)) (k : Nat) : DataW Unit := Maps.setOf (.agg []) ((f.take k).map fun p => keyS p.1)
def Nms (w : World) (gn : Nat) (f : List (ByteArray × Val)) : Prop :=
 w.heap[gn]? = some (.cells #[.map none] 117 (0, 0)) ∨
 ∃ bm k, w.heap[gn]? = some (.cells #[.map (some bm)] 117 (0, 0)) ∧ gn < bm ∧ k ≤ f.length ∧ w.ownsMap Tryz.prog 9 (unitElem (H := Unit)) bm k (setNms f k)
def HMove (gn : Nat) (w w' : World) : Prop :=
 w'.os = w.os ∧ w'.tape = w.tape ∧ w'.output = w.output ∧ w.heap.size ≤ w'.heap.size ∧ (∀ g cs t fr, g ≠ gn → w.heap[g]? = some (.cells cs t fr) → w'.heap[g]? = w.heap[g]?) ∧ ∀ g, g < gn → w'.heap[g]? = w.heap[g]?
def hasName (f : List (ByteArray × Val)) (s : ByteArray) : Bool := f.any fun p => decide (p.1 = s)
theorem HMove.of_below {w w' : World} {gn : Nat} (hb : Below w.heap.size w w') (hg : gn < w.heap.size) : HMove gn w w' :=
 ⟨hb.os, hb.tape, hb.output, hb.size, fun g cs t fr _ h => hb.block g (by
  refine Nat.lt_of_not_le fun hge => ?_
  rw [Array.getElem?_eq_none hge] at h; cases h), fun g hgg => hb.block g (by omega)⟩
theorem Nms.below {w w' : World} {gn : Nat} {f : List (ByteArray × Val)} (h : Nms w gn f) (hb : Below w.heap.size w w') : Nms w' gn f := by
 have hgl : ∀ o, w.heap[gn]? = some o → w'.heap[gn]? = some o := fun o ho => (hb.block gn (by
  refine Nat.lt_of_not_le fun hge => ?_
  rw [Array.getElem?_eq_none hge] at ho; cases ho)).trans ho
 rcases h with h | ⟨bm, k, h1, h2, h3, es, clock, h4, h5⟩
 ·exact .inl (hgl _ h)
 ·refine .inr ⟨bm, k, hgl _ h1, h2, h3, es, clock, ?_, h5⟩
  exact (hb.block bm (by
   refine Nat.lt_of_not_le fun hge => ?_
   rw [Array.getElem?_eq_none hge] at h4; cases h4)).trans h4
theorem Nms.lt {w : World} {gn : Nat} {f : List (ByteArray × Val)} (h : Nms w gn f) : gn < w.heap.size := by
 refine Nat.lt_of_not_le fun hge => ?_
 rcases h with h | ⟨bm, k, h1, _⟩
 ·rw [Array.getElem?_eq_none hge] at h; cases h
 ·rw [Array.getElem?_eq_none hge] at h1; cases h1
theorem hold_few (Q : Nat → Prop) (h : Nat) (w : World) (gn : Nat) (a : Option Addr) (n c : Nat) (f : List (ByteArray × Val)) (s : ByteArray) (hn : f.length = n) (hm : n ≤ 16) (hF : FieldsIn w Q (VIn w Q h) a f) (hN : Nms w gn f) :
  Calls Tryz.prog 104 #[.pointer (some ⟨gn, 0, none⟩), .slice a n c, .string s] w fun e w' => e = .returned (.bool (hasName f s)) ∧ HMove gn w w' ∧ Nms w' gn f := by
 have CF := Lib.hid (find_any Q h w a n c f s hn (by omega) hF)
 have hpi := placeI_any f s
 have HP : Hid (decide (0 ≤ placeI f s) = hasName f s) := by
  show _ = _
  by_cases h0 : 0 ≤ placeI f s
  ·rw [decide_eq_true h0]; exact (hpi.1 h0).symm
  ·rw [decide_eq_false h0]
   cases hh : hasName f s with
   | false => rfl
   | true => exact absurd (hpi.2 hh) h0
 generalize placeI f s = pl at *
 have HN := Lib.hid hN
 have hmz : (n : Int) ≤ 16 := by omega
 clear hpi hF hN hn
 go_enter Tryz.func104, Tryz.ntmps104
 go_wp2_with fail
 refine CF.out.mono ?_
 rintro e w' ⟨rfl, hb⟩
 have HB := Lib.hid hb
 clear hb
 go_wp2_with fail
 go_ret
 exact ⟨ret_eq (by rw [← HP.out]; rfl), HMove.of_below HB.out HN.out.lt, HN.out.below HB.out⟩
def Mtr (w : World) (gm : Nat) (left : Int) : Prop := w.heap[gm]? = some (.cells #[.int .i64 left] 95 (0, 0))
theorem Mtr.c0 {w : World} {gm : Nat} {left : Int} (h : Mtr w gm left) : w.cell? ⟨gm, 0, none⟩ = some (.int .i64 left) := cell_of_row w gm 0 _ _ _ h
theorem Mtr.f0 {w : World} {gm : Nat} {left : Int} (h : Mtr w gm left) : w.frozen? ⟨gm, 0, none⟩ = false := frozen_of_row w gm 0 _ _ h
theorem Mtr.lt {w : World} {gm : Nat} {left : Int} (h : Mtr w gm left) : gm < w.heap.size := World.block_lt_of_cell? w _ h.c0
theorem Mtr.keep {w w' : World} {gm : Nat} {left : Int} (h : Mtr w gm left) (hb : Below w.heap.size w w') : Mtr w' gm left := (hb.block gm h.lt).trans h
theorem Mtr.ne {w : World} {gm : Nat} {left : Int} (h : Mtr w gm left) {g o : Nat} {v : Value} (hc : w.cell? ⟨g, o, none⟩ = some v) (hv : ∀ n : Int, v ≠ .int .i64 n) : g ≠ gm := by
 rintro rfl
 have := (cell_of_row w g o _ _ _ h).symm.trans hc
 match o, this with
 | 0, h => simp at h; exact hv _ h.symm
 | o + 1, h => simp at h
theorem Mtr.ne1 {w : World} {gm : Nat} {left : Int} (h : Mtr w gm left) {g o : Nat} {v : Value} (hc : w.cell? ⟨g, o + 1, none⟩ = some v) : g ≠ gm := by
 rintro rfl
 have := (cell_of_row w g (o + 1) _ _ _ h).symm.trans hc
 simp at this
theorem grown_cell {w w' : World} {gm g o : Nat} {v : Value} (hg : w.grownBy w' (some gm)) (hc : w.cell? ⟨g, o, none⟩ = some v) (hne : g ≠ gm) : w'.cell? ⟨g, o, none⟩ = some v :=
 (World.cell?_of_block (a := ⟨g, o, none⟩) (hg.block g (World.block_lt_of_cell? w _ hc) (fun e => hne (Option.some.inj e)))).trans hc
theorem Mtr.six {w w' : World} {gm : Nat} {left : Int} (h : Mtr w gm left) (hg : w.grownBy w' (some gm)) {g p : Nat} {v : Value} (hs : SixAt w g p v) : SixAt w' g p v := by
 obtain ⟨c0, c1, c2, c3, c4, c5, e, h0, h1, h2, h3, h4, h5⟩ := hs
 have hne := h.ne1 h1
 exact ⟨c0, c1, c2, c3, c4, c5, e, grown_cell hg h0 hne, grown_cell hg h1 hne, grown_cell hg h2 hne, grown_cell hg h3 hne, grown_cell hg h4 hne, grown_cell hg h5 hne⟩
theorem VIn.metered {w w' : World} {Q : Nat → Prop} {gm : Nat} {left : Int} (hM : Mtr w gm left) (hg : w.grownBy w' (some gm)) : ∀ {h : Nat} {x : Val} {v : Value}, VIn w Q h x v → VIn w' Q h x v
 | 0, _, _, h => h.elim
 | h + 1, _, _, ⟨ba, fa, la, bc, fc, lc, e, h1, h2, h3, h4, h5, h6, h7⟩ => by
  refine ⟨ba, fa, la, bc, fc, lc, e, h1, h2, h3, h4, ?_, ?_, ?_⟩
  ·rcases h5 with h | ⟨g, o, e, hq, h⟩
   ·exact .inl h
   ·exact .inr ⟨g, o, e, hq, fun j hj => grown_cell hg (h j hj) (hM.ne (h j hj) (fun n => by simp))⟩
  ·rcases h6 with h | ⟨g, o, e, hq, h⟩
   ·exact .inl h
   ·refine .inr ⟨g, o, e, hq, fun i hi => ?_⟩
    obtain ⟨k1, k2, v, k3, k4⟩ := h i hi
    exact ⟨grown_cell hg k1 (hM.ne k1 (fun n => by simp)), k2, v, hM.six hg k3, VIn.metered hM hg k4⟩
  ·rcases h7 with h | ⟨g, o, e, hq, h⟩
   ·exact .inl h
   ·refine .inr ⟨g, o, e, hq, fun i hi => ?_⟩
    obtain ⟨v, k3, k4⟩ := h i hi
    exact ⟨v, hM.six hg k3, VIn.metered hM hg k4⟩
theorem mtake_no (w : World) (gm : Nat) (left n : Int) (hM : Mtr w gm left) (h : left < n) :
  Calls Tryz.prog 92 #[.pointer (some ⟨gm, 0, none⟩), .int .i64 n] w fun e w' => e = .returned (.bool false) ∧ w = w' := by
 have c0 := hM.c0
 clear hM
 go_enter Tryz.func92, Tryz.ntmps92
 go_wp2_with fail
 go_ret
 exact ⟨rfl, rfl⟩
theorem mtake_yes (w : World) (gm : Nat) (left n : Int) (hM : Mtr w gm left) (h0 : 0 ≤ n) (h : n ≤ left) (hl : left ≤ 65536) :
  Calls Tryz.prog 92 #[.pointer (some ⟨gm, 0, none⟩), .int .i64 n] w fun e w' => e = .returned (.bool true) ∧ Mtr w' gm (left - n) ∧ w.grownBy w' (some gm) := by
 have c0 := hM.c0
 have f0 := hM.f0
 have HM := Lib.hid hM
 have hn : ¬ left < n := by omega
 clear hM
 go_enter Tryz.func92, Tryz.ntmps92
 go_wp2_with fail
 go_ret
 refine ⟨rfl, ?_, grown_setCell ⟨rfl, rfl, rfl, Nat.le_refl _, fun _ _ _ => rfl⟩ 0 _⟩
 unfold Mtr
 rw [heap_setCell_same w gm 0 _ _ _ HM.out]
 simp
theorem grown_of_below {w w' : World} (hb : Below w.heap.size w w') (gr : Nat) : w.grownBy w' (some gr) := ⟨hb.os, hb.tape, hb.output, hb.size, fun g hg _ => hb.block g hg⟩
theorem grown_then {w w1 w' : World} {gr : Nat} (h : w.grownBy w1 (some gr)) (h2 : w1.grownBy w' (some gr)) : w.grownBy w' (some gr) :=
 ⟨h2.os.trans h.os, h2.tape.trans h.tape, h2.output.trans h.output, Nat.le_trans h.size h2.size, fun g hg hne => (h2.block g (Nat.lt_of_lt_of_le hg h.size) hne).trans (h.block g hg hne)⟩
def bareB (x : Val) : Bool :=
 Bson.bare x (x.kind == 3 || x.kind == 4 || x.kind == 10 || x.kind == 11) (x.kind == 5) (x.kind == 8 || x.kind == 9) (x.kind == 6) (x.kind == 7)
end Go.Proofs.YtngllchoiffniaaGreatDoor
end
section
namespace Go.Proofs.YtngllchoiffniaaGreatDoor
open Go.RowKit
open Seal
namespace Num
def sumR (a b : Int) : Int × Int := if In (a + b) then (a + b, 0) else (0, 10)
def difR (a b : Int) : Int × Int := if In (a - b) then (a - b, 0) else (0, 10)
def mulR (a b : Int) : Int × Int := if In (a * b) then (a * b, 0) else (0, 10)
def quoR (a b : Int) : Int × Int := if b = 0 then (0, 11) else if In (a.tdiv b) then (a.tdiv b, 0) else (0, 10)
def remR (a b : Int) : Int × Int := if b = 0 then (0, 11) else (a.tmod b, 0)
def absR (a : Int) : Int × Int := if a < 0 then difR 0 a else (a, 0)
def ofK (n : Int) : Int := if -2147483648 ≤ n ∧ n < 2147483648 then 3 else 4
end Num
open Num
def PairIs (r : Int × Int) (w : World) (e : Ending) (w' : World) : Prop := e = .returned (.tuple #[.int .i64 r.1, .int .i64 r.2]) ∧ w = w'
def BoolBe (b : Bool) (w : World) (e : Ending) (w' : World) : Prop := e = .returned (.bool b) ∧ Below w.heap.size w w'
theorem pair_is {r : Int × Int} {n m : Int} {w : World} (h : r = (n, m)) : PairIs r w (.returned (.tuple #[.int .i64 n, .int .i64 m])) w := by subst h; exact ⟨rfl, rfl⟩
theorem watched_yes (n : Int) (w : World) : Calls Tryz.prog 76 #[.int .i64 n, .bool true] w (PairIs (n, 0) w) := by
 go_enter Tryz.func76, Tryz.ntmps76
 go_wp2
 go_ret2
 exact ⟨rfl, rfl⟩
theorem watched_no (n : Int) (w : World) : Calls Tryz.prog 76 #[.int .i64 n, .bool false] w (PairIs (0, 10) w) := by
 go_enter Tryz.func76, Tryz.ntmps76
 go_wp2
 go_ret2
 exact ⟨rfl, rfl⟩
theorem sum_any (a b : Int) (w : World) (ha : In a) (hb : In b) : Calls Tryz.prog 63 #[.int .i64 a, .int .i64 b] w (PairIs (sumR a b) w) := by
 have hs := sum_sign ha hb
 by_cases h : In (a + b)
 ·have hR := Lib.hid (show sumR a b = (a + b, 0) from if_pos h)
  have hd : decide (bits .and .i64 (bits .xor .i64 a (wrap64 (a + b))) (bits .xor .i64 b (wrap64 (a + b))) ≥ 0) = true := decide_eq_true (hs.2 h)
  rw [IntWalk.wrap64_in _ h] at hd
  have hw : IntKind.i64.wrap (a + b) = a + b := IntWalk.i64_in _ h
  clear hs ha hb h
  go_enter Tryz.func63, Tryz.ntmps63
  go_wp2_with (go_at_call 76; refine (watched_yes _ _).mono ?_; rintro e w' ⟨rfl, rfl⟩)
  go_ret2
  exact pair_is hR.out
 ·have hR := Lib.hid (show sumR a b = (0, 10) from if_neg h)
  have hd : decide (bits .and .i64 (bits .xor .i64 a (wrap64 (a + b))) (bits .xor .i64 b (wrap64 (a + b))) ≥ 0) = false := decide_eq_false (fun x => h (hs.1 x))
  clear hs ha hb h
  go_enter Tryz.func63, Tryz.ntmps63
  go_wp2_with (go_at_call 76; refine (watched_no _ _).mono ?_; rintro e w' ⟨rfl, rfl⟩)
  go_ret2
  exact pair_is hR.out
def PairDr (r : Int × Int) (w : World) (e : Ending) (w' : World) : Prop := e = .returned (.tuple #[.int .i64 r.1, .int .i64 r.2]) ∧ ∃ n, w' = w.drewN n
theorem PairIs.dr {r : Int × Int} {w w' : World} {e : Ending} (h : PairIs r w e w') : PairDr r w e w' := ⟨h.1, 0, h.2.symm⟩
def ValBe (k n : Int) (w : World) (e : Ending) (w' : World) : Prop := e = .returned (.agg #[.int .i64 k, .int .i64 n, .string ⟨#[]⟩, .slice none 0 0, .slice none 0 0, .slice none 0 0]) ∧ Below w.heap.size w w'
def noneB (k : Int) : Bool := k == 2 || k == 0
def numB (k : Int) : Bool := k == 3 || k == 4
theorem of_any (n : Int) (w : World) : Calls Tryz.prog 46 #[.int .i64 n] w (ValBe (ofK n) n w) := by
 by_cases h : -2147483648 ≤ n ∧ n < 2147483648
 ·have hK := Lib.hid (show ofK n = 3 from if_pos h)
  rw [hK.out]
  clear hK
  have hq : ((n : Int) == wrap32 n) = true := by rw [IntWalk.wrap32_in n ⟨h.1, by omega⟩]; exact beq_self_eq_true n
  obtain ⟨h1, h2⟩ := h
  go_enter Tryz.func46, Tryz.ntmps46
  go_wp2_with fail
  exact bodyPost_ret (v := .agg #[.int .i64 3, .int .i64 n, .string ⟨#[]⟩, .slice none 0 0, .slice none 0 0, .slice none 0 0]) (by simp [results, Tryz.results46, go_sem]) rfl ⟨rfl, ((Below.refl _ _).alloc (Nat.le_refl _) _)⟩
 ·have hK := Lib.hid (show ofK n = 4 from if_neg h)
  rw [hK.out]
  clear hK
  have hn : ¬ n = wrap64 (wrap32 n) := by unfold wrap64 wrap32; omega
  have hq : ((n : Int) == wrap64 (wrap32 n)) = false := by rw [beq_eq_false_iff_ne]; exact hn
  clear h
  go_enter Tryz.func46, Tryz.ntmps46
  go_wp2_with fail
  exact bodyPost_ret (v := .agg #[.int .i64 4, .int .i64 n, .string ⟨#[]⟩, .slice none 0 0, .slice none 0 0, .slice none 0 0]) (by simp [results, Tryz.results46, go_sem]) rfl ⟨rfl, ((Below.refl _ _).alloc (Nat.le_refl _) _)⟩
theorem nothing_any (k : Int) (c1 c2 c3 c4 c5 : Value) (w : World) : Calls Tryz.prog 74 #[.agg #[.int .i64 k, c1, c2, c3, c4, c5]] w (BoolBe (noneB k) w) := by
 by_cases h : k = 2
 ·subst h
  go_enter Tryz.func74, Tryz.ntmps74
  go_wp2_with fail
  go_ret
  exact ⟨rfl, (Below.refl _ _).alloc (Nat.le_refl _) _⟩
 by_cases h2 : k = 0
 ·subst h2
  go_enter Tryz.func74, Tryz.ntmps74
  go_wp2_with fail
  go_ret
  exact ⟨rfl, (Below.refl _ _).alloc (Nat.le_refl _) _⟩
 have hB := Lib.hid (show noneB k = false by simp [noneB, h, h2])
 have e1 : ((k : Int) == 2) = false := by rw [beq_eq_false_iff_ne]; exact h
 have e2 : ((k : Int) == 0) = false := by rw [beq_eq_false_iff_ne]; exact h2
 rw [hB.out]
 go_enter Tryz.func74, Tryz.ntmps74
 go_wp2_with fail
 go_ret
 exact ⟨rfl, (Below.refl _ _).alloc (Nat.le_refl _) _⟩
theorem number_any (k : Int) (c1 c2 c3 c4 c5 : Value) (w : World) : Calls Tryz.prog 75 #[.agg #[.int .i64 k, c1, c2, c3, c4, c5]] w (BoolBe (numB k) w) := by
 by_cases h : k = 3
 ·subst h
  go_enter Tryz.func75, Tryz.ntmps75
  go_wp2_with fail
  go_ret
  exact ⟨rfl, (Below.refl _ _).alloc (Nat.le_refl _) _⟩
 by_cases h2 : k = 4
 ·subst h2
  go_enter Tryz.func75, Tryz.ntmps75
  go_wp2_with fail
  go_ret
  exact ⟨rfl, (Below.refl _ _).alloc (Nat.le_refl _) _⟩
 have hB := Lib.hid (show numB k = false by simp [numB, h, h2])
 have e1 : ((k : Int) == 3) = false := by rw [beq_eq_false_iff_ne]; exact h
 have e2 : ((k : Int) == 4) = false := by rw [beq_eq_false_iff_ne]; exact h2
 rw [hB.out]
 go_enter Tryz.func75, Tryz.ntmps75
 go_wp2_with fail
 go_ret
 exact ⟨rfl, (Below.refl _ _).alloc (Nat.le_refl _) _⟩
end Go.Proofs.YtngllchoiffniaaGreatDoor
end
section
namespace Go.Proofs.YtngllchoiffniaaGreatDoor
open Go.RowKit
open Seal
theorem nan_i64 (k : Int) (w : World) : Calls Tryz.prog 97 #[.int .i64 k] w fun e w' => e = .returned (.bool false) ∧ w = w' := by
 go_enter Tryz.func97, Tryz.ntmps97
 go_wp2
 go_ret
 exact ⟨rfl, rfl⟩
theorem cmpI64_any (a b : Int) (w : World) : Calls Tryz.prog 80 #[.int .i64 a, .int .i64 b] w (IntPost (Order.sgn a b) w) := by
 rcases Int.lt_trichotomy a b with h | h | h
 ·have HC := Lib.hid (Order.sgn_lt h)
  go_enter Tryz.func80, Tryz.ntmps80
  go_wp2_with (go_at_call 97; refine (nan_i64 _ _).mono ?_; rintro e w' ⟨rfl, rfl⟩)
  go_ret
  exact ⟨ret_i HC.out.symm, rfl⟩
 ·subst h
  have HC := Lib.hid (Order.sgn_self a)
  go_enter Tryz.func80, Tryz.ntmps80
  go_wp2_with (go_at_call 97; refine (nan_i64 _ _).mono ?_; rintro e w' ⟨rfl, rfl⟩)
  go_ret
  exact ⟨ret_i HC.out.symm, rfl⟩
 ·have HC := Lib.hid (Order.sgn_gt h)
  have h' : ¬ a < b := by omega
  go_enter Tryz.func80, Tryz.ntmps80
  go_wp2_with (go_at_call 97; refine (nan_i64 _ _).mono ?_; rintro e w' ⟨rfl, rfl⟩)
  go_ret
  exact ⟨ret_i HC.out.symm, rfl⟩
theorem strCmp_any (a b : ByteArray) (w : World) : Calls Tryz.prog 81 #[.string a, .string b] w (IntPost (Order.text a b) w) := by
 refine (Tryz.strings_Compare a b w).mono ?_
 rintro e w' ⟨rfl, rfl⟩
 exact ⟨by rw [Order.compareBytes_text], rfl⟩
end Go.Proofs.YtngllchoiffniaaGreatDoor
end
section
namespace Go.Proofs.YtngllchoiffniaaGreatDoor
open Go.RowKit
open Seal
open Bson (Val)
def CopyPost (w : World) (h : Nat) (x : Val) (e : Ending) (w' : World) : Prop := ∃ v', e = .returned v' ∧ VIn w' (fun g => w.heap.size ≤ g) h x v' ∧ Below w.heap.size w w'
def CopyAt (Q : Nat → Prop) (h : Nat) : Prop := ∀ (x : Val) (v : Value) (w : World), VIn w Q h x v → Calls Tryz.prog 40 #[v] w (CopyPost w h x)
def BoxF (nm : ByteArray) (c0 c1 c2 c3 c4 c5 : Value) (w W : World) : Prop := W.heap[w.heap.size]? = some (.cells #[Value.string nm, c0, c1, c2, c3, c4, c5] 38 (0, 0)) ∧ W.heap[w.heap.size + 1]? = some (.cells #[Value.string ⟨#[]⟩, .int .i64 0, .int .i64 0, .string ⟨#[]⟩, .slice none 0 0, .slice none 0 0, .slice none 0 0] 38 (0, 0))
theorem BoxF.facts {nm : ByteArray} {c0 c1 c2 c3 c4 c5 : Value} {w W : World} (h : BoxF nm c0 c1 c2 c3 c4 c5 w W) : W.cell? ⟨w.heap.size, 0, none⟩ = some (.string nm) ∧ W.cell? ⟨w.heap.size, 1, none⟩ = some c0 ∧ W.cell? ⟨w.heap.size, 2, none⟩ = some c1 ∧ W.cell? ⟨w.heap.size, 3, none⟩ = some c2 ∧ W.cell? ⟨w.heap.size, 4, none⟩ = some c3 ∧ W.cell? ⟨w.heap.size, 5, none⟩ = some c4 ∧ W.cell? ⟨w.heap.size, 6, none⟩ = some c5 :=
 ⟨(cell_of_row W _ 0 _ _ _ h.1).trans rfl, (cell_of_row W _ 1 _ _ _ h.1).trans rfl, (cell_of_row W _ 2 _ _ _ h.1).trans rfl, (cell_of_row W _ 3 _ _ _ h.1).trans rfl, (cell_of_row W _ 4 _ _ _ h.1).trans rfl, (cell_of_row W _ 5 _ _ _ h.1).trans rfl, (cell_of_row W _ 6 _ _ _ h.1).trans rfl⟩
theorem BoxF.zeros {nm : ByteArray} {c0 c1 c2 c3 c4 c5 : Value} {w W : World} (h : BoxF nm c0 c1 c2 c3 c4 c5 w W) : W.cell? ⟨w.heap.size + 1, 0, none⟩ = some (.string ⟨#[]⟩) ∧ W.cell? ⟨w.heap.size + 1, 1, none⟩ = some (.int .i64 0) ∧ W.cell? ⟨w.heap.size + 1, 2, none⟩ = some (.int .i64 0) ∧ W.cell? ⟨w.heap.size + 1, 3, none⟩ = some (.string ⟨#[]⟩) ∧ W.cell? ⟨w.heap.size + 1, 4, none⟩ = some (.slice none 0 0) ∧ W.cell? ⟨w.heap.size + 1, 5, none⟩ = some (.slice none 0 0) ∧ W.cell? ⟨w.heap.size + 1, 6, none⟩ = some (.slice none 0 0) ∧ W.frozen? ⟨w.heap.size + 1, 0, none⟩ = false ∧ W.frozen? ⟨w.heap.size + 1, 1, none⟩ = false ∧ W.frozen? ⟨w.heap.size + 1, 2, none⟩ = false ∧ W.frozen? ⟨w.heap.size + 1, 3, none⟩ = false ∧ W.frozen? ⟨w.heap.size + 1, 4, none⟩ = false ∧ W.frozen? ⟨w.heap.size + 1, 5, none⟩ = false ∧ W.frozen? ⟨w.heap.size + 1, 6, none⟩ = false :=
 ⟨(cell_of_row W _ 0 _ _ _ h.2).trans rfl, (cell_of_row W _ 1 _ _ _ h.2).trans rfl, (cell_of_row W _ 2 _ _ _ h.2).trans rfl, (cell_of_row W _ 3 _ _ _ h.2).trans rfl, (cell_of_row W _ 4 _ _ _ h.2).trans rfl, (cell_of_row W _ 5 _ _ _ h.2).trans rfl, (cell_of_row W _ 6 _ _ _ h.2).trans rfl, frozen_of_row W _ 0 _ _ h.2, frozen_of_row W _ 1 _ _ h.2, frozen_of_row W _ 2 _ _ h.2, frozen_of_row W _ 3 _ _ h.2, frozen_of_row W _ 4 _ _ h.2, frozen_of_row W _ 5 _ _ h.2, frozen_of_row W _ 6 _ _ h.2⟩
theorem BoxF.after {nm : ByteArray} {c0 c1 c2 c3 c4 c5 : Value} {w W : World} (h : BoxF nm c0 c1 c2 c3 c4 c5 w W) (vs : List Value) : (W.setCells (w.heap.size + 1) 0 vs).cell? ⟨w.heap.size, 0, none⟩ = some (.string nm) ∧ (W.setCells (w.heap.size + 1) 0 vs).cell? ⟨w.heap.size, 1, none⟩ = some c0 ∧ (W.setCells (w.heap.size + 1) 0 vs).cell? ⟨w.heap.size, 2, none⟩ = some c1 ∧ (W.setCells (w.heap.size + 1) 0 vs).cell? ⟨w.heap.size, 3, none⟩ = some c2 ∧ (W.setCells (w.heap.size + 1) 0 vs).cell? ⟨w.heap.size, 4, none⟩ = some c3 ∧ (W.setCells (w.heap.size + 1) 0 vs).cell? ⟨w.heap.size, 5, none⟩ = some c4 ∧ (W.setCells (w.heap.size + 1) 0 vs).cell? ⟨w.heap.size, 6, none⟩ = some c5 := by
 have e : (W.setCells (w.heap.size + 1) 0 vs).heap[w.heap.size]? = _ := (puts_other (w.heap.size + 1) w.heap.size (by omega) vs W 0).trans h.1
 exact ⟨(cell_of_row _ _ 0 _ _ _ e).trans rfl, (cell_of_row _ _ 1 _ _ _ e).trans rfl, (cell_of_row _ _ 2 _ _ _ e).trans rfl, (cell_of_row _ _ 3 _ _ _ e).trans rfl, (cell_of_row _ _ 4 _ _ _ e).trans rfl, (cell_of_row _ _ 5 _ _ _ e).trans rfl, (cell_of_row _ _ 6 _ _ _ e).trans rfl⟩
theorem BoxF.row {nm : ByteArray} {c0 c1 c2 c3 c4 c5 : Value} {w W : World} (h : BoxF nm c0 c1 c2 c3 c4 c5 w W) : Row6 W (w.heap.size + 1) 38 7 := ⟨_, h.2, rfl⟩
theorem BoxF.new (nm : ByteArray) (c0 c1 c2 c3 c4 c5 : Value) (w : World) : BoxF nm c0 c1 c2 c3 c4 c5 w ((w.alloc (.cells #[Value.string nm, c0, c1, c2, c3, c4, c5] 38)).alloc (.cells #[Value.string ⟨#[]⟩, .int .i64 0, .int .i64 0, .string ⟨#[]⟩, .slice none 0 0, .slice none 0 0, .slice none 0 0] 38)) :=
 ⟨(Below.heap_alloc _ _ _ (by simp)).trans (heap_alloc_new w _), by have := heap_alloc_new (w.alloc (.cells #[Value.string nm, c0, c1, c2, c3, c4, c5] 38)) (.cells #[Value.string ⟨#[]⟩, .int .i64 0, .int .i64 0, .string ⟨#[]⟩, .slice none 0 0, .slice none 0 0, .slice none 0 0] 38); simpa using this⟩
theorem BoxF.keep {nm : ByteArray} {c0 c1 c2 c3 c4 c5 : Value} {w W W' : World} (h : BoxF nm c0 c1 c2 c3 c4 c5 w W) (hb : Below W.heap.size W W') : BoxF nm c0 c1 c2 c3 c4 c5 w W' :=
 ⟨(hb.block _ (Array.getElem?_eq_some_iff.1 h.1).1).trans h.1, (hb.block _ (Array.getElem?_eq_some_iff.1 h.2).1).trans h.2⟩
theorem copyfield_any (Q : Nat → Prop) (h : Nat) (IH0 : CopyAt Q h) (nm : ByteArray) (x : Val) (c0 c1 c2 c3 c4 c5 : Value) (w : World) (hv : VIn w Q h x (.agg #[c0, c1, c2, c3, c4, c5])) :
  Calls Tryz.prog 60 #[.agg #[.string nm, c0, c1, c2, c3, c4, c5]] w fun e w' => ∃ c0 c1 c2 c3 c4 c5, e = .returned (.agg #[.string nm, c0, c1, c2, c3, c4, c5]) ∧ VIn w' (fun g => w.heap.size ≤ g) h x (.agg #[c0, c1, c2, c3, c4, c5]) ∧ Below w.heap.size w w' := by
 have IH := Lib.hid IH0
 have HV := Lib.hid hv
 have HX := Lib.hid (BoxF.new nm c0 c1 c2 c3 c4 c5 w)
 clear hv IH0
 go_enter Tryz.func60, Tryz.ntmps60
 go_wp2_with fail
 generalize hW0 : (w.alloc (Obj.cells #[Value.string nm, c0, c1, c2, c3, c4, c5] 38)).alloc (Obj.cells #[Value.string ⟨#[]⟩, Value.int .i64 0, Value.int .i64 0, Value.string ⟨#[]⟩, Value.slice none 0 0, Value.slice none 0 0, Value.slice none 0 0] 38) = W0 at HX ⊢
 have HB0 : Hid (Below w.heap.size w W0) := by
  rw [← hW0]; exact ((Below.refl _ w).alloc (Nat.le_refl _) _).alloc (by simp) _
 have HS0 : Hid (w.heap.size + 2 ≤ W0.heap.size) := by rw [← hW0]; show _ ≤ _; simp
 clear hW0
 have HVW := Lib.hid (VIn.keep HB0.out HV.out)
 have hf := HX.out.facts
 go_region_held3 (fun W => W.cell? ⟨w.heap.size, 0, none⟩ = some (.string nm) ∧ W.cell? ⟨w.heap.size, 1, none⟩ = some c0 ∧ W.cell? ⟨w.heap.size, 2, none⟩ = some c1 ∧ W.cell? ⟨w.heap.size, 3, none⟩ = some c2 ∧ W.cell? ⟨w.heap.size, 4, none⟩ = some c3 ∧ W.cell? ⟨w.heap.size, 5, none⟩ = some c4 ∧ W.cell? ⟨w.heap.size, 6, none⟩ = some c5)
  (first | with_reducible exact hf | with_reducible exact hf2 | with_reducible exact hf3 | go_keep)
  ((go_at_call 40; refine (IH.out x _ W0.drew (VIn.keep ((Below.refl _ W0).drew) HVW.out)).mono ?_; rintro e w' ⟨v', rfl, hv', hb'⟩; obtain ⟨ka, na, sa, ba, fa, la, bl, bc, fl, fc, ll, lc, rfl⟩ := hv'.shape; have HV' := Lib.hid hv'; have HB' : Hid (Below W0.heap.size W0 w') := (Below.refl _ W0).drew.trans hb'; have HX' := Lib.hid (HX.out.keep HB'.out); have hf2 := HX'.out.facts; obtain ⟨g0, g1, g2, g3, g4, g5, g6, g7, g8, g9, g10, g11, g12, g13⟩ := HX'.out.zeros; have hf3 : (((((((w'.setCell ⟨w.heap.size + 1, 0, none⟩ (.string nm)).setCell ⟨w.heap.size + 1, 1, none⟩ (.int .i64 ka)).setCell ⟨w.heap.size + 1, 2, none⟩ (.int .i64 na)).setCell ⟨w.heap.size + 1, 3, none⟩ (.string sa)).setCell ⟨w.heap.size + 1, 4, none⟩ (.slice ba bl bc)).setCell ⟨w.heap.size + 1, 5, none⟩ (.slice fa fl fc)).setCell ⟨w.heap.size + 1, 6, none⟩ (.slice la ll lc)).cell? ⟨w.heap.size, 0, none⟩ = some (.string nm) ∧ (((((((w'.setCell ⟨w.heap.size + 1, 0, none⟩ (.string nm)).setCell ⟨w.heap.size + 1, 1, none⟩ (.int .i64 ka)).setCell ⟨w.heap.size + 1, 2, none⟩ (.int .i64 na)).setCell ⟨w.heap.size + 1, 3, none⟩ (.string sa)).setCell ⟨w.heap.size + 1, 4, none⟩ (.slice ba bl bc)).setCell ⟨w.heap.size + 1, 5, none⟩ (.slice fa fl fc)).setCell ⟨w.heap.size + 1, 6, none⟩ (.slice la ll lc)).cell? ⟨w.heap.size, 1, none⟩ = some c0 ∧ (((((((w'.setCell ⟨w.heap.size + 1, 0, none⟩ (.string nm)).setCell ⟨w.heap.size + 1, 1, none⟩ (.int .i64 ka)).setCell ⟨w.heap.size + 1, 2, none⟩ (.int .i64 na)).setCell ⟨w.heap.size + 1, 3, none⟩ (.string sa)).setCell ⟨w.heap.size + 1, 4, none⟩ (.slice ba bl bc)).setCell ⟨w.heap.size + 1, 5, none⟩ (.slice fa fl fc)).setCell ⟨w.heap.size + 1, 6, none⟩ (.slice la ll lc)).cell? ⟨w.heap.size, 2, none⟩ = some c1 ∧ (((((((w'.setCell ⟨w.heap.size + 1, 0, none⟩ (.string nm)).setCell ⟨w.heap.size + 1, 1, none⟩ (.int .i64 ka)).setCell ⟨w.heap.size + 1, 2, none⟩ (.int .i64 na)).setCell ⟨w.heap.size + 1, 3, none⟩ (.string sa)).setCell ⟨w.heap.size + 1, 4, none⟩ (.slice ba bl bc)).setCell ⟨w.heap.size + 1, 5, none⟩ (.slice fa fl fc)).setCell ⟨w.heap.size + 1, 6, none⟩ (.slice la ll lc)).cell? ⟨w.heap.size, 3, none⟩ = some c2 ∧ (((((((w'.setCell ⟨w.heap.size + 1, 0, none⟩ (.string nm)).setCell ⟨w.heap.size + 1, 1, none⟩ (.int .i64 ka)).setCell ⟨w.heap.size + 1, 2, none⟩ (.int .i64 na)).setCell ⟨w.heap.size + 1, 3, none⟩ (.string sa)).setCell ⟨w.heap.size + 1, 4, none⟩ (.slice ba bl bc)).setCell ⟨w.heap.size + 1, 5, none⟩ (.slice fa fl fc)).setCell ⟨w.heap.size + 1, 6, none⟩ (.slice la ll lc)).cell? ⟨w.heap.size, 4, none⟩ = some c3 ∧ (((((((w'.setCell ⟨w.heap.size + 1, 0, none⟩ (.string nm)).setCell ⟨w.heap.size + 1, 1, none⟩ (.int .i64 ka)).setCell ⟨w.heap.size + 1, 2, none⟩ (.int .i64 na)).setCell ⟨w.heap.size + 1, 3, none⟩ (.string sa)).setCell ⟨w.heap.size + 1, 4, none⟩ (.slice ba bl bc)).setCell ⟨w.heap.size + 1, 5, none⟩ (.slice fa fl fc)).setCell ⟨w.heap.size + 1, 6, none⟩ (.slice la ll lc)).cell? ⟨w.heap.size, 5, none⟩ = some c4 ∧ (((((((w'.setCell ⟨w.heap.size + 1, 0, none⟩ (.string nm)).setCell ⟨w.heap.size + 1, 1, none⟩ (.int .i64 ka)).setCell ⟨w.heap.size + 1, 2, none⟩ (.int .i64 na)).setCell ⟨w.heap.size + 1, 3, none⟩ (.string sa)).setCell ⟨w.heap.size + 1, 4, none⟩ (.slice ba bl bc)).setCell ⟨w.heap.size + 1, 5, none⟩ (.slice fa fl fc)).setCell ⟨w.heap.size + 1, 6, none⟩ (.slice la ll lc)).cell? ⟨w.heap.size, 6, none⟩ = some c5 := HX'.out.after [.string nm, .int .i64 ka, .int .i64 na, .string sa, .slice ba bl bc, .slice fa fl fc, .slice la ll lc]; clear hv' hb'))
 have HBw : Hid (Below w.heap.size w w') := HB0.out.trans (HB'.out.mono (by have := HS0.out; omega))
 have hk := puts_kept (fun g => W0.heap.size ≤ g) (w := w') (G := w.heap.size + 1) (by have := HS0.out; omega) 0 [.string nm, .int .i64 ka, .int .i64 na, .string sa, .slice ba bl bc, .slice fa fl fc, .slice la ll lc]
 have hb9 := puts_below HBw.out (G := w.heap.size + 1) (by omega) [.string nm, .int .i64 ka, .int .i64 na, .string sa, .slice ba bl bc, .slice fa fl fc, .slice la ll lc] 0
 have hv9 := HV'.out.kept hk (Q' := fun g => w.heap.size ≤ g) (fun g hg => by have := HS0.out; omega)
 clear hf2 hf3 hf
 go_wp2_with fail
 exact bodyPost_ret (v := .agg #[.string nm, .int .i64 ka, .int .i64 na, .string sa, .slice ba bl bc, .slice fa fl fc, .slice la ll lc]) (by simp [results, Tryz.results60, go_sem, g0, g1, g2, g3, g4, g5, g6]) rfl ⟨_, _, _, _, _, _, rfl, hv9, hb9⟩
end Go.Proofs.YtngllchoiffniaaGreatDoor
end
section
namespace Go.Proofs.YtngllchoiffniaaGreatDoor
open Go.RowKit
open Seal
theorem infoField : (Tryz.prog.info? 38).map (fun i => (i.zero, i.size, i.bytes)) = some (some (.agg #[.string ⟨#[]⟩, .int .i64 0, .int .i64 0, .string ⟨#[]⟩, .slice none 0 0, .slice none 0 0, .slice none 0 0]), 7, 120) := by kernel_rfl
theorem seven_new (w : World) (c0 c1 c2 c3 c4 c5 c6 : Value) (t : TypeId) : ∀ j u, ([c0, c1, c2, c3, c4, c5, c6] : List Value)[j]? = some u → (w.alloc (.cells #[c0, c1, c2, c3, c4, c5, c6] t)).cell? (Addr.add ⟨w.heap.size, 0, none⟩ j) = some u := by
 intro j u hj
 rw [Addr.add_mid, Nat.zero_add, cell_of_row _ _ j _ _ _ (heap_alloc_new w _)]
 simpa using hj
theorem seven_one (nm : ByteArray) (k n : Int) (s : ByteArray) (ba fa la : Option Addr) (bl bc fl fc ll lc : Nat) : ∀ u ∈ ([.string nm, .int .i64 k, .int .i64 n, .string s, .slice ba bl bc, .slice fa fl fc, .slice la ll lc] : List Value), u.oneCell' = true := by
 intro u hu
 simp at hu
 rcases hu with rfl | rfl | rfl | rfl | rfl | rfl | rfl <;> rfl
end Go.Proofs.YtngllchoiffniaaGreatDoor
end
