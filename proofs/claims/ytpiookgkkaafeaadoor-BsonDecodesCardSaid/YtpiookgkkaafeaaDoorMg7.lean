/- PathMem, ValByt, Boxed2, Boxes, BsonHold, BsonMeter. -/
import Derived.Laws.Rows
import Derived.OwnWalk
import Derived.Deep.MidRow
import Derived.Maps.OwnSet
import Derived.Maps.OwnOps
import Derived.Maps.Views
import Derived.StillTailTactics
import Derived.WalkSpells
import Derived.IntWalk
import Derived.Laws.Externs
import Derived.Test.YtpiookgkkaafeaaDoorMg5
import Derived.Test.YtpiookgkkaafeaaDoorMg6
set_option maxRecDepth 100000
section
namespace Go.Proofs.YtpiookgkkaafeaaDoor
open Go.RowKit
open Seal
open Bson (Val)
/-- Cells stored one behind the other. -/
abbrev puts (w : World) (G o : Nat) (vs : List Value) : World := w.setCells G o vs
theorem puts_other (G k : Nat) (h : k ≠ G) : ∀ (vs : List Value) (w : World) (o : Nat), (puts w G o vs).heap[k]? = w.heap[k]?
  | [], _, _ => rfl
  | v :: vs, w, o => (puts_other G k h vs _ (o + 1)).trans (Below.heap_setCell w ⟨G, o, none⟩ v k h)
theorem puts_size (G : Nat) : ∀ (vs : List Value) (w : World) (o : Nat), (puts w G o vs).heap.size = w.heap.size
  | [], _, _ => rfl
  | v :: vs, w, o => (puts_size G vs _ (o + 1)).trans (by simp)
theorem puts_same (G : Nat) (t : TypeId) : ∀ (vs : List Value) (w : World) (o : Nat) (cs : Array Value), w.heap[G]? = some (.cells cs t (0, 0)) →
    ∃ ds, (puts w G o vs).heap[G]? = some (.cells ds t (0, 0)) ∧ ds.size = cs.size ∧ (∀ j, j < o → ds[j]? = cs[j]?) ∧ (∀ j, o + vs.length ≤ j → ds[j]? = cs[j]?) ∧ (o + vs.length ≤ cs.size → ∀ j, j < vs.length → ds[o + j]? = vs[j]?)
  | [], w, o, cs, h => ⟨cs, h, rfl, fun _ _ => rfl, fun _ _ => rfl, fun _ j hj => by simp at hj⟩
  | v :: vs, w, o, cs, h => by
    have h1 := heap_setCell_same w G o cs t v h
    obtain ⟨ds, h2, h3, h4, h5, h6⟩ := puts_same G t vs _ (o + 1) _ h1
    refine ⟨ds, h2, by rw [h3]; simp, fun j hj => ?_, fun j hj => ?_, fun hl j hj => ?_⟩
    · rw [h4 j (by omega), Array.getElem?_setIfInBounds_ne (by omega)]
    · rw [List.length_cons] at hj
      rw [h5 j (by omega), Array.getElem?_setIfInBounds_ne (by omega)]
    · rw [List.length_cons] at hl hj
      cases j with
      | zero =>
        rw [Nat.add_zero, h4 o (by omega), Array.getElem?_setIfInBounds_self_of_lt (by omega)]; rfl
      | succ j =>
        have := h6 (by simp; omega) j (by omega)
        rw [show o + (j + 1) = o + 1 + j by omega, this]; rfl
theorem puts_below {w wr : World} {B G : Nat} (h : Below B w wr) (hG : B ≤ G) : ∀ (vs : List Value) (o : Nat), Below B w (puts wr G o vs)
  | [], _ => h
  | v :: vs, o => by
    have h1 : Below B w (wr.setCell ⟨G, o, none⟩ v) := ⟨h.os, h.tape, h.output, by simpa using h.size, fun k hk => (Below.heap_setCell wr ⟨G, o, none⟩ v k (by show k ≠ G; omega)).trans (h.block k hk)⟩
    exact puts_below h1 hG vs (o + 1)
theorem puts_kept (Q : Nat → Prop) {w : World} {G : Nat} (hQ : ¬ Q G) (o : Nat) (vs : List Value) : Kept Q w (puts w G o vs) :=
  fun g hg _ => puts_other G g (fun e => hQ (e ▸ hg)) vs w o
/-- A row's cells: what stands at a place of it. -/
def Row6 (w : World) (G : Nat) (t : TypeId) (len : Nat) : Prop := ∃ cs, w.heap[G]? = some (.cells cs t (0, 0)) ∧ cs.size = len
theorem Row6.lt {w : World} {G : Nat} {t : TypeId} {len : Nat} (h : Row6 w G t len) : G < w.heap.size := by
  obtain ⟨cs, h, _⟩ := h
  exact (Array.getElem?_eq_some_iff.1 h).1
theorem Row6.at {w : World} {G : Nat} {t : TypeId} {len : Nat} (h : Row6 w G t len) {j : Nat} (hj : j < len) : (∃ v, w.cell? ⟨G, j, none⟩ = some v) ∧ w.frozen? ⟨G, j, none⟩ = false := by
  obtain ⟨cs, h, hl⟩ := h
  exact ⟨⟨cs[j]'(by omega), (cell_of_row w G j cs t _ h).trans (Array.getElem?_eq_getElem (by omega))⟩, frozen_of_row w G j _ _ h⟩
theorem Row6.puts {w : World} {G : Nat} {t : TypeId} {len : Nat} (h : Row6 w G t len) (o : Nat) (vs : List Value) (ho : o + vs.length ≤ len) :
    Row6 (puts w G o vs) G t len ∧ (∀ j, j < o ∨ o + vs.length ≤ j → (Go.Proofs.YtpiookgkkaafeaaDoor.puts w G o vs).cell? ⟨G, j, none⟩ = w.cell? ⟨G, j, none⟩) ∧ ∀ j, j < vs.length → (Go.Proofs.YtpiookgkkaafeaaDoor.puts w G o vs).cell? ⟨G, o + j, none⟩ = vs[j]? := by
  obtain ⟨cs, h, hl⟩ := h
  obtain ⟨ds, h2, h3, h4, h5, h6⟩ := puts_same G t vs w o cs h
  refine ⟨⟨ds, h2, by omega⟩, fun j hj => ?_, fun j hj => ?_⟩
  · rw [cell_of_row _ G j _ _ _ h2, cell_of_row _ G j _ _ _ h]
    rcases hj with hj | hj
    · exact h4 j hj
    · exact h5 j hj
  · rw [cell_of_row _ G _ _ _ _ h2, h6 (by omega) j hj]
theorem Row6.keep {w w' : World} {G : Nat} {t : TypeId} {len : Nat} (h : Row6 w G t len) (hb : Below w.heap.size w w') : Row6 w' G t len := by
  have hlt := h.lt
  obtain ⟨cs, h, hl⟩ := h
  exact ⟨cs, (hb.block G hlt).trans h, hl⟩
theorem SixAt.of_puts {w : World} {G : Nat} {t : TypeId} {len : Nat} (h : Row6 w G t len) (o p : Nat) (vs : List Value) (ho : o + vs.length ≤ len) (c0 c1 c2 c3 c4 c5 : Value)
    (h0 : vs[p]? = some c0) (h1 : vs[p + 1]? = some c1) (h2 : vs[p + 2]? = some c2) (h3 : vs[p + 3]? = some c3) (h4 : vs[p + 4]? = some c4) (h5 : vs[p + 5]? = some c5) : SixAt (puts w G o vs) G (o + p) (.agg #[c0, c1, c2, c3, c4, c5]) := by
  obtain ⟨_, _, h7⟩ := h.puts o vs ho
  have hl : p + 5 < vs.length := (List.getElem?_eq_some_iff.1 h5).1
  exact ⟨c0, c1, c2, c3, c4, c5, rfl, (h7 p (by omega)).trans h0, (h7 (p + 1) (by omega)).trans h1, (h7 (p + 2) (by omega)).trans h2, (h7 (p + 3) (by omega)).trans h3, (h7 (p + 4) (by omega)).trans h4, (h7 (p + 5) (by omega)).trans h5⟩
theorem SixAt.puts_before {w : World} {G : Nat} {t : TypeId} {len : Nat} (h : Row6 w G t len) {q : Nat} {v : Value} (hs : SixAt w G q v) (o : Nat) (vs : List Value) (ho : o + vs.length ≤ len) (hq : q + 6 ≤ o) : SixAt (puts w G o vs) G q v := by
  obtain ⟨c0, c1, c2, c3, c4, c5, e, h0, h1, h2, h3, h4, h5⟩ := hs
  obtain ⟨_, h6, _⟩ := h.puts o vs ho
  exact ⟨c0, c1, c2, c3, c4, c5, e, (h6 q (by omega)).trans h0, (h6 (q + 1) (by omega)).trans h1, (h6 (q + 2) (by omega)).trans h2, (h6 (q + 3) (by omega)).trans h3, (h6 (q + 4) (by omega)).trans h4, (h6 (q + 5) (by omega)).trans h5⟩
/-- Every value in memory is six cells. -/
theorem VIn.shape {w : World} {Q : Nat → Prop} {h : Nat} {x : Val} {v : Value} (hv : VIn w Q h x v) : ∃ (k n : Int) (s : ByteArray) (ba fa la : Option Addr) (bl bc fl fc ll lc : Nat), v = .agg #[.int .i64 k, .int .i64 n, .string s, .slice ba bl bc, .slice fa fl fc, .slice la ll lc] := by
  cases h with
  | zero => exact hv.elim
  | succ h =>
    obtain ⟨ba, fa, la, bc, fc, lc, rfl, _⟩ := hv
    exact ⟨_, _, _, _, _, _, _, _, _, _, _, _, rfl⟩
/-- A value's six cells. -/
def six6 (x : Val) (ba fa la : Option Addr) (bc fc lc : Nat) : List Value := [.int .i64 x.kind, .int .i64 x.n, .string x.s, .slice ba x.b.length bc, .slice fa x.f.length fc, .slice la x.l.length lc]
theorem Row6.there {w : World} {G : Nat} {t : TypeId} {len : Nat} (h : Row6 w G t len) (o n : Nat) (hl : o + n ≤ len) : w.there G o n := fun j hj => by
  obtain ⟨⟨v, h1⟩, h2⟩ := h.at (j := o + j) (by omega)
  exact ⟨by rw [h1]; rfl, h2⟩
theorem SixAt.range {w : World} {g p : Nat} {c0 c1 c2 c3 c4 c5 : Value} (h : SixAt w g p (.agg #[c0, c1, c2, c3, c4, c5])) : w.rangeAt g p [c0, c1, c2, c3, c4, c5] := by
  obtain ⟨d0, d1, d2, d3, d4, d5, e, h0, h1, h2, h3, h4, h5⟩ := h
  injection e with e
  injection e with e
  injection e with e0 e; injection e with e1 e; injection e with e2 e; injection e with e3 e; injection e with e4 e; injection e with e5 e
  subst e0 e1 e2 e3 e4 e5
  intro j v hv
  match j with
  | 0 => obtain rfl := Option.some.inj hv; exact h0
  | 1 => obtain rfl := Option.some.inj hv; exact h1
  | 2 => obtain rfl := Option.some.inj hv; exact h2
  | 3 => obtain rfl := Option.some.inj hv; exact h3
  | 4 => obtain rfl := Option.some.inj hv; exact h4
  | 5 => obtain rfl := Option.some.inj hv; exact h5
  | j + 6 => simp at hv
theorem SixAt.cells {w : World} {g p : Nat} {c0 c1 c2 c3 c4 c5 : Value} (h : SixAt w g p (.agg #[c0, c1, c2, c3, c4, c5])) : w.cell? ⟨g, p, none⟩ = some c0 ∧ w.cell? ⟨g, p + 1, none⟩ = some c1 ∧ w.cell? ⟨g, p + 2, none⟩ = some c2 ∧ w.cell? ⟨g, p + 3, none⟩ = some c3 ∧ w.cell? ⟨g, p + 4, none⟩ = some c4 ∧ w.cell? ⟨g, p + 5, none⟩ = some c5 :=
  ⟨h.range 0 _ rfl, h.range 1 _ rfl, h.range 2 _ rfl, h.range 3 _ rfl, h.range 4 _ rfl, h.range 5 _ rfl⟩
/-- The store of a whole struct, as one step of a region that draws. -/
theorem step_store {P : Program} {ops : Array Oper} {o : Oper} {a : Act} {w : World} {K : Act → World → Prop} {Q : Exit → Act → World → Prop} {E : Prop}
    (hg : o.guard = none) (ty : TypeId) (x y : Operand) (ho : o.op = .store ty x y)
    (b off : Nat) (cells : Array Value) (hx : a.eval x = .pointer (some ⟨b, off, none⟩)) (hy : a.eval y = .agg cells)
    (ht : w.there b off cells.size) (hi : (P.info? ty).map (·.size) = some cells.size) (h1 : cells.all (·.oneCell') = true)
    (h : K (a.put o.dst undef) (w.setCells b off cells.toList)) :
    if Region.wanted o (yielded ops a.tmps) = true then Oper.wp P o a w K Q else E := by
  have hw : Region.wanted o (yielded ops a.tmps) = true := by simp [Region.wanted, hg]
  rw [if_pos hw]
  exact wp_store_mid ty x y ho b off cells hx hy ht hi h1 h
theorem one6 (k n : Int) (s : ByteArray) (ba fa la : Option Addr) (bl bc fl fc ll lc : Nat) : (#[Value.int .i64 k, .int .i64 n, .string s, .slice ba bl bc, .slice fa fl fc, .slice la ll lc] : Array Value).all (·.oneCell') = true :=
  all_oneCell_toArray (cs := [Value.int .i64 k, .int .i64 n, .string s, .slice ba bl bc, .slice fa fl fc, .slice la ll lc]) (fun v hv => by simp at hv; rcases hv with rfl | rfl | rfl | rfl | rfl | rfl <;> rfl)
theorem one7 (nm : ByteArray) (k n : Int) (s : ByteArray) (ba fa la : Option Addr) (bl bc fl fc ll lc : Nat) : (#[Value.string nm, .int .i64 k, .int .i64 n, .string s, .slice ba bl bc, .slice fa fl fc, .slice la ll lc] : Array Value).all (·.oneCell') = true :=
  all_oneCell_toArray (cs := [Value.string nm, .int .i64 k, .int .i64 n, .string s, .slice ba bl bc, .slice fa fl fc, .slice la ll lc]) (fun v hv => by simp at hv; rcases hv with rfl | rfl | rfl | rfl | rfl | rfl | rfl <;> rfl)
theorem infoV : (Tryd.prog.info? 27).map (·.size) = some 6 := by kernel_rfl
theorem infoF : (Tryd.prog.info? 43).map (·.size) = some 7 := by kernel_rfl
/-- The first k of a row of values, each with what it holds in blocks behind the row's. -/
def Vals (w : World) (G h : Nat) (l : List Val) (k : Nat) : Prop := ∀ i (hi : i < l.length), i < k → ∃ v, SixAt w G (i * 6) v ∧ VIn w (fun g => G < g) h l[i] v
theorem Vals.none (w : World) (G h : Nat) (l : List Val) : Vals w G h l 0 := fun _ _ hi => absurd hi (Nat.not_lt_zero _)
theorem Vals.keep {w w' : World} {G h : Nat} {l : List Val} {k : Nat} (hv : Vals w G h l k) (hb : Below w.heap.size w w') : Vals w' G h l k := fun i hi hk => by
  obtain ⟨v, h1, h2⟩ := hv i hi hk
  exact ⟨v, h1.keep hb, h2.keep hb⟩
theorem Vals.put {w : World} {G h : Nat} {t : TypeId} {len : Nat} {l : List Val} {k : Nat} (hv : Vals w G h l k) (hr : Row6 w G t len) (hk : k < l.length) (hlen : l.length * 6 = len) {c0 c1 c2 c3 c4 c5 : Value} (hn : VIn w (fun g => G < g) h l[k] (.agg #[c0, c1, c2, c3, c4, c5])) :
    Vals (puts w G (k * 6) [c0, c1, c2, c3, c4, c5]) G h l (k + 1) := by
  intro i hi hik
  have hkp : Kept (fun g => G < g) w (puts w G (k * 6) [c0, c1, c2, c3, c4, c5]) := puts_kept _ (Nat.lt_irrefl G) _ _
  have hfit : k * 6 + [c0, c1, c2, c3, c4, c5].length ≤ len := by simp; omega
  rcases Nat.lt_or_ge i k with hlt | hge
  · obtain ⟨v, h1, h2⟩ := hv i hi hlt
    exact ⟨v, h1.puts_before hr _ _ hfit (by omega), h2.kept hkp (fun _ h => h)⟩
  · obtain rfl : i = k := by omega
    exact ⟨_, SixAt.of_puts hr _ 0 _ hfit _ _ _ _ _ _ rfl rfl rfl rfl rfl rfl, hn.kept hkp (fun _ h => h)⟩
/-- The first k of a row of fields. -/
def Flds (w : World) (G h : Nat) (f : List (ByteArray × Val)) (k : Nat) : Prop := ∀ i (hi : i < f.length), i < k → w.cell? ⟨G, i * 7, none⟩ = some (.string f[i].1) ∧ ∃ v, SixAt w G (i * 7 + 1) v ∧ VIn w (fun g => G < g) h f[i].2 v
theorem Flds.none (w : World) (G h : Nat) (l : List (ByteArray × Val)) : Flds w G h l 0 := fun _ _ hi => absurd hi (Nat.not_lt_zero _)
theorem Flds.keep {w w' : World} {G h : Nat} {f : List (ByteArray × Val)} {k : Nat} (hv : Flds w G h f k) (hb : Below w.heap.size w w') : Flds w' G h f k := fun i hi hk => by
  obtain ⟨h0, v, h1, h2⟩ := hv i hi hk
  exact ⟨cell_keep hb h0, v, h1.keep hb, h2.keep hb⟩
theorem Flds.put {w : World} {G h : Nat} {t : TypeId} {len : Nat} {f : List (ByteArray × Val)} {k : Nat} (hv : Flds w G h f k) (hr : Row6 w G t len) (hk : k < f.length) (hlen : f.length * 7 = len) {c0 c1 c2 c3 c4 c5 : Value} (hn : VIn w (fun g => G < g) h f[k].2 (.agg #[c0, c1, c2, c3, c4, c5])) :
    Flds (puts w G (k * 7) [.string f[k].1, c0, c1, c2, c3, c4, c5]) G h f (k + 1) := by
  intro i hi hik
  have hkp : Kept (fun g => G < g) w (puts w G (k * 7) [.string f[k].1, c0, c1, c2, c3, c4, c5]) := puts_kept _ (Nat.lt_irrefl G) _ _
  have hfit : k * 7 + [Value.string f[k].1, c0, c1, c2, c3, c4, c5].length ≤ len := by simp; omega
  obtain ⟨_, hb4, hat⟩ := hr.puts (k * 7) [.string f[k].1, c0, c1, c2, c3, c4, c5] hfit
  rcases Nat.lt_or_ge i k with hlt | hge
  · obtain ⟨h0, v, h1, h2⟩ := hv i hi hlt
    exact ⟨(hb4 _ (.inl (by omega))).trans h0, v, h1.puts_before hr _ _ hfit (by omega), h2.kept hkp (fun _ h => h)⟩
  · obtain rfl : i = k := by omega
    exact ⟨hat 0 (by simp), _, SixAt.of_puts hr _ 1 _ hfit _ _ _ _ _ _ rfl rfl rfl rfl rfl rfl, hn.kept hkp (fun _ h => h)⟩
end Go.Proofs.YtpiookgkkaafeaaDoor
end
section
namespace Go.Proofs.YtpiookgkkaafeaaDoor
open Go.RowKit
open Seal
open Bson (Val)
theorem VIn.byt {w : World} {Q : Nat → Prop} {h : Nat} {x : Val} {k n : Int} {s : ByteArray} {ba fa la : Option Addr} {bn bc fn fc ln lc : Nat} (hv : VIn w Q (h + 1) x (.agg #[.int .i64 k, .int .i64 n, .string s, .slice ba bn bc, .slice fa fn fc, .slice la ln lc])) : Oct x.b ∧ SliceIs w ba x.b := by
  obtain ⟨ba', fa', la', bc', fc', lc', e, hL, _, _, _, hB, _⟩ := hv
  unfold agg at e
  injection e with e; injection e with e; injection e with _ e; injection e with _ e; injection e with _ e; injection e with e3 _
  injection e3 with e3 _ _
  subst e3
  refine ⟨hL.o, ?_⟩
  rcases hB with h | ⟨g, o, e, _, h⟩
  · exact .inl h
  · exact .inr ⟨g, o, e, h⟩
end Go.Proofs.YtpiookgkkaafeaaDoor
end
section
namespace Go.Proofs.YtpiookgkkaafeaaDoor
open Go.RowKit
open Seal
open Bson (Val)
/-- Two boxes were laid behind w, and since then nothing has turned of them or of what is older. -/
def Boxed2 (w : World) (ca cb : Array Value) (t : TypeId) (wr : World) : Prop := Below (w.heap.size + 2) ((w.alloc (.cells ca t)).alloc (.cells cb t)) wr
section
variable {w wr w' : World} {ca cb : Array Value} {t : TypeId}
theorem Boxed2.refl (w : World) (ca cb : Array Value) (t : TypeId) : Boxed2 w ca cb t ((w.alloc (.cells ca t)).alloc (.cells cb t)) := Below.refl _ _
theorem Boxed2.one (h : Boxed2 w ca cb t wr) (j : Nat) : wr.cell? ⟨w.heap.size, j, none⟩ = ca[j]? := by
  refine (Below.cell h (p := ⟨w.heap.size, j, none⟩) (by show w.heap.size < _; omega)).trans ?_
  refine (cell_of_row _ _ j ca t (0, 0) ?_)
  rw [Below.heap_alloc _ _ _ (by simp)]
  exact heap_alloc_new w _
theorem Boxed2.two (h : Boxed2 w ca cb t wr) (j : Nat) : wr.cell? ⟨w.heap.size + 1, j, none⟩ = cb[j]? := by
  refine (Below.cell h (p := ⟨w.heap.size + 1, j, none⟩) (by show w.heap.size + 1 < _; omega)).trans ?_
  refine (cell_of_row _ _ j cb t (0, 0) ?_)
  have := heap_alloc_new (w.alloc (.cells ca t)) (.cells cb t)
  simpa using this
theorem Boxed2.size (h : Boxed2 w ca cb t wr) : w.heap.size + 2 ≤ wr.heap.size := by have := Below.size h; simpa using this
theorem Boxed2.below (h : Boxed2 w ca cb t wr) : Below w.heap.size w wr := (((Below.refl _ w).alloc (Nat.le_refl _) _).alloc (by simp) _).trans (Below.mono h (by simp))
theorem Boxed2.step (h : Boxed2 w ca cb t wr) (hb : Below wr.heap.size wr w') : Boxed2 w ca cb t w' := Below.trans h (hb.mono h.size)
end
end Go.Proofs.YtpiookgkkaafeaaDoor
end
section
namespace Go.Proofs.YtpiookgkkaafeaaDoor
open Go.RowKit
open Seal
open Bson (Val)
def IsBox (W : World) (n : Nat) (c0 c1 c2 c3 c4 c5 : Value) : Prop := W.heap[n]? = some (.cells #[c0, c1, c2, c3, c4, c5] 27 (0, 0))
section
variable {W W' : World} {n : Nat} {c0 c1 c2 c3 c4 c5 : Value}
theorem IsBox.lt (h : IsBox W n c0 c1 c2 c3 c4 c5) : n < W.heap.size := (Array.getElem?_eq_some_iff.1 h).1
theorem IsBox.cells (h : IsBox W n c0 c1 c2 c3 c4 c5) : W.cell? ⟨n, 0, none⟩ = some c0 ∧ W.cell? ⟨n, 1, none⟩ = some c1 ∧ W.cell? ⟨n, 2, none⟩ = some c2 ∧ W.cell? ⟨n, 3, none⟩ = some c3 ∧ W.cell? ⟨n, 4, none⟩ = some c4 ∧ W.cell? ⟨n, 5, none⟩ = some c5 :=
  ⟨(cell_of_row W _ 0 _ _ _ h).trans rfl, (cell_of_row W _ 1 _ _ _ h).trans rfl, (cell_of_row W _ 2 _ _ _ h).trans rfl, (cell_of_row W _ 3 _ _ _ h).trans rfl, (cell_of_row W _ 4 _ _ _ h).trans rfl, (cell_of_row W _ 5 _ _ _ h).trans rfl⟩
theorem IsBox.thaw (h : IsBox W n c0 c1 c2 c3 c4 c5) : W.frozen? ⟨n, 0, none⟩ = false ∧ W.frozen? ⟨n, 1, none⟩ = false ∧ W.frozen? ⟨n, 2, none⟩ = false ∧ W.frozen? ⟨n, 3, none⟩ = false ∧ W.frozen? ⟨n, 4, none⟩ = false ∧ W.frozen? ⟨n, 5, none⟩ = false :=
  ⟨frozen_of_row W _ 0 _ _ h, frozen_of_row W _ 1 _ _ h, frozen_of_row W _ 2 _ _ h, frozen_of_row W _ 3 _ _ h, frozen_of_row W _ 4 _ _ h, frozen_of_row W _ 5 _ _ h⟩
theorem IsBox.keep (h : IsBox W n c0 c1 c2 c3 c4 c5) (hb : Below W.heap.size W W') : IsBox W' n c0 c1 c2 c3 c4 c5 := (hb.block _ h.lt).trans h
theorem IsBox.new (w : World) (c0 c1 c2 c3 c4 c5 : Value) : IsBox (w.alloc (.cells #[c0, c1, c2, c3, c4, c5] 27)) w.heap.size c0 c1 c2 c3 c4 c5 := heap_alloc_new w _
theorem IsBox.new2 (w : World) (o : Obj) (c0 c1 c2 c3 c4 c5 : Value) : IsBox ((w.alloc o).alloc (.cells #[c0, c1, c2, c3, c4, c5] 27)) (w.heap.size + 1) c0 c1 c2 c3 c4 c5 := by
  have := IsBox.new (w.alloc o) c0 c1 c2 c3 c4 c5
  simpa using this
theorem IsBox.other (h : IsBox W n c0 c1 c2 c3 c4 c5) {m : Nat} (hm : n ≠ m) (o : Nat) (vs : List Value) : IsBox (puts W m o vs) n c0 c1 c2 c3 c4 c5 := (puts_other m n hm vs W o).trans h
theorem IsBox.put (h : IsBox W n c0 c1 c2 c3 c4 c5) (d0 d1 d2 d3 d4 d5 : Value) : IsBox (puts W n 0 [d0, d1, d2, d3, d4, d5]) n d0 d1 d2 d3 d4 d5 := by
  obtain ⟨ds, h1, h2, _, _, h3⟩ := puts_same n 27 [d0, d1, d2, d3, d4, d5] W 0 _ h
  have e : ds = #[d0, d1, d2, d3, d4, d5] := by
    apply Array.ext_getElem?
    intro j
    by_cases hj : j < 6
    · have := h3 (by simp) j (by simpa using hj)
      rw [Nat.zero_add] at this
      rw [this]
      match j, hj with | 0, _ => rfl | 1, _ => rfl | 2, _ => rfl | 3, _ => rfl | 4, _ => rfl | 5, _ => rfl
    · rw [Array.getElem?_eq_none (by rw [h2]; simp; omega), Array.getElem?_eq_none (by simp; omega)]
  unfold IsBox
  rw [h1, e]
end
end Go.Proofs.YtpiookgkkaafeaaDoor
end
section
namespace Go.Proofs.YtpiookgkkaafeaaDoor
open Go.RowKit
open Seal
open Bson (Val)
/-- A name as a map's key. -/
def keyS (s : ByteArray) : Lit := .string s.data.toList
/-- The set of the names of the first k fields. -/
def setNms (f : List (ByteArray × Val)) (k : Nat) : DataW Unit := Maps.setOf (.agg []) ((f.take k).map fun p => keyS p.1)
/-- Block gn holds no set, or one of the names of some of the first fields. -/
def Nms (w : World) (gn : Nat) (f : List (ByteArray × Val)) : Prop :=
  w.heap[gn]? = some (.cells #[.map none] 116 (0, 0)) ∨
  ∃ bm k, w.heap[gn]? = some (.cells #[.map (some bm)] 116 (0, 0)) ∧ gn < bm ∧ k ≤ f.length ∧ w.ownsMap Tryd.prog 9 (unitElem (H := Unit)) bm k (setNms f k)
/-- Of what was there only the set has turned: no block of cells but gn. -/
def HMove (gn : Nat) (w w' : World) : Prop :=
  w'.os = w.os ∧ w'.tape = w.tape ∧ w'.output = w.output ∧ w.heap.size ≤ w'.heap.size ∧ (∀ g cs t fr, g ≠ gn → w.heap[g]? = some (.cells cs t fr) → w'.heap[g]? = w.heap[g]?) ∧ ∀ g, g < gn → w'.heap[g]? = w.heap[g]?
def hasName (f : List (ByteArray × Val)) (s : ByteArray) : Bool := f.any fun p => decide (p.1 = s)
theorem HMove.of_below {w w' : World} {gn : Nat} (hb : Below w.heap.size w w') (hg : gn < w.heap.size) : HMove gn w w' :=
  ⟨hb.os, hb.tape, hb.output, hb.size, fun g cs t fr _ h => hb.block g (by
    refine Nat.lt_of_not_le fun hge => ?_
    rw [Array.getElem?_eq_none hge] at h; cases h), fun g hgg => hb.block g (by omega)⟩
theorem Nms.below {w w' : World} {gn : Nat} {f : List (ByteArray × Val)} (h : Nms w gn f) (hb : Below w.heap.size w w') : Nms w' gn f := by
  have hgl : ∀ o, w.heap[gn]? = some o → w'.heap[gn]? = some o := fun o ho => (hb.block gn (by
    refine Nat.lt_of_not_le fun hge => ?_
    rw [Array.getElem?_eq_none hge] at ho; cases ho)).trans ho
  rcases h with h | ⟨bm, k, h1, h2, h3, es, clock, h4, h5⟩
  · exact .inl (hgl _ h)
  · refine .inr ⟨bm, k, hgl _ h1, h2, h3, es, clock, ?_, h5⟩
    exact (hb.block bm (by
      refine Nat.lt_of_not_le fun hge => ?_
      rw [Array.getElem?_eq_none hge] at h4; cases h4)).trans h4
theorem Nms.lt {w : World} {gn : Nat} {f : List (ByteArray × Val)} (h : Nms w gn f) : gn < w.heap.size := by
  refine Nat.lt_of_not_le fun hge => ?_
  rcases h with h | ⟨bm, k, h1, _⟩
  · rw [Array.getElem?_eq_none hge] at h; cases h
  · rw [Array.getElem?_eq_none hge] at h1; cases h1
set_option maxRecDepth 100000 in
set_option maxHeartbeats 1000000 in
theorem hold_few (Q : Nat → Prop) (h : Nat) (w : World) (gn : Nat) (a : Option Addr) (n c : Nat) (f : List (ByteArray × Val)) (s : ByteArray) (hn : f.length = n) (hm : n ≤ 16) (hF : FieldsIn w Q (VIn w Q h) a f) (hN : Nms w gn f) :
    Calls Tryd.prog 71 #[.pointer (some ⟨gn, 0, none⟩), .slice a n c, .string s] w fun e w' => e = .returned (.bool (hasName f s)) ∧ HMove gn w w' ∧ Nms w' gn f := by
  have CF := Lib.hid (find_any Q h w a n c f s hn (by omega) hF)
  have hpi := placeI_any f s
  have HP : Hid (decide (0 ≤ placeI f s) = hasName f s) := by
    show _ = _
    by_cases h0 : 0 ≤ placeI f s
    · rw [decide_eq_true h0]; exact (hpi.1 h0).symm
    · rw [decide_eq_false h0]
      cases hh : hasName f s with
      | false => rfl
      | true => exact absurd (hpi.2 hh) h0
  generalize placeI f s = pl at *
  have HN := Lib.hid hN
  have hmz : (n : Int) ≤ 16 := by omega
  clear hpi hF hN hn
  go_enter Tryd.func71, Tryd.ntmps71
  go_wp2_with fail
  refine CF.out.mono ?_
  rintro e w' ⟨rfl, hb⟩
  have HB := Lib.hid hb
  clear hb
  go_wp2_with fail
  go_ret
  exact ⟨ret_eq (by rw [← HP.out]; rfl), HMove.of_below HB.out HN.out.lt, HN.out.below HB.out⟩
end Go.Proofs.YtpiookgkkaafeaaDoor
end
section
namespace Go.Proofs.YtpiookgkkaafeaaDoor
open Go.RowKit
open Seal
open Bson (Val)
/-- Block gm is a meter with so much left. -/
def Mtr (w : World) (gm : Nat) (left : Int) : Prop := w.heap[gm]? = some (.cells #[.int .i64 left] 67 (0, 0))
theorem Mtr.c0 {w : World} {gm : Nat} {left : Int} (h : Mtr w gm left) : w.cell? ⟨gm, 0, none⟩ = some (.int .i64 left) := cell_of_row w gm 0 _ _ _ h
theorem Mtr.f0 {w : World} {gm : Nat} {left : Int} (h : Mtr w gm left) : w.frozen? ⟨gm, 0, none⟩ = false := frozen_of_row w gm 0 _ _ h
theorem Mtr.lt {w : World} {gm : Nat} {left : Int} (h : Mtr w gm left) : gm < w.heap.size := World.block_lt_of_cell? w _ h.c0
theorem Mtr.keep {w w' : World} {gm : Nat} {left : Int} (h : Mtr w gm left) (hb : Below w.heap.size w w') : Mtr w' gm left := (hb.block gm h.lt).trans h
/-- A cell that is no number of 64 bits does not lie in a meter. -/
theorem Mtr.ne {w : World} {gm : Nat} {left : Int} (h : Mtr w gm left) {g o : Nat} {v : Value} (hc : w.cell? ⟨g, o, none⟩ = some v) (hv : ∀ n : Int, v ≠ .int .i64 n) : g ≠ gm := by
  rintro rfl
  have := (cell_of_row w g o _ _ _ h).symm.trans hc
  match o, this with
  | 0, h => simp at h; exact hv _ h.symm
  | o + 1, h => simp at h
theorem Mtr.ne1 {w : World} {gm : Nat} {left : Int} (h : Mtr w gm left) {g o : Nat} {v : Value} (hc : w.cell? ⟨g, o + 1, none⟩ = some v) : g ≠ gm := by
  rintro rfl
  have := (cell_of_row w g (o + 1) _ _ _ h).symm.trans hc
  simp at this
theorem grown_cell {w w' : World} {gm g o : Nat} {v : Value} (hg : w.grownBy w' (some gm)) (hc : w.cell? ⟨g, o, none⟩ = some v) (hne : g ≠ gm) : w'.cell? ⟨g, o, none⟩ = some v :=
  (World.cell?_of_block (a := ⟨g, o, none⟩) (hg.block g (World.block_lt_of_cell? w _ hc) (fun e => hne (Option.some.inj e)))).trans hc
theorem Mtr.six {w w' : World} {gm : Nat} {left : Int} (h : Mtr w gm left) (hg : w.grownBy w' (some gm)) {g p : Nat} {v : Value} (hs : SixAt w g p v) : SixAt w' g p v := by
  obtain ⟨c0, c1, c2, c3, c4, c5, e, h0, h1, h2, h3, h4, h5⟩ := hs
  have hne := h.ne1 h1
  exact ⟨c0, c1, c2, c3, c4, c5, e, grown_cell hg h0 hne, grown_cell hg h1 hne, grown_cell hg h2 hne, grown_cell hg h3 hne, grown_cell hg h4 hne, grown_cell hg h5 hne⟩
/-- What a meter writes turns no value. -/
theorem VIn.metered {w w' : World} {Q : Nat → Prop} {gm : Nat} {left : Int} (hM : Mtr w gm left) (hg : w.grownBy w' (some gm)) : ∀ {h : Nat} {x : Val} {v : Value}, VIn w Q h x v → VIn w' Q h x v
  | 0, _, _, h => h.elim
  | h + 1, _, _, ⟨ba, fa, la, bc, fc, lc, e, h1, h2, h3, h4, h5, h6, h7⟩ => by
    refine ⟨ba, fa, la, bc, fc, lc, e, h1, h2, h3, h4, ?_, ?_, ?_⟩
    · rcases h5 with h | ⟨g, o, e, hq, h⟩
      · exact .inl h
      · exact .inr ⟨g, o, e, hq, fun j hj => grown_cell hg (h j hj) (hM.ne (h j hj) (fun n => by simp))⟩
    · rcases h6 with h | ⟨g, o, e, hq, h⟩
      · exact .inl h
      · refine .inr ⟨g, o, e, hq, fun i hi => ?_⟩
        obtain ⟨k1, k2, v, k3, k4⟩ := h i hi
        exact ⟨grown_cell hg k1 (hM.ne k1 (fun n => by simp)), k2, v, hM.six hg k3, VIn.metered hM hg k4⟩
    · rcases h7 with h | ⟨g, o, e, hq, h⟩
      · exact .inl h
      · refine .inr ⟨g, o, e, hq, fun i hi => ?_⟩
        obtain ⟨v, k3, k4⟩ := h i hi
        exact ⟨v, hM.six hg k3, VIn.metered hM hg k4⟩
set_option maxRecDepth 100000 in
set_option maxHeartbeats 400000 in
theorem mtake_no (w : World) (gm : Nat) (left n : Int) (hM : Mtr w gm left) (h : left < n) :
    Calls Tryd.prog 53 #[.pointer (some ⟨gm, 0, none⟩), .int .i64 n] w fun e w' => e = .returned (.bool false) ∧ w = w' := by
  have c0 := hM.c0
  clear hM
  go_enter Tryd.func53, Tryd.ntmps53
  go_wp2_with fail
  go_ret
  exact ⟨rfl, rfl⟩
set_option maxRecDepth 100000 in
set_option maxHeartbeats 400000 in
theorem mtake_yes (w : World) (gm : Nat) (left n : Int) (hM : Mtr w gm left) (h0 : 0 ≤ n) (h : n ≤ left) (hl : left ≤ 65536) :
    Calls Tryd.prog 53 #[.pointer (some ⟨gm, 0, none⟩), .int .i64 n] w fun e w' => e = .returned (.bool true) ∧ Mtr w' gm (left - n) ∧ w.grownBy w' (some gm) := by
  have c0 := hM.c0
  have f0 := hM.f0
  have HM := Lib.hid hM
  have hn : ¬ left < n := by omega
  clear hM
  go_enter Tryd.func53, Tryd.ntmps53
  go_wp2_with fail
  go_ret
  refine ⟨rfl, ?_, grown_setCell ⟨rfl, rfl, rfl, Nat.le_refl _, fun _ _ _ => rfl⟩ 0 _⟩
  unfold Mtr
  rw [heap_setCell_same w gm 0 _ _ _ HM.out]
  simp
theorem grown_of_below {w w' : World} (hb : Below w.heap.size w w') (gr : Nat) : w.grownBy w' (some gr) := ⟨hb.os, hb.tape, hb.output, hb.size, fun g hg _ => hb.block g hg⟩
theorem grown_then {w w1 w' : World} {gr : Nat} (h : w.grownBy w1 (some gr)) (h2 : w1.grownBy w' (some gr)) : w.grownBy w' (some gr) :=
  ⟨h2.os.trans h.os, h2.tape.trans h.tape, h2.output.trans h.output, Nat.le_trans h.size h2.size, fun g hg hne => (h2.block g (Nat.lt_of_lt_of_le hg h.size) hne).trans (h.block g hg hne)⟩
/-- May a value of its kind have what it has? -/
def bareB (x : Val) : Bool :=
  Bson.bare x (x.kind == 3 || x.kind == 4 || x.kind == 10 || x.kind == 11) (x.kind == 5) (x.kind == 8 || x.kind == 9) (x.kind == 6) (x.kind == 7)
end Go.Proofs.YtpiookgkkaafeaaDoor
end
