/- ROWS THAT ARE WRITTEN CELL BY CELL, AND VALUES IN THEM (no walk). -/
import Derived.Test.YtkmibpjhfgbckaaBsonShallow
import Derived.Laws.Rows
import Derived.OwnWalk
import Derived.Deep.MidRow
namespace Go.Proofs.Ytkmibpjhfgbckaa
open Go.RowKit
open Seal
open Bson (Val)
/-- Cells stored one behind the other. -/
abbrev puts (w : World) (G o : Nat) (vs : List Value) : World := w.setCells G o vs
theorem puts_other (G k : Nat) (h : k ≠ G) : ∀ (vs : List Value) (w : World) (o : Nat), (puts w G o vs).heap[k]? = w.heap[k]?
  | [], _, _ => rfl
  | v :: vs, w, o => (puts_other G k h vs _ (o + 1)).trans (Below.heap_setCell w ⟨G, o, none⟩ v k h)
theorem puts_size (G : Nat) : ∀ (vs : List Value) (w : World) (o : Nat), (puts w G o vs).heap.size = w.heap.size
  | [], _, _ => rfl
  | v :: vs, w, o => (puts_size G vs _ (o + 1)).trans (by simp)
theorem puts_same (G : Nat) (t : TypeId) : ∀ (vs : List Value) (w : World) (o : Nat) (cs : Array Value), w.heap[G]? = some (.cells cs t (0, 0)) →
    ∃ ds, (puts w G o vs).heap[G]? = some (.cells ds t (0, 0)) ∧ ds.size = cs.size ∧ (∀ j, j < o → ds[j]? = cs[j]?) ∧ (∀ j, o + vs.length ≤ j → ds[j]? = cs[j]?) ∧ (o + vs.length ≤ cs.size → ∀ j, j < vs.length → ds[o + j]? = vs[j]?)
  | [], w, o, cs, h => ⟨cs, h, rfl, fun _ _ => rfl, fun _ _ => rfl, fun _ j hj => by simp at hj⟩
  | v :: vs, w, o, cs, h => by
    have h1 := heap_setCell_same w G o cs t v h
    obtain ⟨ds, h2, h3, h4, h5, h6⟩ := puts_same G t vs _ (o + 1) _ h1
    refine ⟨ds, h2, by rw [h3]; simp, fun j hj => ?_, fun j hj => ?_, fun hl j hj => ?_⟩
    · rw [h4 j (by omega), Array.getElem?_setIfInBounds_ne (by omega)]
    · rw [List.length_cons] at hj
      rw [h5 j (by omega), Array.getElem?_setIfInBounds_ne (by omega)]
    · rw [List.length_cons] at hl hj
      cases j with
      | zero =>
        rw [Nat.add_zero, h4 o (by omega), Array.getElem?_setIfInBounds_self_of_lt (by omega)]; rfl
      | succ j =>
        have := h6 (by simp; omega) j (by omega)
        rw [show o + (j + 1) = o + 1 + j by omega, this]; rfl
theorem puts_below {w wr : World} {B G : Nat} (h : Below B w wr) (hG : B ≤ G) : ∀ (vs : List Value) (o : Nat), Below B w (puts wr G o vs)
  | [], _ => h
  | v :: vs, o => by
    have h1 : Below B w (wr.setCell ⟨G, o, none⟩ v) := ⟨h.os, h.tape, h.output, by simpa using h.size, fun k hk => (Below.heap_setCell wr ⟨G, o, none⟩ v k (by show k ≠ G; omega)).trans (h.block k hk)⟩
    exact puts_below h1 hG vs (o + 1)
theorem puts_kept (Q : Nat → Prop) {w : World} {G : Nat} (hQ : ¬ Q G) (o : Nat) (vs : List Value) : Kept Q w (puts w G o vs) :=
  fun g hg _ => puts_other G g (fun e => hQ (e ▸ hg)) vs w o
/-- A row's cells: what stands at a place of it. -/
def Row6 (w : World) (G : Nat) (t : TypeId) (len : Nat) : Prop := ∃ cs, w.heap[G]? = some (.cells cs t (0, 0)) ∧ cs.size = len
theorem Row6.lt {w : World} {G : Nat} {t : TypeId} {len : Nat} (h : Row6 w G t len) : G < w.heap.size := by
  obtain ⟨cs, h, _⟩ := h
  exact (Array.getElem?_eq_some_iff.1 h).1
theorem Row6.at {w : World} {G : Nat} {t : TypeId} {len : Nat} (h : Row6 w G t len) {j : Nat} (hj : j < len) : (∃ v, w.cell? ⟨G, j, none⟩ = some v) ∧ w.frozen? ⟨G, j, none⟩ = false := by
  obtain ⟨cs, h, hl⟩ := h
  exact ⟨⟨cs[j]'(by omega), (cell_of_row w G j cs t _ h).trans (Array.getElem?_eq_getElem (by omega))⟩, frozen_of_row w G j _ _ h⟩
theorem Row6.puts {w : World} {G : Nat} {t : TypeId} {len : Nat} (h : Row6 w G t len) (o : Nat) (vs : List Value) (ho : o + vs.length ≤ len) :
    Row6 (puts w G o vs) G t len ∧ (∀ j, j < o ∨ o + vs.length ≤ j → (Go.Proofs.Ytkmibpjhfgbckaa.puts w G o vs).cell? ⟨G, j, none⟩ = w.cell? ⟨G, j, none⟩) ∧ ∀ j, j < vs.length → (Go.Proofs.Ytkmibpjhfgbckaa.puts w G o vs).cell? ⟨G, o + j, none⟩ = vs[j]? := by
  obtain ⟨cs, h, hl⟩ := h
  obtain ⟨ds, h2, h3, h4, h5, h6⟩ := puts_same G t vs w o cs h
  refine ⟨⟨ds, h2, by omega⟩, fun j hj => ?_, fun j hj => ?_⟩
  · rw [cell_of_row _ G j _ _ _ h2, cell_of_row _ G j _ _ _ h]
    rcases hj with hj | hj
    · exact h4 j hj
    · exact h5 j hj
  · rw [cell_of_row _ G _ _ _ _ h2, h6 (by omega) j hj]
theorem Row6.keep {w w' : World} {G : Nat} {t : TypeId} {len : Nat} (h : Row6 w G t len) (hb : Below w.heap.size w w') : Row6 w' G t len := by
  have hlt := h.lt
  obtain ⟨cs, h, hl⟩ := h
  exact ⟨cs, (hb.block G hlt).trans h, hl⟩
theorem SixAt.of_puts {w : World} {G : Nat} {t : TypeId} {len : Nat} (h : Row6 w G t len) (o p : Nat) (vs : List Value) (ho : o + vs.length ≤ len) (c0 c1 c2 c3 c4 c5 : Value)
    (h0 : vs[p]? = some c0) (h1 : vs[p + 1]? = some c1) (h2 : vs[p + 2]? = some c2) (h3 : vs[p + 3]? = some c3) (h4 : vs[p + 4]? = some c4) (h5 : vs[p + 5]? = some c5) : SixAt (puts w G o vs) G (o + p) (.agg #[c0, c1, c2, c3, c4, c5]) := by
  obtain ⟨_, _, h7⟩ := h.puts o vs ho
  have hl : p + 5 < vs.length := (List.getElem?_eq_some_iff.1 h5).1
  exact ⟨c0, c1, c2, c3, c4, c5, rfl, (h7 p (by omega)).trans h0, (h7 (p + 1) (by omega)).trans h1, (h7 (p + 2) (by omega)).trans h2, (h7 (p + 3) (by omega)).trans h3, (h7 (p + 4) (by omega)).trans h4, (h7 (p + 5) (by omega)).trans h5⟩
theorem SixAt.puts_before {w : World} {G : Nat} {t : TypeId} {len : Nat} (h : Row6 w G t len) {q : Nat} {v : Value} (hs : SixAt w G q v) (o : Nat) (vs : List Value) (ho : o + vs.length ≤ len) (hq : q + 6 ≤ o) : SixAt (puts w G o vs) G q v := by
  obtain ⟨c0, c1, c2, c3, c4, c5, e, h0, h1, h2, h3, h4, h5⟩ := hs
  obtain ⟨_, h6, _⟩ := h.puts o vs ho
  exact ⟨c0, c1, c2, c3, c4, c5, e, (h6 q (by omega)).trans h0, (h6 (q + 1) (by omega)).trans h1, (h6 (q + 2) (by omega)).trans h2, (h6 (q + 3) (by omega)).trans h3, (h6 (q + 4) (by omega)).trans h4, (h6 (q + 5) (by omega)).trans h5⟩
/-- Every value in memory is six cells. -/
theorem VIn.shape {w : World} {Q : Nat → Prop} {h : Nat} {x : Val} {v : Value} (hv : VIn w Q h x v) : ∃ (k n : Int) (s : ByteArray) (ba fa la : Option Addr) (bl bc fl fc ll lc : Nat), v = .agg #[.int .i64 k, .int .i64 n, .string s, .slice ba bl bc, .slice fa fl fc, .slice la ll lc] := by
  cases h with
  | zero => exact hv.elim
  | succ h =>
    obtain ⟨ba, fa, la, bc, fc, lc, rfl, _⟩ := hv
    exact ⟨_, _, _, _, _, _, _, _, _, _, _, _, rfl⟩
/-- A value's six cells. -/
def six6 (x : Val) (ba fa la : Option Addr) (bc fc lc : Nat) : List Value := [.int .i64 x.kind, .int .i64 x.n, .string x.s, .slice ba x.b.length bc, .slice fa x.f.length fc, .slice la x.l.length lc]
theorem Row6.there {w : World} {G : Nat} {t : TypeId} {len : Nat} (h : Row6 w G t len) (o n : Nat) (hl : o + n ≤ len) : w.there G o n := fun j hj => by
  obtain ⟨⟨v, h1⟩, h2⟩ := h.at (j := o + j) (by omega)
  exact ⟨by rw [h1]; rfl, h2⟩
theorem SixAt.range {w : World} {g p : Nat} {c0 c1 c2 c3 c4 c5 : Value} (h : SixAt w g p (.agg #[c0, c1, c2, c3, c4, c5])) : w.rangeAt g p [c0, c1, c2, c3, c4, c5] := by
  obtain ⟨d0, d1, d2, d3, d4, d5, e, h0, h1, h2, h3, h4, h5⟩ := h
  injection e with e
  injection e with e
  injection e with e0 e; injection e with e1 e; injection e with e2 e; injection e with e3 e; injection e with e4 e; injection e with e5 e
  subst e0 e1 e2 e3 e4 e5
  intro j v hv
  match j with
  | 0 => obtain rfl := Option.some.inj hv; exact h0
  | 1 => obtain rfl := Option.some.inj hv; exact h1
  | 2 => obtain rfl := Option.some.inj hv; exact h2
  | 3 => obtain rfl := Option.some.inj hv; exact h3
  | 4 => obtain rfl := Option.some.inj hv; exact h4
  | 5 => obtain rfl := Option.some.inj hv; exact h5
  | j + 6 => simp at hv
theorem SixAt.cells {w : World} {g p : Nat} {c0 c1 c2 c3 c4 c5 : Value} (h : SixAt w g p (.agg #[c0, c1, c2, c3, c4, c5])) : w.cell? ⟨g, p, none⟩ = some c0 ∧ w.cell? ⟨g, p + 1, none⟩ = some c1 ∧ w.cell? ⟨g, p + 2, none⟩ = some c2 ∧ w.cell? ⟨g, p + 3, none⟩ = some c3 ∧ w.cell? ⟨g, p + 4, none⟩ = some c4 ∧ w.cell? ⟨g, p + 5, none⟩ = some c5 :=
  ⟨h.range 0 _ rfl, h.range 1 _ rfl, h.range 2 _ rfl, h.range 3 _ rfl, h.range 4 _ rfl, h.range 5 _ rfl⟩
/-- The store of a whole struct, as one step of a region that draws. -/
theorem step_store {P : Program} {ops : Array Oper} {o : Oper} {a : Act} {w : World} {K : Act → World → Prop} {Q : Exit → Act → World → Prop} {E : Prop}
    (hg : o.guard = none) (ty : TypeId) (x y : Operand) (ho : o.op = .store ty x y)
    (b off : Nat) (cells : Array Value) (hx : a.eval x = .pointer (some ⟨b, off, none⟩)) (hy : a.eval y = .agg cells)
    (ht : w.there b off cells.size) (hi : (P.info? ty).map (·.size) = some cells.size) (h1 : cells.all (·.oneCell') = true)
    (h : K (a.put o.dst undef) (w.setCells b off cells.toList)) :
    if Region.wanted o (yielded ops a.tmps) = true then Oper.wp P o a w K Q else E := by
  have hw : Region.wanted o (yielded ops a.tmps) = true := by simp [Region.wanted, hg]
  rw [if_pos hw]
  exact wp_store_mid ty x y ho b off cells hx hy ht hi h1 h
theorem one6 (k n : Int) (s : ByteArray) (ba fa la : Option Addr) (bl bc fl fc ll lc : Nat) : (#[Value.int .i64 k, .int .i64 n, .string s, .slice ba bl bc, .slice fa fl fc, .slice la ll lc] : Array Value).all (·.oneCell') = true :=
  all_oneCell_toArray (cs := [Value.int .i64 k, .int .i64 n, .string s, .slice ba bl bc, .slice fa fl fc, .slice la ll lc]) (fun v hv => by simp at hv; rcases hv with rfl | rfl | rfl | rfl | rfl | rfl <;> rfl)
theorem one7 (nm : ByteArray) (k n : Int) (s : ByteArray) (ba fa la : Option Addr) (bl bc fl fc ll lc : Nat) : (#[Value.string nm, .int .i64 k, .int .i64 n, .string s, .slice ba bl bc, .slice fa fl fc, .slice la ll lc] : Array Value).all (·.oneCell') = true :=
  all_oneCell_toArray (cs := [Value.string nm, .int .i64 k, .int .i64 n, .string s, .slice ba bl bc, .slice fa fl fc, .slice la ll lc]) (fun v hv => by simp at hv; rcases hv with rfl | rfl | rfl | rfl | rfl | rfl | rfl <;> rfl)
theorem infoV : (Try.prog.info? 26).map (·.size) = some 6 := by kernel_rfl
theorem infoF : (Try.prog.info? 46).map (·.size) = some 7 := by kernel_rfl
/-- The first k of a row of values, each with what it holds in blocks behind the row's. -/
def Vals (w : World) (G h : Nat) (l : List Val) (k : Nat) : Prop := ∀ i (hi : i < l.length), i < k → ∃ v, SixAt w G (i * 6) v ∧ VIn w (fun g => G < g) h l[i] v
theorem Vals.none (w : World) (G h : Nat) (l : List Val) : Vals w G h l 0 := fun _ _ hi => absurd hi (Nat.not_lt_zero _)
theorem Vals.keep {w w' : World} {G h : Nat} {l : List Val} {k : Nat} (hv : Vals w G h l k) (hb : Below w.heap.size w w') : Vals w' G h l k := fun i hi hk => by
  obtain ⟨v, h1, h2⟩ := hv i hi hk
  exact ⟨v, h1.keep hb, h2.keep hb⟩
theorem Vals.put {w : World} {G h : Nat} {t : TypeId} {len : Nat} {l : List Val} {k : Nat} (hv : Vals w G h l k) (hr : Row6 w G t len) (hk : k < l.length) (hlen : l.length * 6 = len) {c0 c1 c2 c3 c4 c5 : Value} (hn : VIn w (fun g => G < g) h l[k] (.agg #[c0, c1, c2, c3, c4, c5])) :
    Vals (puts w G (k * 6) [c0, c1, c2, c3, c4, c5]) G h l (k + 1) := by
  intro i hi hik
  have hkp : Kept (fun g => G < g) w (puts w G (k * 6) [c0, c1, c2, c3, c4, c5]) := puts_kept _ (Nat.lt_irrefl G) _ _
  have hfit : k * 6 + [c0, c1, c2, c3, c4, c5].length ≤ len := by simp; omega
  rcases Nat.lt_or_ge i k with hlt | hge
  · obtain ⟨v, h1, h2⟩ := hv i hi hlt
    exact ⟨v, h1.puts_before hr _ _ hfit (by omega), h2.kept hkp (fun _ h => h)⟩
  · obtain rfl : i = k := by omega
    exact ⟨_, SixAt.of_puts hr _ 0 _ hfit _ _ _ _ _ _ rfl rfl rfl rfl rfl rfl, hn.kept hkp (fun _ h => h)⟩
/-- The first k of a row of fields. -/
def Flds (w : World) (G h : Nat) (f : List (ByteArray × Val)) (k : Nat) : Prop := ∀ i (hi : i < f.length), i < k → w.cell? ⟨G, i * 7, none⟩ = some (.string f[i].1) ∧ ∃ v, SixAt w G (i * 7 + 1) v ∧ VIn w (fun g => G < g) h f[i].2 v
theorem Flds.none (w : World) (G h : Nat) (l : List (ByteArray × Val)) : Flds w G h l 0 := fun _ _ hi => absurd hi (Nat.not_lt_zero _)
theorem Flds.keep {w w' : World} {G h : Nat} {f : List (ByteArray × Val)} {k : Nat} (hv : Flds w G h f k) (hb : Below w.heap.size w w') : Flds w' G h f k := fun i hi hk => by
  obtain ⟨h0, v, h1, h2⟩ := hv i hi hk
  exact ⟨cell_keep hb h0, v, h1.keep hb, h2.keep hb⟩
theorem Flds.put {w : World} {G h : Nat} {t : TypeId} {len : Nat} {f : List (ByteArray × Val)} {k : Nat} (hv : Flds w G h f k) (hr : Row6 w G t len) (hk : k < f.length) (hlen : f.length * 7 = len) {c0 c1 c2 c3 c4 c5 : Value} (hn : VIn w (fun g => G < g) h f[k].2 (.agg #[c0, c1, c2, c3, c4, c5])) :
    Flds (puts w G (k * 7) [.string f[k].1, c0, c1, c2, c3, c4, c5]) G h f (k + 1) := by
  intro i hi hik
  have hkp : Kept (fun g => G < g) w (puts w G (k * 7) [.string f[k].1, c0, c1, c2, c3, c4, c5]) := puts_kept _ (Nat.lt_irrefl G) _ _
  have hfit : k * 7 + [Value.string f[k].1, c0, c1, c2, c3, c4, c5].length ≤ len := by simp; omega
  obtain ⟨_, hb4, hat⟩ := hr.puts (k * 7) [.string f[k].1, c0, c1, c2, c3, c4, c5] hfit
  rcases Nat.lt_or_ge i k with hlt | hge
  · obtain ⟨h0, v, h1, h2⟩ := hv i hi hlt
    exact ⟨(hb4 _ (.inl (by omega))).trans h0, v, h1.puts_before hr _ _ hfit (by omega), h2.kept hkp (fun _ h => h)⟩
  · obtain rfl : i = k := by omega
    exact ⟨hat 0 (by simp), _, SixAt.of_puts hr _ 1 _ hfit _ _ _ _ _ _ rfl rfl rfl rfl rfl rfl, hn.kept hkp (fun _ h => h)⟩
end Go.Proofs.Ytkmibpjhfgbckaa
