/- Boxes of values, and a result's (no walk). -/
import Derived.Test.YtkmibpjhfgbckaaNumLeaf
namespace Go.Proofs.Ytkmibpjhfgbckaa
open Go.RowKit
open Seal
open Num
/-- Block g holds these cells. -/
def Got (w : World) (g : Nat) (cs : Array Value) : Prop := w.heap[g]? = some (.cells cs 26 (0, 0))
theorem Got.lt {w : World} {g : Nat} {cs : Array Value} (h : Got w g cs) : g < w.heap.size := (Array.getElem?_eq_some_iff.1 h).1
theorem Got.keep {w w' : World} {g : Nat} {cs : Array Value} (h : Got w g cs) (hb : Below w.heap.size w w') : Got w' g cs := (hb.block g h.lt).trans h
theorem Got.cell {w : World} {g : Nat} {cs : Array Value} (h : Got w g cs) (j : Nat) (v : Value) (hj : cs[j]? = some v) : w.cell? ⟨g, j, none⟩ = some v := (cell_of_row w g j _ _ _ h).trans hj
theorem Got.frozen {w : World} {g : Nat} {cs : Array Value} (h : Got w g cs) (j : Nat) : w.frozen? ⟨g, j, none⟩ = false := frozen_of_row w g j _ _ h
theorem Got.new (w : World) (cs : Array Value) : Got (w.alloc (.cells cs 26)) w.heap.size cs := heap_alloc_new w _
/-- Two values' boxes and a result's lie behind w; nothing older has turned. -/
def R3 (w : World) (ca cb : Array Value) (wr : World) : Prop := Got wr w.heap.size ca ∧ Got wr (w.heap.size + 1) cb ∧ Got wr (w.heap.size + 2) #[.int .i64 0, .int .i64 0, .string ⟨#[]⟩, .slice none 0 0, .slice none 0 0, .slice none 0 0] ∧ Below w.heap.size w wr
theorem R3.step {w wr w' : World} {ca cb : Array Value} (h : R3 w ca cb wr) (hb : Below wr.heap.size wr w') : R3 w ca cb w' := ⟨h.1.keep hb, h.2.1.keep hb, h.2.2.1.keep hb, h.2.2.2.trans (hb.mono h.2.2.2.size)⟩
theorem R3.new (w : World) (ca cb : Array Value) : R3 w ca cb (((w.alloc (.cells ca 26)).alloc (.cells cb 26)).alloc (.cells #[.int .i64 0, .int .i64 0, .string ⟨#[]⟩, .slice none 0 0, .slice none 0 0, .slice none 0 0] 26)) := by
  have h1 := Got.new w ca
  have h2 := Got.new (w.alloc (.cells ca 26)) cb
  have h3 := Got.new ((w.alloc (.cells ca 26)).alloc (.cells cb 26)) #[.int .i64 0, .int .i64 0, .string ⟨#[]⟩, .slice none 0 0, .slice none 0 0, .slice none 0 0]
  have k2 : Below (w.alloc (.cells ca 26)).heap.size (w.alloc (.cells ca 26)) ((w.alloc (.cells ca 26)).alloc (.cells cb 26)) := (Below.refl _ _).alloc (Nat.le_refl _) _
  have k3 : Below ((w.alloc (.cells ca 26)).alloc (.cells cb 26)).heap.size ((w.alloc (.cells ca 26)).alloc (.cells cb 26)) (((w.alloc (.cells ca 26)).alloc (.cells cb 26)).alloc (.cells #[.int .i64 0, .int .i64 0, .string ⟨#[]⟩, .slice none 0 0, .slice none 0 0, .slice none 0 0] 26)) := (Below.refl _ _).alloc (Nat.le_refl _) _
  have e1 : (w.alloc (.cells ca 26)).heap.size = w.heap.size + 1 := by simp
  have e2 : ((w.alloc (.cells ca 26)).alloc (.cells cb 26)).heap.size = w.heap.size + 2 := by simp
  have h1' := (h1.keep k2).keep k3
  have h2' := h2.keep k3
  rw [e1] at h2'
  rw [e2] at h3
  exact ⟨h1', h2', h3, (((Below.refl _ w).alloc (Nat.le_refl _) _).alloc (by simp) _).alloc (by simp; omega) _⟩
def Six6 (w : World) (g : Nat) (c0 c1 c2 c3 c4 c5 : Value) : Prop := w.cell? ⟨g, 0, none⟩ = some c0 ∧ w.cell? ⟨g, 1, none⟩ = some c1 ∧ w.cell? ⟨g, 2, none⟩ = some c2 ∧ w.cell? ⟨g, 3, none⟩ = some c3 ∧ w.cell? ⟨g, 4, none⟩ = some c4 ∧ w.cell? ⟨g, 5, none⟩ = some c5
theorem Got.six {w : World} {g : Nat} {c0 c1 c2 c3 c4 c5 : Value} (h : Got w g #[c0, c1, c2, c3, c4, c5]) : Six6 w g c0 c1 c2 c3 c4 c5 := ⟨h.cell 0 _ rfl, h.cell 1 _ rfl, h.cell 2 _ rfl, h.cell 3 _ rfl, h.cell 4 _ rfl, h.cell 5 _ rfl⟩
theorem R3.all {w wr : World} {c0 c1 c2 c3 c4 c5 d0 d1 d2 d3 d4 d5 : Value} (h : R3 w #[c0, c1, c2, c3, c4, c5] #[d0, d1, d2, d3, d4, d5] wr) :
    Six6 wr w.heap.size c0 c1 c2 c3 c4 c5 ∧ Six6 wr (w.heap.size + 1) d0 d1 d2 d3 d4 d5 ∧ Six6 wr (w.heap.size + 2) (.int .i64 0) (.int .i64 0) (.string ⟨#[]⟩) (.slice none 0 0) (.slice none 0 0) (.slice none 0 0) ∧
      wr.frozen? ⟨w.heap.size + 2, 0, none⟩ = false ∧ wr.frozen? ⟨w.heap.size + 2, 1, none⟩ = false ∧ wr.frozen? ⟨w.heap.size + 2, 2, none⟩ = false ∧ wr.frozen? ⟨w.heap.size + 2, 3, none⟩ = false ∧ wr.frozen? ⟨w.heap.size + 2, 4, none⟩ = false ∧ wr.frozen? ⟨w.heap.size + 2, 5, none⟩ = false :=
  ⟨h.1.six, h.2.1.six, h.2.2.1.six, h.2.2.1.frozen 0, h.2.2.1.frozen 1, h.2.2.1.frozen 2, h.2.2.1.frozen 3, h.2.2.1.frozen 4, h.2.2.1.frozen 5⟩
theorem below_six {w w' : World} {B : Nat} (h : Below w.heap.size w w') (hB : w.heap.size ≤ B) (v0 v1 v2 v3 v4 v5 : Value) :
    Below w.heap.size w ((((((w'.setCell ⟨B, 0, none⟩ v0).setCell ⟨B, 1, none⟩ v1).setCell ⟨B, 2, none⟩ v2).setCell ⟨B, 3, none⟩ v3).setCell ⟨B, 4, none⟩ v4).setCell ⟨B, 5, none⟩ v5) :=
  (((((h.setCell hB _).setCell hB _).setCell hB _).setCell hB _).setCell hB _).setCell hB _
theorem below_six_alloc {w w' : World} {B : Nat} (h : Below w.heap.size w w') (hB : w.heap.size ≤ B) (v0 v1 v2 v3 v4 v5 : Value) (o : Obj) :
    Below w.heap.size w (((((((w'.setCell ⟨B, 0, none⟩ v0).setCell ⟨B, 1, none⟩ v1).setCell ⟨B, 2, none⟩ v2).setCell ⟨B, 3, none⟩ v3).setCell ⟨B, 4, none⟩ v4).setCell ⟨B, 5, none⟩ v5).alloc o) :=
  (below_six h hB v0 v1 v2 v3 v4 v5).alloc (below_six h hB v0 v1 v2 v3 v4 v5).size _
/-- A value of one number and an error's number; nothing old has turned. -/
def ValE (r : Int × Int × Int) (w : World) (e : Ending) (w' : World) : Prop := e = .returned (.tuple #[.agg #[.int .i64 r.1, .int .i64 r.2.1, .string ⟨#[]⟩, .slice none 0 0, .slice none 0 0, .slice none 0 0], .int .i64 r.2.2]) ∧ Below w.heap.size w w'
theorem val_e {r : Int × Int × Int} {k n e : Int} {w w' : World} (h : r = (k, n, e)) (hb : Below w.heap.size w w') : ValE r w (.returned (.tuple #[.agg #[.int .i64 k, .int .i64 n, .string ⟨#[]⟩, .slice none 0 0, .slice none 0 0, .slice none 0 0], .int .i64 e])) w' := by subst h; exact ⟨rfl, hb⟩
namespace Num
/-- What is reckoned of two values of the kinds ak, bk, where their numbers are reckoned to o. -/
def reck (o : Int × Int) (ak bk : Int) : Int × Int × Int :=
  if noneB ak = true then (2, 0, 0) else if noneB bk = true then (2, 0, 0) else if numB ak = false then (0, 0, 12) else if numB bk = false then (0, 0, 12) else
    if o.2 ≠ 0 then (0, 0, o.2) else if ak = 4 then (4, o.1, 0) else if bk = 4 then (4, o.1, 0) else (ofK o.1, o.1, 0)
end Num
end Go.Proofs.Ytkmibpjhfgbckaa
