/- What a pen's recursive operations do (no walk). -/
import Derived.Test.YtdcfddiicclpeaaDoorKeyText
import Derived.Test.YtdcfddiicclpeaaDoorBsonMem
import Derived.Test.YtdcfddiicclpeaaDoorSixIs
import Derived.Test.YtdcfddiicclpeaaDoorValLets
import Derived.Test.YtdcfddiicclpeaaDoorValByt
import Derived.Test.YtdcfddiicclpeaaDoorPathMem
namespace Go.Proofs.YtdcfddiicclpeaaDoor
open Go.RowKit
open Seal
open Bson (Val)
/-- The variable that strings.Index reads. -/
def Maxl (w : World) (base : Nat) : Prop := 2 < base ∧ ∃ m, w.cell? ⟨2, 0, none⟩ = some (.int .i64 m)
theorem Maxl.keep {w w' : World} {base : Nat} (h : Maxl w base) (hb : Below base w w') : Maxl w' base := by
  obtain ⟨h1, m, h2⟩ := h
  exact ⟨h1, m, (World.cell?_of_block (a := ⟨2, 0, none⟩) (hb.block _ h1)).trans h2⟩
theorem Maxl.mono {w : World} {b b' : Nat} (h : Maxl w b) (hb : b ≤ b') : Maxl w b' := ⟨Nat.lt_of_lt_of_le h.1 hb, h.2⟩
theorem Maxl.newer {w w' : World} {base : Nat} (h : Maxl w base) (hb : Below w.heap.size w w') : Maxl w' base := by
  obtain ⟨h1, m, h2⟩ := h
  exact ⟨h1, m, cell_keep hb h2⟩
/-- What is put: the bytes, if it answers true; it answers false where it may not be. -/
def PutPost (w : World) (gp base : Nat) (l add : List Nat) (v : Value) (p : Prop) (e : Ending) (w' : World) : Prop :=
  ∃ b v' l', e = .returned (.bool b) ∧ Pen w' gp base l' v' ∧ PMv gp w w' v v' ∧ (b = true → l' = l ++ add ∧ p) ∧ (b = false → ¬ p)
theorem kept_base {w w' : World} {Q : Nat → Prop} {base : Nat} (hb : Below base w w') (hQ : ∀ g, Q g → g < base) : Kept Q w w' := fun g hg _ => hb.block g (hQ g hg)
theorem VIn.kind_eq {w : World} {Q : Nat → Prop} {h : Nat} {x : Val} {k n : Int} {s : ByteArray} {ba fa la : Option Addr} {bn bc fn fc ln lc : Nat} (hv : VIn w Q h x (.agg #[.int .i64 k, .int .i64 n, .string s, .slice ba bn bc, .slice fa fn fc, .slice la ln lc])) : k = x.kind := by
  cases h with
  | zero => exact hv.elim
  | succ h =>
    obtain ⟨ba', fa', la', bc', fc', lc', e, _⟩ := hv
    unfold agg at e
    injection e with e; injection e with e; injection e with e _
    injection e
def BehDo (L h : Nat) : Prop := ∀ (Q : Nat → Prop) (x : Val) (u : Value) (w : World) (gp base : Nat) (l : List Nat) (v : Value), VIn w Q h x u → (∀ g, Q g → g < base) → Pen w gp base l v → Maxl w base →
  l.length + (Key.beh L x).length ≤ 2147483648 → Calls Tryd.prog 63 #[.pointer (some ⟨gp, 0, none⟩), u, .int .i64 (L : Int)] w (PutPost w gp base l (Key.beh L x) v (Key.fits L x))
def ValDo (L h : Nat) : Prop := ∀ (Q : Nat → Prop) (x : Val) (u : Value) (w : World) (gp base : Nat) (l : List Nat) (v : Value), VIn w Q h x u → (∀ g, Q g → g < base) → Pen w gp base l v → Maxl w base →
  l.length + (Key.valB L x).length ≤ 2147483648 → Calls Tryd.prog 44 #[.pointer (some ⟨gp, 0, none⟩), u, .int .i64 (L : Int)] w (PutPost w gp base l (Key.valB L x) v (Key.fits L x))
def FieldsPut (L h : Nat) : Prop := ∀ (Q : Nat → Prop) (f : List (ByteArray × Val)) (a : Option Addr) (n c : Nat) (w : World) (gp base : Nat) (l : List Nat) (v : Value), f.length = n → n ≤ 1172812402961 → FieldsIn w Q (VIn w Q h) a f → (∀ g, Q g → g < base) → Pen w gp base l v → Maxl w base →
  l.length + (Key.rowB (Key.fldB L) f).length ≤ 2147483648 → Calls Tryd.prog 74 #[.pointer (some ⟨gp, 0, none⟩), .slice a n c, .int .i64 (L : Int)] w (PutPost w gp base l (Key.rowB (Key.fldB L) f) v (∀ p ∈ f, Key.fits L p.2))
def ItemsPut (L h : Nat) : Prop := ∀ (Q : Nat → Prop) (f : List Val) (a : Option Addr) (n c : Nat) (w : World) (gp base : Nat) (l : List Nat) (v : Value), f.length = n → n ≤ 1353245080339 → ItemsIn w Q (VIn w Q h) a f → (∀ g, Q g → g < base) → Pen w gp base l v → Maxl w base →
  l.length + (Key.rowB (Key.valB L) f).length ≤ 2147483648 → Calls Tryd.prog 75 #[.pointer (some ⟨gp, 0, none⟩), .slice a n c, .int .i64 (L : Int)] w (PutPost w gp base l (Key.rowB (Key.valB L) f) v (∀ y ∈ f, Key.fits L y))
/-- Items without the end. -/
def rowP {α : Type} (e : α → List Nat) : List α → List Nat
  | [] => []
  | a :: r => e a ++ rowP e r
theorem rowB_P {α : Type} (e : α → List Nat) : ∀ l : List α, Key.rowB e l = rowP e l ++ [0]
  | [] => rfl
  | a :: r => by rw [Key.rowB, rowP, rowB_P e r, List.append_assoc]
theorem rowP_app {α : Type} (e : α → List Nat) : ∀ l m : List α, rowP e (l ++ m) = rowP e l ++ rowP e m
  | [], _ => rfl
  | a :: r, m => by rw [List.cons_append, rowP, rowP, rowP_app e r m, List.append_assoc]
theorem rowP_snoc {α : Type} (e : α → List Nat) (l : List α) (k : Nat) (hk : k < l.length) : rowP e (l.take (k + 1)) = rowP e (l.take k) ++ e l[k] := by
  rw [List.take_succ_eq_append_getElem hk, rowP_app]
  show _ ++ (e l[k] ++ []) = _
  rw [List.append_nil]
theorem rowP_room {α : Type} (e : α → List Nat) (l : List α) (k : Nat) (hk : k < l.length) : (rowP e (l.take k)).length + (e l[k]).length + 1 ≤ (Key.rowB e l).length := by
  have h1 : l = l.take (k + 1) ++ l.drop (k + 1) := (List.take_append_drop _ _).symm
  have h2 : (rowP e l).length = (rowP e (l.take (k + 1))).length + (rowP e (l.drop (k + 1))).length := by
    rw [← List.length_append, ← rowP_app, ← h1]
  rw [rowP_snoc e l k hk, List.length_append] at h2
  rw [rowB_P, List.length_append]
  simp only [List.length_cons, List.length_nil]
  omega
/-- A cell that is neither the pen's nor its row's. -/
theorem PMv.cell {gp : Nat} {w w' : World} {v v' : Value} (h : PMv gp w w' v v') {g o : Nat} {c : Value} (hc : w.cell? ⟨g, o, none⟩ = some c) (h1 : g ≠ gp) (h2 : v.ownBlock ≠ some g) : w'.cell? ⟨g, o, none⟩ = some c :=
  (World.cell?_of_block (a := ⟨g, o, none⟩) (h.block g (World.block_lt_of_cell? w _ hc) h1 h2)).trans hc
/-- A box that was laid behind the pen is neither. -/
theorem Pen.box {gp base : Nat} {l : List Nat} {w : World} {v : Value} (h : Pen w gp base l v) : w.heap.size ≠ gp ∧ v.ownBlock ≠ some w.heap.size :=
  ⟨by have := h.lt; omega, fun e => by have := (owns_block h.own e).2; omega⟩
/-- A box of seven cells. -/
def SevenIs (W : World) (n : Nat) (c0 c1 c2 c3 c4 c5 c6 : Value) : Prop := W.cell? ⟨n, 0, none⟩ = some c0 ∧ W.cell? ⟨n, 1, none⟩ = some c1 ∧ W.cell? ⟨n, 2, none⟩ = some c2 ∧ W.cell? ⟨n, 3, none⟩ = some c3 ∧ W.cell? ⟨n, 4, none⟩ = some c4 ∧ W.cell? ⟨n, 5, none⟩ = some c5 ∧ W.cell? ⟨n, 6, none⟩ = some c6
theorem SevenIs.new (w : World) (c0 c1 c2 c3 c4 c5 c6 : Value) (t : TypeId) : SevenIs (w.alloc (.cells #[c0, c1, c2, c3, c4, c5, c6] t)) w.heap.size c0 c1 c2 c3 c4 c5 c6 := by
  have e := heap_alloc_new w (.cells #[c0, c1, c2, c3, c4, c5, c6] t)
  exact ⟨(cell_of_row _ _ 0 _ _ _ e).trans rfl, (cell_of_row _ _ 1 _ _ _ e).trans rfl, (cell_of_row _ _ 2 _ _ _ e).trans rfl, (cell_of_row _ _ 3 _ _ _ e).trans rfl, (cell_of_row _ _ 4 _ _ _ e).trans rfl, (cell_of_row _ _ 5 _ _ _ e).trans rfl, (cell_of_row _ _ 6 _ _ _ e).trans rfl⟩
theorem SevenIs.moved {gp : Nat} {w w' : World} {v v' : Value} {n : Nat} {c0 c1 c2 c3 c4 c5 c6 : Value} (h : SevenIs w n c0 c1 c2 c3 c4 c5 c6) (hm : PMv gp w w' v v') (hn : n ≠ gp ∧ v.ownBlock ≠ some n) : SevenIs w' n c0 c1 c2 c3 c4 c5 c6 := by
  obtain ⟨h0, h1, h2, h3, h4, h5, h6⟩ := h
  exact ⟨hm.cell h0 hn.1 hn.2, hm.cell h1 hn.1 hn.2, hm.cell h2 hn.1 hn.2, hm.cell h3 hn.1 hn.2, hm.cell h4 hn.1 hn.2, hm.cell h5 hn.1 hn.2, hm.cell h6 hn.1 hn.2⟩
theorem SixIs.moved {gp : Nat} {w w' : World} {v v' : Value} {n : Nat} {c0 c1 c2 c3 c4 c5 : Value} (h : SixIs w n c0 c1 c2 c3 c4 c5) (hm : PMv gp w w' v v') (hn : n ≠ gp ∧ v.ownBlock ≠ some n) : SixIs w' n c0 c1 c2 c3 c4 c5 := by
  obtain ⟨h0, h1, h2, h3, h4, h5⟩ := h
  exact ⟨hm.cell h0 hn.1 hn.2, hm.cell h1 hn.1 hn.2, hm.cell h2 hn.1 hn.2, hm.cell h3 hn.1 hn.2, hm.cell h4 hn.1 hn.2, hm.cell h5 hn.1 hn.2⟩
end Go.Proofs.YtdcfddiicclpeaaDoor
