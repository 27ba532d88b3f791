/- A VALUE IN MEMORY (no walk). -/
import Derived.Test.YtkmibpjhfgbckaaBsonForth
import Derived.Test.YtkmibpjhfgbckaaBytesStr
namespace Go.Proofs.Ytkmibpjhfgbckaa
open Go.RowKit
open Seal
open Bson (Val)
/-- What fits into a number of 64 bits, and how long what came in can be. -/
structure Lim (x : Val) : Prop where
  k0 : -9223372036854775808 ≤ x.kind
  k1 : x.kind ≤ 9223372036854775807
  n0 : -9223372036854775808 ≤ x.n
  n1 : x.n ≤ 9223372036854775807
  s : x.s.size ≤ 140737488355328
  b : x.b.length ≤ 140737488355328
  f : x.f.length ≤ 1172812402961
  l : x.l.length ≤ 1353245080339
  o : Oct x.b
/-- Six cells from an address on, as a value. -/
def SixAt (w : World) (g p : Nat) (v : Value) : Prop := ∃ c0 c1 c2 c3 c4 c5, v = .agg #[c0, c1, c2, c3, c4, c5] ∧ w.cell? ⟨g, p, none⟩ = some c0 ∧ w.cell? ⟨g, p + 1, none⟩ = some c1 ∧ w.cell? ⟨g, p + 2, none⟩ = some c2 ∧ w.cell? ⟨g, p + 3, none⟩ = some c3 ∧ w.cell? ⟨g, p + 4, none⟩ = some c4 ∧ w.cell? ⟨g, p + 5, none⟩ = some c5
def BytesIn (w : World) (Q : Nat → Prop) (a : Option Addr) (l : List Nat) : Prop := l = [] ∨ ∃ g o, a = some ⟨g, o, none⟩ ∧ Q g ∧ Reads w g o l
def FieldsIn (w : World) (Q : Nat → Prop) (V : Val → Value → Prop) (a : Option Addr) (f : List (ByteArray × Val)) : Prop :=
  f = [] ∨ ∃ g o, a = some ⟨g, o, none⟩ ∧ Q g ∧ ∀ i (hi : i < f.length), w.cell? ⟨g, o + i * 7, none⟩ = some (.string f[i].1) ∧ f[i].1.size ≤ 140737488355328 ∧ ∃ v, SixAt w g (o + i * 7 + 1) v ∧ V f[i].2 v
def ItemsIn (w : World) (Q : Nat → Prop) (V : Val → Value → Prop) (a : Option Addr) (l : List Val) : Prop :=
  l = [] ∨ ∃ g o, a = some ⟨g, o, none⟩ ∧ Q g ∧ ∀ i (hi : i < l.length), ∃ v, SixAt w g (o + i * 6) v ∧ V l[i] v
/-- A value's six parts. -/
def agg (x : Val) (ba fa la : Option Addr) (bc fc lc : Nat) : Value :=
  .agg #[.int .i64 x.kind, .int .i64 x.n, .string x.s, .slice ba x.b.length bc, .slice fa x.f.length fc, .slice la x.l.length lc]
/-- The value v reads as x in w, is at most so high, and lies in blocks that Q names. -/
def VIn (w : World) (Q : Nat → Prop) : Nat → Val → Value → Prop
  | 0, _, _ => False
  | h + 1, x, v => ∃ ba fa la bc fc lc, v = agg x ba fa la bc fc lc ∧ Lim x ∧ (x.b.length ≤ bc ∧ bc ≤ 9223372036854775807) ∧ (x.f.length ≤ fc ∧ fc ≤ 9223372036854775807) ∧ (x.l.length ≤ lc ∧ lc ≤ 9223372036854775807) ∧
      BytesIn w Q ba x.b ∧ FieldsIn w Q (VIn w Q h) fa x.f ∧ ItemsIn w Q (VIn w Q h) la x.l
/-- The blocks that Q names read in w' as they did in w. -/
def Kept (Q : Nat → Prop) (w w' : World) : Prop := ∀ g, Q g → g < w.heap.size → w'.heap[g]? = w.heap[g]?
theorem Kept.of_below {Q : Nat → Prop} {w w' : World} (hb : Below w.heap.size w w') : Kept Q w w' := fun g _ hg => hb.block g hg
theorem Kept.cell {Q : Nat → Prop} {w w' : World} (h : Kept Q w w') {g o : Nat} {v : Value} (hq : Q g) (hc : w.cell? ⟨g, o, none⟩ = some v) : w'.cell? ⟨g, o, none⟩ = some v :=
  (World.cell?_of_block (a := ⟨g, o, none⟩) (h g hq (World.block_lt_of_cell? w _ hc))).trans hc
theorem SixAt.kept {Q : Nat → Prop} {w w' : World} {g p : Nat} {v : Value} (h : SixAt w g p v) (hb : Kept Q w w') (hq : Q g) : SixAt w' g p v := by
  obtain ⟨c0, c1, c2, c3, c4, c5, e, h0, h1, h2, h3, h4, h5⟩ := h
  exact ⟨c0, c1, c2, c3, c4, c5, e, hb.cell hq h0, hb.cell hq h1, hb.cell hq h2, hb.cell hq h3, hb.cell hq h4, hb.cell hq h5⟩
theorem SixAt.keep {w w' : World} {g p : Nat} {v : Value} (h : SixAt w g p v) (hb : Below w.heap.size w w') : SixAt w' g p v :=
  h.kept (Q := fun _ => True) (Kept.of_below hb) trivial
theorem BytesIn.kept {Q Q' : Nat → Prop} {w w' : World} {a : Option Addr} {l : List Nat} (h : BytesIn w Q a l) (hb : Kept Q w w') (hQ : ∀ g, Q g → Q' g) : BytesIn w' Q' a l := by
  rcases h with h | ⟨g, o, e, hq, h⟩
  · exact .inl h
  · exact .inr ⟨g, o, e, hQ g hq, fun j hj => hb.cell hq (h j hj)⟩
theorem FieldsIn.kept {Q Q' : Nat → Prop} {w w' : World} {V V' : Val → Value → Prop} {a : Option Addr} {f : List (ByteArray × Val)} (h : FieldsIn w Q V a f) (hb : Kept Q w w') (hQ : ∀ g, Q g → Q' g) (hV : ∀ x v, V x v → V' x v) : FieldsIn w' Q' V' a f := by
  rcases h with h | ⟨g, o, e, hq, h⟩
  · exact .inl h
  · refine .inr ⟨g, o, e, hQ g hq, fun i hi => ?_⟩
    obtain ⟨h1, h2, v, h3, h4⟩ := h i hi
    exact ⟨hb.cell hq h1, h2, v, h3.kept hb hq, hV _ _ h4⟩
theorem ItemsIn.kept {Q Q' : Nat → Prop} {w w' : World} {V V' : Val → Value → Prop} {a : Option Addr} {l : List Val} (h : ItemsIn w Q V a l) (hb : Kept Q w w') (hQ : ∀ g, Q g → Q' g) (hV : ∀ x v, V x v → V' x v) : ItemsIn w' Q' V' a l := by
  rcases h with h | ⟨g, o, e, hq, h⟩
  · exact .inl h
  · refine .inr ⟨g, o, e, hQ g hq, fun i hi => ?_⟩
    obtain ⟨v, h3, h4⟩ := h i hi
    exact ⟨v, h3.kept hb hq, hV _ _ h4⟩
theorem VIn.kept {w w' : World} {Q Q' : Nat → Prop} (hb : Kept Q w w') (hQ : ∀ g, Q g → Q' g) : ∀ {h : Nat} {x : Val} {v : Value}, VIn w Q h x v → VIn w' Q' h x v
  | 0, _, _, h => h.elim
  | _ + 1, _, _, ⟨ba, fa, la, bc, fc, lc, e, h1, h2, h3, h4, h5, h6, h7⟩ =>
    ⟨ba, fa, la, bc, fc, lc, e, h1, h2, h3, h4, h5.kept hb hQ, h6.kept hb hQ (fun _ _ h => VIn.kept hb hQ h), h7.kept hb hQ (fun _ _ h => VIn.kept hb hQ h)⟩
theorem VIn.keep {w w' : World} {Q : Nat → Prop} (hb : Below w.heap.size w w') {h : Nat} {x : Val} {v : Value} (hv : VIn w Q h x v) : VIn w' Q h x v := VIn.kept (Kept.of_below hb) (fun _ h => h) hv
theorem VIn.up {w : World} {Q : Nat → Prop} : ∀ {h : Nat} {x : Val} {v : Value}, VIn w Q h x v → ∀ {h' : Nat}, h ≤ h' → VIn w Q h' x v
  | 0, _, _, h, _, _ => h.elim
  | h + 1, x, v, ⟨ba, fa, la, bc, fc, lc, e, h1, h2, h3, h4, h5, h6, h7⟩, h', hle => by
    obtain ⟨h', rfl⟩ : ∃ k, h' = k + 1 := ⟨h' - 1, by omega⟩
    have k : ∀ x v, VIn w Q h x v → VIn w Q h' x v := fun x v hv => VIn.up hv (by omega)
    exact ⟨ba, fa, la, bc, fc, lc, e, h1, h2, h3, h4, h5, h6.kept (Kept.of_below (Below.refl _ _)) (fun _ h => h) k, h7.kept (Kept.of_below (Below.refl _ _)) (fun _ h => h) k⟩
theorem BytesIn.slice {w : World} {Q : Nat → Prop} {a : Option Addr} {l : List Nat} (h : BytesIn w Q a l) : SliceIs w a l := by
  rcases h with h | ⟨g, o, e, _, h⟩
  · exact .inl h
  · exact .inr ⟨g, o, e, h⟩
end Go.Proofs.Ytkmibpjhfgbckaa
