/- BytesStr, Wrote, BsonMem, PathMath, BsonShallow, ValLets. -/
import Derived.WalkLawsBesides
import Derived.Laws.BytesArg
import Derived.Deep.RegionHeld3
import Derived.Test.YtdcfddiicclpeaaDoorMg2
import Derived.Test.YtdcfddiicclpeaaDoorMg1
set_option maxRecDepth 100000
section
namespace Go.Proofs.YtdcfddiicclpeaaDoor
open Go.RowKit
open Seal
/-- The text that bytes make. -/
def strB (l : List Nat) : ByteArray := ⟨(l.map UInt8.ofNat).toArray⟩
theorem strB_inj {l m : List Nat} (hl : Oct l) (hm : Oct m) (h : strB l = strB m) : l = m := by
  have e : l.map UInt8.ofNat = m.map UInt8.ofNat := by
    have := congrArg (fun b : ByteArray => b.data.toList) h
    simpa [strB] using this
  have e2 : (l.map UInt8.ofNat).map UInt8.toNat = (m.map UInt8.ofNat).map UInt8.toNat := by rw [e]
  rw [List.map_map, List.map_map] at e2
  have id1 : ∀ l : List Nat, Oct l → l.map (UInt8.toNat ∘ UInt8.ofNat) = l := by
    intro l hl
    induction l with
    | nil => rfl
    | cons c r ih =>
      have hc : c < 256 := hl c (by simp)
      rw [List.map_cons, ih (fun x hx => hl x (by simp [hx]))]
      simp [Nat.mod_eq_of_lt hc]
  rw [id1 l hl, id1 m hm] at e2
  exact e2
/-- A block of bytes that was just made, whatever of it is frozen. -/
theorem reads_new (w : World) (l : List Nat) (t : TypeId) (fr : Nat × Nat) : Reads (w.alloc (.cells (u8s l).toArray t fr)) w.heap.size 0 l := by
  intro j hj
  rw [Nat.zero_add, cell_of_row _ w.heap.size j _ _ _ (heap_alloc_new w _)]
  simp [u8s, u8, List.getElem?_eq_getElem hj, List.getD_eq_getElem?_getD]
set_option maxRecDepth 100000 in
theorem conv_str (w : World) (a : Option Addr) (n c : Nat) (l : List Nat) (hl : l.length = n) (h : SliceIs w a l) : (convert 22 9 (.slice a n c)).run Tryd.prog w = .ok (.string (strB l)) w := by
  subst hl
  rcases h with rfl | ⟨b, off, rfl, h⟩
  · cases a with
    | none => exact run_convert_bytes_nil w 22 5 Tryd.underlying22 Tryd.underlying5 0 c 9 Tryd.underlying9
    | some a =>
      rw [List.length_nil, run_convert_bytes_string w 22 9 5 _ 0 c Tryd.underlying22 Tryd.underlying5 Tryd.underlying9, run_bytesToString w a 0 c [] (by simpa using run_loadCells_list (P := Tryd.prog) w a [] (by simp))]
      rfl
  · have := run_convert_bytes_arg w 22 5 Tryd.underlying22 Tryd.underlying5 b off l.length c (l.map fun n : Nat => (n : Int)) (by simp) (fun i hi => by
      rw [h i hi]; simp [List.getD_eq_getElem?_getD, List.getElem?_eq_getElem hi]) 9 Tryd.underlying9
    rw [this]
    congr 3
    unfold strOfNums strB; rw [List.map_map]; congr 3
end Go.Proofs.YtdcfddiicclpeaaDoor
end
section
namespace Go.Proofs.YtdcfddiicclpeaaDoor
open Go.RowKit
/-- An operation wrote what the row v owns, and new blocks; v' lies in v's block or in a new one. -/
def Wrote (w w' : World) (v v' : Value) : Prop := w.grownBy w' v.ownBlock ∧ (v'.ownBlock = v.ownBlock ∨ ∃ g, v'.ownBlock = some g ∧ w.heap.size ≤ g)
theorem Wrote.of_lies {w w' : World} {v v' : Value} (h : Lies w w' v v') : Wrote w w' v v' := by
  rcases h with ⟨h1, h2⟩ | ⟨h1, h2⟩
  · exact ⟨h2, .inl h1⟩
  · exact ⟨⟨h2.os, h2.tape, h2.output, h2.size, fun g hg _ => h2.block g hg nofun⟩, .inr ⟨_, h1, Nat.le_refl _⟩⟩
theorem Wrote.refl (w : World) (v : Value) : Wrote w w v v := ⟨World.grownBy.refl w _, .inl rfl⟩
theorem Wrote.below {w w' w2 : World} {v v' : Value} (h : Wrote w w' v v') (hb : Below w'.heap.size w' w2) : Wrote w w2 v v' :=
  ⟨⟨hb.os.trans h.1.os, hb.tape.trans h.1.tape, hb.output.trans h.1.output, Nat.le_trans h.1.size hb.size, fun g hg hne => (hb.block g (Nat.lt_of_lt_of_le hg h.1.size)).trans (h.1.block g hg hne)⟩, h.2⟩
theorem Wrote.of_below {w w' w2 : World} {v v' : Value} (hb : Below w.heap.size w w') (h : Wrote w' w2 v v') : Wrote w w2 v v' :=
  ⟨⟨h.1.os.trans hb.os, h.1.tape.trans hb.tape, h.1.output.trans hb.output, Nat.le_trans hb.size h.1.size, fun g hg hne => (h.1.block g (Nat.lt_of_lt_of_le hg hb.size) hne).trans (hb.block g hg)⟩,
    by rcases h.2 with h2 | ⟨g, h2, h3⟩
       · exact .inl h2
       · exact .inr ⟨g, h2, Nat.le_trans hb.size h3⟩⟩
theorem Wrote.trans {w w1 w2 : World} {v v1 v2 : Value} (h : Wrote w w1 v v1) (h' : Wrote w1 w2 v1 v2) : Wrote w w2 v v2 := by
  refine ⟨⟨h'.1.os.trans h.1.os, h'.1.tape.trans h.1.tape, h'.1.output.trans h.1.output, Nat.le_trans h.1.size h'.1.size, fun g hg hne => ?_⟩, ?_⟩
  · refine (h'.1.block g (Nat.lt_of_lt_of_le hg h.1.size) ?_).trans (h.1.block g hg hne)
    rcases h.2 with h2 | ⟨g2, h2, h3⟩
    · rw [h2]; exact hne
    · rw [h2]; intro e; have := Option.some.inj e; omega
  · rcases h'.2 with h2 | ⟨g2, h2, h3⟩
    · rw [h2]; exact h.2
    · exact .inr ⟨g2, h2, Nat.le_trans h.1.size h3⟩
theorem owns_below {w w' : World} {base : Nat} {e : TypeId} {size : Nat} {v : Value} {n : Nat} {xs : List Value} (h : w.ownsRow base e size v n xs) (hb : Below w.heap.size w w') : w'.ownsRow base e size v n xs := by
  obtain ⟨h1, h2 | ⟨g, cap, cur, e, hg, hrow, h3⟩⟩ := h
  · exact ⟨h1, .inl h2⟩
  · exact ⟨h1, .inr ⟨g, cap, cur, e, hg, (hb.block g (Array.getElem?_eq_some_iff.1 hrow).1).trans hrow, h3⟩⟩
theorem owns_block {w : World} {base : Nat} {e : TypeId} {size : Nat} {v : Value} {n : Nat} {xs : List Value} (h : w.ownsRow base e size v n xs) {g : Nat} (hg : v.ownBlock = some g) : base ≤ g ∧ g < w.heap.size := by
  obtain ⟨_, ⟨rfl, _⟩ | ⟨b, cap, cur, rfl, hb, hrow, _⟩⟩ := h
  · cases hg
  · obtain rfl : b = g := Option.some.inj hg
    exact ⟨hb, (Array.getElem?_eq_some_iff.1 hrow).1⟩
end Go.Proofs.YtdcfddiicclpeaaDoor
end
section
namespace Go.Proofs.YtdcfddiicclpeaaDoor
open Go.RowKit
open Seal
open Bson (Val)
/-- What fits into a number of 64 bits, and how long what came in can be. -/
structure Lim (x : Val) : Prop where
  k0 : -9223372036854775808 ≤ x.kind
  k1 : x.kind ≤ 9223372036854775807
  n0 : -9223372036854775808 ≤ x.n
  n1 : x.n ≤ 9223372036854775807
  s : x.s.size ≤ 140737488355328
  b : x.b.length ≤ 140737488355328
  f : x.f.length ≤ 1172812402961
  l : x.l.length ≤ 1353245080339
  o : Oct x.b
/-- Six cells from an address on, as a value. -/
def SixAt (w : World) (g p : Nat) (v : Value) : Prop := ∃ c0 c1 c2 c3 c4 c5, v = .agg #[c0, c1, c2, c3, c4, c5] ∧ w.cell? ⟨g, p, none⟩ = some c0 ∧ w.cell? ⟨g, p + 1, none⟩ = some c1 ∧ w.cell? ⟨g, p + 2, none⟩ = some c2 ∧ w.cell? ⟨g, p + 3, none⟩ = some c3 ∧ w.cell? ⟨g, p + 4, none⟩ = some c4 ∧ w.cell? ⟨g, p + 5, none⟩ = some c5
def BytesIn (w : World) (Q : Nat → Prop) (a : Option Addr) (l : List Nat) : Prop := l = [] ∨ ∃ g o, a = some ⟨g, o, none⟩ ∧ Q g ∧ Reads w g o l
def FieldsIn (w : World) (Q : Nat → Prop) (V : Val → Value → Prop) (a : Option Addr) (f : List (ByteArray × Val)) : Prop :=
  f = [] ∨ ∃ g o, a = some ⟨g, o, none⟩ ∧ Q g ∧ ∀ i (hi : i < f.length), w.cell? ⟨g, o + i * 7, none⟩ = some (.string f[i].1) ∧ f[i].1.size ≤ 140737488355328 ∧ ∃ v, SixAt w g (o + i * 7 + 1) v ∧ V f[i].2 v
def ItemsIn (w : World) (Q : Nat → Prop) (V : Val → Value → Prop) (a : Option Addr) (l : List Val) : Prop :=
  l = [] ∨ ∃ g o, a = some ⟨g, o, none⟩ ∧ Q g ∧ ∀ i (hi : i < l.length), ∃ v, SixAt w g (o + i * 6) v ∧ V l[i] v
/-- A value's six parts. -/
def agg (x : Val) (ba fa la : Option Addr) (bc fc lc : Nat) : Value :=
  .agg #[.int .i64 x.kind, .int .i64 x.n, .string x.s, .slice ba x.b.length bc, .slice fa x.f.length fc, .slice la x.l.length lc]
/-- The value v reads as x in w, is at most so high, and lies in blocks that Q names. -/
def VIn (w : World) (Q : Nat → Prop) : Nat → Val → Value → Prop
  | 0, _, _ => False
  | h + 1, x, v => ∃ ba fa la bc fc lc, v = agg x ba fa la bc fc lc ∧ Lim x ∧ (x.b.length ≤ bc ∧ bc ≤ 9223372036854775807) ∧ (x.f.length ≤ fc ∧ fc ≤ 9223372036854775807) ∧ (x.l.length ≤ lc ∧ lc ≤ 9223372036854775807) ∧
      BytesIn w Q ba x.b ∧ FieldsIn w Q (VIn w Q h) fa x.f ∧ ItemsIn w Q (VIn w Q h) la x.l
/-- The blocks that Q names read in w' as they did in w. -/
def Kept (Q : Nat → Prop) (w w' : World) : Prop := ∀ g, Q g → g < w.heap.size → w'.heap[g]? = w.heap[g]?
theorem Kept.of_below {Q : Nat → Prop} {w w' : World} (hb : Below w.heap.size w w') : Kept Q w w' := fun g _ hg => hb.block g hg
theorem Kept.cell {Q : Nat → Prop} {w w' : World} (h : Kept Q w w') {g o : Nat} {v : Value} (hq : Q g) (hc : w.cell? ⟨g, o, none⟩ = some v) : w'.cell? ⟨g, o, none⟩ = some v :=
  (World.cell?_of_block (a := ⟨g, o, none⟩) (h g hq (World.block_lt_of_cell? w _ hc))).trans hc
theorem SixAt.kept {Q : Nat → Prop} {w w' : World} {g p : Nat} {v : Value} (h : SixAt w g p v) (hb : Kept Q w w') (hq : Q g) : SixAt w' g p v := by
  obtain ⟨c0, c1, c2, c3, c4, c5, e, h0, h1, h2, h3, h4, h5⟩ := h
  exact ⟨c0, c1, c2, c3, c4, c5, e, hb.cell hq h0, hb.cell hq h1, hb.cell hq h2, hb.cell hq h3, hb.cell hq h4, hb.cell hq h5⟩
theorem SixAt.keep {w w' : World} {g p : Nat} {v : Value} (h : SixAt w g p v) (hb : Below w.heap.size w w') : SixAt w' g p v :=
  h.kept (Q := fun _ => True) (Kept.of_below hb) trivial
theorem BytesIn.kept {Q Q' : Nat → Prop} {w w' : World} {a : Option Addr} {l : List Nat} (h : BytesIn w Q a l) (hb : Kept Q w w') (hQ : ∀ g, Q g → Q' g) : BytesIn w' Q' a l := by
  rcases h with h | ⟨g, o, e, hq, h⟩
  · exact .inl h
  · exact .inr ⟨g, o, e, hQ g hq, fun j hj => hb.cell hq (h j hj)⟩
theorem FieldsIn.kept {Q Q' : Nat → Prop} {w w' : World} {V V' : Val → Value → Prop} {a : Option Addr} {f : List (ByteArray × Val)} (h : FieldsIn w Q V a f) (hb : Kept Q w w') (hQ : ∀ g, Q g → Q' g) (hV : ∀ x v, V x v → V' x v) : FieldsIn w' Q' V' a f := by
  rcases h with h | ⟨g, o, e, hq, h⟩
  · exact .inl h
  · refine .inr ⟨g, o, e, hQ g hq, fun i hi => ?_⟩
    obtain ⟨h1, h2, v, h3, h4⟩ := h i hi
    exact ⟨hb.cell hq h1, h2, v, h3.kept hb hq, hV _ _ h4⟩
theorem ItemsIn.kept {Q Q' : Nat → Prop} {w w' : World} {V V' : Val → Value → Prop} {a : Option Addr} {l : List Val} (h : ItemsIn w Q V a l) (hb : Kept Q w w') (hQ : ∀ g, Q g → Q' g) (hV : ∀ x v, V x v → V' x v) : ItemsIn w' Q' V' a l := by
  rcases h with h | ⟨g, o, e, hq, h⟩
  · exact .inl h
  · refine .inr ⟨g, o, e, hQ g hq, fun i hi => ?_⟩
    obtain ⟨v, h3, h4⟩ := h i hi
    exact ⟨v, h3.kept hb hq, hV _ _ h4⟩
theorem VIn.kept {w w' : World} {Q Q' : Nat → Prop} (hb : Kept Q w w') (hQ : ∀ g, Q g → Q' g) : ∀ {h : Nat} {x : Val} {v : Value}, VIn w Q h x v → VIn w' Q' h x v
  | 0, _, _, h => h.elim
  | _ + 1, _, _, ⟨ba, fa, la, bc, fc, lc, e, h1, h2, h3, h4, h5, h6, h7⟩ =>
    ⟨ba, fa, la, bc, fc, lc, e, h1, h2, h3, h4, h5.kept hb hQ, h6.kept hb hQ (fun _ _ h => VIn.kept hb hQ h), h7.kept hb hQ (fun _ _ h => VIn.kept hb hQ h)⟩
theorem VIn.keep {w w' : World} {Q : Nat → Prop} (hb : Below w.heap.size w w') {h : Nat} {x : Val} {v : Value} (hv : VIn w Q h x v) : VIn w' Q h x v := VIn.kept (Kept.of_below hb) (fun _ h => h) hv
theorem VIn.up {w : World} {Q : Nat → Prop} : ∀ {h : Nat} {x : Val} {v : Value}, VIn w Q h x v → ∀ {h' : Nat}, h ≤ h' → VIn w Q h' x v
  | 0, _, _, h, _, _ => h.elim
  | h + 1, x, v, ⟨ba, fa, la, bc, fc, lc, e, h1, h2, h3, h4, h5, h6, h7⟩, h', hle => by
    obtain ⟨h', rfl⟩ : ∃ k, h' = k + 1 := ⟨h' - 1, by omega⟩
    have k : ∀ x v, VIn w Q h x v → VIn w Q h' x v := fun x v hv => VIn.up hv (by omega)
    exact ⟨ba, fa, la, bc, fc, lc, e, h1, h2, h3, h4, h5, h6.kept (Kept.of_below (Below.refl _ _)) (fun _ h => h) k, h7.kept (Kept.of_below (Below.refl _ _)) (fun _ h => h) k⟩
theorem BytesIn.slice {w : World} {Q : Nat → Prop} {a : Option Addr} {l : List Nat} (h : BytesIn w Q a l) : SliceIs w a l := by
  rcases h with h | ⟨g, o, e, _, h⟩
  · exact .inl h
  · exact .inr ⟨g, o, e, h⟩
end Go.Proofs.YtdcfddiicclpeaaDoor
end
section
namespace Bson
open Go
/-- The value of the first field of that name, Missing where there is none. -/
def fieldIn : List (ByteArray × Val) → ByteArray → Val
  | [], _ => zero
  | (s, v) :: r, a => if s = a then v else fieldIn r a
def nil_ : Val := zero
/-- A List of these items. -/
def listOf (l : List Val) : Val := .mk 7 0 none_ [] [] l
/-- What an expression's path leads to (n: fuel, as much as names and height together). -/
def reach : Nat → Val → List ByteArray → Val
  | _, x, [] => x
  | 0, _, _ :: _ => zero
  | n + 1, x, a :: r => if x.kind = 6 then reach n (fieldIn x.f a) r else if x.kind = 7 then listOf ((x.l.map fun y => reach n y (a :: r)).filter fun y => decide (y.kind ≠ 0)) else zero
/-- What a query's path leads to. -/
def itself (x : Val) : List Val := x :: (if x.kind = 7 then x.l else [])
def all : Nat → Val → List ByteArray → List Val
  | _, x, [] => itself x
  | 0, _, _ :: _ => [zero]
  | n + 1, x, a :: r =>
    if x.kind = 6 then (if (fieldIn x.f a).kind = 0 then [zero] else all n (fieldIn x.f a) r)
    else if x.kind = 7 then (if (x.l.filter fun y => decide (y.kind = 6)).isEmpty then [zero] else (x.l.filter fun y => decide (y.kind = 6)).flatMap fun y => all n y (a :: r))
    else [zero]
theorem reach_nil (n : Nat) (x : Val) : reach n x [] = x := by cases n <;> rfl
theorem all_nil (n : Nat) (x : Val) : all n x [] = itself x := by cases n <;> rfl
theorem reach_doc (n : Nat) (x : Val) (a : ByteArray) (r : List ByteArray) (h : x.kind = 6) : reach (n + 1) x (a :: r) = reach n (fieldIn x.f a) r := by rw [reach, if_pos h]
theorem reach_list (n : Nat) (x : Val) (a : ByteArray) (r : List ByteArray) (h : x.kind = 7) : reach (n + 1) x (a :: r) = listOf ((x.l.map fun y => reach n y (a :: r)).filter fun y => decide (y.kind ≠ 0)) := by rw [reach, if_neg (by omega), if_pos h]
theorem reach_other (n : Nat) (x : Val) (a : ByteArray) (r : List ByteArray) (h6 : x.kind ≠ 6) (h7 : x.kind ≠ 7) : reach n x (a :: r) = zero := by
  cases n with
  | zero => rfl
  | succ n => rw [reach, if_neg h6, if_neg h7]
theorem all_ne (n : Nat) (x : Val) (p : List ByteArray) : all n x p ≠ [] := by
  induction n generalizing x p with
  | zero => cases p <;> simp [all, itself]
  | succ n ih =>
    cases p with
    | nil => simp [all, itself]
    | cons a r =>
      rw [all]
      split
      · split
        · simp
        · exact ih _ _
      · split
        · split
          · simp
          · rename_i h
            intro e
            simp only [List.isEmpty_iff] at h
            cases hl : x.l.filter fun y => decide (y.kind = 6) with
            | nil => exact h hl
            | cons y t =>
              rw [hl, List.flatMap_cons, List.append_eq_nil_iff] at e
              exact ih _ _ e.1
        · simp
theorem all_missing (n : Nat) (x : Val) (a : ByteArray) (r : List ByteArray) (h : x.kind = 6) (h0 : (fieldIn x.f a).kind = 0) : all (n + 1) x (a :: r) = [zero] := by rw [all, if_pos h, if_pos h0]
theorem all_doc (n : Nat) (x : Val) (a : ByteArray) (r : List ByteArray) (h : x.kind = 6) (h0 : (fieldIn x.f a).kind ≠ 0) : all (n + 1) x (a :: r) = all n (fieldIn x.f a) r := by rw [all, if_pos h, if_neg h0]
theorem all_none (n : Nat) (x : Val) (a : ByteArray) (r : List ByteArray) (h : x.kind = 7) (h0 : (x.l.filter fun y => decide (y.kind = 6)) = []) : all (n + 1) x (a :: r) = [zero] := by
  rw [all, if_neg (by omega), if_pos h, if_pos (by rw [h0]; rfl)]
theorem all_list (n : Nat) (x : Val) (a : ByteArray) (r : List ByteArray) (h : x.kind = 7) (h0 : (x.l.filter fun y => decide (y.kind = 6)) ≠ []) : all (n + 1) x (a :: r) = (x.l.filter fun y => decide (y.kind = 6)).flatMap fun y => all n y (a :: r) := by
  rw [all, if_neg (by omega), if_pos h, if_neg (by simp only [List.isEmpty_iff]; exact h0)]
theorem all_other (n : Nat) (x : Val) (a : ByteArray) (r : List ByteArray) (h6 : x.kind ≠ 6) (h7 : x.kind ≠ 7) : all n x (a :: r) = [zero] := by
  cases n with
  | zero => rfl
  | succ n => rw [all, if_neg h6, if_neg h7]
end Bson
end
section
namespace Go.Proofs.YtdcfddiicclpeaaDoor
open Go.RowKit
open Seal
open Bson (Val)
theorem ret_eq {a b : Value} (h : a = b) : Ending.returned a = .returned b := by rw [h]
/-- Some answer, and nothing old has turned. -/
def SomeBool (w : World) (e : Ending) (w' : World) : Prop := ∃ b, e = .returned (.bool b) ∧ Below w.heap.size w w'
theorem cell_keep {w w' : World} {p : Addr} {v : Value} (hb : Below w.heap.size w w') (h : w.cell? p = some v) : w'.cell? p = some v := (hb.cell (World.block_lt_of_cell? w _ h)).trans h
/-- A box was laid behind w, and since then nothing has turned of it or of what is older. -/
def Boxed (w : World) (cs : Array Value) (t : TypeId) (wr : World) : Prop := Below (w.heap.size + 1) (w.alloc (.cells cs t)) wr
section
variable {w wr w' : World} {cs : Array Value} {t : TypeId}
theorem Boxed.refl (w : World) (cs : Array Value) (t : TypeId) : Boxed w cs t (w.alloc (.cells cs t)) := Below.refl _ _
theorem Boxed.cell (h : Boxed w cs t wr) (j : Nat) : wr.cell? ⟨w.heap.size, j, none⟩ = cs[j]? :=
  (Below.cell h (p := ⟨w.heap.size, j, none⟩) (Nat.lt_succ_self _)).trans (cell_of_row _ _ j cs t (0, 0) (heap_alloc_new w _))
theorem Boxed.size (h : Boxed w cs t wr) : w.heap.size + 1 ≤ wr.heap.size := by have := Below.size h; simpa using this
theorem Boxed.below (h : Boxed w cs t wr) : Below w.heap.size w wr := ((Below.refl _ w).alloc (Nat.le_refl _) _).trans (Below.mono h (by simp))
theorem Boxed.step (h : Boxed w cs t wr) (hb : Below wr.heap.size wr w') : Boxed w cs t w' := Below.trans h (hb.mono h.size)
end
set_option maxRecDepth 100000 in
set_option maxHeartbeats 1000000 in
theorem shallow_any (Q : Nat → Prop) : ∀ (h : Nat) (x : Val) (v : Value) (m : Int) (w : World), VIn w Q h x v → 0 ≤ m → m ≤ 60 → Calls Tryd.prog 52 #[v, .int .i64 m] w (SomeBool w)
  | 0, _, _, _, _, hv, _, _ => hv.elim
  | h + 1, x, v, m, w, hv, h0, h1 => by
    obtain ⟨ba, fa, la, bc, fc, lc, rfl, hL, hb, hf, hl, hB, hF, hI⟩ := hv
    unfold agg
    have IH := Lib.hid (fun x v m w => shallow_any Q h x v m w)
    have HF := Lib.hid hF; have HI := Lib.hid hI
    obtain ⟨fn, hfn⟩ : ∃ fn, fn = x.f.length := ⟨_, rfl⟩
    obtain ⟨ln, hln⟩ : ∃ ln, ln = x.l.length := ⟨_, rfl⟩
    have hfl := hL.f; have hll := hL.l
    rw [← hfn] at hfl ⊢; rw [← hln] at hll ⊢
    have HFN := Lib.hid hfn; have HLN := Lib.hid hln
    clear hF hI hB hb hL hf hl hfn hln
    obtain ⟨cs, hcs⟩ : ∃ cs, cs = #[Value.int .i64 x.kind, .int .i64 x.n, .string x.s, .slice ba x.b.length bc, .slice fa fn fc, .slice la ln lc] := ⟨_, rfl⟩
    have HC := Lib.hid hcs; clear hcs
    go_enter Tryd.func52, Tryd.ntmps52
    go_wp2
    go_loopw [5] (fun i wr => ∃ k : Nat, i = .int .i64 k ∧ k ≤ fn ∧ Hid (Boxed w cs 26 wr)) (fun i _ => fn - (intOf i).toNat)
    case atStart => exact ⟨0, rfl, Nat.zero_le _, by rw [HC.out]; exact Boxed.refl _ _ _⟩
    case round =>
      obtain ⟨k, rfl, hk, hbx⟩ := hrel
      have c4 : wr.cell? ⟨w.heap.size, 4, none⟩ = some (.slice fa fn fc) := by rw [hbx.out.cell, HC.out]; rfl
      have c5 : wr.cell? ⟨w.heap.size, 5, none⟩ = some (.slice la ln lc) := by rw [hbx.out.cell, HC.out]; rfl
      by_cases hlt : k < fn
      · by_cases hm : m = 0
        · subst hm
          go_wp2
          go_ret
          exact ⟨_, rfl, hbx.out.below⟩
        · have hm' : (m == 0) = false := by simpa using hm
          obtain ⟨g, o, hfa, _, hall⟩ := HF.out.resolve_left (fun e => by have := HFN.out; rw [e] at this; simp at this; omega)
          obtain ⟨hnm, _, v', hsix, hV⟩ := hall k (by have := HFN.out; omega)
          subst hfa
          have hV := Lib.hid (VIn.keep hbx.out.below hV)
          obtain ⟨d0, d1, d2, d3, d4, d5, rfl, s0, s1, s2, s3, s4, s5⟩ := hsix.keep hbx.out.below
          clear hnm hall
          go_wp2_with fail
          refine (IH.out _ _ (m - 1) _ hV.out (by omega) (by omega)).mono ?_
          rintro e w' ⟨b, rfl, hB'⟩
          have HB := Lib.hid (hbx.out.step (cs := cs) hB')
          clear hB'
          cases b with
          | false =>
            go_wp2_with fail
            go_ret
            exact ⟨_, rfl, HB.out.below⟩
          | true =>
            go_wp2_with fail
            go_roundw
            case rel => exact ⟨k + 1, by go_num, by omega, HB⟩
            case measure => simp [intOf]; omega
      · obtain rfl : fn = k := by omega
        clear hk
        go_wp2_with fail
        go_loopw [6] (fun i wr => ∃ k : Nat, i = .int .i64 k ∧ k ≤ ln ∧ Hid (Boxed w cs 26 wr)) (fun i _ => ln - (intOf i).toNat)
        case atStart => exact ⟨0, rfl, Nat.zero_le _, hbx⟩
        case round =>
          obtain ⟨j, rfl, hj, hbx⟩ := hrel
          have c5 : wr.cell? ⟨w.heap.size, 5, none⟩ = some (.slice la ln lc) := by rw [hbx.out.cell, HC.out]; rfl
          by_cases hlt : j < ln
          · by_cases hm : m = 0
            · subst hm
              go_wp2
              go_ret
              exact ⟨_, rfl, hbx.out.below⟩
            · have hm' : (m == 0) = false := by simpa using hm
              obtain ⟨g, o, hla, _, hall⟩ := HI.out.resolve_left (fun e => by have := HLN.out; rw [e] at this; simp at this; omega)
              obtain ⟨v', hsix, hV⟩ := hall j (by have := HLN.out; omega)
              subst hla
              have hV := Lib.hid (VIn.keep hbx.out.below hV)
              obtain ⟨d0, d1, d2, d3, d4, d5, rfl, s0, s1, s2, s3, s4, s5⟩ := hsix.keep hbx.out.below
              clear hall
              go_wp2_with fail
              refine (IH.out _ _ (m - 1) _ hV.out (by omega) (by omega)).mono ?_
              rintro e w' ⟨b, rfl, hB'⟩
              have HB := Lib.hid (hbx.out.step (cs := cs) hB')
              clear hB'
              cases b with
              | false =>
                go_wp2_with fail
                go_ret
                exact ⟨_, rfl, HB.out.below⟩
              | true =>
                go_wp2_with fail
                go_roundw
                case rel => exact ⟨j + 1, by go_num, by omega, HB⟩
                case measure => simp [intOf]; omega
          · have hjj : j = ln := by omega
            clear hj
            go_wp2_with fail
            go_ret
            exact ⟨_, rfl, hbx.out.below⟩
end Go.Proofs.YtdcfddiicclpeaaDoor
end
section
namespace Go.Proofs.YtdcfddiicclpeaaDoor
open Go.RowKit
open Seal
open Bson (Val)
/-- What is read lies in blocks that are there. -/
theorem VIn.lt {w : World} {Q : Nat → Prop} : ∀ {h : Nat} {x : Val} {v : Value}, VIn w Q h x v → VIn w (fun g => Q g ∧ g < w.heap.size) h x v
  | 0, _, _, h => h.elim
  | h + 1, x, v, ⟨ba, fa, la, bc, fc, lc, e, h1, h2, h3, h4, hB, hF, hI⟩ => by
    refine ⟨ba, fa, la, bc, fc, lc, e, h1, h2, h3, h4, ?_, ?_, ?_⟩
    · rcases hB with hB | ⟨g, o, e, hq, hr⟩
      · exact .inl hB
      · cases hx : x.b with
        | nil => exact .inl rfl
        | cons c r =>
          have := hr 0 (by rw [hx]; simp)
          exact .inr ⟨g, o, e, ⟨hq, World.block_lt_of_cell? w _ this⟩, by rw [← hx]; exact hr⟩
    · rcases hF with hF | ⟨g, o, e, hq, hr⟩
      · exact .inl hF
      · cases hx : x.f with
        | nil => exact .inl rfl
        | cons c r =>
          have h0 := (hr 0 (by rw [hx]; simp)).1
          refine .inr ⟨g, o, e, ⟨hq, World.block_lt_of_cell? w _ h0⟩, ?_⟩
          rw [← hx]
          intro i hi
          obtain ⟨a1, a2, v, a3, a4⟩ := hr i hi
          exact ⟨a1, a2, v, a3, VIn.lt a4⟩
    · rcases hI with hI | ⟨g, o, e, hq, hr⟩
      · exact .inl hI
      · cases hx : x.l with
        | nil => exact .inl rfl
        | cons c r =>
          obtain ⟨v0, h0, _⟩ := hr 0 (by rw [hx]; simp)
          obtain ⟨_, _, _, _, _, _, _, hc, _⟩ := h0
          refine .inr ⟨g, o, e, ⟨hq, World.block_lt_of_cell? w _ hc⟩, ?_⟩
          rw [← hx]
          intro i hi
          obtain ⟨v, a3, a4⟩ := hr i hi
          exact ⟨v, a3, VIn.lt a4⟩
theorem VIn.letters {w : World} {Q : Nat → Prop} {h : Nat} {x : Val} {v : Value} (hv : VIn w Q (h + 1) x v) :
    ∃ (xk xn : Int) (xs : ByteArray) (ba fa la : Option Addr) (bn bc fn fc ln lc : Nat), v = .agg #[.int .i64 xk, .int .i64 xn, .string xs, .slice ba bn bc, .slice fa fn fc, .slice la ln lc] ∧
      xk = x.kind ∧ xn = x.n ∧ xs = x.s ∧ bn = x.b.length ∧ fn = x.f.length ∧ ln = x.l.length ∧ Lim x ∧ FieldsIn w Q (VIn w Q h) fa x.f ∧ ItemsIn w Q (VIn w Q h) la x.l := by
  obtain ⟨ba, fa, la, bc, fc, lc, rfl, hL, _, _, _, _, hF, hI⟩ := hv
  exact ⟨_, _, _, ba, fa, la, _, bc, _, fc, _, lc, rfl, rfl, rfl, rfl, rfl, rfl, rfl, hL, hF, hI⟩
theorem zero_in (w : World) (Q : Nat → Prop) : VIn w Q 1 Bson.zero (.agg #[.int .i64 0, .int .i64 0, .string ⟨#[]⟩, .slice none 0 0, .slice none 0 0, .slice none 0 0]) :=
  ⟨none, none, none, 0, 0, 0, rfl, ⟨by show (-9223372036854775808 : Int) ≤ 0; omega, by show (0 : Int) ≤ _; omega, by show (-9223372036854775808 : Int) ≤ 0; omega, by show (0 : Int) ≤ _; omega, by show (0 : Nat) ≤ _; omega, by show (0 : Nat) ≤ _; omega, by show (0 : Nat) ≤ _; omega, by show (0 : Nat) ≤ _; omega, fun c hc => by cases hc⟩, ⟨Nat.le_refl _, by omega⟩, ⟨Nat.le_refl _, by omega⟩, ⟨Nat.le_refl _, by omega⟩, .inl rfl, .inl rfl, .inl rfl⟩
theorem str_ne {s t : ByteArray} (h : ¬ s = t) : (s.toList == t.toList) = false := by
  rw [beq_eq_false_iff_ne]
  intro e
  rw [ByteArray.toList_eq, ByteArray.toList_eq] at e
  apply h
  obtain ⟨⟨a⟩⟩ := s
  obtain ⟨⟨b⟩⟩ := t
  simp only at e
  rw [e]
/-- What a function that answers a value leaves: the value, and nothing old has turned. -/
def ValPost (Q : Nat → Prop) (w : World) (h : Nat) (x : Val) (e : Ending) (w' : World) : Prop := ∃ v', e = .returned v' ∧ VIn w' Q h x v' ∧ Below w.heap.size w w'
theorem below_dr {B : Nat} {a w : World} (h : Below B a w) (n : Nat) : Below B a (w.drewN n) := ⟨h.os, h.tape, h.output, h.size, h.block⟩
end Go.Proofs.YtdcfddiicclpeaaDoor
end
