/- BsonDeepMath, BsonMem, PathMath, BsonPutMath, BsonShallow. -/
import Derived.Deep.RegionHeld3
import Derived.Test.YtpiookgkkaafeaaDoorMg4
import Derived.Test.YtpiookgkkaafeaaDoorMg2
import Derived.Test.YtpiookgkkaafeaaDoorMg0
import Derived.Test.YtpiookgkkaafeaaDoorMg3
set_option maxRecDepth 100000
section
namespace Go.Proofs.YtpiookgkkaafeaaDoor
open Bson (Val enc row scalar digits named wrap doc code nameMay leI signed loop known)
/-- A number within lists (true) and documents (false), the outermost first. -/
def deepV : List Bool → Val
  | [] => .mk 3 7 ⟨#[]⟩ [] [] []
  | true :: s => .mk 7 0 ⟨#[]⟩ [] [] [deepV s]
  | false :: s => .mk 6 0 ⟨#[]⟩ [] [(⟨#[97]⟩, deepV s)] []
def deepC : List Bool → Nat
  | [] => 16
  | true :: _ => 4
  | false :: _ => 3
def deepN (b : Bool) : Nat := if b then 48 else 97
def deepB : List Bool → List Nat
  | [] => [7, 0, 0, 0]
  | b :: s => wrap (deepC s :: deepN b :: 0 :: deepB s)
theorem deep_code (s : List Bool) : code (deepV s).kind = deepC s := by
  match s with
  | [] => rfl
  | true :: _ => rfl
  | false :: _ => rfl
theorem deep_len : ∀ s : List Bool, (deepB s).length = 4 + 8 * s.length
  | [] => rfl
  | b :: s => by
    rw [deepB]; unfold wrap
    simp only [List.length_append, List.length_cons, Bson.leI_length, List.length_nil, deep_len s]; omega
theorem deep_row (e : Val → Option (List Nat)) (nm : ByteArray) (c : Nat) (s : List Bool) (hn : nameMay nm = true) (hb : Bson.bytes nm = [c]) :
    row e [(nm, deepV s)] = (e (deepV s)).map fun x => deepC s :: c :: 0 :: x := by
  cases he : e (deepV s) with
  | none => rw [row, hn, he]; rfl
  | some x =>
    rw [row, hn, he, deep_code]
    show some (deepC s :: (Bson.bytes nm ++ (0 :: (x ++ [])))) = _
    rw [hb, List.append_nil]; rfl
theorem deep_step (d : Nat) (b : Bool) (s : List Bool) : enc (d + 1) (deepV (b :: s)) = (enc d (deepV s)).map fun x => wrap (deepC s :: deepN b :: 0 :: x) := by
  cases b with
  | false =>
    rw [Bson.enc_doc d _ rfl, if_pos (by rfl)]
    show (row (enc d) [(⟨#[97]⟩, deepV s)]).map wrap = _
    rw [deep_row (enc d) ⟨#[97]⟩ 97 s (by decide +kernel) (by decide +kernel)]
    cases enc d (deepV s) <;> rfl
  | true =>
    rw [Bson.enc_list d _ rfl, if_pos (by rfl)]
    show (row (enc d) (named [deepV s])).map wrap = _
    have e : named [deepV s] = [(⟨#[48]⟩, deepV s)] := by
      show [(digits 0, deepV s)] = _
      have e0 : digits 0 = ⟨#[48]⟩ := by unfold digits; rw [Lib.decDigits]; rfl
      rw [e0]
    rw [e, deep_row (enc d) ⟨#[48]⟩ 48 s (by decide +kernel) (by decide +kernel)]
    cases enc d (deepV s) <;> rfl
theorem deep_enc : ∀ (d : Nat) (s : List Bool), s.length ≤ d → enc d (deepV s) = some (deepB s)
  | d, [], _ => by rw [Bson.enc_other _ _ (by decide) (by decide)]; rfl
  | 0, b :: s, h => by simp at h
  | d + 1, b :: s, h => by
    rw [deep_step, deep_enc d s (by simpa using h)]; rfl
theorem deep_none : ∀ (d : Nat) (s : List Bool), d < s.length → enc d (deepV s) = none
  | d, [], h => by simp at h
  | 0, true :: s, _ => rfl
  | 0, false :: s, _ => rfl
  | d + 1, b :: s, h => by
    rw [deep_step, deep_none d s (by simpa using h)]; rfl
theorem deep_name (b : Bool) (r : List Nat) : Bson.name (deepN b :: 0 :: r) = .ok (if b then ⟨#[48]⟩ else ⟨#[97]⟩) r := by
  cases b with
  | false =>
    exact Bson.name_app (s := ⟨#[97]⟩) (by decide +kernel) r
  | true =>
    exact Bson.name_app (s := ⟨#[48]⟩) (by decide +kernel) r
theorem deepC_ok (b : Bool) (s : List Bool) : ¬ deepC (b :: s) = 0 ∧ known (deepC (b :: s)) = true := by
  cases b with
  | false => exact ⟨(by decide : ¬ (3 : Nat) = 0), rfl⟩
  | true => exact ⟨(by decide : ¬ (4 : Nat) = 0), rfl⟩
theorem deep_err : ∀ (d : Nat) (b : Bool) (s : List Bool) (outer : Option Nat) (r : List Nat), d < (b :: s).length → s.length < 1000 → (∀ n, outer = some n → (deepB (b :: s)).length = n) → doc d b outer (deepB (b :: s) ++ r) = .err 7
  | 0, b, s, outer, r, _, _, _ => rfl
  | d + 1, b, [], outer, r, h, _, _ => by simp at h
  | d + 1, b, b2 :: s, outer, r, h, hs, ho => by
    have hlen := deep_len (b :: b2 :: s)
    have ih := deep_err d b2 s none (0 :: r) (by simpa using h) (by simp at hs; omega) nofun
    rw [deepB] at hlen ho ⊢
    have hl2 : (deepC (b2 :: s) :: deepN b :: 0 :: deepB (b2 :: s)).length = 3 + (deepB (b2 :: s)).length := by simp; omega
    have hl3 := deep_len (b2 :: s)
    generalize hy : deepC (b2 :: s) :: deepN b :: 0 :: deepB (b2 :: s) = y at *
    have hsg : signed (leI ((y.length : Int) + 5) 4) = (y.length : Int) + 5 := Bson.signed_leI4 _ (by omega) (by simp at hs hl3; omega)
    rw [doc, Bson.wrap_take]
    simp only [Bson.Res.bind, hsg]
    have hwl : (wrap y).length = y.length + 5 := by unfold wrap; simp [Bson.leI_length]; omega
    have h1 : ¬ ((y.length : Int) + 5 < 5 ∨ ∃ n, outer = some n ∧ (y.length : Int) + 5 ≠ n) := by
      rintro (h | ⟨n, h1, h2⟩)
      · omega
      · have := ho n h1; rw [hwl] at this; omega
    rw [if_neg h1, ← hy]
    have hlp : ∀ g, loop (Bson.valOf (doc d false none) (doc d true none)) b (g + 1) [] (deepC (b2 :: s) :: deepN b :: 0 :: deepB (b2 :: s) ++ 0 :: r) = .err 7 := by
      intro g
      show loop _ b (g + 1) [] (deepC (b2 :: s) :: (deepN b :: 0 :: (deepB (b2 :: s) ++ 0 :: r))) = _
      rw [loop, if_neg (deepC_ok b2 s).1, if_neg (by rw [(deepC_ok b2 s).2]; simp), deep_name]
      simp only [Bson.Res.bind]
      rw [if_neg (by cases b with
        | false => simp
        | true =>
          have e0 : digits 0 = ⟨#[48]⟩ := by unfold digits; rw [Lib.decDigits]; rfl
          simp [e0]), if_neg (by simp)]
      have hv : Bson.valOf (doc d false none) (doc d true none) (deepC (b2 :: s)) (deepB (b2 :: s) ++ 0 :: r) = .err 7 := by
        cases b2 with
        | false => exact ih
        | true => exact ih
      rw [hv]
    rw [hlp]
theorem deep_decode_err (s : List Bool) (h : 32 ≤ s.length) (h2 : s.length < 1000) : Bson.decode (deepB (false :: s)) = (7, Bson.zero) := by
  unfold Bson.decode
  have hl := deep_len (false :: s)
  rw [if_neg (by simp at hl; omega)]
  have := deep_err 32 false s (some (deepB (false :: s)).length) [] (by simp; omega) h2 (fun n h => Option.some.inj h)
  rw [List.append_nil] at this
  rw [this]
theorem deep_decode (s : List Bool) (h : s.length ≤ 31) : Bson.decode (deepB (false :: s)) = (0, deepV (false :: s)) := by
  have hl := deep_len (false :: s)
  exact Bson.enc_decode (deep_enc 32 (false :: s) (by simp; omega)) rfl (by simp at hl; omega)
end Go.Proofs.YtpiookgkkaafeaaDoor
end
section
namespace Go.Proofs.YtpiookgkkaafeaaDoor
open Go.RowKit
open Seal
open Bson (Val)
/-- What fits into a number of 64 bits, and how long what came in can be. -/
structure Lim (x : Val) : Prop where
  k0 : -9223372036854775808 ≤ x.kind
  k1 : x.kind ≤ 9223372036854775807
  n0 : -9223372036854775808 ≤ x.n
  n1 : x.n ≤ 9223372036854775807
  s : x.s.size ≤ 140737488355328
  b : x.b.length ≤ 140737488355328
  f : x.f.length ≤ 1172812402961
  l : x.l.length ≤ 1353245080339
  o : Oct x.b
/-- Six cells from an address on, as a value. -/
def SixAt (w : World) (g p : Nat) (v : Value) : Prop := ∃ c0 c1 c2 c3 c4 c5, v = .agg #[c0, c1, c2, c3, c4, c5] ∧ w.cell? ⟨g, p, none⟩ = some c0 ∧ w.cell? ⟨g, p + 1, none⟩ = some c1 ∧ w.cell? ⟨g, p + 2, none⟩ = some c2 ∧ w.cell? ⟨g, p + 3, none⟩ = some c3 ∧ w.cell? ⟨g, p + 4, none⟩ = some c4 ∧ w.cell? ⟨g, p + 5, none⟩ = some c5
def BytesIn (w : World) (Q : Nat → Prop) (a : Option Addr) (l : List Nat) : Prop := l = [] ∨ ∃ g o, a = some ⟨g, o, none⟩ ∧ Q g ∧ Reads w g o l
def FieldsIn (w : World) (Q : Nat → Prop) (V : Val → Value → Prop) (a : Option Addr) (f : List (ByteArray × Val)) : Prop :=
  f = [] ∨ ∃ g o, a = some ⟨g, o, none⟩ ∧ Q g ∧ ∀ i (hi : i < f.length), w.cell? ⟨g, o + i * 7, none⟩ = some (.string f[i].1) ∧ f[i].1.size ≤ 140737488355328 ∧ ∃ v, SixAt w g (o + i * 7 + 1) v ∧ V f[i].2 v
def ItemsIn (w : World) (Q : Nat → Prop) (V : Val → Value → Prop) (a : Option Addr) (l : List Val) : Prop :=
  l = [] ∨ ∃ g o, a = some ⟨g, o, none⟩ ∧ Q g ∧ ∀ i (hi : i < l.length), ∃ v, SixAt w g (o + i * 6) v ∧ V l[i] v
/-- A value's six parts. -/
def agg (x : Val) (ba fa la : Option Addr) (bc fc lc : Nat) : Value :=
  .agg #[.int .i64 x.kind, .int .i64 x.n, .string x.s, .slice ba x.b.length bc, .slice fa x.f.length fc, .slice la x.l.length lc]
/-- The value v reads as x in w, is at most so high, and lies in blocks that Q names. -/
def VIn (w : World) (Q : Nat → Prop) : Nat → Val → Value → Prop
  | 0, _, _ => False
  | h + 1, x, v => ∃ ba fa la bc fc lc, v = agg x ba fa la bc fc lc ∧ Lim x ∧ (x.b.length ≤ bc ∧ bc ≤ 9223372036854775807) ∧ (x.f.length ≤ fc ∧ fc ≤ 9223372036854775807) ∧ (x.l.length ≤ lc ∧ lc ≤ 9223372036854775807) ∧
      BytesIn w Q ba x.b ∧ FieldsIn w Q (VIn w Q h) fa x.f ∧ ItemsIn w Q (VIn w Q h) la x.l
/-- The blocks that Q names read in w' as they did in w. -/
def Kept (Q : Nat → Prop) (w w' : World) : Prop := ∀ g, Q g → g < w.heap.size → w'.heap[g]? = w.heap[g]?
theorem Kept.of_below {Q : Nat → Prop} {w w' : World} (hb : Below w.heap.size w w') : Kept Q w w' := fun g _ hg => hb.block g hg
theorem Kept.cell {Q : Nat → Prop} {w w' : World} (h : Kept Q w w') {g o : Nat} {v : Value} (hq : Q g) (hc : w.cell? ⟨g, o, none⟩ = some v) : w'.cell? ⟨g, o, none⟩ = some v :=
  (World.cell?_of_block (a := ⟨g, o, none⟩) (h g hq (World.block_lt_of_cell? w _ hc))).trans hc
theorem SixAt.kept {Q : Nat → Prop} {w w' : World} {g p : Nat} {v : Value} (h : SixAt w g p v) (hb : Kept Q w w') (hq : Q g) : SixAt w' g p v := by
  obtain ⟨c0, c1, c2, c3, c4, c5, e, h0, h1, h2, h3, h4, h5⟩ := h
  exact ⟨c0, c1, c2, c3, c4, c5, e, hb.cell hq h0, hb.cell hq h1, hb.cell hq h2, hb.cell hq h3, hb.cell hq h4, hb.cell hq h5⟩
theorem SixAt.keep {w w' : World} {g p : Nat} {v : Value} (h : SixAt w g p v) (hb : Below w.heap.size w w') : SixAt w' g p v :=
  h.kept (Q := fun _ => True) (Kept.of_below hb) trivial
theorem BytesIn.kept {Q Q' : Nat → Prop} {w w' : World} {a : Option Addr} {l : List Nat} (h : BytesIn w Q a l) (hb : Kept Q w w') (hQ : ∀ g, Q g → Q' g) : BytesIn w' Q' a l := by
  rcases h with h | ⟨g, o, e, hq, h⟩
  · exact .inl h
  · exact .inr ⟨g, o, e, hQ g hq, fun j hj => hb.cell hq (h j hj)⟩
theorem FieldsIn.kept {Q Q' : Nat → Prop} {w w' : World} {V V' : Val → Value → Prop} {a : Option Addr} {f : List (ByteArray × Val)} (h : FieldsIn w Q V a f) (hb : Kept Q w w') (hQ : ∀ g, Q g → Q' g) (hV : ∀ x v, V x v → V' x v) : FieldsIn w' Q' V' a f := by
  rcases h with h | ⟨g, o, e, hq, h⟩
  · exact .inl h
  · refine .inr ⟨g, o, e, hQ g hq, fun i hi => ?_⟩
    obtain ⟨h1, h2, v, h3, h4⟩ := h i hi
    exact ⟨hb.cell hq h1, h2, v, h3.kept hb hq, hV _ _ h4⟩
theorem ItemsIn.kept {Q Q' : Nat → Prop} {w w' : World} {V V' : Val → Value → Prop} {a : Option Addr} {l : List Val} (h : ItemsIn w Q V a l) (hb : Kept Q w w') (hQ : ∀ g, Q g → Q' g) (hV : ∀ x v, V x v → V' x v) : ItemsIn w' Q' V' a l := by
  rcases h with h | ⟨g, o, e, hq, h⟩
  · exact .inl h
  · refine .inr ⟨g, o, e, hQ g hq, fun i hi => ?_⟩
    obtain ⟨v, h3, h4⟩ := h i hi
    exact ⟨v, h3.kept hb hq, hV _ _ h4⟩
theorem VIn.kept {w w' : World} {Q Q' : Nat → Prop} (hb : Kept Q w w') (hQ : ∀ g, Q g → Q' g) : ∀ {h : Nat} {x : Val} {v : Value}, VIn w Q h x v → VIn w' Q' h x v
  | 0, _, _, h => h.elim
  | _ + 1, _, _, ⟨ba, fa, la, bc, fc, lc, e, h1, h2, h3, h4, h5, h6, h7⟩ =>
    ⟨ba, fa, la, bc, fc, lc, e, h1, h2, h3, h4, h5.kept hb hQ, h6.kept hb hQ (fun _ _ h => VIn.kept hb hQ h), h7.kept hb hQ (fun _ _ h => VIn.kept hb hQ h)⟩
theorem VIn.keep {w w' : World} {Q : Nat → Prop} (hb : Below w.heap.size w w') {h : Nat} {x : Val} {v : Value} (hv : VIn w Q h x v) : VIn w' Q h x v := VIn.kept (Kept.of_below hb) (fun _ h => h) hv
theorem VIn.up {w : World} {Q : Nat → Prop} : ∀ {h : Nat} {x : Val} {v : Value}, VIn w Q h x v → ∀ {h' : Nat}, h ≤ h' → VIn w Q h' x v
  | 0, _, _, h, _, _ => h.elim
  | h + 1, x, v, ⟨ba, fa, la, bc, fc, lc, e, h1, h2, h3, h4, h5, h6, h7⟩, h', hle => by
    obtain ⟨h', rfl⟩ : ∃ k, h' = k + 1 := ⟨h' - 1, by omega⟩
    have k : ∀ x v, VIn w Q h x v → VIn w Q h' x v := fun x v hv => VIn.up hv (by omega)
    exact ⟨ba, fa, la, bc, fc, lc, e, h1, h2, h3, h4, h5, h6.kept (Kept.of_below (Below.refl _ _)) (fun _ h => h) k, h7.kept (Kept.of_below (Below.refl _ _)) (fun _ h => h) k⟩
theorem BytesIn.slice {w : World} {Q : Nat → Prop} {a : Option Addr} {l : List Nat} (h : BytesIn w Q a l) : SliceIs w a l := by
  rcases h with h | ⟨g, o, e, _, h⟩
  · exact .inl h
  · exact .inr ⟨g, o, e, h⟩
end Go.Proofs.YtpiookgkkaafeaaDoor
end
section
namespace Bson
open Go
/-- The value of the first field of that name, Missing where there is none. -/
def fieldIn : List (ByteArray × Val) → ByteArray → Val
  | [], _ => zero
  | (s, v) :: r, a => if s = a then v else fieldIn r a
def nil_ : Val := zero
/-- A List of these items. -/
def listOf (l : List Val) : Val := .mk 7 0 none_ [] [] l
/-- What an expression's path leads to (n: fuel, as much as names and height together). -/
def reach : Nat → Val → List ByteArray → Val
  | _, x, [] => x
  | 0, _, _ :: _ => zero
  | n + 1, x, a :: r => if x.kind = 6 then reach n (fieldIn x.f a) r else if x.kind = 7 then listOf ((x.l.map fun y => reach n y (a :: r)).filter fun y => decide (y.kind ≠ 0)) else zero
/-- What a query's path leads to. -/
def itself (x : Val) : List Val := x :: (if x.kind = 7 then x.l else [])
def all : Nat → Val → List ByteArray → List Val
  | _, x, [] => itself x
  | 0, _, _ :: _ => [zero]
  | n + 1, x, a :: r =>
    if x.kind = 6 then (if (fieldIn x.f a).kind = 0 then [zero] else all n (fieldIn x.f a) r)
    else if x.kind = 7 then (if (x.l.filter fun y => decide (y.kind = 6)).isEmpty then [zero] else (x.l.filter fun y => decide (y.kind = 6)).flatMap fun y => all n y (a :: r))
    else [zero]
theorem reach_nil (n : Nat) (x : Val) : reach n x [] = x := by cases n <;> rfl
theorem all_nil (n : Nat) (x : Val) : all n x [] = itself x := by cases n <;> rfl
theorem reach_doc (n : Nat) (x : Val) (a : ByteArray) (r : List ByteArray) (h : x.kind = 6) : reach (n + 1) x (a :: r) = reach n (fieldIn x.f a) r := by rw [reach, if_pos h]
theorem reach_list (n : Nat) (x : Val) (a : ByteArray) (r : List ByteArray) (h : x.kind = 7) : reach (n + 1) x (a :: r) = listOf ((x.l.map fun y => reach n y (a :: r)).filter fun y => decide (y.kind ≠ 0)) := by rw [reach, if_neg (by omega), if_pos h]
theorem reach_other (n : Nat) (x : Val) (a : ByteArray) (r : List ByteArray) (h6 : x.kind ≠ 6) (h7 : x.kind ≠ 7) : reach n x (a :: r) = zero := by
  cases n with
  | zero => rfl
  | succ n => rw [reach, if_neg h6, if_neg h7]
theorem all_ne (n : Nat) (x : Val) (p : List ByteArray) : all n x p ≠ [] := by
  induction n generalizing x p with
  | zero => cases p <;> simp [all, itself]
  | succ n ih =>
    cases p with
    | nil => simp [all, itself]
    | cons a r =>
      rw [all]
      split
      · split
        · simp
        · exact ih _ _
      · split
        · split
          · simp
          · rename_i h
            intro e
            simp only [List.isEmpty_iff] at h
            cases hl : x.l.filter fun y => decide (y.kind = 6) with
            | nil => exact h hl
            | cons y t =>
              rw [hl, List.flatMap_cons, List.append_eq_nil_iff] at e
              exact ih _ _ e.1
        · simp
theorem all_missing (n : Nat) (x : Val) (a : ByteArray) (r : List ByteArray) (h : x.kind = 6) (h0 : (fieldIn x.f a).kind = 0) : all (n + 1) x (a :: r) = [zero] := by rw [all, if_pos h, if_pos h0]
theorem all_doc (n : Nat) (x : Val) (a : ByteArray) (r : List ByteArray) (h : x.kind = 6) (h0 : (fieldIn x.f a).kind ≠ 0) : all (n + 1) x (a :: r) = all n (fieldIn x.f a) r := by rw [all, if_pos h, if_neg h0]
theorem all_none (n : Nat) (x : Val) (a : ByteArray) (r : List ByteArray) (h : x.kind = 7) (h0 : (x.l.filter fun y => decide (y.kind = 6)) = []) : all (n + 1) x (a :: r) = [zero] := by
  rw [all, if_neg (by omega), if_pos h, if_pos (by rw [h0]; rfl)]
theorem all_list (n : Nat) (x : Val) (a : ByteArray) (r : List ByteArray) (h : x.kind = 7) (h0 : (x.l.filter fun y => decide (y.kind = 6)) ≠ []) : all (n + 1) x (a :: r) = (x.l.filter fun y => decide (y.kind = 6)).flatMap fun y => all n y (a :: r) := by
  rw [all, if_neg (by omega), if_pos h, if_neg (by simp only [List.isEmpty_iff]; exact h0)]
theorem all_other (n : Nat) (x : Val) (a : ByteArray) (r : List ByteArray) (h6 : x.kind ≠ 6) (h7 : x.kind ≠ 7) : all n x (a :: r) = [zero] := by
  cases n with
  | zero => rfl
  | succ n => rw [all, if_neg h6, if_neg h7]
end Bson
end
section
namespace Bson
open Go
/-- The byte of a number at a place. -/
def byteAt (x : Int) (i : Nat) : Nat := (x / (2 ^ (8 * i) : Nat) % 256).toNat
def putB (x : Int) (n : Nat) : List Nat := (List.range n).map (byteAt x)
theorem putB_succ (x : Int) (n : Nat) : putB x (n + 1) = putB x n ++ [byteAt x n] := by
  unfold putB
  rw [List.range_succ, List.map_append]; rfl
theorem putB_length (x : Int) (n : Nat) : (putB x n).length = n := by simp [putB]
theorem le_range (X n : Nat) : le X n = (List.range n).map fun i => X / 256 ^ i % 256 := by
  induction n generalizing X with
  | zero => rfl
  | succ n ih =>
    rw [le, ih, List.range_succ_eq_map, List.map_cons, List.map_map]
    congr 1
    · simp
    · refine List.map_congr_left fun i _ => ?_
      show X / 256 / 256 ^ i % 256 = X / 256 ^ (i + 1) % 256
      rw [Nat.div_div_eq_div_mul, Nat.pow_succ, Nat.mul_comm]
theorem byteAt_lt (x : Int) (i : Nat) : byteAt x i < 256 := by
  unfold byteAt
  have h1 := Int.emod_nonneg (x / (2 ^ (8 * i) : Nat)) (show (256 : Int) ≠ 0 by decide)
  have h2 := Int.emod_lt_of_pos (x / (2 ^ (8 * i) : Nat)) (show (0 : Int) < 256 by decide)
  omega
theorem emod_mul_div (x a b : Int) (ha : 0 < a) (hb : 0 < b) : x % (a * b) / a = x / a % b := by
  have h1 := Int.emod_add_mul_ediv x (a * b)
  have h2 : x / a = x % (a * b) / a + b * (x / (a * b)) := by
    conv => lhs; rw [← h1]
    rw [Int.mul_assoc, Int.add_mul_ediv_left _ _ (by omega)]
  have hab : 0 < a * b := Int.mul_pos ha hb
  have h3 : 0 ≤ x % (a * b) / a := Int.ediv_nonneg (Int.emod_nonneg _ (by omega)) (by omega)
  have h4 : x % (a * b) / a < b := Int.ediv_lt_of_lt_mul ha (by rw [Int.mul_comm b a]; exact Int.emod_lt_of_pos _ hab)
  rw [h2, Int.add_mul_emod_self_left, Int.emod_eq_of_lt h3 h4]
theorem putB_leI (x : Int) (n : Nat) : putB x n = leI x n := by
  unfold leI putB
  rw [le_range]
  refine List.map_congr_left fun i hi => ?_
  have hin : i < n := List.mem_range.1 hi
  unfold byteAt
  have e8 : (2 ^ (8 * i) : Nat) = 256 ^ i := by rw [Nat.pow_mul]
  rw [e8]
  obtain ⟨m, rfl⟩ : ∃ m, n = i + (m + 1) := ⟨n - i - 1, by omega⟩
  have hp : (0 : Int) < ((256 ^ i : Nat) : Int) := by have : 0 < 256 ^ i := Nat.pow_pos (by decide); omega
  have hm : (0 : Int) < ((256 ^ m : Nat) : Int) * 256 := by have : 0 < 256 ^ m := Nat.pow_pos (by decide); omega
  have e2 : ((256 ^ (i + (m + 1)) : Nat) : Int) = ((256 ^ i : Nat) : Int) * (((256 ^ m : Nat) : Int) * 256) := by
    rw [Nat.pow_add, Nat.pow_succ, Int.natCast_mul, Int.natCast_mul]; rfl
  have hd := emod_mul_div x _ _ hp hm
  rw [← e2] at hd
  have hd2 : x / ((256 ^ i : Nat) : Int) % 256 = x % ((256 ^ (i + (m + 1)) : Nat) : Int) / ((256 ^ i : Nat) : Int) % 256 := by
    rw [hd, Int.emod_emod_of_dvd _ (Int.dvd_mul_left _ _)]
  rw [hd2]
  have hr := Int.emod_nonneg x (show ((256 ^ (i + (m + 1)) : Nat) : Int) ≠ 0 by rw [e2]; exact Int.ne_of_gt (Int.mul_pos hp hm))
  generalize x % ((256 ^ (i + (m + 1)) : Nat) : Int) = r at hr
  obtain ⟨r, rfl⟩ := Int.eq_ofNat_of_zero_le hr
  rw [Int.toNat_natCast, ← Int.natCast_ediv]
  generalize r / 256 ^ i = t
  omega
theorem putB_oct (x : Int) (n : Nat) : ∀ c ∈ putB x n, c < 256 := by
  intro c hc
  obtain ⟨i, _, rfl⟩ := List.mem_map.1 hc
  exact byteAt_lt x i
end Bson
namespace Go.Proofs.YtpiookgkkaafeaaDoor
open Go.RowKit
open Seal
/-- A row of one's own, with those bytes, in blocks from base on. -/
structure Own8 (w : World) (base : Nat) (v : Value) (bs : List Nat) : Prop where
  own : w.ownsRow base 5 1 v bs.length (u8s bs)
  sz : base ≤ w.heap.size
theorem Own8.shape {w : World} {base : Nat} {v : Value} {bs : List Nat} (h : Own8 w base v bs) : ∃ a c, v = .slice a bs.length c ∧ bs.length ≤ c ∧ c ≤ maxLen := by
  rcases h.own.2 with ⟨rfl, e⟩ | ⟨g, cap, cur, rfl, _, _, h1, h2, _⟩
  · exact ⟨none, 0, by rw [e], by omega, by unfold maxLen; omega⟩
  · exact ⟨_, cap, rfl, h1, h2⟩
theorem Own8.below {w w' : World} {base : Nat} {v : Value} {bs : List Nat} (h : Own8 w base v bs) (hb : Below w.heap.size w w') : Own8 w' base v bs :=
  ⟨owns_below h.own hb, Nat.le_trans h.sz hb.size⟩
/-- What writes a row of one's own leaves all below its base. -/
theorem below_own {w w' : World} {base : Nat} {v : Value} {n : Nat} {xs : List Value} (ho : w.ownsRow base 5 1 v n xs) (hb : base ≤ w.heap.size) (hg : w.grownBy w' v.ownBlock) : Below base w w' :=
  ⟨hg.os, hg.tape, hg.output, hg.size, fun g hgb => hg.block g (by omega) (fun e => by have := (ho.lt g e.symm).1; omega)⟩
/-- What is put writes rows of bytes, from base on, and new blocks. -/
structure PutRel (base : Nat) (w w' : World) : Prop where
  below : Below base w w'
  keep : ∀ (g : Nat) (cs : Array Value) (t : TypeId) (fr : Nat × Nat), t ≠ 5 → w.heap[g]? = some (Obj.cells cs t fr) → w'.heap[g]? = some (Obj.cells cs t fr)
theorem PutRel.refl (base : Nat) (w : World) : PutRel base w w := ⟨Below.refl _ _, fun _ _ _ _ _ h => h⟩
theorem PutRel.trans {base : Nat} {w w1 w' : World} (h : PutRel base w w1) (h2 : PutRel base w1 w') : PutRel base w w' := ⟨h.below.trans h2.below, fun g cs t fr hn hb => h2.keep g cs t fr hn (h.keep g cs t fr hn hb)⟩
theorem PutRel.new {base : Nat} {w w' : World} (hb : Below w.heap.size w w') (hs : base ≤ w.heap.size) : PutRel base w w' :=
  ⟨hb.mono hs, fun g _ _ _ _ h => (hb.block g (Array.getElem?_eq_some_iff.1 h).1).trans h⟩
theorem PutRel.own {w w' : World} {base : Nat} {v : Value} {n : Nat} {xs : List Value} (ho : w.ownsRow base 5 1 v n xs) (hb : base ≤ w.heap.size) (hg : w.grownBy w' v.ownBlock) : PutRel base w w' := by
  refine ⟨below_own ho hb hg, fun g cs t fr hn h => (hg.block g (Array.getElem?_eq_some_iff.1 h).1 (fun e => ?_)).trans h⟩
  rcases ho.2 with ⟨rfl, _⟩ | ⟨g2, cap, cur, rfl, _, h2, _⟩
  · cases e
  · obtain rfl : g = g2 := Option.some.inj e
    rw [h2] at h
    injection h with h
    injection h with _ h3 _
    exact hn h3.symm
theorem u8s_snoc (a b : List Nat) : u8s a ++ u8s b = u8s (a ++ b) := by unfold u8s; exact List.map_append.symm
theorem strCells_u8s (s : ByteArray) : Lib.strCells s = u8s (Bson.bytes s) := by
  unfold Lib.strCells u8s Bson.bytes
  rw [List.map_map]; rfl
theorem u8s_cell (l : List Nat) : ∀ u ∈ u8s l, u.oneCell' = true := fun u hu => by
  obtain ⟨c, _, rfl⟩ := List.mem_map.1 hu
  rfl
end Go.Proofs.YtpiookgkkaafeaaDoor
end
section
namespace Go.Proofs.YtpiookgkkaafeaaDoor
open Go.RowKit
open Seal
open Bson (Val)
theorem ret_eq {a b : Value} (h : a = b) : Ending.returned a = .returned b := by rw [h]
/-- Some answer, and nothing old has turned. -/
def SomeBool (w : World) (e : Ending) (w' : World) : Prop := ∃ b, e = .returned (.bool b) ∧ Below w.heap.size w w'
theorem cell_keep {w w' : World} {p : Addr} {v : Value} (hb : Below w.heap.size w w') (h : w.cell? p = some v) : w'.cell? p = some v := (hb.cell (World.block_lt_of_cell? w _ h)).trans h
/-- A box was laid behind w, and since then nothing has turned of it or of what is older. -/
def Boxed (w : World) (cs : Array Value) (t : TypeId) (wr : World) : Prop := Below (w.heap.size + 1) (w.alloc (.cells cs t)) wr
section
variable {w wr w' : World} {cs : Array Value} {t : TypeId}
theorem Boxed.refl (w : World) (cs : Array Value) (t : TypeId) : Boxed w cs t (w.alloc (.cells cs t)) := Below.refl _ _
theorem Boxed.cell (h : Boxed w cs t wr) (j : Nat) : wr.cell? ⟨w.heap.size, j, none⟩ = cs[j]? :=
  (Below.cell h (p := ⟨w.heap.size, j, none⟩) (Nat.lt_succ_self _)).trans (cell_of_row _ _ j cs t (0, 0) (heap_alloc_new w _))
theorem Boxed.size (h : Boxed w cs t wr) : w.heap.size + 1 ≤ wr.heap.size := by have := Below.size h; simpa using this
theorem Boxed.below (h : Boxed w cs t wr) : Below w.heap.size w wr := ((Below.refl _ w).alloc (Nat.le_refl _) _).trans (Below.mono h (by simp))
theorem Boxed.step (h : Boxed w cs t wr) (hb : Below wr.heap.size wr w') : Boxed w cs t w' := Below.trans h (hb.mono h.size)
end
set_option maxRecDepth 100000 in
set_option maxHeartbeats 1000000 in
theorem shallow_any (Q : Nat → Prop) : ∀ (h : Nat) (x : Val) (v : Value) (m : Int) (w : World), VIn w Q h x v → 0 ≤ m → m ≤ 60 → Calls Tryd.prog 28 #[v, .int .i64 m] w (SomeBool w)
  | 0, _, _, _, _, hv, _, _ => hv.elim
  | h + 1, x, v, m, w, hv, h0, h1 => by
    obtain ⟨ba, fa, la, bc, fc, lc, rfl, hL, hb, hf, hl, hB, hF, hI⟩ := hv
    unfold agg
    have IH := Lib.hid (fun x v m w => shallow_any Q h x v m w)
    have HF := Lib.hid hF; have HI := Lib.hid hI
    obtain ⟨fn, hfn⟩ : ∃ fn, fn = x.f.length := ⟨_, rfl⟩
    obtain ⟨ln, hln⟩ : ∃ ln, ln = x.l.length := ⟨_, rfl⟩
    have hfl := hL.f; have hll := hL.l
    rw [← hfn] at hfl ⊢; rw [← hln] at hll ⊢
    have HFN := Lib.hid hfn; have HLN := Lib.hid hln
    clear hF hI hB hb hL hf hl hfn hln
    obtain ⟨cs, hcs⟩ : ∃ cs, cs = #[Value.int .i64 x.kind, .int .i64 x.n, .string x.s, .slice ba x.b.length bc, .slice fa fn fc, .slice la ln lc] := ⟨_, rfl⟩
    have HC := Lib.hid hcs; clear hcs
    go_enter Tryd.func28, Tryd.ntmps28
    go_wp2
    go_loopw [5] (fun i wr => ∃ k : Nat, i = .int .i64 k ∧ k ≤ fn ∧ Hid (Boxed w cs 27 wr)) (fun i _ => fn - (intOf i).toNat)
    case atStart => exact ⟨0, rfl, Nat.zero_le _, by rw [HC.out]; exact Boxed.refl _ _ _⟩
    case round =>
      obtain ⟨k, rfl, hk, hbx⟩ := hrel
      have c4 : wr.cell? ⟨w.heap.size, 4, none⟩ = some (.slice fa fn fc) := by rw [hbx.out.cell, HC.out]; rfl
      have c5 : wr.cell? ⟨w.heap.size, 5, none⟩ = some (.slice la ln lc) := by rw [hbx.out.cell, HC.out]; rfl
      by_cases hlt : k < fn
      · by_cases hm : m = 0
        · subst hm
          go_wp2
          go_ret
          exact ⟨_, rfl, hbx.out.below⟩
        · have hm' : (m == 0) = false := by simpa using hm
          obtain ⟨g, o, hfa, _, hall⟩ := HF.out.resolve_left (fun e => by have := HFN.out; rw [e] at this; simp at this; omega)
          obtain ⟨hnm, _, v', hsix, hV⟩ := hall k (by have := HFN.out; omega)
          subst hfa
          have hV := Lib.hid (VIn.keep hbx.out.below hV)
          obtain ⟨d0, d1, d2, d3, d4, d5, rfl, s0, s1, s2, s3, s4, s5⟩ := hsix.keep hbx.out.below
          clear hnm hall
          go_wp2_with fail
          refine (IH.out _ _ (m - 1) _ hV.out (by omega) (by omega)).mono ?_
          rintro e w' ⟨b, rfl, hB'⟩
          have HB := Lib.hid (hbx.out.step (cs := cs) hB')
          clear hB'
          cases b with
          | false =>
            go_wp2_with fail
            go_ret
            exact ⟨_, rfl, HB.out.below⟩
          | true =>
            go_wp2_with fail
            go_roundw
            case rel => exact ⟨k + 1, by go_num, by omega, HB⟩
            case measure => simp [intOf]; omega
      · obtain rfl : fn = k := by omega
        clear hk
        go_wp2_with fail
        go_loopw [6] (fun i wr => ∃ k : Nat, i = .int .i64 k ∧ k ≤ ln ∧ Hid (Boxed w cs 27 wr)) (fun i _ => ln - (intOf i).toNat)
        case atStart => exact ⟨0, rfl, Nat.zero_le _, hbx⟩
        case round =>
          obtain ⟨j, rfl, hj, hbx⟩ := hrel
          have c5 : wr.cell? ⟨w.heap.size, 5, none⟩ = some (.slice la ln lc) := by rw [hbx.out.cell, HC.out]; rfl
          by_cases hlt : j < ln
          · by_cases hm : m = 0
            · subst hm
              go_wp2
              go_ret
              exact ⟨_, rfl, hbx.out.below⟩
            · have hm' : (m == 0) = false := by simpa using hm
              obtain ⟨g, o, hla, _, hall⟩ := HI.out.resolve_left (fun e => by have := HLN.out; rw [e] at this; simp at this; omega)
              obtain ⟨v', hsix, hV⟩ := hall j (by have := HLN.out; omega)
              subst hla
              have hV := Lib.hid (VIn.keep hbx.out.below hV)
              obtain ⟨d0, d1, d2, d3, d4, d5, rfl, s0, s1, s2, s3, s4, s5⟩ := hsix.keep hbx.out.below
              clear hall
              go_wp2_with fail
              refine (IH.out _ _ (m - 1) _ hV.out (by omega) (by omega)).mono ?_
              rintro e w' ⟨b, rfl, hB'⟩
              have HB := Lib.hid (hbx.out.step (cs := cs) hB')
              clear hB'
              cases b with
              | false =>
                go_wp2_with fail
                go_ret
                exact ⟨_, rfl, HB.out.below⟩
              | true =>
                go_wp2_with fail
                go_roundw
                case rel => exact ⟨j + 1, by go_num, by omega, HB⟩
                case measure => simp [intOf]; omega
          · have hjj : j = ln := by omega
            clear hj
            go_wp2_with fail
            go_ret
            exact ⟨_, rfl, hbx.out.below⟩
end Go.Proofs.YtpiookgkkaafeaaDoor
end
