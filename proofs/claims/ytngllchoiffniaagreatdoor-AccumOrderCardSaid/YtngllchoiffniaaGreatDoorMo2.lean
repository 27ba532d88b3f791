/- BsonMem, CmpLeaf, OrderMath, PathMath, RegFactsOn, BsonShallow, KeyMath, ValLets, BsonFind, BsonIndex, KeyLegal, OpenVal. -/
import Derived.Lib.BytesEntry
import Derived.Lib.Bytealg
import Derived.Laws.Externs
import Derived.BigQuiet
import Derived.Deep.QuietTactic
import Derived.Deep.RegionHeld3
import Derived.WalkLawsBesides
import Derived.ChangeSlices
import Derived.Test.YtngllchoiffniaaGreatDoorMo1
import Derived.Test.YtngllchoiffniaaGreatDoorMo0
set_option maxRecDepth 100000
set_option maxHeartbeats 20000000
section
namespace Go.Proofs.YtngllchoiffniaaGreatDoor
open Go.RowKit
open Seal
open Bson (Val)
structure Lim (x : Val) : Prop where
 k0 : -9223372036854775808 ≤ x.kind
 k1 : x.kind ≤ 9223372036854775807
 n0 : -9223372036854775808 ≤ x.n
 n1 : x.n ≤ 9223372036854775807
 s : x.s.size ≤ 140737488355328
 b : x.b.length ≤ 140737488355328
 f : x.f.length ≤ 1172812402961
 l : x.l.length ≤ 1353245080339
 o : Oct x.b
def SixAt (w : World) (g p : Nat) (v : Value) : Prop := ∃ c0 c1 c2 c3 c4 c5, v = .agg #[c0, c1, c2, c3, c4, c5] ∧ w.cell? ⟨g, p, none⟩ = some c0 ∧ w.cell? ⟨g, p + 1, none⟩ = some c1 ∧ w.cell? ⟨g, p + 2, none⟩ = some c2 ∧ w.cell? ⟨g, p + 3, none⟩ = some c3 ∧ w.cell? ⟨g, p + 4, none⟩ = some c4 ∧ w.cell? ⟨g, p + 5, none⟩ = some c5
def BytesIn (w : World) (Q : Nat → Prop) (a : Option Addr) (l : List Nat) : Prop := l = [] ∨ ∃ g o, a = some ⟨g, o, none⟩ ∧ Q g ∧ Reads w g o l
def FieldsIn (w : World) (Q : Nat → Prop) (V : Val → Value → Prop) (a : Option Addr) (f : List (ByteArray × Val)) : Prop :=
 f = [] ∨ ∃ g o, a = some ⟨g, o, none⟩ ∧ Q g ∧ ∀ i (hi : i < f.length), w.cell? ⟨g, o + i * 7, none⟩ = some (.string f[i].1) ∧ f[i].1.size ≤ 140737488355328 ∧ ∃ v, SixAt w g (o + i * 7 + 1) v ∧ V f[i].2 v
def ItemsIn (w : World) (Q : Nat → Prop) (V : Val → Value → Prop) (a : Option Addr) (l : List Val) : Prop :=
 l = [] ∨ ∃ g o, a = some ⟨g, o, none⟩ ∧ Q g ∧ ∀ i (hi : i < l.length), ∃ v, SixAt w g (o + i * 6) v ∧ V l[i] v
def agg (x : Val) (ba fa la : Option Addr) (bc fc lc : Nat) : Value :=
 .agg #[.int .i64 x.kind, .int .i64 x.n, .string x.s, .slice ba x.b.length bc, .slice fa x.f.length fc, .slice la x.l.length lc]
def VIn (w : World) (Q : Nat → Prop) : Nat → Val → Value → Prop
 | 0, _, _ => False
 | h + 1, x, v => ∃ ba fa la bc fc lc, v = agg x ba fa la bc fc lc ∧ Lim x ∧ (x.b.length ≤ bc ∧ bc ≤ 9223372036854775807) ∧ (x.f.length ≤ fc ∧ fc ≤ 9223372036854775807) ∧ (x.l.length ≤ lc ∧ lc ≤ 9223372036854775807) ∧
   BytesIn w Q ba x.b ∧ FieldsIn w Q (VIn w Q h) fa x.f ∧ ItemsIn w Q (VIn w Q h) la x.l
def Kept (Q : Nat → Prop) (w w' : World) : Prop := ∀ g, Q g → g < w.heap.size → w'.heap[g]? = w.heap[g]?
theorem Kept.of_below {Q : Nat → Prop} {w w' : World} (hb : Below w.heap.size w w') : Kept Q w w' := fun g _ hg => hb.block g hg
theorem Kept.cell {Q : Nat → Prop} {w w' : World} (h : Kept Q w w') {g o : Nat} {v : Value} (hq : Q g) (hc : w.cell? ⟨g, o, none⟩ = some v) : w'.cell? ⟨g, o, none⟩ = some v :=
 (World.cell?_of_block (a := ⟨g, o, none⟩) (h g hq (World.block_lt_of_cell? w _ hc))).trans hc
theorem SixAt.kept {Q : Nat → Prop} {w w' : World} {g p : Nat} {v : Value} (h : SixAt w g p v) (hb : Kept Q w w') (hq : Q g) : SixAt w' g p v := by
 obtain ⟨c0, c1, c2, c3, c4, c5, e, h0, h1, h2, h3, h4, h5⟩ := h
 exact ⟨c0, c1, c2, c3, c4, c5, e, hb.cell hq h0, hb.cell hq h1, hb.cell hq h2, hb.cell hq h3, hb.cell hq h4, hb.cell hq h5⟩
theorem SixAt.keep {w w' : World} {g p : Nat} {v : Value} (h : SixAt w g p v) (hb : Below w.heap.size w w') : SixAt w' g p v :=
 h.kept (Q := fun _ => True) (Kept.of_below hb) trivial
theorem BytesIn.kept {Q Q' : Nat → Prop} {w w' : World} {a : Option Addr} {l : List Nat} (h : BytesIn w Q a l) (hb : Kept Q w w') (hQ : ∀ g, Q g → Q' g) : BytesIn w' Q' a l := by
 rcases h with h | ⟨g, o, e, hq, h⟩
 ·exact .inl h
 ·exact .inr ⟨g, o, e, hQ g hq, fun j hj => hb.cell hq (h j hj)⟩
theorem FieldsIn.kept {Q Q' : Nat → Prop} {w w' : World} {V V' : Val → Value → Prop} {a : Option Addr} {f : List (ByteArray × Val)} (h : FieldsIn w Q V a f) (hb : Kept Q w w') (hQ : ∀ g, Q g → Q' g) (hV : ∀ x v, V x v → V' x v) : FieldsIn w' Q' V' a f := by
 rcases h with h | ⟨g, o, e, hq, h⟩
 ·exact .inl h
 ·refine .inr ⟨g, o, e, hQ g hq, fun i hi => ?_⟩
  obtain ⟨h1, h2, v, h3, h4⟩ := h i hi
  exact ⟨hb.cell hq h1, h2, v, h3.kept hb hq, hV _ _ h4⟩
theorem ItemsIn.kept {Q Q' : Nat → Prop} {w w' : World} {V V' : Val → Value → Prop} {a : Option Addr} {l : List Val} (h : ItemsIn w Q V a l) (hb : Kept Q w w') (hQ : ∀ g, Q g → Q' g) (hV : ∀ x v, V x v → V' x v) : ItemsIn w' Q' V' a l := by
 rcases h with h | ⟨g, o, e, hq, h⟩
 ·exact .inl h
 ·refine .inr ⟨g, o, e, hQ g hq, fun i hi => ?_⟩
  obtain ⟨v, h3, h4⟩ := h i hi
  exact ⟨v, h3.kept hb hq, hV _ _ h4⟩
theorem VIn.kept {w w' : World} {Q Q' : Nat → Prop} (hb : Kept Q w w') (hQ : ∀ g, Q g → Q' g) : ∀ {h : Nat} {x : Val} {v : Value}, VIn w Q h x v → VIn w' Q' h x v
 | 0, _, _, h => h.elim
 | _ + 1, _, _, ⟨ba, fa, la, bc, fc, lc, e, h1, h2, h3, h4, h5, h6, h7⟩ =>
  ⟨ba, fa, la, bc, fc, lc, e, h1, h2, h3, h4, h5.kept hb hQ, h6.kept hb hQ (fun _ _ h => VIn.kept hb hQ h), h7.kept hb hQ (fun _ _ h => VIn.kept hb hQ h)⟩
theorem VIn.keep {w w' : World} {Q : Nat → Prop} (hb : Below w.heap.size w w') {h : Nat} {x : Val} {v : Value} (hv : VIn w Q h x v) : VIn w' Q h x v := VIn.kept (Kept.of_below hb) (fun _ h => h) hv
theorem VIn.up {w : World} {Q : Nat → Prop} : ∀ {h : Nat} {x : Val} {v : Value}, VIn w Q h x v → ∀ {h' : Nat}, h ≤ h' → VIn w Q h' x v
 | 0, _, _, h, _, _ => h.elim
 | h + 1, x, v, ⟨ba, fa, la, bc, fc, lc, e, h1, h2, h3, h4, h5, h6, h7⟩, h', hle => by
  obtain ⟨h', rfl⟩ : ∃ k, h' = k + 1 := ⟨h' - 1, by omega⟩
  have k : ∀ x v, VIn w Q h x v → VIn w Q h' x v := fun x v hv => VIn.up hv (by omega)
  exact ⟨ba, fa, la, bc, fc, lc, e, h1, h2, h3, h4, h5, h6.kept (Kept.of_below (Below.refl _ _)) (fun _ h => h) k, h7.kept (Kept.of_below (Below.refl _ _)) (fun _ h => h) k⟩
theorem BytesIn.slice {w : World} {Q : Nat → Prop} {a : Option Addr} {l : List Nat} (h : BytesIn w Q a l) : SliceIs w a l := by
 rcases h with h | ⟨g, o, e, _, h⟩
 ·exact .inl h
 ·exact .inr ⟨g, o, e, h⟩
end Go.Proofs.YtngllchoiffniaaGreatDoor
end
section
namespace Go.Proofs.YtngllchoiffniaaGreatDoor
open Go.RowKit
open Seal
theorem nan_int (k : Int) (w : World) : Calls Tryz.prog 96 #[.int .i64 k] w fun e w' => e = .returned (.bool false) ∧ w = w' := by
 go_enter Tryz.func96, Tryz.ntmps96
 go_wp2
 go_ret
 exact ⟨rfl, rfl⟩
theorem cmpInt_any (a b : Int) (w : World) : Calls Tryz.prog 79 #[.int .i64 a, .int .i64 b] w (IntPost (Order.sgn a b) w) := by
 rcases Int.lt_trichotomy a b with h | h | h
 ·have HC := Lib.hid (Order.sgn_lt h)
  go_enter Tryz.func79, Tryz.ntmps79
  go_wp2_with (go_at_call 96; refine (nan_int _ _).mono ?_; rintro e w' ⟨rfl, rfl⟩)
  go_ret
  exact ⟨ret_i HC.out.symm, rfl⟩
 ·subst h
  have HC := Lib.hid (Order.sgn_self a)
  go_enter Tryz.func79, Tryz.ntmps79
  go_wp2_with (go_at_call 96; refine (nan_int _ _).mono ?_; rintro e w' ⟨rfl, rfl⟩)
  go_ret
  exact ⟨ret_i HC.out.symm, rfl⟩
 ·have HC := Lib.hid (Order.sgn_gt h)
  have h' : ¬ a < b := by omega
  go_enter Tryz.func79, Tryz.ntmps79
  go_wp2_with (go_at_call 96; refine (nan_int _ _).mono ?_; rintro e w' ⟨rfl, rfl⟩)
  go_ret
  exact ⟨ret_i HC.out.symm, rfl⟩
theorem run_bytesOf (w : World) (a : Option Addr) (l : List Nat) (n c : Nat) (hl : l.length = n) (h : SliceIs w a l) : (Extern.Bytes.bytesOf (.slice a n c)).run Tryz.prog w = .ok (strB l) w := by
 rcases h with rfl | ⟨g, o, rfl, hr⟩
 ·subst hl
  cases a with
  | none => rfl
  | some p => rfl
 ·have hx : (l.map fun x : Nat => (x : Int)).length = n := by simp [hl]
  have hq := Lib.run_loadBytesX (P := Tryz.prog) w (l.map fun x : Nat => (x : Int)) ⟨g, o, none⟩ .empty (fun j x hj => by
   have hjl : j < l.length := by have := (List.getElem?_eq_some_iff.1 hj).1; simpa using this
   have e : (⟨g, o, none⟩ : Addr).add j = ⟨g, o + j, none⟩ := by unfold Addr.add; split <;> simp_all
   rw [e, hr j hjl]
   have hj' : (l.map fun x : Nat => (x : Int))[j]? = some ((l.getD j 0 : Nat) : Int) := by simp [List.getD_eq_getElem?_getD, List.getElem?_eq_getElem hjl]
   rw [hj'] at hj
   rw [Option.some.inj hj])
  rw [hx] at hq
  show (Extern.Bytes.loadBytes ⟨g, o, none⟩ n .empty).run Tryz.prog w = _
  rw [hq]
  congr 1
  apply ByteArray.ext
  show (#[] : Array UInt8) ++ (Lib.bytesOf _).toArray = _
  unfold Lib.bytesOf strB
  rw [List.map_map]
  simp
theorem map_nat {l : List Nat} (h : Oct l) : (l.map UInt8.ofNat).map UInt8.toNat = l := by
 rw [List.map_map]
 conv => rhs; rw [← List.map_id l]
 apply List.map_congr_left
 intro x hx
 have := h x hx
 simp [Nat.mod_eq_of_lt this]
theorem bytes_strB {l : List Nat} (h : Oct l) : Order.bytes (strB l) = l := by
 unfold Order.bytes strB
 simpa using map_nat h
theorem run_octs (w : World) (a b : Option Addr) (l m : List Nat) (n c n2 c2 : Nat) (hl : l.length = n) (hm : m.length = n2) (h : SliceIs w a l) (h2 : SliceIs w b m) (ho : Oct l) (ho2 : Oct m) :
  (Extern.BytealgCompare.compare #[.slice a n c, .slice b n2 c2]).run Tryz.prog w = .ok (.int .i64 (Order.octs l m)) w := by
 change Sem.run Tryz.prog (do pure (goInt (Extern.BytealgCompare.cmp (← Extern.Bytes.bytesOf (.slice a n c)) (← Extern.Bytes.bytesOf (.slice b n2 c2))))) w = _
 simp only [Sem.run_bind, Sem.run_pure, Result.andThen, run_bytesOf w a l n c hl h, run_bytesOf w b m n2 c2 hm h2]
 rw [Lib.cmp_eq, Order.compareBytes_text, Order.text, bytes_strB ho, bytes_strB ho2]
 rfl
theorem bytesCmp_any (w : World) (a b : Option Addr) (l m : List Nat) (n c n2 c2 : Nat) (hl : l.length = n) (hm : m.length = n2) (h : SliceIs w a l) (h2 : SliceIs w b m) (ho : Oct l) (ho2 : Oct m) :
  Calls Tryz.prog 86 #[.slice a n c, .slice b n2 c2] w (IntPost (Order.octs l m) w) := by
 have hcall := run_callFunc_extern Tryz.func99 (by kernel_rfl) (by kernel_rfl) (by kernel_rfl) (e := Extern.BytealgCompare.compare) (by kernel_rfl) #[.slice a n c, .slice b n2 c2] w
 rw [run_octs w a b l m n c n2 c2 hl hm h h2 ho ho2] at hcall
 have HC := Lib.hid hcall
 clear hcall h h2 ho ho2 hl hm
 go_enter Tryz.func86, Tryz.ntmps86
 go_wp2
 rw [HC.out]
 simp only [Result.andThen]
 rw [Oper.upon_value]
 go_wp2
 go_ret
 exact ⟨rfl, rfl⟩
end Go.Proofs.YtngllchoiffniaaGreatDoor
end
section
namespace Order
open Go
open Bson (Val)
def cls (k : Int) : Int := if k < 0 ∨ 12 < k then -1 else if k ≤ 3 then k else k - 1
def fld (c : Val → Val → Int) (p q : ByteArray × Val) : Int :=
 if sgn (cls p.2.kind) (cls q.2.kind) = 0 then (if text p.1 q.1 = 0 then c p.2 q.2 else text p.1 q.1) else sgn (cls p.2.kind) (cls q.2.kind)
def blob (a b : List Nat) : Int := if sgn a.length b.length = 0 then octs a b else sgn a.length b.length
def inner (c : Val → Val → Int) (k : Int) (x y : Val) : Int :=
 if k = 3 ∨ k = 9 ∨ k = 10 then sgn x.n y.n
 else if k = 4 then text x.s y.s
 else if k = 5 then lex (fld c) x.f y.f
 else if k = 6 then lex c x.l y.l
 else if k = 7 then blob x.b y.b
 else if k = 8 then octs x.b y.b
 else 0
def cmp : Nat → Val → Val → Int
 | 0, _, _ => 0
 | h + 1, x, y => if sgn (cls x.kind) (cls y.kind) = 0 then inner (cmp h) (cls x.kind) x y else sgn (cls x.kind) (cls y.kind)
theorem fld_cmp {c : Val → Val → Int} (h : IsCmp c) : IsCmp (fld c) := by
 have h1 : IsCmp (fun p q : ByteArray × Val => c p.2 q.2) := h.on (fun p : ByteArray × Val => p.2)
 have h2 : IsCmp (fun p q : ByteArray × Val => if text p.1 q.1 = 0 then c p.2 q.2 else text p.1 q.1) :=
  IsCmp.next (c := fun p q : ByteArray × Val => text p.1 q.1) (d := fun (_ : Unit) (p q : ByteArray × Val) => c p.2 q.2) (text_cmp.on (fun p : ByteArray × Val => p.1)) (fun _ => h1) (fun _ => ()) (fun _ _ _ => rfl)
 exact IsCmp.next (c := fun p q : ByteArray × Val => sgn (cls p.2.kind) (cls q.2.kind)) (d := fun (_ : Unit) (p q : ByteArray × Val) => if text p.1 q.1 = 0 then c p.2 q.2 else text p.1 q.1)
  (IsCmp.on IsCmp.sgn (fun p : ByteArray × Val => cls p.2.kind)) (fun _ => h2) (fun _ => ()) (fun _ _ _ => rfl)
theorem blob_cmp : IsCmp blob :=
 IsCmp.next (IsCmp.on IsCmp.sgn (fun a : List Nat => (a.length : Int))) (d := fun _ : Unit => octs) (fun _ => octs_cmp) (fun _ => ()) (fun _ _ _ => rfl)
theorem inner_cmp {c : Val → Val → Int} (h : IsCmp c) (k : Int) : IsCmp (inner c k) := by
 by_cases e1 : k = 3 ∨ k = 9 ∨ k = 10
 ·have : inner c k = fun x y => sgn x.n y.n := by funext x y; rw [inner, if_pos e1]
  rw [this]; exact IsCmp.on IsCmp.sgn _
 by_cases e2 : k = 4
 ·have : inner c k = fun x y => text x.s y.s := by funext x y; rw [inner, if_neg e1, if_pos e2]
  rw [this]; exact IsCmp.on text_cmp Val.s
 by_cases e3 : k = 5
 ·have : inner c k = fun x y => lex (fld c) x.f y.f := by funext x y; rw [inner, if_neg e1, if_neg e2, if_pos e3]
  rw [this]; exact IsCmp.on (IsCmp.lex (fld_cmp h)) Val.f
 by_cases e4 : k = 6
 ·have : inner c k = fun x y => lex c x.l y.l := by funext x y; rw [inner, if_neg e1, if_neg e2, if_neg e3, if_pos e4]
  rw [this]; exact IsCmp.on (IsCmp.lex h) Val.l
 by_cases e5 : k = 7
 ·have : inner c k = fun x y => blob x.b y.b := by funext x y; rw [inner, if_neg e1, if_neg e2, if_neg e3, if_neg e4, if_pos e5]
  rw [this]; exact IsCmp.on blob_cmp Val.b
 by_cases e6 : k = 8
 ·have : inner c k = fun x y => octs x.b y.b := by funext x y; rw [inner, if_neg e1, if_neg e2, if_neg e3, if_neg e4, if_neg e5, if_pos e6]
  rw [this]; exact IsCmp.on octs_cmp Val.b
 ·have : inner c k = fun _ _ => 0 := by funext x y; rw [inner, if_neg e1, if_neg e2, if_neg e3, if_neg e4, if_neg e5, if_neg e6]
  rw [this]; exact IsCmp.nought
theorem cmp_cmp : ∀ h, IsCmp (cmp h)
 | 0 => IsCmp.nought
 | h + 1 => IsCmp.next (IsCmp.on IsCmp.sgn (fun x : Val => cls x.kind)) (inner_cmp (cmp_cmp h)) (fun x => cls x.kind) (fun _ _ e => sgn_zero.1 e)
def byFrom {α : Type} (c : α → α → Int) (z : α) (a b : List α) (down : List Bool) : Nat → Nat → Int
 | 0, _ => 0
 | n + 1, i => if c (a.getD i z) (b.getD i z) = 0 then byFrom c z a b down n (i + 1) else if down.getD i false then - c (a.getD i z) (b.getD i z) else c (a.getD i z) (b.getD i z)
def rows {α : Type} (c : α → α → Int) (z : α) (a b : List α) (down : List Bool) : Int := byFrom c z a b down (max a.length b.length) 0
def turned {α : Type} (c : α → α → Int) (down : Bool) (x y : α) : Int := if down then - c x y else c x y
theorem turned_cmp {α : Type} {c : α → α → Int} (h : IsCmp c) (down : Bool) : IsCmp (turned c down) := by
 cases down with
 | false => exact h
 | true =>
  refine ⟨fun a b => ?_, fun a b => ?_, fun a b d => ?_⟩
  ·have := h.one a b
   show - c a b = -1 ∨ - c a b = 0 ∨ - c a b = 1
   omega
  ·have := h.anti a b
   show - c a b = - - c b a
   omega
  ·show - c a b ≤ 0 → - c b d ≤ 0 → - c a d ≤ 0
   have h1 := h.trans d b a
   have a1 := h.anti a b
   have a2 := h.anti b d
   have a3 := h.anti a d
   intro x y
   have := h1 (by omega) (by omega)
   omega
structure Best {α : Type} (c : α → α → Int) (z : α) (l : List α) (n k : Nat) : Prop where
 lt : k < n
 ahead : ∀ j, j < k → 0 < c (l.getD j z) (l.getD k z)
 behind : ∀ j, k < j → j < n → 0 ≤ c (l.getD j z) (l.getD k z)
section
variable {α : Type} {c : α → α → Int} {z : α} {l : List α} {n k : Nat}
theorem Best.first : Best c z l 1 0 := ⟨by omega, fun j h => by omega, fun j h1 h2 => by omega⟩
theorem Best.turn (hc : IsCmp c) (h : Best c z l n k) (e : c (l.getD n z) (l.getD k z) < 0) : Best c z l (n + 1) n :=
 ⟨by omega, fun j hj => by
  have h1 : 0 ≤ c (l.getD j z) (l.getD k z) := by
   by_cases e1 : j < k
   ·have := h.ahead j e1; omega
   ·by_cases e2 : j = k
    ·subst e2; have := hc.refl (l.getD j z); omega
    ·exact h.behind j (by omega) hj
  have a1 := hc.anti (l.getD j z) (l.getD k z)
  have a2 := hc.anti (l.getD j z) (l.getD n z)
  have := hc.lt_le e (show c (l.getD k z) (l.getD j z) ≤ 0 by omega)
  omega, fun j h1 h2 => by omega⟩
theorem Best.same (hc : IsCmp c) {k' : Nat} (h : Best c z l n k) (h' : Best c z l n k') : k = k' := by
 have a1 := hc.anti (l.getD k z) (l.getD k' z)
 have l1 := h.lt
 have l2 := h'.lt
 rcases Nat.lt_trichotomy k k' with e | e | e
 ·have := h'.ahead k e; have := h.behind k' e l2; omega
 ·exact e
 ·have := h.ahead k' e; have := h'.behind k e l1; omega
theorem Best.all (hc : IsCmp c) (h : Best c z l n k) (j : Nat) (hj : j < n) : 0 ≤ c (l.getD j z) (l.getD k z) := by
 by_cases e1 : j < k
 ·have := h.ahead j e1; omega
 ·by_cases e2 : j = k
  ·subst e2; have := hc.refl (l.getD j z); omega
  ·exact h.behind j (by omega) hj
end
def CutIs (h : Nat) (down : Bool) (x y : Val) : Prop :=
 (x.kind ≠ 7 ∧ y = x) ∨ (x.kind = 7 ∧ x.l = [] ∧ y = Bson.zero) ∨ (x.kind = 7 ∧ ∃ k, Best (turned (cmp h) down) Bson.zero x.l x.l.length k ∧ y = x.l.getD k Bson.zero)
theorem CutIs.same {h : Nat} {down : Bool} {x y y' : Val} (h1 : CutIs h down x y) (h2 : CutIs h down x y') : y = y' := by
 rcases h1 with ⟨k1, e1⟩ | ⟨k1, n1, e1⟩ | ⟨k1, k, b1, e1⟩
 ·rcases h2 with ⟨_, e2⟩ | ⟨k2, _⟩ | ⟨k2, _⟩
  ·rw [e1, e2]
  ·exact absurd k2 k1
  ·exact absurd k2 k1
 ·rcases h2 with ⟨k2, _⟩ | ⟨_, _, e2⟩ | ⟨_, k, b2, _⟩
  ·exact absurd k1 k2
  ·rw [e1, e2]
  ·have := b2.lt; rw [n1] at this; simp at this
 ·rcases h2 with ⟨k2, _⟩ | ⟨_, n2, _⟩ | ⟨_, k', b2, e2⟩
  ·exact absurd k1 k2
  ·have := b1.lt; rw [n2] at this; simp at this
  ·have := Best.same (turned_cmp (cmp_cmp h) down) b1 b2
   rw [e1, e2, this]
end Order
end
section
namespace Bson
open Go
def fieldIn : List (ByteArray × Val) → ByteArray → Val
 | [], _ => zero
 | (s, v) :: r, a => if s = a then v else fieldIn r a
def itself (x : Val) : List Val := x :: (if x.kind = 7 then x.l else [])
def all : Nat → Val → List ByteArray → List Val
 | _, x, [] => itself x
 | 0, _, _ :: _ => [zero]
 | n + 1, x, a :: r =>
  if x.kind = 6 then (if (fieldIn x.f a).kind = 0 then [zero] else all n (fieldIn x.f a) r)
  else if x.kind = 7 then (if (x.l.filter fun y => decide (y.kind = 6)).isEmpty then [zero] else (x.l.filter fun y => decide (y.kind = 6)).flatMap fun y => all n y (a :: r))
  else [zero]
end Bson
end
section
namespace Go.Proofs.YtngllchoiffniaaGreatDoor
open Go.RowKit
section
variable {P : Program} {Q : Exit → Act → World → Prop} {md : Region.Mode}
theorem fact_on {ops : Array Oper} {A : (Nat → Value) → Act} {w0 : World} {fs : List Fact} {i : Nat} {o : Oper} (j : Nat) (b : Bool) (hg : o.guard = some (j, b)) (ha : (o.after.any fun e => Region.binds md e && e.on == j) = true) (hy : ∀ V, yielded ops (A V).tmps j = yes (V j)) (hv : ∀ v w, (factAt fs j).p v w → v = .bool b)
  (h : ∀ (V : Nat → Value) (w : World), Below w0.heap.size w0 w → Shut (∀ j, (o.after.any fun e => Region.binds md e && e.on == j) = true → (factAt fs j).p (V j) w) →
   ∀ K : Act → World → Prop, Shut (∀ v w', Below w.heap.size w w' → (factAt fs i).p v w' → K ((A V).put o.dst v) w') → Oper.wp P o (A V) w K Q) : FactStep P md ops Q A w0 fs i o := by
 intro V w hB hF K hK
 have e : V j = .bool b := hv _ _ (hF.out j ha)
 rw [if_pos (show Region.wanted o (yielded ops (A V).tmps) = true by simp [Region.wanted, hg, hy, e, yes])]
 exact h V w hB hF K (fun v w' h1 h2 => hK _ v w' rfl h1 h2)
end
end Go.Proofs.YtngllchoiffniaaGreatDoor
end
section
namespace Go.Proofs.YtngllchoiffniaaGreatDoor
open Go.RowKit
open Seal
open Bson (Val)
theorem ret_eq {a b : Value} (h : a = b) : Ending.returned a = .returned b := by rw [h]
def SomeBool (w : World) (e : Ending) (w' : World) : Prop := ∃ b, e = .returned (.bool b) ∧ Below w.heap.size w w'
theorem cell_keep {w w' : World} {p : Addr} {v : Value} (hb : Below w.heap.size w w') (h : w.cell? p = some v) : w'.cell? p = some v := (hb.cell (World.block_lt_of_cell? w _ h)).trans h
def Boxed (w : World) (cs : Array Value) (t : TypeId) (wr : World) : Prop := Below (w.heap.size + 1) (w.alloc (.cells cs t)) wr
section
variable {w wr w' : World} {cs : Array Value} {t : TypeId}
theorem Boxed.refl (w : World) (cs : Array Value) (t : TypeId) : Boxed w cs t (w.alloc (.cells cs t)) := Below.refl _ _
theorem Boxed.cell (h : Boxed w cs t wr) (j : Nat) : wr.cell? ⟨w.heap.size, j, none⟩ = cs[j]? :=
 (Below.cell h (p := ⟨w.heap.size, j, none⟩) (Nat.lt_succ_self _)).trans (cell_of_row _ _ j cs t (0, 0) (heap_alloc_new w _))
theorem Boxed.size (h : Boxed w cs t wr) : w.heap.size + 1 ≤ wr.heap.size := by have := Below.size h; simpa using this
theorem Boxed.below (h : Boxed w cs t wr) : Below w.heap.size w wr := ((Below.refl _ w).alloc (Nat.le_refl _) _).trans (Below.mono h (by simp))
theorem Boxed.step (h : Boxed w cs t wr) (hb : Below wr.heap.size wr w') : Boxed w cs t w' := Below.trans h (hb.mono h.size)
end
theorem shallow_any (Q : Nat → Prop) : ∀ (h : Nat) (x : Val) (v : Value) (m : Int) (w : World), VIn w Q h x v → 0 ≤ m → m ≤ 60 → Calls Tryz.prog 42 #[v, .int .i64 m] w (SomeBool w)
 | 0, _, _, _, _, hv, _, _ => hv.elim
 | h + 1, x, v, m, w, hv, h0, h1 => by
  obtain ⟨ba, fa, la, bc, fc, lc, rfl, hL, hb, hf, hl, hB, hF, hI⟩ := hv
  unfold agg
  have IH := Lib.hid (fun x v m w => shallow_any Q h x v m w)
  have HF := Lib.hid hF; have HI := Lib.hid hI
  obtain ⟨fn, hfn⟩ : ∃ fn, fn = x.f.length := ⟨_, rfl⟩
  obtain ⟨ln, hln⟩ : ∃ ln, ln = x.l.length := ⟨_, rfl⟩
  have hfl := hL.f; have hll := hL.l
  rw [← hfn] at hfl ⊢; rw [← hln] at hll ⊢
  have HFN := Lib.hid hfn; have HLN := Lib.hid hln
  clear hF hI hB hb hL hf hl hfn hln
  obtain ⟨cs, hcs⟩ : ∃ cs, cs = #[Value.int .i64 x.kind, .int .i64 x.n, .string x.s, .slice ba x.b.length bc, .slice fa fn fc, .slice la ln lc] := ⟨_, rfl⟩
  have HC := Lib.hid hcs; clear hcs
  go_enter Tryz.func42, Tryz.ntmps42
  go_wp2
  go_loopw [5] (fun i wr => ∃ k : Nat, i = .int .i64 k ∧ k ≤ fn ∧ Hid (Boxed w cs 35 wr)) (fun i _ => fn - (intOf i).toNat)
  case atStart => exact ⟨0, rfl, Nat.zero_le _, by rw [HC.out]; exact Boxed.refl _ _ _⟩
  case round =>
   obtain ⟨k, rfl, hk, hbx⟩ := hrel
   have c4 : wr.cell? ⟨w.heap.size, 4, none⟩ = some (.slice fa fn fc) := by rw [hbx.out.cell, HC.out]; rfl
   have c5 : wr.cell? ⟨w.heap.size, 5, none⟩ = some (.slice la ln lc) := by rw [hbx.out.cell, HC.out]; rfl
   by_cases hlt : k < fn
   ·by_cases hm : m = 0
    ·subst hm
     go_wp2
     go_ret
     exact ⟨_, rfl, hbx.out.below⟩
    ·have hm' : (m == 0) = false := by simpa using hm
     obtain ⟨g, o, hfa, _, hall⟩ := HF.out.resolve_left (fun e => by have := HFN.out; rw [e] at this; simp at this; omega)
     obtain ⟨hnm, _, v', hsix, hV⟩ := hall k (by have := HFN.out; omega)
     subst hfa
     have hV := Lib.hid (VIn.keep hbx.out.below hV)
     obtain ⟨d0, d1, d2, d3, d4, d5, rfl, s0, s1, s2, s3, s4, s5⟩ := hsix.keep hbx.out.below
     clear hnm hall
     go_wp2_with fail
     refine (IH.out _ _ (m - 1) _ hV.out (by omega) (by omega)).mono ?_
     rintro e w' ⟨b, rfl, hB'⟩
     have HB := Lib.hid (hbx.out.step (cs := cs) hB')
     clear hB'
     cases b with
     | false =>
      go_wp2_with fail
      go_ret
      exact ⟨_, rfl, HB.out.below⟩
     | true =>
      go_wp2_with fail
      go_roundw
      case rel => exact ⟨k + 1, by go_num, by omega, HB⟩
      case measure => simp [intOf]; omega
   ·obtain rfl : fn = k := by omega
    clear hk
    go_wp2_with fail
    go_loopw [6] (fun i wr => ∃ k : Nat, i = .int .i64 k ∧ k ≤ ln ∧ Hid (Boxed w cs 35 wr)) (fun i _ => ln - (intOf i).toNat)
    case atStart => exact ⟨0, rfl, Nat.zero_le _, hbx⟩
    case round =>
     obtain ⟨j, rfl, hj, hbx⟩ := hrel
     have c5 : wr.cell? ⟨w.heap.size, 5, none⟩ = some (.slice la ln lc) := by rw [hbx.out.cell, HC.out]; rfl
     by_cases hlt : j < ln
     ·by_cases hm : m = 0
      ·subst hm
       go_wp2
       go_ret
       exact ⟨_, rfl, hbx.out.below⟩
      ·have hm' : (m == 0) = false := by simpa using hm
       obtain ⟨g, o, hla, _, hall⟩ := HI.out.resolve_left (fun e => by have := HLN.out; rw [e] at this; simp at this; omega)
       obtain ⟨v', hsix, hV⟩ := hall j (by have := HLN.out; omega)
       subst hla
       have hV := Lib.hid (VIn.keep hbx.out.below hV)
       obtain ⟨d0, d1, d2, d3, d4, d5, rfl, s0, s1, s2, s3, s4, s5⟩ := hsix.keep hbx.out.below
       clear hall
       go_wp2_with fail
       refine (IH.out _ _ (m - 1) _ hV.out (by omega) (by omega)).mono ?_
       rintro e w' ⟨b, rfl, hB'⟩
       have HB := Lib.hid (hbx.out.step (cs := cs) hB')
       clear hB'
       cases b with
       | false =>
        go_wp2_with fail
        go_ret
        exact ⟨_, rfl, HB.out.below⟩
       | true =>
        go_wp2_with fail
        go_roundw
        case rel => exact ⟨j + 1, by go_num, by omega, HB⟩
        case measure => simp [intOf]; omega
     ·have hjj : j = ln := by omega
      clear hj
      go_wp2_with fail
      go_ret
      exact ⟨_, rfl, hbx.out.below⟩
end Go.Proofs.YtngllchoiffniaaGreatDoor
end
section
namespace Key
open Go
open Bson (Val)
open Order
def next (c d : Int) : Int := if c = 0 then d else c
def be (n : Nat) : Nat → List Nat
 | 0 => []
 | k + 1 => n / 256 ^ k % 256 :: be n k
def off (n : Int) : Nat := (n + 9223372036854775808).toNat
def numB (n : Int) : List Nat := be (off n) 8
def rowB {α : Type} (e : α → List Nat) : List α → List Nat
 | [] => [0]
 | a :: r => e a ++ rowB e r
def fits : Nat → Val → Prop
 | 0, x => x.kind ≠ 6 ∧ x.kind ≠ 7
 | L + 1, x => (x.kind = 6 → ∀ p ∈ x.f, fits L p.2) ∧ (x.kind = 7 → ∀ v ∈ x.l, fits L v)
def Okay : Nat → Val → Prop
 | 0, x => -9223372036854775808 ≤ x.n ∧ x.n ≤ 9223372036854775807 ∧ x.b.length ≤ 140737488355328
 | L + 1, x => (-9223372036854775808 ≤ x.n ∧ x.n ≤ 9223372036854775807 ∧ x.b.length ≤ 140737488355328) ∧ (∀ p ∈ x.f, Okay L p.2) ∧ ∀ v ∈ x.l, Okay L v
theorem Okay.here {L : Nat} {x : Val} (h : Okay L x) : -9223372036854775808 ≤ x.n ∧ x.n ≤ 9223372036854775807 ∧ x.b.length ≤ 140737488355328 := by
 cases L with
 | zero => exact h
 | succ L => exact h.1
theorem part : ∀ (a b : List Nat), (∃ t, b = a ++ t) ∨ (∃ t, a = b ++ t) ∨ ∃ p x y t u, a = p ++ x :: t ∧ b = p ++ y :: u ∧ x ≠ y
 | [], b => .inl ⟨b, rfl⟩
 | a, [] => .inr (.inl ⟨a, rfl⟩)
 | x :: t, y :: u => by
  by_cases e : x = y
  ·subst e
   rcases part t u with ⟨v, h⟩ | ⟨v, h⟩ | ⟨p, x', y', t', u', h1, h2, h3⟩
   ·exact .inl ⟨v, by rw [h]; rfl⟩
   ·exact .inr (.inl ⟨v, by rw [h]; rfl⟩)
   ·exact .inr (.inr ⟨x :: p, x', y', t', u', by rw [h1]; rfl, by rw [h2]; rfl, h3⟩)
  ·exact .inr (.inr ⟨[], x, y, t, u, rfl, rfl, e⟩)
end Key
end
section
namespace Go.Proofs.YtngllchoiffniaaGreatDoor
open Go.RowKit
open Seal
open Bson (Val)
theorem VIn.lt {w : World} {Q : Nat → Prop} : ∀ {h : Nat} {x : Val} {v : Value}, VIn w Q h x v → VIn w (fun g => Q g ∧ g < w.heap.size) h x v
 | 0, _, _, h => h.elim
 | h + 1, x, v, ⟨ba, fa, la, bc, fc, lc, e, h1, h2, h3, h4, hB, hF, hI⟩ => by
  refine ⟨ba, fa, la, bc, fc, lc, e, h1, h2, h3, h4, ?_, ?_, ?_⟩
  ·rcases hB with hB | ⟨g, o, e, hq, hr⟩
   ·exact .inl hB
   ·cases hx : x.b with
    | nil => exact .inl rfl
    | cons c r =>
     have := hr 0 (by rw [hx]; simp)
     exact .inr ⟨g, o, e, ⟨hq, World.block_lt_of_cell? w _ this⟩, by rw [← hx]; exact hr⟩
  ·rcases hF with hF | ⟨g, o, e, hq, hr⟩
   ·exact .inl hF
   ·cases hx : x.f with
    | nil => exact .inl rfl
    | cons c r =>
     have h0 := (hr 0 (by rw [hx]; simp)).1
     refine .inr ⟨g, o, e, ⟨hq, World.block_lt_of_cell? w _ h0⟩, ?_⟩
     rw [← hx]
     intro i hi
     obtain ⟨a1, a2, v, a3, a4⟩ := hr i hi
     exact ⟨a1, a2, v, a3, VIn.lt a4⟩
  ·rcases hI with hI | ⟨g, o, e, hq, hr⟩
   ·exact .inl hI
   ·cases hx : x.l with
    | nil => exact .inl rfl
    | cons c r =>
     obtain ⟨v0, h0, _⟩ := hr 0 (by rw [hx]; simp)
     obtain ⟨_, _, _, _, _, _, _, hc, _⟩ := h0
     refine .inr ⟨g, o, e, ⟨hq, World.block_lt_of_cell? w _ hc⟩, ?_⟩
     rw [← hx]
     intro i hi
     obtain ⟨v, a3, a4⟩ := hr i hi
     exact ⟨v, a3, VIn.lt a4⟩
theorem VIn.letters {w : World} {Q : Nat → Prop} {h : Nat} {x : Val} {v : Value} (hv : VIn w Q (h + 1) x v) :
  ∃ (xk xn : Int) (xs : ByteArray) (ba fa la : Option Addr) (bn bc fn fc ln lc : Nat), v = .agg #[.int .i64 xk, .int .i64 xn, .string xs, .slice ba bn bc, .slice fa fn fc, .slice la ln lc] ∧
   xk = x.kind ∧ xn = x.n ∧ xs = x.s ∧ bn = x.b.length ∧ fn = x.f.length ∧ ln = x.l.length ∧ Lim x ∧ FieldsIn w Q (VIn w Q h) fa x.f ∧ ItemsIn w Q (VIn w Q h) la x.l := by
 obtain ⟨ba, fa, la, bc, fc, lc, rfl, hL, _, _, _, _, hF, hI⟩ := hv
 exact ⟨_, _, _, ba, fa, la, _, bc, _, fc, _, lc, rfl, rfl, rfl, rfl, rfl, rfl, rfl, hL, hF, hI⟩
theorem str_ne {s t : ByteArray} (h : ¬ s = t) : (s.toList == t.toList) = false := by
 rw [beq_eq_false_iff_ne]
 intro e
 rw [ByteArray.toList_eq, ByteArray.toList_eq] at e
 apply h
 obtain ⟨⟨a⟩⟩ := s
 obtain ⟨⟨b⟩⟩ := t
 simp only at e
 rw [e]
theorem below_dr {B : Nat} {a w : World} (h : Below B a w) (n : Nat) : Below B a (w.drewN n) := ⟨h.os, h.tape, h.output, h.size, h.block⟩
theorem toList_ne {s t : ByteArray} (h : ¬ s = t) : (s.toList == t.toList) = false := by
 rw [beq_eq_false_iff_ne]
 intro e
 rw [ByteArray.toList_eq, ByteArray.toList_eq] at e
 apply h
 obtain ⟨⟨a⟩⟩ := s
 obtain ⟨⟨b⟩⟩ := t
 simp only at e
 rw [e]
theorem VIn.form {w : World} {Q : Nat → Prop} {h : Nat} {x : Val} {v : Value} (hv : VIn w Q h x v) : ∃ (q1 q2 : Int) (q3 : ByteArray) (a1 : Option Addr) (n1 c1 : Nat) (a2 : Option Addr) (n2 c2 : Nat) (a3 : Option Addr) (n3 c3 : Nat), v = .agg #[.int .i64 q1, .int .i64 q2, .string q3, .slice a1 n1 c1, .slice a2 n2 c2, .slice a3 n3 c3] := by
 cases h with
 | zero => exact hv.elim
 | succ h =>
  obtain ⟨ba, fa, la, bc, fc, lc, rfl, _⟩ := hv
  exact ⟨_, _, _, _, _, _, _, _, _, _, _, _, rfl⟩
def place (f : List (ByteArray × Val)) (s : ByteArray) : Nat := f.findIdx fun p => decide (p.1 = s)
def placeI (f : List (ByteArray × Val)) (s : ByteArray) : Int := if place f s < f.length then (place f s : Int) else -1
theorem placeI_any (f : List (ByteArray × Val)) (s : ByteArray) : 0 ≤ placeI f s ↔ (f.any fun p => decide (p.1 = s)) = true := by
 have hl : place f s < f.length ↔ (f.any fun p => decide (p.1 = s)) = true := by
  unfold place
  rw [List.findIdx_lt_length, List.any_eq_true]
 rw [← hl]
 unfold placeI
 split <;> rename_i h
 ·exact ⟨fun _ => h, fun _ => by omega⟩
 ·exact ⟨fun h2 => by omega, fun h2 => absurd h2 h⟩
theorem find_any (Q : Nat → Prop) (h : Nat) (w : World) (a : Option Addr) (n c : Nat) (f : List (ByteArray × Val)) (s : ByteArray) (hn : f.length = n) (hm : n ≤ 140737488355328) (hF : FieldsIn w Q (VIn w Q h) a f) :
  Calls Tryz.prog 111 #[.slice a n c, .string s] w fun e w' => e = .returned (.int .i64 (placeI f s)) ∧ Below w.heap.size w w' := by
 have HN := Lib.hid hn
 have HF := Lib.hid hF
 clear hn hF
 go_enter Tryz.func111, Tryz.ntmps111
 go_wp2_with fail
 go_loopw [9] (fun i wr => ∃ k : Nat, i = .int .i64 k ∧ k ≤ n ∧ Hid (k ≤ place f s) ∧ Hid (Below w.heap.size w wr)) (fun i _ => n - (intOf i).toNat)
 case atStart => exact ⟨0, rfl, Nat.zero_le _, Nat.zero_le _, Below.refl _ _⟩
 case round =>
  obtain ⟨k, rfl, hk, hp, hB⟩ := hrel
  by_cases hlt : k < n
  ·have hkf : k < f.length := by rw [HN.out]; exact hlt
   obtain ⟨g, o, rfl, _, hall⟩ := HF.out.resolve_left (fun e => by rw [e] at hkf; cases hkf)
   obtain ⟨hnm, _, v', hsix, hV⟩ := hall k hkf
   have hnm := cell_keep hB.out hnm
   obtain ⟨q1, q2, q3, a1, n1, c1, a2, n2, c2, a3, n3, c3, rfl⟩ := VIn.form hV
   obtain ⟨d0, d1, d2, d3, d4, d5, he6, s0, s1, s2, s3, s4, s5⟩ := hsix.keep hB.out
   obtain ⟨rfl, rfl, rfl, rfl, rfl, rfl⟩ : d0 = .int .i64 q1 ∧ d1 = .int .i64 q2 ∧ d2 = .string q3 ∧ d3 = .slice a1 n1 c1 ∧ d4 = .slice a2 n2 c2 ∧ d5 = .slice a3 n3 c3 := by
    simp only [Value.agg.injEq, Array.mk.injEq, List.cons.injEq, and_true] at he6
    obtain ⟨e0, e1, e2, e3, e4, e5⟩ := he6
    exact ⟨e0.symm, e1.symm, e2.symm, e3.symm, e4.symm, e5.symm⟩
   clear he6 hV
   have hg : ∀ i (hi : i < f.length), (fun p : ByteArray × Val => decide (p.1 = s)) f[i] = decide (f[i].1 = s) := fun _ _ => rfl
   by_cases he : f[k].1 = s
   ·have hpl : Hid (placeI f s = (k : Int)) := by
     show _ = _
     have h1 : place f s = k := by
      have h2 : place f s ≤ k := by
       unfold place
       refine Nat.le_of_not_lt fun h3 => ?_
       have := List.not_of_lt_findIdx h3
       simp [he] at this
      have := hp.out; omega
     unfold placeI
     rw [h1, if_pos hkf]
    generalize f[k].1 = nm at *
    clear hg hall
    subst he
    go_wp2_with fail
    go_ret
    exact ⟨ret_eq (by rw [hpl.out]; rfl), hB.out.alloc hB.out.size _⟩
   ·have hp' : Hid (k + 1 ≤ place f s) := by
     show _ ≤ _
     have h1 : place f s ≠ k := by
      intro h2
      have h3 : place f s < f.length := by omega
      have := List.findIdx_getElem (w := h3)
      simp only [decide_eq_true_eq] at this
      apply he
      rw [← this]
      congr 2
      exact h2.symm
     have := hp.out; omega
    generalize f[k].1 = nm at *
    clear hg hall
    have hne := toList_ne he
    clear he
    go_wp2_with fail
    go_roundw
    case rel => exact ⟨k + 1, by go_num, by omega, hp', hB.out.alloc hB.out.size _⟩
    case measure => simp [intOf]; omega
  ·obtain rfl : n = k := by omega
   have hpl : Hid (placeI f s = -1) := by
    show _ = _
    unfold placeI
    rw [if_neg (by have := hp.out; rw [HN.out]; omega)]
   go_wp2_with fail
   go_ret
   exact ⟨ret_eq (by rw [hpl.out]; rfl), hB.out⟩
end Go.Proofs.YtngllchoiffniaaGreatDoor
end
section
namespace Go.Proofs.YtngllchoiffniaaGreatDoor
open Go.RowKit
open Seal
def zeroAt (l : List Nat) : Int := if l.findIdx (· == 0) < l.length then (l.findIdx (· == 0) : Int) else -1
theorem index_zero : ∀ l : List Nat, Oct l → Lib.indexByte (l.map UInt8.ofNat) 0 = zeroAt l
 | [], _ => rfl
 | c :: r, h => by
  have hc : c < 256 := h c (by simp)
  have ih := index_zero r (fun x hx => h x (by simp [hx]))
  rw [List.map_cons, Lib.indexByte, ih]
  unfold zeroAt
  rw [List.findIdx_cons]
  by_cases h0 : c = 0
  ·subst h0; simp
  ·have h1 : (UInt8.ofNat c == 0) = false := by
    rw [beq_eq_false_iff_ne]
    intro e
    have := congrArg UInt8.toNat e
    simp [Nat.mod_eq_of_lt hc] at this
    exact h0 this
   have h2 : (c == 0) = false := by simpa using h0
   rw [h1, h2]
   simp only [Bool.false_eq_true, if_false, cond_false, List.length_cons]
   by_cases hl : r.findIdx (· == 0) < r.length
   ·rw [if_pos hl, if_neg (by simp), if_pos (by omega)]; simp
   ·rw [if_neg hl, if_pos (by rfl), if_neg (by omega)]
end Go.Proofs.YtngllchoiffniaaGreatDoor
end
section
namespace Key
open Bson (Val)
def legal : Nat → Val → Prop
 | 0, x => (1 ≤ x.kind ∧ x.kind ≤ 12) ∧ x.kind ≠ 6 ∧ x.kind ≠ 7
 | L + 1, x => (1 ≤ x.kind ∧ x.kind ≤ 12) ∧ (x.kind = 6 → ∀ p ∈ x.f, legal L p.2) ∧ (x.kind = 7 → ∀ v ∈ x.l, legal L v)
theorem legal_leaf {x : Val} (hk : 1 ≤ x.kind ∧ x.kind ≤ 12) (h6 : x.kind ≠ 6) (h7 : x.kind ≠ 7) : ∀ L, legal L x
 | 0 => ⟨hk, h6, h7⟩
 | _ + 1 => ⟨hk, fun e => absurd e h6, fun e => absurd e h7⟩
theorem legal.kind {x : Val} : ∀ {L : Nat}, legal L x → 1 ≤ x.kind ∧ x.kind ≤ 12
 | 0, h => h.1
 | _ + 1, h => h.1
theorem legal.fits : ∀ {L : Nat} {x : Val}, legal L x → Key.fits L x
 | 0, _, h => h.2
 | _ + 1, _, h => ⟨fun e p hp => (h.2.1 e p hp).fits, fun e v hv => (h.2.2 e v hv).fits⟩
end Key
end
section
namespace Go.Proofs.YtngllchoiffniaaGreatDoor
open Go.ChangeShapes Go.WideShapes Go.ChangeAt Go.RowKit
open Seal
open Bson (Val)
section
variable {H : Type} {enc : TypeId × Value → H} {W : World}
def Fit (t : TypeId) (d : DataW H) : Prop := ∀ n ∈ d.weights Tryz.prog t, n ≤ 140737488355328
theorem fit_part {t : TypeId} {fs : Array Field} (ht : Tryz.prog.underlying t = some (.struct fs)) {parts : List (DataW H)} (h : Fit t (.agg parts)) {j : Nat} {f : Field} {d : DataW H} (hf : fs[j]? = some f) (hd : parts[j]? = some d) : Fit f.type d := by
 intro n hn
 refine h n ?_
 simp only [DataW.weights, ht]
 exact DataW.weights_mem_each (j := j) (by simp [hf]) hd n hn
theorem fit_elem {t e : TypeId} (ht : Tryz.prog.underlying t = some (.slice e)) {elems spare : List (DataW H)} (h : Fit t (.slice elems spare)) {d : DataW H} (hd : d ∈ elems) : Fit e d := by
 intro n hn
 refine h n ?_
 simp only [DataW.weights, ht, List.mem_cons, List.mem_append]
 exact Or.inr (Or.inl (weightsAll_mem hd n hn))
theorem fit_len {t e : TypeId} (ht : Tryz.prog.underlying t = some (.slice e)) {elems spare : List (DataW H)} (h : Fit t (.slice elems spare)) : (elems.length + spare.length) * Tryz.prog.bytesOf e ≤ 140737488355328 := by
 refine h _ ?_
 simp [DataW.weights, ht]
theorem fit_str {t : TypeId} {s : ByteArray} (h : Fit (H := H) t (.lit (.string s.data.toList))) : s.size ≤ 140737488355328 := by
 have := h s.data.toList.length (by simp [DataW.weights])
 rwa [show s.data.toList.length = s.size from Array.length_toList] at this
theorem fit_of {ts : List TypeId} {ds : List (DataW H)} (hw : (DataW.weightsEach Tryz.prog ts ds).all (· ≤ reachBytes) = true) {j : Nat} {t : TypeId} {d : DataW H} (hj : ts[j]? = some t) (hdj : ds[j]? = some d) : Fit t d := fun n hn => by
 have h1 := of_decide_eq_true (List.all_eq_true.1 hw n (DataW.weights_mem_each hj hdj n hn))
 rw [reach_eq] at h1
 omega
theorem cellsU8 : Tryz.prog.cellsOf 5 = 1 := by kernel_rfl
theorem bytesU8 : Tryz.prog.bytesOf 5 = 1 := by kernel_rfl
theorem cellsVal : Tryz.prog.cellsOf 35 = 6 := by kernel_rfl
theorem bytesVal : Tryz.prog.bytesOf 35 = 104 := by kernel_rfl
theorem cellsFld : Tryz.prog.cellsOf 38 = 7 := by kernel_rfl
theorem bytesFld : Tryz.prog.bytesOf 38 = 120 := by kernel_rfl
theorem cellsInt : Tryz.prog.cellsOf 3 = 1 := by kernel_rfl
theorem cellsI64 : Tryz.prog.cellsOf 2 = 1 := by kernel_rfl
theorem cellsBy : Tryz.prog.cellsOf 32 = 1 := by kernel_rfl
theorem cellsFs : Tryz.prog.cellsOf 33 = 1 := by kernel_rfl
theorem cellsVs : Tryz.prog.cellsOf 22 = 1 := by kernel_rfl
theorem wf_i64 {n : Int} (h : (Lit.int .i64 n).wf = true) : -9223372036854775808 ≤ n ∧ n ≤ 9223372036854775807 := by
 have h1 : IntKind.i64.min = -9223372036854775808 := rfl
 have h2 : IntKind.i64.max = 9223372036854775807 := rfl
 simp only [Lit.wf, Bool.and_eq_true, decide_eq_true_eq] at h
 omega
theorem open_bytes {fuel : Nat} {cs : List Value} {x : DataW H × List MemPlace} (h : DataW.trod enc Tryz.prog W 0 (fun _ => true) true fuel 32 cs = some x) (hx : Fit 32 x.1) :
  ∃ (a : Option Addr) (c : Nat) (l : List Nat), cs = [.slice a l.length c] ∧ l.length ≤ c ∧ c ≤ 9223372036854775807 ∧ Oct l ∧ l.length ≤ 140737488355328 ∧ BytesIn W (fun _ => True) a l := by
 rcases open_ints Tryz.underlying32 Tryz.underlying5 cellsU8 h with ⟨rfl, hd⟩ | ⟨a, len, cap, zs, rfl, _, hl, hm, hz, hd, hcell, hwz⟩
 ·exact ⟨none, 0, [], rfl, Nat.le_refl _, by omega, (fun c hc => by cases hc), by simp, .inl rfl⟩
 ·simp only [if_true] at hz
  have hm' : cap ≤ 9223372036854775807 := hm
  have hwf : ∀ j, j < zs.length → 0 ≤ zs.getD j 0 ∧ zs.getD j 0 < 256 := fun j hj => by
   rw [List.getD_eq_getElem?_getD, List.getElem?_eq_getElem hj]
   exact u8_wf (hwz _ (List.getElem_mem hj))
  have hfl := fit_len Tryz.underlying32 (by rw [hd] at hx; exact hx)
  rw [bytesU8] at hfl
  have hll : ((zs.take len).map Int.toNat).length = len := by simp; omega
  refine ⟨some a, cap, (zs.take len).map Int.toNat, by rw [hll], by rw [hll]; exact hl, hm', ?_, ?_, ?_⟩
  ·intro c hc
   obtain ⟨z, hzm, rfl⟩ := List.mem_map.1 hc
   have := u8_wf (hwz z (List.mem_of_mem_take hzm))
   omega
  ·rw [hll]
   simp [lits] at hfl
   omega
  ·by_cases h0 : len = 0
   ·subst h0; exact .inl rfl
   ·obtain ⟨b, off, spot⟩ := a
    have hspot : spot = none := by simpa [Addr.add] using World.cell?_spot (hcell 0 (by omega))
    subst hspot
    refine .inr ⟨b, off, rfl, trivial, fun j hj => ?_⟩
    rw [hll] at hj
    have hw := hwf j (by omega)
    have := hcell j (by omega)
    rw [show (⟨b, off, none⟩ : Addr).add j = ⟨b, off + j, none⟩ by (unfold Addr.add; split <;> simp_all)] at this
    rw [this]
    have e : (((zs.take len).map Int.toNat).getD j 0 : Nat) = (zs.getD j 0).toNat := by
     simp [List.getD_eq_getElem?_getD, show j < len by omega, List.getElem?_eq_getElem (show j < zs.length by omega)]
    rw [e, Int.toNat_of_nonneg hw.1]
theorem six_list {cs : List Value} (h : cs.length = 6) : ∃ c0 c1 c2 c3 c4 c5, cs = [c0, c1, c2, c3, c4, c5] := by
 match cs, h with
 | [c0, c1, c2, c3, c4, c5], _ => exact ⟨_, _, _, _, _, _, rfl⟩
theorem add_add (a : Addr) (i j : Nat) : (a.add i).add j = a.add (i + j) := Go.Deep.add_add a i j
theorem open_each {t e : TypeId} {size fuel : Nat} {cs : List Value} {x : DataW H × List MemPlace} (ht : Tryz.prog.underlying t = some (.slice e)) (hc : Tryz.prog.cellsOf e = size) (hpos : 0 < size) (h : DataW.trod enc Tryz.prog W 0 (fun _ => true) true fuel t cs = some x) (hx : Fit t x.1) :
  (cs = [.slice none 0 0]) ∨ ∃ (a : Addr) (len cap n : Nat), fuel = n + 1 ∧ cs = [.slice (some a) len cap] ∧ (0 < len → a = ⟨a.block, a.off, none⟩) ∧ len ≤ cap ∧ cap ≤ 9223372036854775807 ∧ len * Tryz.prog.bytesOf e ≤ 140737488355328 ∧
   ∀ i, i < len → ∃ (cs' : List Value) (y : DataW H × List MemPlace), cs'.length = size ∧ (∀ j, j < size → W.cell? ⟨a.block, a.off + (i * size + j), none⟩ = cs'[j]?) ∧ DataW.trod enc Tryz.prog W 0 (fun _ => true) true n e cs' = some y ∧ Fit e y.1 := by
 rcases DataW.trod_slice ht h with ⟨rfl, _⟩ | ⟨a, len, cap, elems, rest, n, hfu, rfl, rfl, hb, hl, hm, hlen, hel, hsp, hns⟩
 ·exact .inl rfl
 ·have hfl := fit_len ht hx
  have hm' : cap ≤ 9223372036854775807 := hm
  have hlen2 : len * Tryz.prog.bytesOf e ≤ 140737488355328 := by
   simp only [List.length_map] at hfl
   exact Nat.le_trans (Nat.mul_le_mul_right _ (by omega)) hfl
  have each : ∀ i, i < len → ∃ (cs' : List Value) (y : DataW H × List MemPlace), cs'.length = size ∧ (∀ j, j < size → W.cell? (a.add (i * size + j)) = cs'[j]?) ∧ DataW.trod enc Tryz.prog W 0 (fun _ => true) true n e cs' = some y ∧ Fit e y.1 := by
   intro i hi
   have h1 := hel i hi
   rw [List.getElem?_eq_getElem (by omega)] at h1
   obtain ⟨cs', h2, h3⟩ := Option.bind_eq_some_iff.1 h1
   obtain ⟨_, h4, h5⟩ := World.cells?_some h2
   rw [hc] at h4 h5
   refine ⟨cs', _, h4, fun j hj => ?_, h3, fit_elem ht hx (List.mem_map.2 ⟨_, List.getElem_mem _, rfl⟩)⟩
   rw [← h5 j hj, add_add]
  have ha : 0 < len → a = ⟨a.block, a.off, none⟩ := fun h0 => by
   obtain ⟨cs', y, h4, h5, _⟩ := each 0 h0
   have h6 := h5 0 hpos
   rw [Nat.zero_mul, Nat.add_zero, List.getElem?_eq_getElem (by omega)] at h6
   exact addr_spot h6
  refine .inr ⟨a, len, cap, n, hfu, rfl, ha, hl, hm', hlen2, fun i hi => ?_⟩
  obtain ⟨cs', y, h4, h5, h7⟩ := each i hi
  refine ⟨cs', y, h4, fun j hj => ?_, h7⟩
  have h8 := h5 j hj
  rw [ha (by omega), add_plain] at h8
  exact h8
theorem seven_list {cs : List Value} (h : cs.length = 7) : ∃ c0 c1 c2 c3 c4 c5 c6, cs = [c0, c1, c2, c3, c4, c5, c6] := by
 match cs, h with
 | [c0, c1, c2, c3, c4, c5, c6], _ => exact ⟨_, _, _, _, _, _, _, rfl⟩
theorem row_of {β : Type} [Inhabited β] {n : Nat} {p : Nat → β → Prop} (h : ∀ i, i < n → ∃ x, p i x) : ∃ l : List β, l.length = n ∧ ∀ i (hi : i < l.length), p i l[i] := by
 obtain ⟨f, hf⟩ := Go.Deep.choose_lt h
 refine ⟨(List.range n).map f, by simp, fun i hi => ?_⟩
 have hi' : i < n := by simpa using hi
 simpa using hf i hi'
theorem open_val (fuel : Nat) : ∀ (cs : List Value) (x : DataW H × List MemPlace), DataW.trod enc Tryz.prog W 0 (fun _ => true) true fuel 35 cs = some x → Fit 35 x.1 →
  ∃ X c0 c1 c2 c3 c4 c5, cs = [c0, c1, c2, c3, c4, c5] ∧ VIn W (fun _ => True) fuel X (.agg #[c0, c1, c2, c3, c4, c5]) := by
 induction fuel using Nat.strongRecOn with
 | _ fuel ih =>
  intro cs x h hx
  obtain ⟨xs, n, rfl, rfl, hlen, hxl, hf⟩ := DataW.trod_struct Tryz.underlying35 h
  rw [cellsVal] at hlen
  obtain ⟨c0, c1, c2, c3, c4, c5, rfl⟩ := six_list hlen
  have hxl6 : xs.length = 6 := hxl
  have part : ∀ (i : Nat) (f : Field), (#[{ name := "Kind", type := 3, offset := 0, embedded := false, tag := "", pkgPath := "", byteOffset := 0 }, { name := "N", type := 2, offset := 1, embedded := false, tag := "", pkgPath := "", byteOffset := 8 }, { name := "S", type := 9, offset := 2, embedded := false, tag := "", pkgPath := "", byteOffset := 16 }, { name := "B", type := 32, offset := 3, embedded := false, tag := "", pkgPath := "", byteOffset := 32 }, { name := "F", type := 33, offset := 4, embedded := false, tag := "", pkgPath := "", byteOffset := 56 }, { name := "L", type := 22, offset := 5, embedded := false, tag := "", pkgPath := "", byteOffset := 80 }] : Array Field)[i]? = some f →
    ∃ y, DataW.trod enc Tryz.prog W 0 (fun _ => true) true n f.type (([c0, c1, c2, c3, c4, c5].drop f.offset).take (Tryz.prog.cellsOf f.type)) = some y ∧ Fit f.type y.1 := by
   intro i f hi
   have h1 := hf i f hi
   have hi6 : i < 6 := (Array.getElem?_eq_some_iff.1 hi).1
   rw [List.getElem?_eq_getElem (by omega)] at h1
   exact ⟨_, h1, fit_part Tryz.underlying35 hx hi (by rw [List.getElem?_map, List.getElem?_eq_getElem (by omega)]; rfl)⟩
  obtain ⟨y0, t0, f0⟩ := part 0 { name := "Kind", type := 3, offset := 0, embedded := false, tag := "", pkgPath := "", byteOffset := 0 } rfl
  obtain ⟨y1, t1, f1⟩ := part 1 { name := "N", type := 2, offset := 1, embedded := false, tag := "", pkgPath := "", byteOffset := 8 } rfl
  obtain ⟨y2, t2, f2⟩ := part 2 { name := "S", type := 9, offset := 2, embedded := false, tag := "", pkgPath := "", byteOffset := 16 } rfl
  obtain ⟨y3, t3, f3⟩ := part 3 { name := "B", type := 32, offset := 3, embedded := false, tag := "", pkgPath := "", byteOffset := 32 } rfl
  obtain ⟨y4, t4, f4⟩ := part 4 { name := "F", type := 33, offset := 4, embedded := false, tag := "", pkgPath := "", byteOffset := 56 } rfl
  obtain ⟨y5, t5, f5⟩ := part 5 { name := "L", type := 22, offset := 5, embedded := false, tag := "", pkgPath := "", byteOffset := 80 } rfl
  clear part hf h hx
  simp only [cellsInt, cellsI64, cellsStr, cellsBy, cellsFs, cellsVs, List.drop, List.take] at t0 t1 t2 t3 t4 t5
  obtain ⟨k, hk, _, hkw⟩ := DataW.trod_int Tryz.underlying3 t0
  obtain ⟨nn, hnn, _, hnw⟩ := DataW.trod_int Tryz.underlying2 t1
  obtain ⟨s, hs, hy2, _⟩ := DataW.trod_string Tryz.underlying9 t2
  obtain ⟨ba, bc, b, hb, hbc, hbm, hbo, hbl, hB⟩ := open_bytes t3 f3
  rw [hy2] at f2
  have hsl := fit_str f2
  injection hk with hk; injection hnn with hnn; injection hs with hs; injection hb with hb
  subst hk hnn hs hb
  obtain ⟨hk0, hk1⟩ := wf_i64 hkw
  obtain ⟨hn0, hn1⟩ := wf_i64 hnw
  -- the fields
  have hF : ∃ (fa : Option Addr) (fc : Nat) (f : List (ByteArray × Val)), c4 = .slice fa f.length fc ∧ f.length ≤ fc ∧ fc ≤ 9223372036854775807 ∧ f.length ≤ 1172812402961 ∧ FieldsIn W (fun _ => True) (VIn W (fun _ => True) n) fa f := by
   rcases open_each Tryz.underlying33 cellsFld (by decide) t4 f4 with h0 | ⟨a, len, cap, m, rfl, hcs, ha, hl, hm, hbt, hall⟩
   ·injection h0 with h0
    exact ⟨none, 0, [], h0, Nat.le_refl _, by omega, by simp, .inl rfl⟩
   ·injection hcs with hcs
    rw [bytesFld] at hbt
    have each : ∀ i, i < len → ∃ (q : ByteArray × Val), W.cell? ⟨a.block, a.off + i * 7, none⟩ = some (.string q.1) ∧ q.1.size ≤ 140737488355328 ∧ ∃ v, SixAt W a.block (a.off + i * 7 + 1) v ∧ VIn W (fun _ => True) (m + 1) q.2 v := by
     intro i hi
     obtain ⟨cs', y, h1, h2, h3, h4⟩ := hall i hi
     obtain ⟨ys, m', rfl, rfl, hl7, hyl, hg⟩ := DataW.trod_struct Tryz.underlying38 h3
     obtain ⟨d0, d1, d2, d3, d4, d5, d6, rfl⟩ := seven_list h1
     have hyl2 : ys.length = 2 := hyl
     have g0 := hg 0 { name := "Name", type := 9, offset := 0, embedded := false, tag := "", pkgPath := "", byteOffset := 0 } rfl
     have g1 := hg 1 { name := "V", type := 35, offset := 1, embedded := false, tag := "", pkgPath := "", byteOffset := 16 } rfl
     rw [List.getElem?_eq_getElem (by omega)] at g0 g1
     simp only [cellsStr, cellsVal, List.drop, List.take] at g0 g1
     have e0 : Fit 9 ys[0].1 := fit_part Tryz.underlying38 h4 (j := 0) (f := { name := "Name", type := 9, offset := 0, embedded := false, tag := "", pkgPath := "", byteOffset := 0 }) rfl (by rw [List.getElem?_map, List.getElem?_eq_getElem (by omega)]; rfl)
     have e1 : Fit 35 ys[1].1 := fit_part Tryz.underlying38 h4 (j := 1) (f := { name := "V", type := 35, offset := 1, embedded := false, tag := "", pkgPath := "", byteOffset := 16 }) rfl (by rw [List.getElem?_map, List.getElem?_eq_getElem (by omega)]; rfl)
     obtain ⟨nm, hnm, hny, _⟩ := DataW.trod_string Tryz.underlying9 g0
     rw [hny] at e0
     injection hnm with hnm
     obtain ⟨X, q0, q1, q2, q3, q4, q5, hq, hV⟩ := ih m' (by omega) _ _ g1 e1
     injection hq with hq0 hq; injection hq with hq1 hq; injection hq with hq2 hq; injection hq with hq3 hq; injection hq with hq4 hq; injection hq with hq5 hq
     subst hq0 hq1 hq2 hq3 hq4 hq5 hnm
     refine ⟨(nm, X), h2 0 (by omega), fit_str e0, _, ⟨d1, d2, d3, d4, d5, d6, rfl, h2 1 (by omega), h2 2 (by omega), h2 3 (by omega), h2 4 (by omega), h2 5 (by omega), h2 6 (by omega)⟩, hV.up (by omega)⟩
    haveI : Inhabited (ByteArray × Val) := ⟨(⟨#[]⟩, Bson.zero)⟩
    obtain ⟨f, hfl, hff⟩ := row_of each
    refine ⟨some a, cap, f, by rw [hfl]; exact hcs, by omega, hm, by omega, ?_⟩
    by_cases h0 : len = 0
    ·exact .inl (List.eq_nil_of_length_eq_zero (by omega))
    ·exact .inr ⟨a.block, a.off, congrArg some (ha (by omega)), trivial, hff⟩
  have hL : ∃ (la : Option Addr) (lc : Nat) (l : List Val), c5 = .slice la l.length lc ∧ l.length ≤ lc ∧ lc ≤ 9223372036854775807 ∧ l.length ≤ 1353245080339 ∧ ItemsIn W (fun _ => True) (VIn W (fun _ => True) n) la l := by
   rcases open_each Tryz.underlying22 cellsVal (by decide) t5 f5 with h0 | ⟨a, len, cap, m, rfl, hcs, ha, hl, hm, hbt, hall⟩
   ·injection h0 with h0
    exact ⟨none, 0, [], h0, Nat.le_refl _, by omega, by simp, .inl rfl⟩
   ·injection hcs with hcs
    rw [bytesVal] at hbt
    have each : ∀ i, i < len → ∃ (q : Val), ∃ v, SixAt W a.block (a.off + i * 6) v ∧ VIn W (fun _ => True) (m + 1) q v := by
     intro i hi
     obtain ⟨cs', y, h1, h2, h3, h4⟩ := hall i hi
     obtain ⟨X, q0, q1, q2, q3, q4, q5, rfl, hV⟩ := ih m (by omega) _ _ h3 h4
     exact ⟨X, _, ⟨q0, q1, q2, q3, q4, q5, rfl, h2 0 (by omega), h2 1 (by omega), h2 2 (by omega), h2 3 (by omega), h2 4 (by omega), h2 5 (by omega)⟩, hV.up (by omega)⟩
    haveI : Inhabited Val := ⟨Bson.zero⟩
    obtain ⟨f, hfl, hff⟩ := row_of each
    refine ⟨some a, cap, f, by rw [hfl]; exact hcs, by omega, hm, by omega, ?_⟩
    by_cases h0 : len = 0
    ·exact .inl (List.eq_nil_of_length_eq_zero (by omega))
    ·exact .inr ⟨a.block, a.off, congrArg some (ha (by omega)), trivial, hff⟩
  obtain ⟨fa, fc, f, rfl, hfc, hfm, hfl, hFI⟩ := hF
  obtain ⟨la, lc, l, rfl, hlc, hlm, hll, hLI⟩ := hL
  exact ⟨.mk k nn s b f l, _, _, _, _, _, _, rfl, ba, fa, la, bc, fc, lc, rfl, ⟨hk0, hk1, hn0, hn1, hsl, hbl, hfl, hll, hbo⟩, ⟨hbc, hbm⟩, ⟨hfc, hfm⟩, ⟨hlc, hlm⟩, hB, hFI, hLI⟩
theorem open_values {base : Nat} {v : Value} {d : DataW H} {ps : List MemPlace} (hval : Value.okWide Tryz.prog W .any base 22 v) (hd : DataW.Trod enc Tryz.prog W 0 (fun _ => true) true 22 v d ps) (hx : Fit 22 d) :
  ∃ h a c l, v = .slice a l.length c ∧ l.length ≤ c ∧ c ≤ 9223372036854775807 ∧ l.length ≤ 1353245080339 ∧ ItemsIn W (fun g => g < W.heap.size) (VIn W (fun g => g < W.heap.size) h) a l := by
 obtain ⟨a0, len0, cap0, rfl⟩ := okWide_slice Tryz.underlying22 hval
 obtain ⟨fuel, hf⟩ := hd
 rcases open_each Tryz.underlying22 cellsVal (by decide) hf hx with h0 | ⟨a, len, cap, m, rfl, hcs, ha, hl, hm, hbt, hall⟩
 ·simp [Value.cells] at h0
  obtain ⟨rfl, rfl, rfl⟩ := h0
  exact ⟨0, none, 0, [], rfl, Nat.le_refl _, by omega, by simp, .inl rfl⟩
 ·simp [Value.cells] at hcs
  obtain ⟨rfl, rfl, rfl⟩ := hcs
  rw [bytesVal] at hbt
  have each : ∀ i, i < len0 → ∃ (q : Val), ∃ v, SixAt W a.block (a.off + i * 6) v ∧ VIn W (fun g => g < W.heap.size) m q v := by
   intro i hi
   obtain ⟨cs', y, h1, h2, h3, h4⟩ := hall i hi
   obtain ⟨X, q0, q1, q2, q3, q4, q5, rfl, hV⟩ := open_val m _ _ h3 h4
   exact ⟨X, _, ⟨q0, q1, q2, q3, q4, q5, rfl, h2 0 (by omega), h2 1 (by omega), h2 2 (by omega), h2 3 (by omega), h2 4 (by omega), h2 5 (by omega)⟩, hV.lt.kept (Kept.of_below (Below.refl _ _)) (fun g hg => hg.2)⟩
  haveI : Inhabited Val := ⟨Bson.zero⟩
  obtain ⟨f, hfl, hff⟩ := row_of each
  refine ⟨m, some a, cap0, f, by rw [hfl], by omega, hm, by omega, ?_⟩
  by_cases h0 : len0 = 0
  ·exact .inl (List.eq_nil_of_length_eq_zero (by omega))
  ·refine .inr ⟨a.block, a.off, congrArg some (ha (by omega)), ?_, hff⟩
   obtain ⟨v, hs, _⟩ := hff 0 (by omega)
   obtain ⟨_, _, _, _, _, _, _, hc, _⟩ := hs
   exact World.block_lt_of_cell? W ⟨a.block, a.off + 0 * 6, none⟩ hc
end
end Go.Proofs.YtngllchoiffniaaGreatDoor
end
