/- CmpLeaf, OrderMath, PathMath, RegFactsOn, BsonShallow, ValLets, BsonFind, BsonIndex, OrderClass, PathMem, SixIs, ValByt, Boxes, BsonHold, BsonMeter. -/
import Derived.Lib.BytesEntry
import Derived.Lib.Bytealg
import Derived.Laws.Externs
import Derived.BigQuiet
import Derived.Deep.QuietTactic
import Derived.Deep.RegionHeld3
import Derived.WalkLawsBesides
import Derived.Laws.Rows
import Derived.OwnWalk
import Derived.Deep.MidRow
import Derived.Maps.OwnSet
import Derived.Maps.OwnOps
import Derived.Maps.Views
import Derived.StillTailTactics
import Derived.WalkSpells
import Derived.IntWalk
import Derived.Test.YtngllchoiffniaaDoorMk0
import Derived.Test.YtngllchoiffniaaDoorMk1
set_option maxRecDepth 100000
set_option maxHeartbeats 20000000
section
namespace Go.Proofs.YtngllchoiffniaaDoor
open Go.RowKit
open Seal
theorem nan_int (k : Int) (w : World) : Calls Tryd.prog 67 #[.int .i64 k] w fun e w' => e = .returned (.bool false) ∧ w = w' := by
 go_enter Tryd.func67, Tryd.ntmps67
 go_wp2
 go_ret
 exact ⟨rfl, rfl⟩
theorem cmpInt_any (a b : Int) (w : World) : Calls Tryd.prog 52 #[.int .i64 a, .int .i64 b] w (IntPost (Order.sgn a b) w) := by
 rcases Int.lt_trichotomy a b with h | h | h
 ·have HC := Lib.hid (Order.sgn_lt h)
  go_enter Tryd.func52, Tryd.ntmps52
  go_wp2_with (go_at_call 67; refine (nan_int _ _).mono ?_; rintro e w' ⟨rfl, rfl⟩)
  go_ret
  exact ⟨ret_i HC.out.symm, rfl⟩
 ·subst h
  have HC := Lib.hid (Order.sgn_self a)
  go_enter Tryd.func52, Tryd.ntmps52
  go_wp2_with (go_at_call 67; refine (nan_int _ _).mono ?_; rintro e w' ⟨rfl, rfl⟩)
  go_ret
  exact ⟨ret_i HC.out.symm, rfl⟩
 ·have HC := Lib.hid (Order.sgn_gt h)
  have h' : ¬ a < b := by omega
  go_enter Tryd.func52, Tryd.ntmps52
  go_wp2_with (go_at_call 67; refine (nan_int _ _).mono ?_; rintro e w' ⟨rfl, rfl⟩)
  go_ret
  exact ⟨ret_i HC.out.symm, rfl⟩
theorem run_bytesOf (w : World) (a : Option Addr) (l : List Nat) (n c : Nat) (hl : l.length = n) (h : SliceIs w a l) : (Extern.Bytes.bytesOf (.slice a n c)).run Tryd.prog w = .ok (strB l) w := by
 rcases h with rfl | ⟨g, o, rfl, hr⟩
 ·subst hl
  cases a with
  | none => rfl
  | some p => rfl
 ·have hx : (l.map fun x : Nat => (x : Int)).length = n := by simp [hl]
  have hq := Lib.run_loadBytesX (P := Tryd.prog) w (l.map fun x : Nat => (x : Int)) ⟨g, o, none⟩ .empty (fun j x hj => by
   have hjl : j < l.length := by have := (List.getElem?_eq_some_iff.1 hj).1; simpa using this
   have e : (⟨g, o, none⟩ : Addr).add j = ⟨g, o + j, none⟩ := by unfold Addr.add; split <;> simp_all
   rw [e, hr j hjl]
   have hj' : (l.map fun x : Nat => (x : Int))[j]? = some ((l.getD j 0 : Nat) : Int) := by simp [List.getD_eq_getElem?_getD, List.getElem?_eq_getElem hjl]
   rw [hj'] at hj
   rw [Option.some.inj hj])
  rw [hx] at hq
  show (Extern.Bytes.loadBytes ⟨g, o, none⟩ n .empty).run Tryd.prog w = _
  rw [hq]
  congr 1
  apply ByteArray.ext
  show (#[] : Array UInt8) ++ (Lib.bytesOf _).toArray = _
  unfold Lib.bytesOf strB
  rw [List.map_map]
  simp
theorem map_nat {l : List Nat} (h : Oct l) : (l.map UInt8.ofNat).map UInt8.toNat = l := by
 rw [List.map_map]
 conv => rhs; rw [← List.map_id l]
 apply List.map_congr_left
 intro x hx
 have := h x hx
 simp [Nat.mod_eq_of_lt this]
theorem bytes_strB {l : List Nat} (h : Oct l) : Order.bytes (strB l) = l := by
 unfold Order.bytes strB
 simpa using map_nat h
theorem run_octs (w : World) (a b : Option Addr) (l m : List Nat) (n c n2 c2 : Nat) (hl : l.length = n) (hm : m.length = n2) (h : SliceIs w a l) (h2 : SliceIs w b m) (ho : Oct l) (ho2 : Oct m) :
  (Extern.BytealgCompare.compare #[.slice a n c, .slice b n2 c2]).run Tryd.prog w = .ok (.int .i64 (Order.octs l m)) w := by
 change Sem.run Tryd.prog (do pure (goInt (Extern.BytealgCompare.cmp (← Extern.Bytes.bytesOf (.slice a n c)) (← Extern.Bytes.bytesOf (.slice b n2 c2))))) w = _
 simp only [Sem.run_bind, Sem.run_pure, Result.andThen, run_bytesOf w a l n c hl h, run_bytesOf w b m n2 c2 hm h2]
 rw [Lib.cmp_eq, Order.compareBytes_text, Order.text, bytes_strB ho, bytes_strB ho2]
 rfl
theorem bytesCmp_any (w : World) (a b : Option Addr) (l m : List Nat) (n c n2 c2 : Nat) (hl : l.length = n) (hm : m.length = n2) (h : SliceIs w a l) (h2 : SliceIs w b m) (ho : Oct l) (ho2 : Oct m) :
  Calls Tryd.prog 59 #[.slice a n c, .slice b n2 c2] w (IntPost (Order.octs l m) w) := by
 have hcall := run_callFunc_extern Tryd.func70 (by kernel_rfl) (by kernel_rfl) (by kernel_rfl) (e := Extern.BytealgCompare.compare) (by kernel_rfl) #[.slice a n c, .slice b n2 c2] w
 rw [run_octs w a b l m n c n2 c2 hl hm h h2 ho ho2] at hcall
 have HC := Lib.hid hcall
 clear hcall h h2 ho ho2 hl hm
 go_enter Tryd.func59, Tryd.ntmps59
 go_wp2
 rw [HC.out]
 simp only [Result.andThen]
 rw [Oper.upon_value]
 go_wp2
 go_ret
 exact ⟨rfl, rfl⟩
end Go.Proofs.YtngllchoiffniaaDoor
end
section
namespace Order
open Go
open Bson (Val)
def cls (k : Int) : Int := if k < 0 ∨ 12 < k then -1 else if k ≤ 3 then k else k - 1
def fld (c : Val → Val → Int) (p q : ByteArray × Val) : Int :=
 if sgn (cls p.2.kind) (cls q.2.kind) = 0 then (if text p.1 q.1 = 0 then c p.2 q.2 else text p.1 q.1) else sgn (cls p.2.kind) (cls q.2.kind)
def blob (a b : List Nat) : Int := if sgn a.length b.length = 0 then octs a b else sgn a.length b.length
def inner (c : Val → Val → Int) (k : Int) (x y : Val) : Int :=
 if k = 3 ∨ k = 9 ∨ k = 10 then sgn x.n y.n
 else if k = 4 then text x.s y.s
 else if k = 5 then lex (fld c) x.f y.f
 else if k = 6 then lex c x.l y.l
 else if k = 7 then blob x.b y.b
 else if k = 8 then octs x.b y.b
 else 0
def cmp : Nat → Val → Val → Int
 | 0, _, _ => 0
 | h + 1, x, y => if sgn (cls x.kind) (cls y.kind) = 0 then inner (cmp h) (cls x.kind) x y else sgn (cls x.kind) (cls y.kind)
theorem fld_cmp {c : Val → Val → Int} (h : IsCmp c) : IsCmp (fld c) := by
 have h1 : IsCmp (fun p q : ByteArray × Val => c p.2 q.2) := h.on (fun p : ByteArray × Val => p.2)
 have h2 : IsCmp (fun p q : ByteArray × Val => if text p.1 q.1 = 0 then c p.2 q.2 else text p.1 q.1) :=
  IsCmp.next (c := fun p q : ByteArray × Val => text p.1 q.1) (d := fun (_ : Unit) (p q : ByteArray × Val) => c p.2 q.2) (text_cmp.on (fun p : ByteArray × Val => p.1)) (fun _ => h1) (fun _ => ()) (fun _ _ _ => rfl)
 exact IsCmp.next (c := fun p q : ByteArray × Val => sgn (cls p.2.kind) (cls q.2.kind)) (d := fun (_ : Unit) (p q : ByteArray × Val) => if text p.1 q.1 = 0 then c p.2 q.2 else text p.1 q.1)
  (IsCmp.on IsCmp.sgn (fun p : ByteArray × Val => cls p.2.kind)) (fun _ => h2) (fun _ => ()) (fun _ _ _ => rfl)
theorem blob_cmp : IsCmp blob :=
 IsCmp.next (IsCmp.on IsCmp.sgn (fun a : List Nat => (a.length : Int))) (d := fun _ : Unit => octs) (fun _ => octs_cmp) (fun _ => ()) (fun _ _ _ => rfl)
theorem inner_cmp {c : Val → Val → Int} (h : IsCmp c) (k : Int) : IsCmp (inner c k) := by
 by_cases e1 : k = 3 ∨ k = 9 ∨ k = 10
 ·have : inner c k = fun x y => sgn x.n y.n := by funext x y; rw [inner, if_pos e1]
  rw [this]; exact IsCmp.on IsCmp.sgn _
 by_cases e2 : k = 4
 ·have : inner c k = fun x y => text x.s y.s := by funext x y; rw [inner, if_neg e1, if_pos e2]
  rw [this]; exact IsCmp.on text_cmp Val.s
 by_cases e3 : k = 5
 ·have : inner c k = fun x y => lex (fld c) x.f y.f := by funext x y; rw [inner, if_neg e1, if_neg e2, if_pos e3]
  rw [this]; exact IsCmp.on (IsCmp.lex (fld_cmp h)) Val.f
 by_cases e4 : k = 6
 ·have : inner c k = fun x y => lex c x.l y.l := by funext x y; rw [inner, if_neg e1, if_neg e2, if_neg e3, if_pos e4]
  rw [this]; exact IsCmp.on (IsCmp.lex h) Val.l
 by_cases e5 : k = 7
 ·have : inner c k = fun x y => blob x.b y.b := by funext x y; rw [inner, if_neg e1, if_neg e2, if_neg e3, if_neg e4, if_pos e5]
  rw [this]; exact IsCmp.on blob_cmp Val.b
 by_cases e6 : k = 8
 ·have : inner c k = fun x y => octs x.b y.b := by funext x y; rw [inner, if_neg e1, if_neg e2, if_neg e3, if_neg e4, if_neg e5, if_pos e6]
  rw [this]; exact IsCmp.on octs_cmp Val.b
 ·have : inner c k = fun _ _ => 0 := by funext x y; rw [inner, if_neg e1, if_neg e2, if_neg e3, if_neg e4, if_neg e5, if_neg e6]
  rw [this]; exact IsCmp.nought
theorem cmp_cmp : ∀ h, IsCmp (cmp h)
 | 0 => IsCmp.nought
 | h + 1 => IsCmp.next (IsCmp.on IsCmp.sgn (fun x : Val => cls x.kind)) (inner_cmp (cmp_cmp h)) (fun x => cls x.kind) (fun _ _ e => sgn_zero.1 e)
def turned {α : Type} (c : α → α → Int) (down : Bool) (x y : α) : Int := if down then - c x y else c x y
theorem turned_cmp {α : Type} {c : α → α → Int} (h : IsCmp c) (down : Bool) : IsCmp (turned c down) := by
 cases down with
 | false => exact h
 | true =>
  refine ⟨fun a b => ?_, fun a b => ?_, fun a b d => ?_⟩
  ·have := h.one a b
   show - c a b = -1 ∨ - c a b = 0 ∨ - c a b = 1
   omega
  ·have := h.anti a b
   show - c a b = - - c b a
   omega
  ·show - c a b ≤ 0 → - c b d ≤ 0 → - c a d ≤ 0
   have h1 := h.trans d b a
   have a1 := h.anti a b
   have a2 := h.anti b d
   have a3 := h.anti a d
   intro x y
   have := h1 (by omega) (by omega)
   omega
structure Best {α : Type} (c : α → α → Int) (z : α) (l : List α) (n k : Nat) : Prop where
 lt : k < n
 ahead : ∀ j, j < k → 0 < c (l.getD j z) (l.getD k z)
 behind : ∀ j, k < j → j < n → 0 ≤ c (l.getD j z) (l.getD k z)
section
variable {α : Type} {c : α → α → Int} {z : α} {l : List α} {n k : Nat}
theorem Best.first : Best c z l 1 0 := ⟨by omega, fun j h => by omega, fun j h1 h2 => by omega⟩
theorem Best.turn (hc : IsCmp c) (h : Best c z l n k) (e : c (l.getD n z) (l.getD k z) < 0) : Best c z l (n + 1) n :=
 ⟨by omega, fun j hj => by
  have h1 : 0 ≤ c (l.getD j z) (l.getD k z) := by
   by_cases e1 : j < k
   ·have := h.ahead j e1; omega
   ·by_cases e2 : j = k
    ·subst e2; have := hc.refl (l.getD j z); omega
    ·exact h.behind j (by omega) hj
  have a1 := hc.anti (l.getD j z) (l.getD k z)
  have a2 := hc.anti (l.getD j z) (l.getD n z)
  have := hc.lt_le e (show c (l.getD k z) (l.getD j z) ≤ 0 by omega)
  omega, fun j h1 h2 => by omega⟩
theorem Best.same (hc : IsCmp c) {k' : Nat} (h : Best c z l n k) (h' : Best c z l n k') : k = k' := by
 have a1 := hc.anti (l.getD k z) (l.getD k' z)
 have l1 := h.lt
 have l2 := h'.lt
 rcases Nat.lt_trichotomy k k' with e | e | e
 ·have := h'.ahead k e; have := h.behind k' e l2; omega
 ·exact e
 ·have := h.ahead k' e; have := h'.behind k e l1; omega
theorem Best.all (hc : IsCmp c) (h : Best c z l n k) (j : Nat) (hj : j < n) : 0 ≤ c (l.getD j z) (l.getD k z) := by
 by_cases e1 : j < k
 ·have := h.ahead j e1; omega
 ·by_cases e2 : j = k
  ·subst e2; have := hc.refl (l.getD j z); omega
  ·exact h.behind j (by omega) hj
end
def CutIs (h : Nat) (down : Bool) (x y : Val) : Prop :=
 (x.kind ≠ 7 ∧ y = x) ∨ (x.kind = 7 ∧ x.l = [] ∧ y = Bson.zero) ∨ (x.kind = 7 ∧ ∃ k, Best (turned (cmp h) down) Bson.zero x.l x.l.length k ∧ y = x.l.getD k Bson.zero)
theorem CutIs.same {h : Nat} {down : Bool} {x y y' : Val} (h1 : CutIs h down x y) (h2 : CutIs h down x y') : y = y' := by
 rcases h1 with ⟨k1, e1⟩ | ⟨k1, n1, e1⟩ | ⟨k1, k, b1, e1⟩
 ·rcases h2 with ⟨_, e2⟩ | ⟨k2, _⟩ | ⟨k2, _⟩
  ·rw [e1, e2]
  ·exact absurd k2 k1
  ·exact absurd k2 k1
 ·rcases h2 with ⟨k2, _⟩ | ⟨_, _, e2⟩ | ⟨_, k, b2, _⟩
  ·exact absurd k1 k2
  ·rw [e1, e2]
  ·have := b2.lt; rw [n1] at this; simp at this
 ·rcases h2 with ⟨k2, _⟩ | ⟨_, n2, _⟩ | ⟨_, k', b2, e2⟩
  ·exact absurd k1 k2
  ·have := b1.lt; rw [n2] at this; simp at this
  ·have := Best.same (turned_cmp (cmp_cmp h) down) b1 b2
   rw [e1, e2, this]
end Order
end
section
namespace Bson
open Go
def fieldIn : List (ByteArray × Val) → ByteArray → Val
 | [], _ => zero
 | (s, v) :: r, a => if s = a then v else fieldIn r a
def itself (x : Val) : List Val := x :: (if x.kind = 7 then x.l else [])
def all : Nat → Val → List ByteArray → List Val
 | _, x, [] => itself x
 | 0, _, _ :: _ => [zero]
 | n + 1, x, a :: r =>
  if x.kind = 6 then (if (fieldIn x.f a).kind = 0 then [zero] else all n (fieldIn x.f a) r)
  else if x.kind = 7 then (if (x.l.filter fun y => decide (y.kind = 6)).isEmpty then [zero] else (x.l.filter fun y => decide (y.kind = 6)).flatMap fun y => all n y (a :: r))
  else [zero]
end Bson
end
section
namespace Go.Proofs.YtngllchoiffniaaDoor
open Go.RowKit
section
variable {P : Program} {Q : Exit → Act → World → Prop} {md : Region.Mode}
theorem fact_on {ops : Array Oper} {A : (Nat → Value) → Act} {w0 : World} {fs : List Fact} {i : Nat} {o : Oper} (j : Nat) (b : Bool) (hg : o.guard = some (j, b)) (ha : (o.after.any fun e => Region.binds md e && e.on == j) = true) (hy : ∀ V, yielded ops (A V).tmps j = yes (V j)) (hv : ∀ v w, (factAt fs j).p v w → v = .bool b)
  (h : ∀ (V : Nat → Value) (w : World), Below w0.heap.size w0 w → Shut (∀ j, (o.after.any fun e => Region.binds md e && e.on == j) = true → (factAt fs j).p (V j) w) →
   ∀ K : Act → World → Prop, Shut (∀ v w', Below w.heap.size w w' → (factAt fs i).p v w' → K ((A V).put o.dst v) w') → Oper.wp P o (A V) w K Q) : FactStep P md ops Q A w0 fs i o := by
 intro V w hB hF K hK
 have e : V j = .bool b := hv _ _ (hF.out j ha)
 rw [if_pos (show Region.wanted o (yielded ops (A V).tmps) = true by simp [Region.wanted, hg, hy, e, yes])]
 exact h V w hB hF K (fun v w' h1 h2 => hK _ v w' rfl h1 h2)
end
end Go.Proofs.YtngllchoiffniaaDoor
end
section
namespace Go.Proofs.YtngllchoiffniaaDoor
open Go.RowKit
open Seal
open Bson (Val)
theorem ret_eq {a b : Value} (h : a = b) : Ending.returned a = .returned b := by rw [h]
theorem cell_keep {w w' : World} {p : Addr} {v : Value} (hb : Below w.heap.size w w') (h : w.cell? p = some v) : w'.cell? p = some v := (hb.cell (World.block_lt_of_cell? w _ h)).trans h
def Boxed (w : World) (cs : Array Value) (t : TypeId) (wr : World) : Prop := Below (w.heap.size + 1) (w.alloc (.cells cs t)) wr
section
variable {w wr w' : World} {cs : Array Value} {t : TypeId}
theorem Boxed.refl (w : World) (cs : Array Value) (t : TypeId) : Boxed w cs t (w.alloc (.cells cs t)) := Below.refl _ _
theorem Boxed.cell (h : Boxed w cs t wr) (j : Nat) : wr.cell? ⟨w.heap.size, j, none⟩ = cs[j]? :=
 (Below.cell h (p := ⟨w.heap.size, j, none⟩) (Nat.lt_succ_self _)).trans (cell_of_row _ _ j cs t (0, 0) (heap_alloc_new w _))
theorem Boxed.size (h : Boxed w cs t wr) : w.heap.size + 1 ≤ wr.heap.size := by have := Below.size h; simpa using this
theorem Boxed.below (h : Boxed w cs t wr) : Below w.heap.size w wr := ((Below.refl _ w).alloc (Nat.le_refl _) _).trans (Below.mono h (by simp))
theorem Boxed.step (h : Boxed w cs t wr) (hb : Below wr.heap.size wr w') : Boxed w cs t w' := Below.trans h (hb.mono h.size)
end
end Go.Proofs.YtngllchoiffniaaDoor
end
section
namespace Go.Proofs.YtngllchoiffniaaDoor
open Go.RowKit
open Seal
open Bson (Val)
theorem VIn.lt {w : World} {Q : Nat → Prop} : ∀ {h : Nat} {x : Val} {v : Value}, VIn w Q h x v → VIn w (fun g => Q g ∧ g < w.heap.size) h x v
 | 0, _, _, h => h.elim
 | h + 1, x, v, ⟨ba, fa, la, bc, fc, lc, e, h1, h2, h3, h4, hB, hF, hI⟩ => by
  refine ⟨ba, fa, la, bc, fc, lc, e, h1, h2, h3, h4, ?_, ?_, ?_⟩
  ·rcases hB with hB | ⟨g, o, e, hq, hr⟩
   ·exact .inl hB
   ·cases hx : x.b with
    | nil => exact .inl rfl
    | cons c r =>
     have := hr 0 (by rw [hx]; simp)
     exact .inr ⟨g, o, e, ⟨hq, World.block_lt_of_cell? w _ this⟩, by rw [← hx]; exact hr⟩
  ·rcases hF with hF | ⟨g, o, e, hq, hr⟩
   ·exact .inl hF
   ·cases hx : x.f with
    | nil => exact .inl rfl
    | cons c r =>
     have h0 := (hr 0 (by rw [hx]; simp)).1
     refine .inr ⟨g, o, e, ⟨hq, World.block_lt_of_cell? w _ h0⟩, ?_⟩
     rw [← hx]
     intro i hi
     obtain ⟨a1, a2, v, a3, a4⟩ := hr i hi
     exact ⟨a1, a2, v, a3, VIn.lt a4⟩
  ·rcases hI with hI | ⟨g, o, e, hq, hr⟩
   ·exact .inl hI
   ·cases hx : x.l with
    | nil => exact .inl rfl
    | cons c r =>
     obtain ⟨v0, h0, _⟩ := hr 0 (by rw [hx]; simp)
     obtain ⟨_, _, _, _, _, _, _, hc, _⟩ := h0
     refine .inr ⟨g, o, e, ⟨hq, World.block_lt_of_cell? w _ hc⟩, ?_⟩
     rw [← hx]
     intro i hi
     obtain ⟨v, a3, a4⟩ := hr i hi
     exact ⟨v, a3, VIn.lt a4⟩
theorem VIn.letters {w : World} {Q : Nat → Prop} {h : Nat} {x : Val} {v : Value} (hv : VIn w Q (h + 1) x v) :
  ∃ (xk xn : Int) (xs : ByteArray) (ba fa la : Option Addr) (bn bc fn fc ln lc : Nat), v = .agg #[.int .i64 xk, .int .i64 xn, .string xs, .slice ba bn bc, .slice fa fn fc, .slice la ln lc] ∧
   xk = x.kind ∧ xn = x.n ∧ xs = x.s ∧ bn = x.b.length ∧ fn = x.f.length ∧ ln = x.l.length ∧ Lim x ∧ FieldsIn w Q (VIn w Q h) fa x.f ∧ ItemsIn w Q (VIn w Q h) la x.l := by
 obtain ⟨ba, fa, la, bc, fc, lc, rfl, hL, _, _, _, _, hF, hI⟩ := hv
 exact ⟨_, _, _, ba, fa, la, _, bc, _, fc, _, lc, rfl, rfl, rfl, rfl, rfl, rfl, rfl, hL, hF, hI⟩
theorem below_dr {B : Nat} {a w : World} (h : Below B a w) (n : Nat) : Below B a (w.drewN n) := ⟨h.os, h.tape, h.output, h.size, h.block⟩
theorem toList_ne {s t : ByteArray} (h : ¬ s = t) : (s.toList == t.toList) = false := by
 rw [beq_eq_false_iff_ne]
 intro e
 rw [ByteArray.toList_eq, ByteArray.toList_eq] at e
 apply h
 obtain ⟨⟨a⟩⟩ := s
 obtain ⟨⟨b⟩⟩ := t
 simp only at e
 rw [e]
theorem VIn.form {w : World} {Q : Nat → Prop} {h : Nat} {x : Val} {v : Value} (hv : VIn w Q h x v) : ∃ (q1 q2 : Int) (q3 : ByteArray) (a1 : Option Addr) (n1 c1 : Nat) (a2 : Option Addr) (n2 c2 : Nat) (a3 : Option Addr) (n3 c3 : Nat), v = .agg #[.int .i64 q1, .int .i64 q2, .string q3, .slice a1 n1 c1, .slice a2 n2 c2, .slice a3 n3 c3] := by
 cases h with
 | zero => exact hv.elim
 | succ h =>
  obtain ⟨ba, fa, la, bc, fc, lc, rfl, _⟩ := hv
  exact ⟨_, _, _, _, _, _, _, _, _, _, _, _, rfl⟩
def place (f : List (ByteArray × Val)) (s : ByteArray) : Nat := f.findIdx fun p => decide (p.1 = s)
def placeI (f : List (ByteArray × Val)) (s : ByteArray) : Int := if place f s < f.length then (place f s : Int) else -1
theorem placeI_any (f : List (ByteArray × Val)) (s : ByteArray) : 0 ≤ placeI f s ↔ (f.any fun p => decide (p.1 = s)) = true := by
 have hl : place f s < f.length ↔ (f.any fun p => decide (p.1 = s)) = true := by
  unfold place
  rw [List.findIdx_lt_length, List.any_eq_true]
 rw [← hl]
 unfold placeI
 split <;> rename_i h
 ·exact ⟨fun _ => h, fun _ => by omega⟩
 ·exact ⟨fun h2 => by omega, fun h2 => absurd h2 h⟩
theorem find_any (Q : Nat → Prop) (h : Nat) (w : World) (a : Option Addr) (n c : Nat) (f : List (ByteArray × Val)) (s : ByteArray) (hn : f.length = n) (hm : n ≤ 140737488355328) (hF : FieldsIn w Q (VIn w Q h) a f) :
  Calls Tryd.prog 82 #[.slice a n c, .string s] w fun e w' => e = .returned (.int .i64 (placeI f s)) ∧ Below w.heap.size w w' := by
 have HN := Lib.hid hn
 have HF := Lib.hid hF
 clear hn hF
 go_enter Tryd.func82, Tryd.ntmps82
 go_wp2_with fail
 go_loopw [9] (fun i wr => ∃ k : Nat, i = .int .i64 k ∧ k ≤ n ∧ Hid (k ≤ place f s) ∧ Hid (Below w.heap.size w wr)) (fun i _ => n - (intOf i).toNat)
 case atStart => exact ⟨0, rfl, Nat.zero_le _, Nat.zero_le _, Below.refl _ _⟩
 case round =>
  obtain ⟨k, rfl, hk, hp, hB⟩ := hrel
  by_cases hlt : k < n
  ·have hkf : k < f.length := by rw [HN.out]; exact hlt
   obtain ⟨g, o, rfl, _, hall⟩ := HF.out.resolve_left (fun e => by rw [e] at hkf; cases hkf)
   obtain ⟨hnm, _, v', hsix, hV⟩ := hall k hkf
   have hnm := cell_keep hB.out hnm
   obtain ⟨q1, q2, q3, a1, n1, c1, a2, n2, c2, a3, n3, c3, rfl⟩ := VIn.form hV
   obtain ⟨d0, d1, d2, d3, d4, d5, he6, s0, s1, s2, s3, s4, s5⟩ := hsix.keep hB.out
   obtain ⟨rfl, rfl, rfl, rfl, rfl, rfl⟩ : d0 = .int .i64 q1 ∧ d1 = .int .i64 q2 ∧ d2 = .string q3 ∧ d3 = .slice a1 n1 c1 ∧ d4 = .slice a2 n2 c2 ∧ d5 = .slice a3 n3 c3 := by
    simp only [Value.agg.injEq, Array.mk.injEq, List.cons.injEq, and_true] at he6
    obtain ⟨e0, e1, e2, e3, e4, e5⟩ := he6
    exact ⟨e0.symm, e1.symm, e2.symm, e3.symm, e4.symm, e5.symm⟩
   clear he6 hV
   have hg : ∀ i (hi : i < f.length), (fun p : ByteArray × Val => decide (p.1 = s)) f[i] = decide (f[i].1 = s) := fun _ _ => rfl
   by_cases he : f[k].1 = s
   ·have hpl : Hid (placeI f s = (k : Int)) := by
     show _ = _
     have h1 : place f s = k := by
      have h2 : place f s ≤ k := by
       unfold place
       refine Nat.le_of_not_lt fun h3 => ?_
       have := List.not_of_lt_findIdx h3
       simp [he] at this
      have := hp.out; omega
     unfold placeI
     rw [h1, if_pos hkf]
    generalize f[k].1 = nm at *
    clear hg hall
    subst he
    go_wp2_with fail
    go_ret
    exact ⟨ret_eq (by rw [hpl.out]; rfl), hB.out.alloc hB.out.size _⟩
   ·have hp' : Hid (k + 1 ≤ place f s) := by
     show _ ≤ _
     have h1 : place f s ≠ k := by
      intro h2
      have h3 : place f s < f.length := by omega
      have := List.findIdx_getElem (w := h3)
      simp only [decide_eq_true_eq] at this
      apply he
      rw [← this]
      congr 2
      exact h2.symm
     have := hp.out; omega
    generalize f[k].1 = nm at *
    clear hg hall
    have hne := toList_ne he
    clear he
    go_wp2_with fail
    go_roundw
    case rel => exact ⟨k + 1, by go_num, by omega, hp', hB.out.alloc hB.out.size _⟩
    case measure => simp [intOf]; omega
  ·obtain rfl : n = k := by omega
   have hpl : Hid (placeI f s = -1) := by
    show _ = _
    unfold placeI
    rw [if_neg (by have := hp.out; rw [HN.out]; omega)]
   go_wp2_with fail
   go_ret
   exact ⟨ret_eq (by rw [hpl.out]; rfl), hB.out⟩
end Go.Proofs.YtngllchoiffniaaDoor
end
section
namespace Go.Proofs.YtngllchoiffniaaDoor
open Go.RowKit
open Seal
def zeroAt (l : List Nat) : Int := if l.findIdx (· == 0) < l.length then (l.findIdx (· == 0) : Int) else -1
theorem index_zero : ∀ l : List Nat, Oct l → Lib.indexByte (l.map UInt8.ofNat) 0 = zeroAt l
 | [], _ => rfl
 | c :: r, h => by
  have hc : c < 256 := h c (by simp)
  have ih := index_zero r (fun x hx => h x (by simp [hx]))
  rw [List.map_cons, Lib.indexByte, ih]
  unfold zeroAt
  rw [List.findIdx_cons]
  by_cases h0 : c = 0
  ·subst h0; simp
  ·have h1 : (UInt8.ofNat c == 0) = false := by
    rw [beq_eq_false_iff_ne]
    intro e
    have := congrArg UInt8.toNat e
    simp [Nat.mod_eq_of_lt hc] at this
    exact h0 this
   have h2 : (c == 0) = false := by simpa using h0
   rw [h1, h2]
   simp only [Bool.false_eq_true, if_false, cond_false, List.length_cons]
   by_cases hl : r.findIdx (· == 0) < r.length
   ·rw [if_pos hl, if_neg (by simp), if_pos (by omega)]; simp
   ·rw [if_neg hl, if_pos (by rfl), if_neg (by omega)]
end Go.Proofs.YtngllchoiffniaaDoor
end
section
namespace Go.Proofs.YtngllchoiffniaaDoor
open Go.RowKit
open Seal
theorem kinds (k : Int) (h0 : ¬ k < 0) (h1 : ¬ 12 < k) : k = 0 ∨ k = 1 ∨ k = 2 ∨ k = 3 ∨ k = 4 ∨ k = 5 ∨ k = 6 ∨ k = 7 ∨ k = 8 ∨ k = 9 ∨ k = 10 ∨ k = 11 ∨ k = 12 := by omega
theorem class_any (k : Int) (w : World) : Calls Tryd.prog 51 #[.int .i64 k] w (IntPost (Order.cls k) w) := by
 by_cases h : k < 0 ∨ 12 < k
 ·have HC := Lib.hid (show Order.cls k = -1 from if_pos h)
  have e0 : (k == 0) = false := by rw [beq_eq_false_iff_ne]; omega
  have e1 : (k == 1) = false := by rw [beq_eq_false_iff_ne]; omega
  have e2 : (k == 2) = false := by rw [beq_eq_false_iff_ne]; omega
  have e3 : (k == 3) = false := by rw [beq_eq_false_iff_ne]; omega
  have e4 : (k == 4) = false := by rw [beq_eq_false_iff_ne]; omega
  have e5 : (k == 5) = false := by rw [beq_eq_false_iff_ne]; omega
  have e6 : (k == 6) = false := by rw [beq_eq_false_iff_ne]; omega
  have e7 : (k == 7) = false := by rw [beq_eq_false_iff_ne]; omega
  have e8 : (k == 8) = false := by rw [beq_eq_false_iff_ne]; omega
  have e9 : (k == 9) = false := by rw [beq_eq_false_iff_ne]; omega
  have e10 : (k == 10) = false := by rw [beq_eq_false_iff_ne]; omega
  have e11 : (k == 11) = false := by rw [beq_eq_false_iff_ne]; omega
  have e12 : (k == 12) = false := by rw [beq_eq_false_iff_ne]; omega
  clear h
  go_enter Tryd.func51, Tryd.ntmps51
  go_wp2
  go_ret
  exact ⟨ret_i HC.out.symm, rfl⟩
 ·rcases kinds k (by omega) (by omega) with rfl | rfl | rfl | rfl | rfl | rfl | rfl | rfl | rfl | rfl | rfl | rfl | rfl
  all_goals
   clear h
   go_enter Tryd.func51, Tryd.ntmps51
   go_wp2
   go_ret
   exact ⟨rfl, rfl⟩
end Go.Proofs.YtngllchoiffniaaDoor
end
section
namespace Go.Proofs.YtngllchoiffniaaDoor
open Go.RowKit
open Seal
open Bson (Val)
theorem puts_kept (Q : Nat → Prop) {w : World} {G : Nat} (hQ : ¬ Q G) (o : Nat) (vs : List Value) : Kept Q w (puts w G o vs) :=
 fun g hg _ => puts_other G g (fun e => hQ (e ▸ hg)) vs w o
def Row6 (w : World) (G : Nat) (t : TypeId) (len : Nat) : Prop := ∃ cs, w.heap[G]? = some (.cells cs t (0, 0)) ∧ cs.size = len
theorem Row6.lt {w : World} {G : Nat} {t : TypeId} {len : Nat} (h : Row6 w G t len) : G < w.heap.size := by
 obtain ⟨cs, h, _⟩ := h
 exact (Array.getElem?_eq_some_iff.1 h).1
theorem Row6.at {w : World} {G : Nat} {t : TypeId} {len : Nat} (h : Row6 w G t len) {j : Nat} (hj : j < len) : (∃ v, w.cell? ⟨G, j, none⟩ = some v) ∧ w.frozen? ⟨G, j, none⟩ = false := by
 obtain ⟨cs, h, hl⟩ := h
 exact ⟨⟨cs[j]'(by omega), (cell_of_row w G j cs t _ h).trans (Array.getElem?_eq_getElem (by omega))⟩, frozen_of_row w G j _ _ h⟩
theorem Row6.puts {w : World} {G : Nat} {t : TypeId} {len : Nat} (h : Row6 w G t len) (o : Nat) (vs : List Value) (ho : o + vs.length ≤ len) :
  Row6 (puts w G o vs) G t len ∧ (∀ j, j < o ∨ o + vs.length ≤ j → (Go.Proofs.YtngllchoiffniaaDoor.puts w G o vs).cell? ⟨G, j, none⟩ = w.cell? ⟨G, j, none⟩) ∧ ∀ j, j < vs.length → (Go.Proofs.YtngllchoiffniaaDoor.puts w G o vs).cell? ⟨G, o + j, none⟩ = vs[j]? := by
 obtain ⟨cs, h, hl⟩ := h
 obtain ⟨ds, h2, h3, h4, h5, h6⟩ := puts_same G t vs w o cs h
 refine ⟨⟨ds, h2, by omega⟩, fun j hj => ?_, fun j hj => ?_⟩
 ·rw [cell_of_row _ G j _ _ _ h2, cell_of_row _ G j _ _ _ h]
  rcases hj with hj | hj
  ·exact h4 j hj
  ·exact h5 j hj
 ·rw [cell_of_row _ G _ _ _ _ h2, h6 (by omega) j hj]
theorem Row6.keep {w w' : World} {G : Nat} {t : TypeId} {len : Nat} (h : Row6 w G t len) (hb : Below w.heap.size w w') : Row6 w' G t len := by
 have hlt := h.lt
 obtain ⟨cs, h, hl⟩ := h
 exact ⟨cs, (hb.block G hlt).trans h, hl⟩
theorem SixAt.of_puts {w : World} {G : Nat} {t : TypeId} {len : Nat} (h : Row6 w G t len) (o p : Nat) (vs : List Value) (ho : o + vs.length ≤ len) (c0 c1 c2 c3 c4 c5 : Value)
  (h0 : vs[p]? = some c0) (h1 : vs[p + 1]? = some c1) (h2 : vs[p + 2]? = some c2) (h3 : vs[p + 3]? = some c3) (h4 : vs[p + 4]? = some c4) (h5 : vs[p + 5]? = some c5) : SixAt (puts w G o vs) G (o + p) (.agg #[c0, c1, c2, c3, c4, c5]) := by
 obtain ⟨_, _, h7⟩ := h.puts o vs ho
 have hl : p + 5 < vs.length := (List.getElem?_eq_some_iff.1 h5).1
 exact ⟨c0, c1, c2, c3, c4, c5, rfl, (h7 p (by omega)).trans h0, (h7 (p + 1) (by omega)).trans h1, (h7 (p + 2) (by omega)).trans h2, (h7 (p + 3) (by omega)).trans h3, (h7 (p + 4) (by omega)).trans h4, (h7 (p + 5) (by omega)).trans h5⟩
theorem SixAt.puts_before {w : World} {G : Nat} {t : TypeId} {len : Nat} (h : Row6 w G t len) {q : Nat} {v : Value} (hs : SixAt w G q v) (o : Nat) (vs : List Value) (ho : o + vs.length ≤ len) (hq : q + 6 ≤ o) : SixAt (puts w G o vs) G q v := by
 obtain ⟨c0, c1, c2, c3, c4, c5, e, h0, h1, h2, h3, h4, h5⟩ := hs
 obtain ⟨_, h6, _⟩ := h.puts o vs ho
 exact ⟨c0, c1, c2, c3, c4, c5, e, (h6 q (by omega)).trans h0, (h6 (q + 1) (by omega)).trans h1, (h6 (q + 2) (by omega)).trans h2, (h6 (q + 3) (by omega)).trans h3, (h6 (q + 4) (by omega)).trans h4, (h6 (q + 5) (by omega)).trans h5⟩
theorem VIn.shape {w : World} {Q : Nat → Prop} {h : Nat} {x : Val} {v : Value} (hv : VIn w Q h x v) : ∃ (k n : Int) (s : ByteArray) (ba fa la : Option Addr) (bl bc fl fc ll lc : Nat), v = .agg #[.int .i64 k, .int .i64 n, .string s, .slice ba bl bc, .slice fa fl fc, .slice la ll lc] := by
 cases h with
 | zero => exact hv.elim
 | succ h =>
  obtain ⟨ba, fa, la, bc, fc, lc, rfl, _⟩ := hv
  exact ⟨_, _, _, _, _, _, _, _, _, _, _, _, rfl⟩
theorem Row6.there {w : World} {G : Nat} {t : TypeId} {len : Nat} (h : Row6 w G t len) (o n : Nat) (hl : o + n ≤ len) : w.there G o n := fun j hj => by
 obtain ⟨⟨v, h1⟩, h2⟩ := h.at (j := o + j) (by omega)
 exact ⟨by rw [h1]; rfl, h2⟩
theorem SixAt.range {w : World} {g p : Nat} {c0 c1 c2 c3 c4 c5 : Value} (h : SixAt w g p (.agg #[c0, c1, c2, c3, c4, c5])) : w.rangeAt g p [c0, c1, c2, c3, c4, c5] := by
 obtain ⟨d0, d1, d2, d3, d4, d5, e, h0, h1, h2, h3, h4, h5⟩ := h
 injection e with e
 injection e with e
 injection e with e0 e; injection e with e1 e; injection e with e2 e; injection e with e3 e; injection e with e4 e; injection e with e5 e
 subst e0 e1 e2 e3 e4 e5
 intro j v hv
 match j with
 | 0 => obtain rfl := Option.some.inj hv; exact h0
 | 1 => obtain rfl := Option.some.inj hv; exact h1
 | 2 => obtain rfl := Option.some.inj hv; exact h2
 | 3 => obtain rfl := Option.some.inj hv; exact h3
 | 4 => obtain rfl := Option.some.inj hv; exact h4
 | 5 => obtain rfl := Option.some.inj hv; exact h5
 | j + 6 => simp at hv
theorem SixAt.cells {w : World} {g p : Nat} {c0 c1 c2 c3 c4 c5 : Value} (h : SixAt w g p (.agg #[c0, c1, c2, c3, c4, c5])) : w.cell? ⟨g, p, none⟩ = some c0 ∧ w.cell? ⟨g, p + 1, none⟩ = some c1 ∧ w.cell? ⟨g, p + 2, none⟩ = some c2 ∧ w.cell? ⟨g, p + 3, none⟩ = some c3 ∧ w.cell? ⟨g, p + 4, none⟩ = some c4 ∧ w.cell? ⟨g, p + 5, none⟩ = some c5 :=
 ⟨h.range 0 _ rfl, h.range 1 _ rfl, h.range 2 _ rfl, h.range 3 _ rfl, h.range 4 _ rfl, h.range 5 _ rfl⟩
def Vals (w : World) (G h : Nat) (l : List Val) (k : Nat) : Prop := ∀ i (hi : i < l.length), i < k → ∃ v, SixAt w G (i * 6) v ∧ VIn w (fun g => G < g) h l[i] v
theorem Vals.none (w : World) (G h : Nat) (l : List Val) : Vals w G h l 0 := fun _ _ hi => absurd hi (Nat.not_lt_zero _)
theorem Vals.keep {w w' : World} {G h : Nat} {l : List Val} {k : Nat} (hv : Vals w G h l k) (hb : Below w.heap.size w w') : Vals w' G h l k := fun i hi hk => by
 obtain ⟨v, h1, h2⟩ := hv i hi hk
 exact ⟨v, h1.keep hb, h2.keep hb⟩
theorem Vals.put {w : World} {G h : Nat} {t : TypeId} {len : Nat} {l : List Val} {k : Nat} (hv : Vals w G h l k) (hr : Row6 w G t len) (hk : k < l.length) (hlen : l.length * 6 = len) {c0 c1 c2 c3 c4 c5 : Value} (hn : VIn w (fun g => G < g) h l[k] (.agg #[c0, c1, c2, c3, c4, c5])) :
  Vals (puts w G (k * 6) [c0, c1, c2, c3, c4, c5]) G h l (k + 1) := by
 intro i hi hik
 have hkp : Kept (fun g => G < g) w (puts w G (k * 6) [c0, c1, c2, c3, c4, c5]) := puts_kept _ (Nat.lt_irrefl G) _ _
 have hfit : k * 6 + [c0, c1, c2, c3, c4, c5].length ≤ len := by simp; omega
 rcases Nat.lt_or_ge i k with hlt | hge
 ·obtain ⟨v, h1, h2⟩ := hv i hi hlt
  exact ⟨v, h1.puts_before hr _ _ hfit (by omega), h2.kept hkp (fun _ h => h)⟩
 ·obtain rfl : i = k := by omega
  exact ⟨_, SixAt.of_puts hr _ 0 _ hfit _ _ _ _ _ _ rfl rfl rfl rfl rfl rfl, hn.kept hkp (fun _ h => h)⟩
def Flds (w : World) (G h : Nat) (f : List (ByteArray × Val)) (k : Nat) : Prop := ∀ i (hi : i < f.length), i < k → w.cell? ⟨G, i * 7, none⟩ = some (.string f[i].1) ∧ ∃ v, SixAt w G (i * 7 + 1) v ∧ VIn w (fun g => G < g) h f[i].2 v
theorem Flds.none (w : World) (G h : Nat) (l : List (ByteArray × Val)) : Flds w G h l 0 := fun _ _ hi => absurd hi (Nat.not_lt_zero _)
theorem Flds.keep {w w' : World} {G h : Nat} {f : List (ByteArray × Val)} {k : Nat} (hv : Flds w G h f k) (hb : Below w.heap.size w w') : Flds w' G h f k := fun i hi hk => by
 obtain ⟨h0, v, h1, h2⟩ := hv i hi hk
 exact ⟨cell_keep hb h0, v, h1.keep hb, h2.keep hb⟩
theorem Flds.put {w : World} {G h : Nat} {t : TypeId} {len : Nat} {f : List (ByteArray × Val)} {k : Nat} (hv : Flds w G h f k) (hr : Row6 w G t len) (hk : k < f.length) (hlen : f.length * 7 = len) {c0 c1 c2 c3 c4 c5 : Value} (hn : VIn w (fun g => G < g) h f[k].2 (.agg #[c0, c1, c2, c3, c4, c5])) :
  Flds (puts w G (k * 7) [.string f[k].1, c0, c1, c2, c3, c4, c5]) G h f (k + 1) := by
 intro i hi hik
 have hkp : Kept (fun g => G < g) w (puts w G (k * 7) [.string f[k].1, c0, c1, c2, c3, c4, c5]) := puts_kept _ (Nat.lt_irrefl G) _ _
 have hfit : k * 7 + [Value.string f[k].1, c0, c1, c2, c3, c4, c5].length ≤ len := by simp; omega
 obtain ⟨_, hb4, hat⟩ := hr.puts (k * 7) [.string f[k].1, c0, c1, c2, c3, c4, c5] hfit
 rcases Nat.lt_or_ge i k with hlt | hge
 ·obtain ⟨h0, v, h1, h2⟩ := hv i hi hlt
  exact ⟨(hb4 _ (.inl (by omega))).trans h0, v, h1.puts_before hr _ _ hfit (by omega), h2.kept hkp (fun _ h => h)⟩
 ·obtain rfl : i = k := by omega
  exact ⟨hat 0 (by simp), _, SixAt.of_puts hr _ 1 _ hfit _ _ _ _ _ _ rfl rfl rfl rfl rfl rfl, hn.kept hkp (fun _ h => h)⟩
end Go.Proofs.YtngllchoiffniaaDoor
end
section
namespace Go.Proofs.YtngllchoiffniaaDoor
open Go.RowKit
open Seal
def SixIs (W : World) (n : Nat) (c0 c1 c2 c3 c4 c5 : Value) : Prop := W.cell? ⟨n, 0, none⟩ = some c0 ∧ W.cell? ⟨n, 1, none⟩ = some c1 ∧ W.cell? ⟨n, 2, none⟩ = some c2 ∧ W.cell? ⟨n, 3, none⟩ = some c3 ∧ W.cell? ⟨n, 4, none⟩ = some c4 ∧ W.cell? ⟨n, 5, none⟩ = some c5
theorem SixIs.keep {W W' : World} {n : Nat} {c0 c1 c2 c3 c4 c5 : Value} (h : SixIs W n c0 c1 c2 c3 c4 c5) (hb : Below W.heap.size W W') : SixIs W' n c0 c1 c2 c3 c4 c5 := by
 obtain ⟨h0, h1, h2, h3, h4, h5⟩ := h
 exact ⟨cell_keep hb h0, cell_keep hb h1, cell_keep hb h2, cell_keep hb h3, cell_keep hb h4, cell_keep hb h5⟩
theorem SixIs.new (w : World) (c0 c1 c2 c3 c4 c5 : Value) (t : TypeId) : SixIs (w.alloc (.cells #[c0, c1, c2, c3, c4, c5] t)) w.heap.size c0 c1 c2 c3 c4 c5 := by
 have e := heap_alloc_new w (.cells #[c0, c1, c2, c3, c4, c5] t)
 exact ⟨(cell_of_row _ _ 0 _ _ _ e).trans rfl, (cell_of_row _ _ 1 _ _ _ e).trans rfl, (cell_of_row _ _ 2 _ _ _ e).trans rfl, (cell_of_row _ _ 3 _ _ _ e).trans rfl, (cell_of_row _ _ 4 _ _ _ e).trans rfl, (cell_of_row _ _ 5 _ _ _ e).trans rfl⟩
end Go.Proofs.YtngllchoiffniaaDoor
end
section
namespace Go.Proofs.YtngllchoiffniaaDoor
open Go.RowKit
open Seal
open Bson (Val)
theorem VIn.byt {w : World} {Q : Nat → Prop} {h : Nat} {x : Val} {k n : Int} {s : ByteArray} {ba fa la : Option Addr} {bn bc fn fc ln lc : Nat} (hv : VIn w Q (h + 1) x (.agg #[.int .i64 k, .int .i64 n, .string s, .slice ba bn bc, .slice fa fn fc, .slice la ln lc])) : Oct x.b ∧ SliceIs w ba x.b := by
 obtain ⟨ba', fa', la', bc', fc', lc', e, hL, _, _, _, hB, _⟩ := hv
 unfold agg at e
 injection e with e; injection e with e; injection e with _ e; injection e with _ e; injection e with _ e; injection e with e3 _
 injection e3 with e3 _ _
 subst e3
 refine ⟨hL.o, ?_⟩
 rcases hB with h | ⟨g, o, e, _, h⟩
 ·exact .inl h
 ·exact .inr ⟨g, o, e, h⟩
end Go.Proofs.YtngllchoiffniaaDoor
end
section
namespace Go.Proofs.YtngllchoiffniaaDoor
open Go.RowKit
open Seal
open Bson (Val)
def IsBox (W : World) (n : Nat) (c0 c1 c2 c3 c4 c5 : Value) : Prop := W.heap[n]? = some (.cells #[c0, c1, c2, c3, c4, c5] 32 (0, 0))
section
variable {W W' : World} {n : Nat} {c0 c1 c2 c3 c4 c5 : Value}
theorem IsBox.lt (h : IsBox W n c0 c1 c2 c3 c4 c5) : n < W.heap.size := (Array.getElem?_eq_some_iff.1 h).1
theorem IsBox.cells (h : IsBox W n c0 c1 c2 c3 c4 c5) : W.cell? ⟨n, 0, none⟩ = some c0 ∧ W.cell? ⟨n, 1, none⟩ = some c1 ∧ W.cell? ⟨n, 2, none⟩ = some c2 ∧ W.cell? ⟨n, 3, none⟩ = some c3 ∧ W.cell? ⟨n, 4, none⟩ = some c4 ∧ W.cell? ⟨n, 5, none⟩ = some c5 :=
 ⟨(cell_of_row W _ 0 _ _ _ h).trans rfl, (cell_of_row W _ 1 _ _ _ h).trans rfl, (cell_of_row W _ 2 _ _ _ h).trans rfl, (cell_of_row W _ 3 _ _ _ h).trans rfl, (cell_of_row W _ 4 _ _ _ h).trans rfl, (cell_of_row W _ 5 _ _ _ h).trans rfl⟩
theorem IsBox.thaw (h : IsBox W n c0 c1 c2 c3 c4 c5) : W.frozen? ⟨n, 0, none⟩ = false ∧ W.frozen? ⟨n, 1, none⟩ = false ∧ W.frozen? ⟨n, 2, none⟩ = false ∧ W.frozen? ⟨n, 3, none⟩ = false ∧ W.frozen? ⟨n, 4, none⟩ = false ∧ W.frozen? ⟨n, 5, none⟩ = false :=
 ⟨frozen_of_row W _ 0 _ _ h, frozen_of_row W _ 1 _ _ h, frozen_of_row W _ 2 _ _ h, frozen_of_row W _ 3 _ _ h, frozen_of_row W _ 4 _ _ h, frozen_of_row W _ 5 _ _ h⟩
theorem IsBox.keep (h : IsBox W n c0 c1 c2 c3 c4 c5) (hb : Below W.heap.size W W') : IsBox W' n c0 c1 c2 c3 c4 c5 := (hb.block _ h.lt).trans h
theorem IsBox.new (w : World) (c0 c1 c2 c3 c4 c5 : Value) : IsBox (w.alloc (.cells #[c0, c1, c2, c3, c4, c5] 32)) w.heap.size c0 c1 c2 c3 c4 c5 := heap_alloc_new w _
theorem IsBox.other (h : IsBox W n c0 c1 c2 c3 c4 c5) {m : Nat} (hm : n ≠ m) (o : Nat) (vs : List Value) : IsBox (puts W m o vs) n c0 c1 c2 c3 c4 c5 := (puts_other m n hm vs W o).trans h
theorem IsBox.put (h : IsBox W n c0 c1 c2 c3 c4 c5) (d0 d1 d2 d3 d4 d5 : Value) : IsBox (puts W n 0 [d0, d1, d2, d3, d4, d5]) n d0 d1 d2 d3 d4 d5 := by
 obtain ⟨ds, h1, h2, _, _, h3⟩ := puts_same n 32 [d0, d1, d2, d3, d4, d5] W 0 _ h
 have e : ds = #[d0, d1, d2, d3, d4, d5] := by
  apply Array.ext_getElem?
  intro j
  by_cases hj : j < 6
  ·have := h3 (by simp) j (by simpa using hj)
   rw [Nat.zero_add] at this
   rw [this]
   match j, hj with | 0, _ => rfl | 1, _ => rfl | 2, _ => rfl | 3, _ => rfl | 4, _ => rfl | 5, _ => rfl
  ·rw [Array.getElem?_eq_none (by rw [h2]; simp; omega), Array.getElem?_eq_none (by simp; omega)]
 unfold IsBox
 rw [h1, e]
end
end Go.Proofs.YtngllchoiffniaaDoor
end
section
namespace Go.Proofs.YtngllchoiffniaaDoor
open Go.RowKit
open Seal
open Bson (Val)
def keyS (s : ByteArray) : Lit := .string s.data.toList
def setNms (f : List (ByteArray × Val)) (k : Nat) : DataW Unit := Maps.setOf (.agg []) ((f.take k).map fun p => keyS p.1)
def Nms (w : World) (gn : Nat) (f : List (ByteArray × Val)) : Prop :=
 w.heap[gn]? = some (.cells #[.map none] 98 (0, 0)) ∨
 ∃ bm k, w.heap[gn]? = some (.cells #[.map (some bm)] 98 (0, 0)) ∧ gn < bm ∧ k ≤ f.length ∧ w.ownsMap Tryd.prog 9 (unitElem (H := Unit)) bm k (setNms f k)
def HMove (gn : Nat) (w w' : World) : Prop :=
 w'.os = w.os ∧ w'.tape = w.tape ∧ w'.output = w.output ∧ w.heap.size ≤ w'.heap.size ∧ (∀ g cs t fr, g ≠ gn → w.heap[g]? = some (.cells cs t fr) → w'.heap[g]? = w.heap[g]?) ∧ ∀ g, g < gn → w'.heap[g]? = w.heap[g]?
def hasName (f : List (ByteArray × Val)) (s : ByteArray) : Bool := f.any fun p => decide (p.1 = s)
theorem HMove.of_below {w w' : World} {gn : Nat} (hb : Below w.heap.size w w') (hg : gn < w.heap.size) : HMove gn w w' :=
 ⟨hb.os, hb.tape, hb.output, hb.size, fun g cs t fr _ h => hb.block g (by
  refine Nat.lt_of_not_le fun hge => ?_
  rw [Array.getElem?_eq_none hge] at h; cases h), fun g hgg => hb.block g (by omega)⟩
theorem Nms.below {w w' : World} {gn : Nat} {f : List (ByteArray × Val)} (h : Nms w gn f) (hb : Below w.heap.size w w') : Nms w' gn f := by
 have hgl : ∀ o, w.heap[gn]? = some o → w'.heap[gn]? = some o := fun o ho => (hb.block gn (by
  refine Nat.lt_of_not_le fun hge => ?_
  rw [Array.getElem?_eq_none hge] at ho; cases ho)).trans ho
 rcases h with h | ⟨bm, k, h1, h2, h3, es, clock, h4, h5⟩
 ·exact .inl (hgl _ h)
 ·refine .inr ⟨bm, k, hgl _ h1, h2, h3, es, clock, ?_, h5⟩
  exact (hb.block bm (by
   refine Nat.lt_of_not_le fun hge => ?_
   rw [Array.getElem?_eq_none hge] at h4; cases h4)).trans h4
theorem Nms.lt {w : World} {gn : Nat} {f : List (ByteArray × Val)} (h : Nms w gn f) : gn < w.heap.size := by
 refine Nat.lt_of_not_le fun hge => ?_
 rcases h with h | ⟨bm, k, h1, _⟩
 ·rw [Array.getElem?_eq_none hge] at h; cases h
 ·rw [Array.getElem?_eq_none hge] at h1; cases h1
theorem hold_few (Q : Nat → Prop) (h : Nat) (w : World) (gn : Nat) (a : Option Addr) (n c : Nat) (f : List (ByteArray × Val)) (s : ByteArray) (hn : f.length = n) (hm : n ≤ 16) (hF : FieldsIn w Q (VIn w Q h) a f) (hN : Nms w gn f) :
  Calls Tryd.prog 75 #[.pointer (some ⟨gn, 0, none⟩), .slice a n c, .string s] w fun e w' => e = .returned (.bool (hasName f s)) ∧ HMove gn w w' ∧ Nms w' gn f := by
 have CF := Lib.hid (find_any Q h w a n c f s hn (by omega) hF)
 have hpi := placeI_any f s
 have HP : Hid (decide (0 ≤ placeI f s) = hasName f s) := by
  show _ = _
  by_cases h0 : 0 ≤ placeI f s
  ·rw [decide_eq_true h0]; exact (hpi.1 h0).symm
  ·rw [decide_eq_false h0]
   cases hh : hasName f s with
   | false => rfl
   | true => exact absurd (hpi.2 hh) h0
 generalize placeI f s = pl at *
 have HN := Lib.hid hN
 have hmz : (n : Int) ≤ 16 := by omega
 clear hpi hF hN hn
 go_enter Tryd.func75, Tryd.ntmps75
 go_wp2_with fail
 refine CF.out.mono ?_
 rintro e w' ⟨rfl, hb⟩
 have HB := Lib.hid hb
 clear hb
 go_wp2_with fail
 go_ret
 exact ⟨ret_eq (by rw [← HP.out]; rfl), HMove.of_below HB.out HN.out.lt, HN.out.below HB.out⟩
def Mtr (w : World) (gm : Nat) (left : Int) : Prop := w.heap[gm]? = some (.cells #[.int .i64 left] 73 (0, 0))
theorem Mtr.c0 {w : World} {gm : Nat} {left : Int} (h : Mtr w gm left) : w.cell? ⟨gm, 0, none⟩ = some (.int .i64 left) := cell_of_row w gm 0 _ _ _ h
theorem Mtr.f0 {w : World} {gm : Nat} {left : Int} (h : Mtr w gm left) : w.frozen? ⟨gm, 0, none⟩ = false := frozen_of_row w gm 0 _ _ h
theorem Mtr.lt {w : World} {gm : Nat} {left : Int} (h : Mtr w gm left) : gm < w.heap.size := World.block_lt_of_cell? w _ h.c0
theorem Mtr.keep {w w' : World} {gm : Nat} {left : Int} (h : Mtr w gm left) (hb : Below w.heap.size w w') : Mtr w' gm left := (hb.block gm h.lt).trans h
theorem Mtr.ne {w : World} {gm : Nat} {left : Int} (h : Mtr w gm left) {g o : Nat} {v : Value} (hc : w.cell? ⟨g, o, none⟩ = some v) (hv : ∀ n : Int, v ≠ .int .i64 n) : g ≠ gm := by
 rintro rfl
 have := (cell_of_row w g o _ _ _ h).symm.trans hc
 match o, this with
 | 0, h => simp at h; exact hv _ h.symm
 | o + 1, h => simp at h
theorem Mtr.ne1 {w : World} {gm : Nat} {left : Int} (h : Mtr w gm left) {g o : Nat} {v : Value} (hc : w.cell? ⟨g, o + 1, none⟩ = some v) : g ≠ gm := by
 rintro rfl
 have := (cell_of_row w g (o + 1) _ _ _ h).symm.trans hc
 simp at this
theorem grown_cell {w w' : World} {gm g o : Nat} {v : Value} (hg : w.grownBy w' (some gm)) (hc : w.cell? ⟨g, o, none⟩ = some v) (hne : g ≠ gm) : w'.cell? ⟨g, o, none⟩ = some v :=
 (World.cell?_of_block (a := ⟨g, o, none⟩) (hg.block g (World.block_lt_of_cell? w _ hc) (fun e => hne (Option.some.inj e)))).trans hc
theorem Mtr.six {w w' : World} {gm : Nat} {left : Int} (h : Mtr w gm left) (hg : w.grownBy w' (some gm)) {g p : Nat} {v : Value} (hs : SixAt w g p v) : SixAt w' g p v := by
 obtain ⟨c0, c1, c2, c3, c4, c5, e, h0, h1, h2, h3, h4, h5⟩ := hs
 have hne := h.ne1 h1
 exact ⟨c0, c1, c2, c3, c4, c5, e, grown_cell hg h0 hne, grown_cell hg h1 hne, grown_cell hg h2 hne, grown_cell hg h3 hne, grown_cell hg h4 hne, grown_cell hg h5 hne⟩
theorem VIn.metered {w w' : World} {Q : Nat → Prop} {gm : Nat} {left : Int} (hM : Mtr w gm left) (hg : w.grownBy w' (some gm)) : ∀ {h : Nat} {x : Val} {v : Value}, VIn w Q h x v → VIn w' Q h x v
 | 0, _, _, h => h.elim
 | h + 1, _, _, ⟨ba, fa, la, bc, fc, lc, e, h1, h2, h3, h4, h5, h6, h7⟩ => by
  refine ⟨ba, fa, la, bc, fc, lc, e, h1, h2, h3, h4, ?_, ?_, ?_⟩
  ·rcases h5 with h | ⟨g, o, e, hq, h⟩
   ·exact .inl h
   ·exact .inr ⟨g, o, e, hq, fun j hj => grown_cell hg (h j hj) (hM.ne (h j hj) (fun n => by simp))⟩
  ·rcases h6 with h | ⟨g, o, e, hq, h⟩
   ·exact .inl h
   ·refine .inr ⟨g, o, e, hq, fun i hi => ?_⟩
    obtain ⟨k1, k2, v, k3, k4⟩ := h i hi
    exact ⟨grown_cell hg k1 (hM.ne k1 (fun n => by simp)), k2, v, hM.six hg k3, VIn.metered hM hg k4⟩
  ·rcases h7 with h | ⟨g, o, e, hq, h⟩
   ·exact .inl h
   ·refine .inr ⟨g, o, e, hq, fun i hi => ?_⟩
    obtain ⟨v, k3, k4⟩ := h i hi
    exact ⟨v, hM.six hg k3, VIn.metered hM hg k4⟩
theorem mtake_no (w : World) (gm : Nat) (left n : Int) (hM : Mtr w gm left) (h : left < n) :
  Calls Tryd.prog 63 #[.pointer (some ⟨gm, 0, none⟩), .int .i64 n] w fun e w' => e = .returned (.bool false) ∧ w = w' := by
 have c0 := hM.c0
 clear hM
 go_enter Tryd.func63, Tryd.ntmps63
 go_wp2_with fail
 go_ret
 exact ⟨rfl, rfl⟩
theorem mtake_yes (w : World) (gm : Nat) (left n : Int) (hM : Mtr w gm left) (h0 : 0 ≤ n) (h : n ≤ left) (hl : left ≤ 65536) :
  Calls Tryd.prog 63 #[.pointer (some ⟨gm, 0, none⟩), .int .i64 n] w fun e w' => e = .returned (.bool true) ∧ Mtr w' gm (left - n) ∧ w.grownBy w' (some gm) := by
 have c0 := hM.c0
 have f0 := hM.f0
 have HM := Lib.hid hM
 have hn : ¬ left < n := by omega
 clear hM
 go_enter Tryd.func63, Tryd.ntmps63
 go_wp2_with fail
 go_ret
 refine ⟨rfl, ?_, grown_setCell ⟨rfl, rfl, rfl, Nat.le_refl _, fun _ _ _ => rfl⟩ 0 _⟩
 unfold Mtr
 rw [heap_setCell_same w gm 0 _ _ _ HM.out]
 simp
theorem grown_of_below {w w' : World} (hb : Below w.heap.size w w') (gr : Nat) : w.grownBy w' (some gr) := ⟨hb.os, hb.tape, hb.output, hb.size, fun g hg _ => hb.block g hg⟩
theorem grown_then {w w1 w' : World} {gr : Nat} (h : w.grownBy w1 (some gr)) (h2 : w1.grownBy w' (some gr)) : w.grownBy w' (some gr) :=
 ⟨h2.os.trans h.os, h2.tape.trans h.tape, h2.output.trans h.output, Nat.le_trans h.size h2.size, fun g hg hne => (h2.block g (Nat.lt_of_lt_of_le hg h.size) hne).trans (h.block g hg hne)⟩
def bareB (x : Val) : Bool :=
 Bson.bare x (x.kind == 3 || x.kind == 4 || x.kind == 10 || x.kind == 11) (x.kind == 5) (x.kind == 8 || x.kind == 9) (x.kind == 6) (x.kind == 7)
end Go.Proofs.YtngllchoiffniaaDoor
end
