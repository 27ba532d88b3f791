/- PathParse, ExprMath, ExprMem, RegCall, AccumKinds. -/
import Derived.Test.YtngllchoiffniaaDoorMk20
import Derived.Test.YtngllchoiffniaaDoorMk2
import Derived.Test.YtngllchoiffniaaDoorMk5
import Derived.Test.YtngllchoiffniaaDoorMk3
import Derived.Test.YtngllchoiffniaaDoorMk11
import Derived.Test.YtngllchoiffniaaDoorMk1
import Derived.Test.YtngllchoiffniaaDoorMk17
set_option maxRecDepth 100000
set_option maxHeartbeats 20000000
section
namespace Go.Proofs.YtngllchoiffniaaDoor
open Go.RowKit
open Seal
open Path
namespace Path
def names (l : List (List UInt8)) : List ByteArray := l.map fun x => ⟨x.toArray⟩
def PRest (l : List UInt8) (done : List (List UInt8)) (rest : ByteArray) (more : Bool) : Prop := split l = done ++ (if more then split rest.data.toList else []) ∧ done.all may = true ∧ done.length ≤ 16
theorem PRest.full {l : List UInt8} {done : List (List UInt8)} {rest : ByteArray} (h : PRest l done rest true) (h16 : done.length = 16) : parse l = none := by
 unfold parse
 rw [if_neg]
 rintro ⟨_, h2⟩
 have h3 := h.1
 simp only [if_true] at h3
 have := List.length_pos_iff.2 (split_ne rest.data.toList)
 rw [h3, List.length_append] at h2
 omega
theorem PRest.bad {l : List UInt8} {done more : List (List UInt8)} {x : List UInt8} (h : split l = done ++ x :: more) (hx : may x = false) : parse l = none := by
 unfold parse
 rw [if_neg]
 rintro ⟨h1, _⟩
 rw [h] at h1
 simp [hx] at h1
theorem PRest.done {l : List UInt8} {done : List (List UInt8)} {rest : ByteArray} (h : PRest l done rest false) : parse l = some done := by
 obtain ⟨h1, h2, h3⟩ := h
 simp only [Bool.false_eq_true, if_false, List.append_nil] at h1
 unfold parse
 rw [h1, if_pos ⟨h2, h3⟩]
end Path
end Go.Proofs.YtngllchoiffniaaDoor
end
section
namespace Go.Proofs.YtngllchoiffniaaDoor
open Bson (Val)
namespace Expr
abbrev Out := Int × Val
def leafV (k n : Int) : Val := .mk k n ⟨#[]⟩ [] [] []
def boolV (b : Bool) : Val := leafV 10 (if b then 1 else 0)
def textV (s : ByteArray) : Val := .mk 5 0 s [] [] []
def truth (x : Val) : Bool := !noneB x.kind && !((x.kind == 3 || x.kind == 4 || x.kind == 10) && x.n == 0)
def numO (r : Int × Int × Int) : Out := (r.2.2, leafV r.1 r.2.1)
def bad (e : Int) : Out := (e, Bson.zero)
def allO : List Out → Int × List Val
 | [] => (0, [])
 | x :: r => if x.1 = 0 then (if (allO r).1 = 0 then (0, x.2 :: (allO r).2) else ((allO r).1, [])) else (x.1, [])
def decideO (b : Bool) : List Out → Out
 | [] => (0, boolV (!b))
 | x :: r => if x.1 = 0 then (if truth x.2 = b then (0, boolV b) else decideO b r) else bad x.1
def two (o : Int → Int → Int × Int) (x y : Val) : Out := numO (Num.reck (o x.n y.n) x.kind y.kind)
def foldN (o : Int → Int → Int × Int) : Val → List Val → Out
 | a, [] => (0, a)
 | a, x :: r => if (two o a x).1 = 0 then foldN o (two o a x).2 r else bad (two o a x).1
def itemV (l y : Val) : Out :=
 if noneB l.kind = true ∨ noneB y.kind = true then (0, leafV 2 0)
 else if l.kind ≠ 7 ∨ numB y.kind = false then bad 12
 else (0, if y.n < 0 then (if 0 ≤ y.n + l.l.length then l.l.getD (y.n + l.l.length).toNat Bson.zero else Bson.zero) else l.l.getD y.n.toNat Bson.zero)
def joinS : List Val → ByteArray
 | [] => ⟨#[]⟩
 | x :: r => x.s ++ joinS r
def concatV (l : List Val) : Out :=
 if (l.any fun x => noneB x.kind) = true then (0, leafV 2 0)
 else if (l.any fun x => !(x.kind == 5)) = true then bad 12
 else if 65536 < (l.map fun x => x.s.size).sum then bad 3
 else (0, textV (joinS l))
def kindName (k : Int) : ByteArray :=
 if k = 0 then ⟨#[109, 105, 115, 115, 105, 110, 103]⟩
 else if k = 1 then ⟨#[109, 105, 110, 75, 101, 121]⟩
 else if k = 2 then ⟨#[110, 117, 108, 108]⟩
 else if k = 3 then ⟨#[105, 110, 116]⟩
 else if k = 4 then ⟨#[108, 111, 110, 103]⟩
 else if k = 5 then ⟨#[115, 116, 114, 105, 110, 103]⟩
 else if k = 6 then ⟨#[111, 98, 106, 101, 99, 116]⟩
 else if k = 7 then ⟨#[97, 114, 114, 97, 121]⟩
 else if k = 8 then ⟨#[98, 105, 110, 68, 97, 116, 97]⟩
 else if k = 9 then ⟨#[111, 98, 106, 101, 99, 116, 73, 100]⟩
 else if k = 10 then ⟨#[98, 111, 111, 108]⟩
 else if k = 11 then ⟨#[100, 97, 116, 101]⟩
 else if k = 12 then ⟨#[109, 97, 120, 75, 101, 121]⟩
 else ⟨#[]⟩
inductive Op where
 | add | multiply | subtract | divide | mod_ | abs | eq_ | ne_ | gt | gte | lt_ | lte | cmp | and_ | or_ | not_ | cond | ifNull | concat | size_ | arrayElemAt | type_
 deriving DecidableEq
def arity : Op → Option Nat
 | .add => none
 | .multiply => none
 | .subtract => some 2
 | .divide => some 2
 | .mod_ => some 2
 | .abs => some 1
 | .eq_ => some 2
 | .ne_ => some 2
 | .gt => some 2
 | .gte => some 2
 | .lt_ => some 2
 | .lte => some 2
 | .cmp => some 2
 | .and_ => none
 | .or_ => none
 | .not_ => some 1
 | .cond => some 3
 | .ifNull => some 2
 | .concat => none
 | .size_ => some 1
 | .arrayElemAt => some 2
 | .type_ => some 1
def args (a : Val) : List Val := if a.kind = 7 then a.l else [a]
def fits (o : Op) (n : Nat) : Bool := match arity o with | some k => n == k | none => true
def outAt (l : List Out) (i : Nat) : Out := l.getD i (bad 0)
def one (l : List Out) (f : Val → Out) : Out := if (outAt l 0).1 = 0 then f (outAt l 0).2 else bad (outAt l 0).1
def all (l : List Out) (f : List Val → Out) : Out := if (allO l).1 = 0 then f (allO l).2 else bad (allO l).1
def pairV (f : Val → Val → Out) (l : List Val) : Out := f (l.getD 0 Bson.zero) (l.getD 1 Bson.zero)
def place (c : Nat) (l : List Val) : Int := Order.cmp c (l.getD 0 Bson.zero) (l.getD 1 Bson.zero)
def apply (c : Nat) (o : Op) (l : List Out) : Out :=
 match o with
 | .add => all l (foldN Num.sumR (leafV 3 0))
 | .multiply => all l (foldN Num.mulR (leafV 3 1))
 | .subtract => all l (pairV (two Num.difR))
 | .divide => all l (pairV (two Num.quoR))
 | .mod_ => all l (pairV (two Num.remR))
 | .abs => one l fun x => numO (Num.reck (Num.absR x.n) x.kind x.kind)
 | .eq_ => all l fun l => (0, boolV (decide (place c l = 0)))
 | .ne_ => all l fun l => (0, boolV (decide (place c l ≠ 0)))
 | .gt => all l fun l => (0, boolV (decide (place c l > 0)))
 | .gte => all l fun l => (0, boolV (decide (place c l ≥ 0)))
 | .lt_ => all l fun l => (0, boolV (decide (place c l < 0)))
 | .lte => all l fun l => (0, boolV (decide (place c l ≤ 0)))
 | .cmp => all l fun l => (0, leafV 3 (place c l))
 | .and_ => decideO false l
 | .or_ => decideO true l
 | .not_ => one l fun x => (0, boolV (!truth x))
 | .cond => one l fun x => if truth x = true then outAt l 1 else outAt l 2
 | .ifNull => one l fun x => if noneB x.kind = true then outAt l 1 else (0, x)
 | .concat => all l concatV
 | .size_ => one l fun x => if x.kind = 7 then (0, leafV 3 x.l.length) else bad 12
 | .arrayElemAt => all l (pairV itemV)
 | .type_ => one l fun x => (0, textV (kindName x.kind))
end Expr
end Go.Proofs.YtngllchoiffniaaDoor
end
section
namespace Go.Proofs.YtngllchoiffniaaDoor
open Go.RowKit
open Seal
open Bson (Val)
def EvPost (w : World) (H : Nat) (o : Expr.Out) (e : Ending) (w' : World) : Prop := ∃ v, e = .returned (.tuple #[v, .int .i64 o.1]) ∧ VIn w' (fun g => w.heap.size ≤ g) H o.2 v ∧ Below w.heap.size w w'
def Ev (w : World) (t : Value) (H : Nat) (f : Nat → Val → Expr.Out) : Prop :=
 ∃ (T : TypeId) (K : FuncId) (rv : Value), t = .iface T rv ∧ (∀ u : World, (method 234 T rv "aqueduct/expr.eval").run Tryd.prog u = .ok (K, rv) u) ∧ (∀ args (u : World), (callFunc K args).run Tryd.prog u = .ok (.enter K args) u) ∧
  ∀ (W : World), Below w.heap.size w W → ∀ (Q : Nat → Prop) (hd : Nat) (d : Val) (dv : Value), VIn W Q (hd + 1) d dv → Calls Tryd.prog K #[rv, dv] W (EvPost W (H + hd) (f hd d))
theorem Ev.keep {w w' : World} {t : Value} {H : Nat} {f : Nat → Val → Expr.Out} (h : Ev w t H f) (hb : Below w.heap.size w w') : Ev w' t H f := by
 obtain ⟨T, K, rv, h1, h2, h4, h3⟩ := h
 exact ⟨T, K, rv, h1, h2, h4, fun W hW => h3 W (hb.trans (hW.mono hb.size))⟩
theorem EvPost.up {w w' : World} {H H' : Nat} {o : Expr.Out} {e : Ending} (h : EvPost w H o e w') (hH : H ≤ H') : EvPost w H' o e w' := by
 obtain ⟨v, h1, h2, h3⟩ := h
 exact ⟨v, h1, h2.up hH, h3⟩
theorem Ev.up {w : World} {t : Value} {H H' : Nat} {f : Nat → Val → Expr.Out} (h : Ev w t H f) (hH : H ≤ H') : Ev w t H' f := by
 obtain ⟨T, K, rv, h1, h2, h4, h3⟩ := h
 exact ⟨T, K, rv, h1, h2, h4, fun W hW Q hd d dv hv => (h3 W hW Q hd d dv hv).mono fun e w' h => h.up (by omega)⟩
def TermsIn (w : World) (a : Option Addr) (H : Nat) (fs : List (Nat → Val → Expr.Out)) : Prop :=
 fs = [] ∨ ∃ g o, a = some ⟨g, o, none⟩ ∧ ∀ i (hi : i < fs.length), ∃ t, w.cell? ⟨g, o + i, none⟩ = some t ∧ Ev w t H fs[i]
theorem TermsIn.keep {w w' : World} {a : Option Addr} {H : Nat} {fs : List (Nat → Val → Expr.Out)} (h : TermsIn w a H fs) (hb : Below w.heap.size w w') : TermsIn w' a H fs := by
 rcases h with h | ⟨g, o, e, h⟩
 ·exact .inl h
 ·refine .inr ⟨g, o, e, fun i hi => ?_⟩
  obtain ⟨t, h1, h2⟩ := h i hi
  exact ⟨t, cell_keep hb h1, h2.keep hb⟩
namespace Expr
end Expr
end Go.Proofs.YtngllchoiffniaaDoor
end
section
namespace Go.Proofs.YtngllchoiffniaaDoor
open Go.RowKit
open Seal
open Bson (Val)
def zero6 : Array Value := #[.int .i64 0, .int .i64 0, .string ⟨#[]⟩, .slice none 0 0, .slice none 0 0, .slice none 0 0]
structure CS (w0 : World) (cs : List Value) (er : Value) (B : Nat) (x : Val) (D : Nat → Bool) (V : Nat → Value) (W : World) (v : Value) (lo hi p : Nat) : Prop where
 pure : ∀ i, i < 5 → D i = true → V i = cs.getD i undef
 bel : Below w0.heap.size w0 W
 call : D 5 = true → V 5 = .tuple #[v, er] ∧ VIn W (fun g => lo ≤ g ∧ g < hi) B x v ∧ w0.heap.size ≤ lo ∧ hi ≤ W.heap.size
 c6 : D 6 = true → V 6 = .tuple #[v, er] ∧ D 5 = true
 c7 : D 7 = true → V 7 = v ∧ D 6 = true
 c8 : D 8 = true → V 8 = er ∧ D 6 = true
 al : D 9 = true → V 9 = .pointer (some ⟨p, 0, none⟩) ∧ w0.heap.size ≤ p ∧ p < W.heap.size ∧ ∃ cs, W.heap[p]? = some (.cells cs 32 (0, 0)) ∧ (D 10 = false → cs = zero6) ∧ (D 10 = true → v = .agg cs)
 st : D 10 = true → D 9 = true ∧ D 7 = true
 apart : D 5 = true → D 9 = true → p < lo ∨ hi ≤ p
 c11 : D 11 = true → V 11 = er ∧ D 8 = true
def CI (w0 : World) (cs : List Value) (er : Value) (B : Nat) (x : Val) (D : Nat → Bool) (V : Nat → Value) (W : World) : Prop := ∃ v lo hi p, CS w0 cs er B x D V W v lo hi p
section
variable {w0 W W' : World} {cs : List Value} {er : Value} {B : Nat} {x : Val} {D : Nat → Bool} {V : Nat → Value}
theorem setD_ne {i j : Nat} (h : j ≠ i) : setD D i j = D j := if_neg h
theorem upd_ne {i j : Nat} {v : Value} (h : j ≠ i) : upd V i v j = V j := if_neg h
theorem CI.start {V : Nat → Value} : CI w0 cs er B x (fun _ => false) V { w0 with drawn := w0.drawn + 1 } :=
 ⟨undef, 0, 0, 0, fun _ _ h => (by cases h), ⟨rfl, rfl, rfl, Nat.le_refl _, fun _ _ => rfl⟩, fun h => (by cases h), fun h => (by cases h), fun h => (by cases h), fun h => (by cases h), fun h => (by cases h), fun h => (by cases h), fun h => (by cases h), fun h => (by cases h)⟩
theorem CI.below (h : CI w0 cs er B x D V W) : Below w0.heap.size w0 W := by obtain ⟨_, _, _, _, h⟩ := h; exact h.bel
theorem CI.known (h : CI w0 cs er B x D V W) {i : Nat} (hi : i < 5) (hd : D i = true) : V i = cs.getD i undef := by obtain ⟨_, _, _, _, h⟩ := h; exact h.pure i hi hd
theorem CI.asked (h : CI w0 cs er B x D V W) (hd : D 5 = true) : ∃ v, V 5 = .tuple #[v, er] ∧ CI w0 cs er B x D V W := by
 have h' := h
 obtain ⟨v, _, _, _, h⟩ := h
 exact ⟨v, (h.call hd).1, h'⟩
theorem CI.step (h : CI w0 cs er B x D V W) {i : Nat} (hi : i < 5) {c : Value} (hc : c = cs.getD i undef) : CI w0 cs er B x (setD D i) (upd V i c) W := by
 obtain ⟨v, lo, hi', p, h⟩ := h
 have e : ∀ j, 5 ≤ j → setD D i j = D j := fun j hj => setD_ne (by omega)
 have u : ∀ j, 5 ≤ j → upd V i c j = V j := fun j hj => upd_ne (by omega)
 refine ⟨v, lo, hi', p, fun j hj hd => ?_, h.bel, ?_, ?_, ?_, ?_, ?_, ?_, ?_, ?_⟩
 ·by_cases ej : j = i
  ·subst ej; unfold upd; rw [if_pos rfl]; exact hc
  ·rw [setD_ne ej] at hd; rw [upd_ne ej]; exact h.pure j hj hd
 ·rw [e 5 (by omega), u 5 (by omega)]; exact h.call
 ·rw [e 6 (by omega), e 5 (by omega), u 6 (by omega)]; exact h.c6
 ·rw [e 7 (by omega), e 6 (by omega), u 7 (by omega)]; exact h.c7
 ·rw [e 8 (by omega), e 6 (by omega), u 8 (by omega)]; exact h.c8
 ·rw [e 9 (by omega), e 10 (by omega), u 9 (by omega)]; exact h.al
 ·rw [e 10 (by omega), e 9 (by omega), e 7 (by omega)]; exact h.st
 ·rw [e 5 (by omega), e 9 (by omega)]; exact h.apart
 ·rw [e 11 (by omega), e 8 (by omega), u 11 (by omega)]; exact h.c11
theorem CI.call (h : CI w0 cs er B x D V W) (h5 : D 5 = false) {v : Value} (hb : Below W.heap.size W W') (hv : VIn W' (fun g => W.heap.size ≤ g) B x v) : CI w0 cs er B x (setD D 5) (upd V 5 (.tuple #[v, er])) W' := by
 obtain ⟨v0, lo, hi', p, h⟩ := h
 have e : ∀ j, j ≠ 5 → setD D 5 j = D j := fun j hj => setD_ne hj
 have u : ∀ j, j ≠ 5 → upd V 5 (.tuple #[v, er]) j = V j := fun j hj => upd_ne hj
 have n6 : D 6 = false := by cases e6 : D 6 with | false => rfl | true => rw [(h.c6 e6).2] at h5; cases h5
 have n7 : D 7 = false := by cases e7 : D 7 with | false => rfl | true => rw [(h.c7 e7).2] at n6; cases n6
 have n8 : D 8 = false := by cases e8 : D 8 with | false => rfl | true => rw [(h.c8 e8).2] at n6; cases n6
 have n10 : D 10 = false := by cases e10 : D 10 with | false => rfl | true => rw [(h.st e10).2] at n7; cases n7
 have n11 : D 11 = false := by cases e11 : D 11 with | false => rfl | true => rw [(h.c11 e11).2] at n8; cases n8
 refine ⟨v, W.heap.size, W'.heap.size, p, fun j hj hd => ?_, h.bel.trans (hb.mono h.bel.size), fun _ => ⟨rfl, hv.lt, h.bel.size, Nat.le_refl _⟩, ?_, ?_, ?_, ?_, ?_, ?_, ?_⟩
 ·rw [e j (by omega)] at hd; rw [u j (by omega)]; exact h.pure j hj hd
 ·rw [e 6 (by omega), n6]; exact fun h => (by cases h)
 ·rw [e 7 (by omega), n7]; exact fun h => (by cases h)
 ·rw [e 8 (by omega), n8]; exact fun h => (by cases h)
 ·rw [e 9 (by omega), e 10 (by omega), u 9 (by omega)]
  intro h9
  obtain ⟨h1, h2, h3, c, h4, h5, h6⟩ := h.al h9
  exact ⟨h1, h2, Nat.lt_of_lt_of_le h3 hb.size, c, (hb.block p h3).trans h4, h5, fun e => by rw [n10] at e; cases e⟩
 ·rw [e 10 (by omega), n10]; exact fun h => (by cases h)
 ·rw [e 9 (by omega)]
  intro _ h9
  exact .inl (h.al h9).2.2.1
 ·rw [e 11 (by omega), n11]; exact fun h => (by cases h)
theorem CI.moved (h : CI w0 cs er B x D V W) (h5 : D 5 = true) : CI w0 cs er B x (setD D 6) (upd V 6 (V 5)) W := by
 obtain ⟨v, lo, hi', p, h⟩ := h
 have e : ∀ j, j ≠ 6 → setD D 6 j = D j := fun j hj => setD_ne hj
 have u : ∀ j, j ≠ 6 → upd V 6 (V 5) j = V j := fun j hj => upd_ne hj
 refine ⟨v, lo, hi', p, fun j hj hd => ?_, h.bel, ?_, ?_, ?_, ?_, ?_, ?_, ?_, ?_⟩
 ·rw [e j (by omega)] at hd; rw [u j (by omega)]; exact h.pure j hj hd
 ·rw [e 5 (by omega), u 5 (by omega)]; exact h.call
 ·rw [e 5 (by omega)]; exact fun _ => ⟨(h.call h5).1, h5⟩
 ·rw [e 7 (by omega), u 7 (by omega)]; exact fun h7 => ⟨(h.c7 h7).1, rfl⟩
 ·rw [e 8 (by omega), u 8 (by omega)]; exact fun h8 => ⟨(h.c8 h8).1, rfl⟩
 ·rw [e 9 (by omega), e 10 (by omega), u 9 (by omega)]; exact h.al
 ·rw [e 10 (by omega), e 9 (by omega), e 7 (by omega)]; exact h.st
 ·rw [e 5 (by omega), e 9 (by omega)]; exact h.apart
 ·rw [e 11 (by omega), e 8 (by omega), u 11 (by omega)]; exact h.c11
theorem CI.got (h : CI w0 cs er B x D V W) (h6 : D 6 = true) : ∃ v, V 6 = .tuple #[v, er] ∧ CI w0 cs er B x (setD D 7) (upd V 7 v) W ∧ CI w0 cs er B x (setD D 8) (upd V 8 er) W := by
 obtain ⟨v, lo, hi', p, h⟩ := h
 refine ⟨v, (h.c6 h6).1, ⟨v, lo, hi', p, fun j hj hd => ?_, h.bel, ?_, ?_, ?_, ?_, ?_, ?_, ?_, ?_⟩, ⟨v, lo, hi', p, fun j hj hd => ?_, h.bel, ?_, ?_, ?_, ?_, ?_, ?_, ?_, ?_⟩⟩
 ·rw [setD_ne (show j ≠ 7 by omega)] at hd; rw [upd_ne (show j ≠ 7 by omega)]; exact h.pure j hj hd
 ·rw [setD_ne (show 5 ≠ 7 by omega), upd_ne (show 5 ≠ 7 by omega)]; exact h.call
 ·rw [setD_ne (show 6 ≠ 7 by omega), setD_ne (show 5 ≠ 7 by omega), upd_ne (show 6 ≠ 7 by omega)]; exact h.c6
 ·rw [setD_ne (show 6 ≠ 7 by omega)]; exact fun _ => ⟨rfl, h6⟩
 ·rw [setD_ne (show 8 ≠ 7 by omega), setD_ne (show 6 ≠ 7 by omega), upd_ne (show 8 ≠ 7 by omega)]; exact h.c8
 ·rw [setD_ne (show 9 ≠ 7 by omega), setD_ne (show 10 ≠ 7 by omega), upd_ne (show 9 ≠ 7 by omega)]; exact h.al
 ·rw [setD_ne (show 10 ≠ 7 by omega), setD_ne (show 9 ≠ 7 by omega)]; exact fun e => ⟨(h.st e).1, rfl⟩
 ·rw [setD_ne (show 5 ≠ 7 by omega), setD_ne (show 9 ≠ 7 by omega)]; exact h.apart
 ·rw [setD_ne (show 11 ≠ 7 by omega), setD_ne (show 8 ≠ 7 by omega), upd_ne (show 11 ≠ 7 by omega)]; exact h.c11
 ·rw [setD_ne (show j ≠ 8 by omega)] at hd; rw [upd_ne (show j ≠ 8 by omega)]; exact h.pure j hj hd
 ·rw [setD_ne (show 5 ≠ 8 by omega), upd_ne (show 5 ≠ 8 by omega)]; exact h.call
 ·rw [setD_ne (show 6 ≠ 8 by omega), setD_ne (show 5 ≠ 8 by omega), upd_ne (show 6 ≠ 8 by omega)]; exact h.c6
 ·rw [setD_ne (show 7 ≠ 8 by omega), setD_ne (show 6 ≠ 8 by omega), upd_ne (show 7 ≠ 8 by omega)]; exact h.c7
 ·rw [setD_ne (show 6 ≠ 8 by omega)]; exact fun _ => ⟨rfl, h6⟩
 ·rw [setD_ne (show 9 ≠ 8 by omega), setD_ne (show 10 ≠ 8 by omega), upd_ne (show 9 ≠ 8 by omega)]; exact h.al
 ·rw [setD_ne (show 10 ≠ 8 by omega), setD_ne (show 9 ≠ 8 by omega), setD_ne (show 7 ≠ 8 by omega)]; exact h.st
 ·rw [setD_ne (show 5 ≠ 8 by omega), setD_ne (show 9 ≠ 8 by omega)]; exact h.apart
 ·rw [setD_ne (show 11 ≠ 8 by omega), upd_ne (show 11 ≠ 8 by omega)]; exact fun e => ⟨(h.c11 e).1, rfl⟩
theorem CI.err (h : CI w0 cs er B x D V W) (h8 : D 8 = true) : V 8 = er ∧ CI w0 cs er B x (setD D 11) (upd V 11 er) W := by
 obtain ⟨v, lo, hi', p, h⟩ := h
 refine ⟨(h.c8 h8).1, v, lo, hi', p, fun j hj hd => ?_, h.bel, ?_, ?_, ?_, ?_, ?_, ?_, ?_, ?_⟩
 ·rw [setD_ne (show j ≠ 11 by omega)] at hd; rw [upd_ne (show j ≠ 11 by omega)]; exact h.pure j hj hd
 ·rw [setD_ne (show 5 ≠ 11 by omega), upd_ne (show 5 ≠ 11 by omega)]; exact h.call
 ·rw [setD_ne (show 6 ≠ 11 by omega), setD_ne (show 5 ≠ 11 by omega), upd_ne (show 6 ≠ 11 by omega)]; exact h.c6
 ·rw [setD_ne (show 7 ≠ 11 by omega), setD_ne (show 6 ≠ 11 by omega), upd_ne (show 7 ≠ 11 by omega)]; exact h.c7
 ·rw [setD_ne (show 8 ≠ 11 by omega), setD_ne (show 6 ≠ 11 by omega), upd_ne (show 8 ≠ 11 by omega)]; exact h.c8
 ·rw [setD_ne (show 9 ≠ 11 by omega), setD_ne (show 10 ≠ 11 by omega), upd_ne (show 9 ≠ 11 by omega)]; exact h.al
 ·rw [setD_ne (show 10 ≠ 11 by omega), setD_ne (show 9 ≠ 11 by omega), setD_ne (show 7 ≠ 11 by omega)]; exact h.st
 ·rw [setD_ne (show 5 ≠ 11 by omega), setD_ne (show 9 ≠ 11 by omega)]; exact h.apart
 ·rw [setD_ne (show 8 ≠ 11 by omega)]; exact fun _ => ⟨rfl, h8⟩
theorem CI.made (h : CI w0 cs er B x D V W) (h9 : D 9 = false) : CI w0 cs er B x (setD D 9) (upd V 9 (.pointer (some ⟨W.heap.size, 0, none⟩))) (W.alloc (.cells zero6 32)) := by
 obtain ⟨v, lo, hi', p, h⟩ := h
 have hb : Below W.heap.size W (W.alloc (.cells zero6 32)) := (Below.refl _ _).alloc (Nat.le_refl _) _
 have n10 : D 10 = false := by cases e : D 10 with | false => rfl | true => rw [(h.st e).1] at h9; cases h9
 refine ⟨v, lo, hi', W.heap.size, fun j hj hd => ?_, h.bel.trans (hb.mono h.bel.size), ?_, ?_, ?_, ?_, ?_, ?_, ?_, ?_⟩
 ·rw [setD_ne (show j ≠ 9 by omega)] at hd; rw [upd_ne (show j ≠ 9 by omega)]; exact h.pure j hj hd
 ·rw [setD_ne (show 5 ≠ 9 by omega), upd_ne (show 5 ≠ 9 by omega)]
  intro h5
  obtain ⟨h1, h2, h3, h4⟩ := h.call h5
  exact ⟨h1, h2.keep hb, h3, Nat.le_trans h4 hb.size⟩
 ·rw [setD_ne (show 6 ≠ 9 by omega), setD_ne (show 5 ≠ 9 by omega), upd_ne (show 6 ≠ 9 by omega)]; exact h.c6
 ·rw [setD_ne (show 7 ≠ 9 by omega), setD_ne (show 6 ≠ 9 by omega), upd_ne (show 7 ≠ 9 by omega)]; exact h.c7
 ·rw [setD_ne (show 8 ≠ 9 by omega), setD_ne (show 6 ≠ 9 by omega), upd_ne (show 8 ≠ 9 by omega)]; exact h.c8
 ·rw [setD_ne (show 10 ≠ 9 by omega), n10]
  exact fun _ => ⟨rfl, h.bel.size, by simp, zero6, heap_alloc_new W _, fun _ => rfl, fun e => (by cases e)⟩
 ·rw [setD_ne (show 10 ≠ 9 by omega), n10]; exact fun e => (by cases e)
 ·rw [setD_ne (show 5 ≠ 9 by omega)]; exact fun h5 _ => .inr (h.call h5).2.2.2
 ·rw [setD_ne (show 11 ≠ 9 by omega), setD_ne (show 8 ≠ 9 by omega), upd_ne (show 11 ≠ 9 by omega)]; exact h.c11
theorem CI.kept (h : CI w0 cs er B x D V W) (h9 : D 9 = true) (h7 : D 7 = true) (h10 : D 10 = false) : ∃ p k n s ba fa la bn bc fn fc ln lc, V 9 = .pointer (some ⟨p, 0, none⟩) ∧ V 7 = .agg #[.int .i64 k, .int .i64 n, .string s, .slice ba bn bc, .slice fa fn fc, .slice la ln lc] ∧ IsBox W p (.int .i64 0) (.int .i64 0) (.string ⟨#[]⟩) (.slice none 0 0) (.slice none 0 0) (.slice none 0 0) ∧
  CI w0 cs er B x (setD D 10) (upd V 10 undef) (puts W p 0 [.int .i64 k, .int .i64 n, .string s, .slice ba bn bc, .slice fa fn fc, .slice la ln lc]) := by
 obtain ⟨v, lo, hi', p, h⟩ := h
 obtain ⟨h1, h2, h3, c, h4, h5, h6⟩ := h.al h9
 obtain ⟨k1, k2⟩ := h.c7 h7
 obtain ⟨-, j2⟩ := h.c6 k2
 obtain ⟨l1, l2, l3, l4⟩ := h.call j2
 obtain ⟨k, n, s, ba, fa, la, bn, bc, fn, fc, ln, lc, rfl⟩ := l2.shape
 have hbx : IsBox W p (.int .i64 0) (.int .i64 0) (.string ⟨#[]⟩) (.slice none 0 0) (.slice none 0 0) (.slice none 0 0) := by rw [h5 h10] at h4; exact h4
 have hap := h.apart j2 h9
 refine ⟨p, k, n, s, ba, fa, la, bn, bc, fn, fc, ln, lc, h1, k1, hbx, .agg #[.int .i64 k, .int .i64 n, .string s, .slice ba bn bc, .slice fa fn fc, .slice la ln lc], lo, hi', p, fun j hj hd => ?_, puts_below h.bel h2 _ _, ?_, ?_, ?_, ?_, ?_, ?_, ?_, ?_⟩
 ·rw [setD_ne (show j ≠ 10 by omega)] at hd; rw [upd_ne (show j ≠ 10 by omega)]; exact h.pure j hj hd
 ·rw [setD_ne (show 5 ≠ 10 by omega), upd_ne (show 5 ≠ 10 by omega)]
  exact fun _ => ⟨l1, l2.kept (puts_kept (fun g => lo ≤ g ∧ g < hi') (by omega) _ _) (fun _ z => z), l3, by rw [puts_size]; exact l4⟩
 ·rw [setD_ne (show 6 ≠ 10 by omega), setD_ne (show 5 ≠ 10 by omega), upd_ne (show 6 ≠ 10 by omega)]; exact h.c6
 ·rw [setD_ne (show 7 ≠ 10 by omega), setD_ne (show 6 ≠ 10 by omega), upd_ne (show 7 ≠ 10 by omega)]; exact h.c7
 ·rw [setD_ne (show 8 ≠ 10 by omega), setD_ne (show 6 ≠ 10 by omega), upd_ne (show 8 ≠ 10 by omega)]; exact h.c8
 ·rw [setD_ne (show 9 ≠ 10 by omega), upd_ne (show 9 ≠ 10 by omega)]
  exact fun _ => ⟨h1, h2, by rw [puts_size]; exact h3, _, hbx.put _ _ _ _ _ _, fun e => (by cases e), fun _ => rfl⟩
 ·rw [setD_ne (show 9 ≠ 10 by omega), setD_ne (show 7 ≠ 10 by omega)]; exact fun _ => ⟨h9, h7⟩
 ·rw [setD_ne (show 5 ≠ 10 by omega), setD_ne (show 9 ≠ 10 by omega)]; exact fun _ _ => hap
 ·rw [setD_ne (show 11 ≠ 10 by omega), setD_ne (show 8 ≠ 10 by omega), upd_ne (show 11 ≠ 10 by omega)]; exact h.c11
theorem CI.end (h : CI w0 cs er B x D V W) (hD : ∀ i, i < 12 → D i = true) : ∃ p k n s ba fa la bn bc fn fc ln lc lo hi, V 9 = .pointer (some ⟨p, 0, none⟩) ∧ V 11 = er ∧ IsBox W p (.int .i64 k) (.int .i64 n) (.string s) (.slice ba bn bc) (.slice fa fn fc) (.slice la ln lc) ∧
  VIn W (fun g => lo ≤ g ∧ g < hi) B x (.agg #[.int .i64 k, .int .i64 n, .string s, .slice ba bn bc, .slice fa fn fc, .slice la ln lc]) ∧ w0.heap.size ≤ lo ∧ hi ≤ W.heap.size ∧ w0.heap.size ≤ p ∧ Below w0.heap.size w0 W := by
 obtain ⟨v, lo, hi', p, h⟩ := h
 obtain ⟨h1, h2, h3, c, h4, h5, h6⟩ := h.al (hD 9 (by omega))
 obtain ⟨l1, l2, l3, l4⟩ := h.call (hD 5 (by omega))
 obtain ⟨k, n, s, ba, fa, la, bn, bc, fn, fc, ln, lc, rfl⟩ := l2.shape
 have hc := h6 (hD 10 (by omega))
 injection hc with hc
 subst hc
 exact ⟨p, k, n, s, ba, fa, la, bn, bc, fn, fc, ln, lc, lo, hi', h1, (h.c11 (hD 11 (by omega))).1, h4, l2, l3, l4, h2, h.bel⟩
end
end Go.Proofs.YtngllchoiffniaaDoor
end
section
namespace Go.Proofs.YtngllchoiffniaaDoor
open Go.RowKit
open Seal
open Bson (Val)
namespace Acc
def numV (k n : Int) : Val := .mk k n ⟨#[]⟩ [] [] []
def orN (x : Val) : Val := if x.kind = 0 then numV 2 0 else x
def KeptX (w : World) (s : Nat) (m rv : Value) (H : Nat) (x : Val) (w' : World) : Prop := ∃ v', Cells w' s m v' (wOf x) rv ∧ VIn w' (fun g => w.heap.size ≤ g) (H + 1) x v' ∧ RM (fun g => g = s) w w'
theorem KeptX.of {w w1 w' : World} {s : Nat} {m rv : Value} {H : Nat} {x : Val} (hb : Below w.heap.size w w1) (h : KeptX w1 s m rv H x w') : KeptX w s m rv H x w' := by
 obtain ⟨v', h1, h2, h3⟩ := h
 exact ⟨v', h1, h2.kept (Kept.of_below (Below.refl _ _)) (fun g hg => Nat.le_trans hb.size hg), (RM.of_below hb).trans h3 (fun _ _ h => h)⟩
def KindPost (w : World) (s : Nat) (m rv : Value) (H : Nat) (r : Int) (x : Option Val) (e : Ending) (w' : World) : Prop :=
 e = .returned (.int .i64 r) ∧ match x with
  | none => Below w.heap.size w w'
  | some x => KeptX w s m rv H x w'
theorem KindPost.of {w w1 w' : World} {s : Nat} {m rv : Value} {H : Nat} {r : Int} {x : Option Val} {e : Ending} (hb : Below w.heap.size w w1) (h : KindPost w1 s m rv H r x e w') : KindPost w s m rv H r x e w' := by
 refine ⟨h.1, ?_⟩
 have h2 := h.2
 cases x with
 | none => exact hb.trans (h2.mono hb.size)
 | some x => exact KeptX.of hb h2
theorem VIn.lim {w : World} {Q : Nat → Prop} {h : Nat} {x : Val} {v : Value} (hv : VIn w Q h x v) : Lim x := by
 cases h with
 | zero => exact hv.elim
 | succ h => obtain ⟨_, _, _, _, _, _, _, hL, _⟩ := hv; exact hL
theorem Cells.row {w : World} {s : Nat} {m rv c0 c1 c2 c3 c4 c5 : Value} {wt : Int} (h : Cells w s m (.agg #[c0, c1, c2, c3, c4, c5]) wt rv) : w.heap[s]? = some (.cells #[m, c0, c1, c2, c3, c4, c5, .int .i64 wt, rv] 41 (0, 0)) := by
 obtain ⟨d0, d1, d2, d3, d4, d5, e, h⟩ := h
 simp only [Value.agg.injEq, Array.mk.injEq, List.cons.injEq, and_true] at e
 obtain ⟨rfl, rfl, rfl, rfl, rfl, rfl⟩ := e
 exact h
theorem num_sumR {a b : Int} : (Num.sumR a b).2 = 0 → Num.In (Num.sumR a b).1 := by
 unfold Num.sumR
 split
 ·intro _; assumption
 ·intro e; cases e
theorem orNull_some (Q : Nat → Prop) (H : Nat) (x : Val) (v : Value) (w : World) (hv : VIn w Q (H + 1) x v) : Calls Tryd.prog 25 #[v] w fun e w' => ∃ v', e = .returned v' ∧ VIn w' Q (H + 1) (orN x) v' ∧ Below w.heap.size w w' := by
 obtain ⟨xk, xn, xs, ba, fa, la, bn, bc, fn, fc, ln, lc, rfl, hk, -⟩ := hv.letters
 by_cases h0 : xk = 0
 ·subst h0
  have e : orN x = numV 2 0 := if_pos hk.symm
  rw [e]
  refine (orNull_null _ _ _ _ _ w).mono ?_
  rintro e w' ⟨rfl, hb⟩
  exact ⟨_, rfl, leaf_in w' Q 2 0 (by omega) (by omega) H, hb⟩
 ·have e : orN x = x := if_neg (by rw [← hk]; exact h0)
  rw [e]
  have e1 : ((xk : Int) == 0) = false := by rw [beq_eq_false_iff_ne]; exact h0
  have HV := Lib.hid hv
  clear hv hk
  go_enter Tryd.func25, Tryd.ntmps25
  go_wp2_with fail
  have hb : Below w.heap.size w ((w.alloc (.cells #[.int .i64 xk, .int .i64 xn, .string xs, .slice ba bn bc, .slice fa fn fc, .slice la ln lc] 32)).alloc (.cells #[.int .i64 xk, .int .i64 xn, .string xs, .slice ba bn bc, .slice fa fn fc, .slice la ln lc] 32)) := ((Below.refl _ _).alloc (Nat.le_refl _) _).alloc (by simp) _
  exact bodyPost_ret (v := .agg #[.int .i64 xk, .int .i64 xn, .string xs, .slice ba bn bc, .slice fa fn fc, .slice la ln lc]) (by simp [results, Tryd.results25, go_sem]) rfl ⟨_, rfl, VIn.keep hb HV.out, hb⟩
theorem afirst_any (B s : Nat) (m u rv : Value) (wt : Int) (Q Qy : Nat → Prop) (H : Nat) (x y : Val) (v : Value) (w : World) (hB : B ≤ s) (hs : Cells w s m u wt rv) (hx : VIn w Q (H + 1) x u) (hv : VIn w Qy (H + 1) y v) (hQ : ¬ Qy s) (hT : TabsAt B w) :
  Calls Tryd.prog 17 #[.pointer (some ⟨s, 0, none⟩), v] w (KindPost w s m rv H 0 (if x.kind = 0 then some (orN y) else none)) := by
 have hlt := hs.lt
 obtain ⟨xk, xn, xs, xba, xfa, xla, xbn, xbc, xfn, xfc, xln, xlc, rfl, hxk, hxn, -⟩ := hx.letters
 obtain ⟨yk, yn, ys, ba, fa, la, bn, bc, fn, fc, ln, lc, rfl, hyk, hyn, -⟩ := hv.letters
 have hrow := hs.row
 obtain ⟨W1, hW1⟩ : ∃ W, W = w.alloc (.cells #[.int .i64 yk, .int .i64 yn, .string ys, .slice ba bn bc, .slice fa fn fc, .slice la ln lc] 32) := ⟨_, rfl⟩
 have hb1 : Below w.heap.size w W1 := by rw [hW1]; exact (Below.refl _ _).alloc (Nat.le_refl _) _
 have hbx1 : IsBox W1 w.heap.size (.int .i64 yk) (.int .i64 yn) (.string ys) (.slice ba bn bc) (.slice fa fn fc) (.slice la ln lc) := by rw [hW1]; exact IsBox.new w (.int .i64 yk) (.int .i64 yn) (.string ys) (.slice ba bn bc) (.slice fa fn fc) (.slice la ln lc)
 have hp : W1.heap.size = w.heap.size + 1 := by rw [hW1]; simp
 have hrow1 : W1.heap[s]? = some (.cells #[m, .int .i64 xk, .int .i64 xn, .string xs, .slice xba xbn xbc, .slice xfa xfn xfc, .slice xla xln xlc, .int .i64 wt, rv] 41 (0, 0)) := (hb1.block s hlt).trans hrow
 have HW1 := Lib.hid hW1; have HB1 := Lib.hid hb1; have HX1 := Lib.hid hbx1; have HP := Lib.hid hp; have HROW := Lib.hid hrow1
 have HX := Lib.hid hx; have HV := Lib.hid hv; have HT := Lib.hid hT; have HQ := Lib.hid hQ; have HS := Lib.hid hs
 have HXK := Lib.hid hxk; have HYK := Lib.hid hyk; have HXN := Lib.hid hxn; have HYN := Lib.hid hyn
 clear hW1 hb1 hbx1 hp hrow hrow1 hx hv hT hQ hs hxk hyk hxn hyn
 by_cases h0 : xk = 0
 ·subst h0
  rw [if_pos HXK.out.symm]
  go_enter Tryd.func17, Tryd.ntmps17
  go_upto_region 1 with fail
  rw [← HW1.out]
  have c1 := (cell_of_row W1 _ 1 _ _ _ HROW.out).trans rfl
  obtain ⟨b0, b1, b2, b3, b4, b5⟩ := HX1.out.cells
  go_wp2_with fail
  refine (orNull_some Qy H y _ W1 (VIn.keep HB1.out HV.out)).mono ?_
  rintro e w2 ⟨v2, rfl, hv2, hb2⟩
  have HB2 : Hid (Below w.heap.size w w2) := HB1.out.trans (hb2.mono HB1.out.size)
  have HV2 := Lib.hid hv2
  clear hv2 hb2
  go_wp2_with fail
  refine (akeep_any B s m _ rv wt Qy H (orN y) v2 w2 hB (HS.out.keep (HB2.out.block s hlt)) HV2.out HQ.out (HT.out.mono (HB2.out.mono HT.out.1))).mono ?_
  rintro e w' ⟨rfl, hk⟩
  have HK := Lib.hid (KeptX.of HB2.out hk)
  clear hk
  go_wp2_with fail
  go_ret
  exact ⟨rfl, HK.out⟩
 ·have e0 : ((xk : Int) == 0) = false := by rw [beq_eq_false_iff_ne]; exact h0
  rw [if_neg (by rw [← HXK.out]; exact h0)]
  go_enter Tryd.func17, Tryd.ntmps17
  go_upto_region 1 with fail
  rw [← HW1.out]
  have c1 := (cell_of_row W1 _ 1 _ _ _ HROW.out).trans rfl
  go_wp2_with fail
  go_ret
  exact ⟨rfl, HB1.out⟩
theorem alast_any (B s : Nat) (m u rv : Value) (wt : Int) (Q Qy : Nat → Prop) (H : Nat) (x y : Val) (v : Value) (w : World) (hB : B ≤ s) (hs : Cells w s m u wt rv) (hx : VIn w Q (H + 1) x u) (hv : VIn w Qy (H + 1) y v) (hQ : ¬ Qy s) (hT : TabsAt B w) :
  Calls Tryd.prog 18 #[.pointer (some ⟨s, 0, none⟩), v] w (KindPost w s m rv H 0 (some (orN y))) := by
 have hlt := hs.lt
 obtain ⟨xk, xn, xs, xba, xfa, xla, xbn, xbc, xfn, xfc, xln, xlc, rfl, hxk, hxn, -⟩ := hx.letters
 obtain ⟨yk, yn, ys, ba, fa, la, bn, bc, fn, fc, ln, lc, rfl, hyk, hyn, -⟩ := hv.letters
 have hrow := hs.row
 obtain ⟨W1, hW1⟩ : ∃ W, W = w.alloc (.cells #[.int .i64 yk, .int .i64 yn, .string ys, .slice ba bn bc, .slice fa fn fc, .slice la ln lc] 32) := ⟨_, rfl⟩
 have hb1 : Below w.heap.size w W1 := by rw [hW1]; exact (Below.refl _ _).alloc (Nat.le_refl _) _
 have hbx1 : IsBox W1 w.heap.size (.int .i64 yk) (.int .i64 yn) (.string ys) (.slice ba bn bc) (.slice fa fn fc) (.slice la ln lc) := by rw [hW1]; exact IsBox.new w (.int .i64 yk) (.int .i64 yn) (.string ys) (.slice ba bn bc) (.slice fa fn fc) (.slice la ln lc)
 have hp : W1.heap.size = w.heap.size + 1 := by rw [hW1]; simp
 have hrow1 : W1.heap[s]? = some (.cells #[m, .int .i64 xk, .int .i64 xn, .string xs, .slice xba xbn xbc, .slice xfa xfn xfc, .slice xla xln xlc, .int .i64 wt, rv] 41 (0, 0)) := (hb1.block s hlt).trans hrow
 have HW1 := Lib.hid hW1; have HB1 := Lib.hid hb1; have HX1 := Lib.hid hbx1; have HP := Lib.hid hp; have HROW := Lib.hid hrow1
 have HX := Lib.hid hx; have HV := Lib.hid hv; have HT := Lib.hid hT; have HQ := Lib.hid hQ; have HS := Lib.hid hs
 have HXK := Lib.hid hxk; have HYK := Lib.hid hyk; have HXN := Lib.hid hxn; have HYN := Lib.hid hyn
 clear hW1 hb1 hbx1 hp hrow hrow1 hx hv hT hQ hs hxk hyk hxn hyn
 go_enter Tryd.func18, Tryd.ntmps18
 go_upto_region 1 with fail
 rw [← HW1.out]
 obtain ⟨b0, b1, b2, b3, b4, b5⟩ := HX1.out.cells
 go_wp2_with fail
 refine (orNull_some Qy H y _ W1 (VIn.keep HB1.out HV.out)).mono ?_
 rintro e w2 ⟨v2, rfl, hv2, hb2⟩
 have HB2 : Hid (Below w.heap.size w w2) := HB1.out.trans (hb2.mono HB1.out.size)
 have HV2 := Lib.hid hv2
 clear hv2 hb2
 go_wp2_with fail
 refine (akeep_any B s m _ rv wt Qy H (orN y) v2 w2 hB (HS.out.keep (HB2.out.block s hlt)) HV2.out HQ.out (HT.out.mono (HB2.out.mono HT.out.1))).mono ?_
 rintro e w' ⟨rfl, hk⟩
 have HK := Lib.hid (KeptX.of HB2.out hk)
 clear hk
 go_wp2_with fail
 go_ret
 exact ⟨rfl, HK.out⟩
theorem aoutermost_any (sd : Int) (B s : Nat) (m u rv : Value) (wt : Int) (Q Qy : Nat → Prop) (H : Nat) (x y : Val) (v : Value) (w : World) (hB : B ≤ s) (hs : Cells w s m u wt rv) (hx : VIn w Q (H + 1) x u) (hv : VIn w Qy (H + 1) y v) (hQ : ¬ Qy s) (hT : TabsAt B w) :
  Calls Tryd.prog 31 #[.pointer (some ⟨s, 0, none⟩), v, .int .i64 sd] w (KindPost w s m rv H 0 (if y.kind = 0 ∨ y.kind = 2 then none else if x.kind = 0 ∨ Order.cmp (H + 1) y x = sd then some y else none)) := by
 have hlt := hs.lt
 obtain ⟨xk, xn, xs, xba, xfa, xla, xbn, xbc, xfn, xfc, xln, xlc, rfl, hxk, hxn, -⟩ := hx.letters
 obtain ⟨yk, yn, ys, ba, fa, la, bn, bc, fn, fc, ln, lc, rfl, hyk, hyn, -⟩ := hv.letters
 have hrow := hs.row
 obtain ⟨W1, hW1⟩ : ∃ W, W = w.alloc (.cells #[.int .i64 yk, .int .i64 yn, .string ys, .slice ba bn bc, .slice fa fn fc, .slice la ln lc] 32) := ⟨_, rfl⟩
 have hb1 : Below w.heap.size w W1 := by rw [hW1]; exact (Below.refl _ _).alloc (Nat.le_refl _) _
 have hbx1 : IsBox W1 w.heap.size (.int .i64 yk) (.int .i64 yn) (.string ys) (.slice ba bn bc) (.slice fa fn fc) (.slice la ln lc) := by rw [hW1]; exact IsBox.new w (.int .i64 yk) (.int .i64 yn) (.string ys) (.slice ba bn bc) (.slice fa fn fc) (.slice la ln lc)
 have hp : W1.heap.size = w.heap.size + 1 := by rw [hW1]; simp
 have hrow1 : W1.heap[s]? = some (.cells #[m, .int .i64 xk, .int .i64 xn, .string xs, .slice xba xbn xbc, .slice xfa xfn xfc, .slice xla xln xlc, .int .i64 wt, rv] 41 (0, 0)) := (hb1.block s hlt).trans hrow
 have HW1 := Lib.hid hW1; have HB1 := Lib.hid hb1; have HX1 := Lib.hid hbx1; have HP := Lib.hid hp; have HROW := Lib.hid hrow1
 have HX := Lib.hid hx; have HV := Lib.hid hv; have HT := Lib.hid hT; have HQ := Lib.hid hQ; have HS := Lib.hid hs
 have HXK := Lib.hid hxk; have HYK := Lib.hid hyk; have HXN := Lib.hid hxn; have HYN := Lib.hid hyn
 clear hW1 hb1 hbx1 hp hrow hrow1 hx hv hT hQ hs hxk hyk hxn hyn
 by_cases y0 : yk = 0
 ·subst y0
  rw [if_pos (.inl HYK.out.symm)]
  go_enter Tryd.func31, Tryd.ntmps31
  go_upto_region 1 with fail
  rw [← HW1.out]
  obtain ⟨b0, b1, b2, b3, b4, b5⟩ := HX1.out.cells
  go_wp2_with fail
  go_ret
  exact ⟨rfl, HB1.out⟩
 by_cases y2 : yk = 2
 ·subst y2
  rw [if_pos (.inr HYK.out.symm)]
  go_enter Tryd.func31, Tryd.ntmps31
  go_upto_region 1 with fail
  rw [← HW1.out]
  obtain ⟨b0, b1, b2, b3, b4, b5⟩ := HX1.out.cells
  go_wp2_with fail
  go_ret
  exact ⟨rfl, HB1.out⟩
 have ey0 : ((yk : Int) == 0) = false := by rw [beq_eq_false_iff_ne]; exact y0
 have ey2 : ((yk : Int) == 2) = false := by rw [beq_eq_false_iff_ne]; exact y2
 rw [if_neg (fun h => h.elim (fun e => y0 (HYK.out.trans e)) (fun e => y2 (HYK.out.trans e)))]
 clear y0 y2
 by_cases x0 : xk = 0
 ·subst x0
  rw [if_pos (.inl HXK.out.symm)]
  go_enter Tryd.func31, Tryd.ntmps31
  go_upto_region 1 with fail
  rw [← HW1.out]
  have c1 := (cell_of_row W1 _ 1 _ _ _ HROW.out).trans rfl
  obtain ⟨b0, b1, b2, b3, b4, b5⟩ := HX1.out.cells
  go_upto_region 3 with fail
  go_quiet (fail)
  have HBD : Hid (Below w.heap.size w (W1.drewN nq)) := ⟨HB1.out.os, HB1.out.tape, HB1.out.output, HB1.out.size, HB1.out.block⟩
  have HXD : Hid (IsBox (W1.drewN nq) w.heap.size (.int .i64 yk) (.int .i64 yn) (.string ys) (.slice ba bn bc) (.slice fa fn fc) (.slice la ln lc)) := HX1.out
  clear b0 b1 b2 b3 b4 b5 c1
  generalize W1.drewN nq = w5 at HBD HXD ⊢
  obtain ⟨b0, b1, b2, b3, b4, b5⟩ := HXD.out.cells
  go_wp2_with fail
  refine (akeep_any B s m _ rv wt Qy H y _ w5 hB (HS.out.keep (HBD.out.block s hlt)) (VIn.keep HBD.out HV.out) HQ.out (HT.out.mono (HBD.out.mono HT.out.1))).mono ?_
  rintro e w' ⟨rfl, hk⟩
  have HK := Lib.hid (KeptX.of HBD.out hk)
  clear hk
  go_wp2_with fail
  go_ret
  exact ⟨rfl, HK.out⟩
 have ex0 : ((xk : Int) == 0) = false := by rw [beq_eq_false_iff_ne]; exact x0
 obtain ⟨c, hc⟩ : ∃ c, c = Order.cmp (H + 1) y x := ⟨_, rfl⟩
 rw [← hc]
 have CC : Hid (∀ W, Below W1.heap.size W1 W → Calls Tryd.prog 43 #[.agg #[.int .i64 yk, .int .i64 yn, .string ys, .slice ba bn bc, .slice fa fn fc, .slice la ln lc], .agg #[.int .i64 xk, .int .i64 xn, .string xs, .slice xba xbn xbc, .slice xfa xfn xfc, .slice xla xln xlc]] W (CmpPost c W)) := fun W hW => by rw [hc]; exact compare_any (H + 1) Qy Q y x _ _ W (VIn.keep hW (VIn.keep HB1.out HV.out)) (VIn.keep hW (VIn.keep HB1.out HX.out))
 clear hc
 by_cases hcs : c = sd
 ·rw [if_pos (.inr hcs)]
  have ec : ((c : Int) == sd) = true := by rw [beq_iff_eq]; exact hcs
  clear hcs
  go_enter Tryd.func31, Tryd.ntmps31
  go_upto_region 1 with fail
  rw [← HW1.out]
  obtain ⟨b0, b1, b2, b3, b4, b5⟩ := HX1.out.cells
  go_upto_region 3 with fail
  clear b0 b1 b2 b3 b4 b5
  refine wp_region_facts (fun V => { tmps := #[.pointer (some ⟨s, 0, none⟩), .agg #[.int .i64 yk, .int .i64 yn, .string ys, .slice ba bn bc, .slice fa fn fc, .slice la ln lc], .int .i64 sd, undef, .pointer (some ⟨w.heap.size, 0, none⟩), undef, .int .i64 0, .pointer (some ⟨w.heap.size, 0, none⟩), .int .i64 yk, .bool false, .bool false, .pointer (some ⟨w.heap.size, 0, none⟩), .int .i64 yk, .bool false, .bool false, V 0, V 1, V 2, V 3, V 4, V 5, V 6, V 7, V 8, V 9, V 10, V 11, V 12, V 13, V 14, V 15, undef, undef, undef], defers := [] }) [Fact.is (.pointer (some ⟨s, 0, none⟩)), Fact.is (.pointer (some ⟨s, 0, none⟩)), Fact.is (.pointer (some ⟨s, 1, none⟩)), Fact.is (.pointer (some ⟨s, 1, none⟩)), Fact.is (.int .i64 xk), Fact.is (.bool false), Fact.is (.bool false), Fact.is (.agg #[.int .i64 yk, .int .i64 yn, .string ys, .slice ba bn bc, .slice fa fn fc, .slice la ln lc]), Fact.is (.pointer (some ⟨s, 0, none⟩)), Fact.is (.pointer (some ⟨s, 0, none⟩)), Fact.is (.pointer (some ⟨s, 1, none⟩)), Fact.is (.agg #[.int .i64 xk, .int .i64 xn, .string xs, .slice xba xbn xbc, .slice xfa xfn xfc, .slice xla xln xlc]), Fact.is (.int .i64 c), Fact.is (.int .i64 sd), Fact.is (.bool true), Fact.is (.bool true)] (by kernel_rfl) (by kernel_rfl) (by kernel_rfl) (fun V => by kernel_rfl) ?_ ?_
  ·refine ⟨?_, ?_⟩
   ·refine fact_free rfl (fun V w5 hB hF K hK => ?_)
    go_simp
    exact put_is (by kernel_rfl) (hK.out (.pointer (some ⟨s, 0, none⟩)) w5 (Below.refl _ _) rfl)
   refine ⟨?_, ?_⟩
   ·refine fact_free rfl (fun V w5 hB hF K hK => ?_)
    have h0 : V 0 = .pointer (some ⟨s, 0, none⟩) := hF.out 0 (by kernel_rfl)
    go_simp
    exact put_is (by rw [h0]; kernel_rfl) (hK.out (.pointer (some ⟨s, 0, none⟩)) w5 (Below.refl _ _) rfl)
   refine ⟨?_, ?_⟩
   ·refine fact_free rfl (fun V w5 hB hF K hK => ?_)
    have h1 : V 1 = .pointer (some ⟨s, 0, none⟩) := hF.out 1 (by kernel_rfl)
    go_simp
    exact put_is (by rw [h1]; kernel_rfl) (hK.out (.pointer (some ⟨s, 1, none⟩)) w5 (Below.refl _ _) rfl)
   refine ⟨?_, ?_⟩
   ·refine fact_free rfl (fun V w5 hB hF K hK => ?_)
    have h2 : V 2 = .pointer (some ⟨s, 1, none⟩) := hF.out 2 (by kernel_rfl)
    go_simp
    exact put_is (by rw [h2]; kernel_rfl) (hK.out (.pointer (some ⟨s, 1, none⟩)) w5 (Below.refl _ _) rfl)
   refine ⟨?_, ?_⟩
   ·refine fact_free rfl (fun V w5 hB hF K hK => ?_)
    have h3 : V 3 = .pointer (some ⟨s, 1, none⟩) := hF.out 3 (by kernel_rfl)
    have c1 := (cell_of_row w5 _ 1 _ _ _ ((hB.block s (by have := HP.out; omega)).trans HROW.out)).trans rfl
    go_simp
    exact put_is (by rw [h3]; kernel_rfl) (hK.out (.int .i64 xk) w5 (Below.refl _ _) rfl)
   refine ⟨?_, ?_⟩
   ·refine fact_free rfl (fun V w5 hB hF K hK => ?_)
    have h4 : V 4 = .int .i64 xk := hF.out 4 (by kernel_rfl)
    go_simp
    exact put_is (by rw [h4]; kernel_rfl) (hK.out (.bool false) w5 (Below.refl _ _) rfl)
   refine ⟨?_, ?_⟩
   ·refine fact_free rfl (fun V w5 hB hF K hK => ?_)
    have h5 : V 5 = .bool false := hF.out 5 (by kernel_rfl)
    go_simp
    exact put_is (by rw [h5]; kernel_rfl) (hK.out (.bool false) w5 (Below.refl _ _) rfl)
   refine ⟨?_, ?_⟩
   ·refine fact_on 6 false rfl (by kernel_rfl) (fun V => by kernel_rfl) (fun v w h => h) (fun V w5 hB hF K hK => ?_)
    obtain ⟨b0, b1, b2, b3, b4, b5⟩ := (HX1.out.keep hB).cells
    go_simp
    exact put_is (by kernel_rfl) (hK.out (.agg #[.int .i64 yk, .int .i64 yn, .string ys, .slice ba bn bc, .slice fa fn fc, .slice la ln lc]) w5 (Below.refl _ _) rfl)
   refine ⟨?_, ?_⟩
   ·refine fact_on 6 false rfl (by kernel_rfl) (fun V => by kernel_rfl) (fun v w h => h) (fun V w5 hB hF K hK => ?_)
    go_simp
    exact put_is (by kernel_rfl) (hK.out (.pointer (some ⟨s, 0, none⟩)) w5 (Below.refl _ _) rfl)
   refine ⟨?_, ?_⟩
   ·refine fact_on 6 false rfl (by kernel_rfl) (fun V => by kernel_rfl) (fun v w h => h) (fun V w5 hB hF K hK => ?_)
    have h8 : V 8 = .pointer (some ⟨s, 0, none⟩) := hF.out 8 (by kernel_rfl)
    go_simp
    exact put_is (by rw [h8]; kernel_rfl) (hK.out (.pointer (some ⟨s, 0, none⟩)) w5 (Below.refl _ _) rfl)
   refine ⟨?_, ?_⟩
   ·refine fact_on 6 false rfl (by kernel_rfl) (fun V => by kernel_rfl) (fun v w h => h) (fun V w5 hB hF K hK => ?_)
    have h9 : V 9 = .pointer (some ⟨s, 0, none⟩) := hF.out 9 (by kernel_rfl)
    go_simp
    exact put_is (by rw [h9]; kernel_rfl) (hK.out (.pointer (some ⟨s, 1, none⟩)) w5 (Below.refl _ _) rfl)
   refine ⟨?_, ?_⟩
   ·refine fact_on 6 false rfl (by kernel_rfl) (fun V => by kernel_rfl) (fun v w h => h) (fun V w5 hB hF K hK => ?_)
    have h10 : V 10 = .pointer (some ⟨s, 1, none⟩) := hF.out 10 (by kernel_rfl)
    have c1 := (cell_of_row w5 _ 1 _ _ _ ((hB.block s (by have := HP.out; omega)).trans HROW.out)).trans rfl
    have c2 := (cell_of_row w5 _ 2 _ _ _ ((hB.block s (by have := HP.out; omega)).trans HROW.out)).trans rfl
    have c3 := (cell_of_row w5 _ 3 _ _ _ ((hB.block s (by have := HP.out; omega)).trans HROW.out)).trans rfl
    have c4 := (cell_of_row w5 _ 4 _ _ _ ((hB.block s (by have := HP.out; omega)).trans HROW.out)).trans rfl
    have c5 := (cell_of_row w5 _ 5 _ _ _ ((hB.block s (by have := HP.out; omega)).trans HROW.out)).trans rfl
    have c6 := (cell_of_row w5 _ 6 _ _ _ ((hB.block s (by have := HP.out; omega)).trans HROW.out)).trans rfl
    go_simp
    exact put_is (by rw [h10]; kernel_rfl) (hK.out (.agg #[.int .i64 xk, .int .i64 xn, .string xs, .slice xba xbn xbc, .slice xfa xfn xfc, .slice xla xln xlc]) w5 (Below.refl _ _) rfl)
   refine ⟨?_, ?_⟩
   ·refine fact_on 6 false rfl (by kernel_rfl) (fun V => by kernel_rfl) (fun v w h => h) (fun V w5 hB hF K hK => ?_)
    have h7 : V 7 = .agg #[.int .i64 yk, .int .i64 yn, .string ys, .slice ba bn bc, .slice fa fn fc, .slice la ln lc] := hF.out 7 (by kernel_rfl)
    have h11 : V 11 = .agg #[.int .i64 xk, .int .i64 xn, .string xs, .slice xba xbn xbc, .slice xfa xfn xfc, .slice xla xln xlc] := hF.out 11 (by kernel_rfl)
    go_simp
    refine (CC.out w5 hB).mono ?_
    rintro e w6 ⟨rfl, hb6⟩
    exact put_is (by rw [h7, h11]; kernel_rfl) (hK.out (.int .i64 c) w6 hb6 rfl)
   refine ⟨?_, ?_⟩
   ·refine fact_on 6 false rfl (by kernel_rfl) (fun V => by kernel_rfl) (fun v w h => h) (fun V w5 hB hF K hK => ?_)
    go_simp
    exact put_is (by kernel_rfl) (hK.out (.int .i64 sd) w5 (Below.refl _ _) rfl)
   refine ⟨?_, ?_⟩
   ·refine fact_on 6 false rfl (by kernel_rfl) (fun V => by kernel_rfl) (fun v w h => h) (fun V w5 hB hF K hK => ?_)
    have h12 : V 12 = .int .i64 c := hF.out 12 (by kernel_rfl)
    have h13 : V 13 = .int .i64 sd := hF.out 13 (by kernel_rfl)
    go_simp
    exact put_is (by rw [h12, h13]; kernel_rfl) (hK.out (.bool true) w5 (Below.refl _ _) rfl)
   refine ⟨?_, ?_⟩
   ·refine fact_free rfl (fun V w5 hB hF K hK => ?_)
    have h6 : V 6 = .bool false := hF.out 6 (by kernel_rfl)
    have h14 : V 14 = .bool true := hF.out 14 (by kernel_rfl)
    go_simp
    exact put_is (by rw [h6, h14]; kernel_rfl) (hK.out (.bool true) w5 (Below.refl _ _) rfl)
   trivial
  ·intro V w5 hB hF
   have h15 : V 15 = .bool true := hF 15 (by decide)
   rw [h15]
   have HB5 : Hid (Below w.heap.size w w5) := HB1.out.trans (hB.mono HB1.out.size)
   have HX5 := Lib.hid (HX1.out.keep hB)
   clear hB hF h15
   obtain ⟨b0, b1, b2, b3, b4, b5⟩ := HX5.out.cells
   go_wp2_with fail
   refine (akeep_any B s m _ rv wt Qy H y _ w5 hB (HS.out.keep (HB5.out.block s hlt)) (VIn.keep HB5.out HV.out) HQ.out (HT.out.mono (HB5.out.mono HT.out.1))).mono ?_
   rintro e w' ⟨rfl, hk⟩
   have HK := Lib.hid (KeptX.of HB5.out hk)
   clear hk
   go_wp2_with fail
   go_ret
   exact ⟨rfl, HK.out⟩
 ·rw [if_neg (fun h => h.elim (fun e => x0 (HXK.out.trans e)) hcs)]
  have ec : ((c : Int) == sd) = false := by rw [beq_eq_false_iff_ne]; exact hcs
  clear hcs
  go_enter Tryd.func31, Tryd.ntmps31
  go_upto_region 1 with fail
  rw [← HW1.out]
  obtain ⟨b0, b1, b2, b3, b4, b5⟩ := HX1.out.cells
  go_upto_region 3 with fail
  clear b0 b1 b2 b3 b4 b5
  refine wp_region_facts (fun V => { tmps := #[.pointer (some ⟨s, 0, none⟩), .agg #[.int .i64 yk, .int .i64 yn, .string ys, .slice ba bn bc, .slice fa fn fc, .slice la ln lc], .int .i64 sd, undef, .pointer (some ⟨w.heap.size, 0, none⟩), undef, .int .i64 0, .pointer (some ⟨w.heap.size, 0, none⟩), .int .i64 yk, .bool false, .bool false, .pointer (some ⟨w.heap.size, 0, none⟩), .int .i64 yk, .bool false, .bool false, V 0, V 1, V 2, V 3, V 4, V 5, V 6, V 7, V 8, V 9, V 10, V 11, V 12, V 13, V 14, V 15, undef, undef, undef], defers := [] }) [Fact.is (.pointer (some ⟨s, 0, none⟩)), Fact.is (.pointer (some ⟨s, 0, none⟩)), Fact.is (.pointer (some ⟨s, 1, none⟩)), Fact.is (.pointer (some ⟨s, 1, none⟩)), Fact.is (.int .i64 xk), Fact.is (.bool false), Fact.is (.bool false), Fact.is (.agg #[.int .i64 yk, .int .i64 yn, .string ys, .slice ba bn bc, .slice fa fn fc, .slice la ln lc]), Fact.is (.pointer (some ⟨s, 0, none⟩)), Fact.is (.pointer (some ⟨s, 0, none⟩)), Fact.is (.pointer (some ⟨s, 1, none⟩)), Fact.is (.agg #[.int .i64 xk, .int .i64 xn, .string xs, .slice xba xbn xbc, .slice xfa xfn xfc, .slice xla xln xlc]), Fact.is (.int .i64 c), Fact.is (.int .i64 sd), Fact.is (.bool false), Fact.is (.bool false)] (by kernel_rfl) (by kernel_rfl) (by kernel_rfl) (fun V => by kernel_rfl) ?_ ?_
  ·refine ⟨?_, ?_⟩
   ·refine fact_free rfl (fun V w5 hB hF K hK => ?_)
    go_simp
    exact put_is (by kernel_rfl) (hK.out (.pointer (some ⟨s, 0, none⟩)) w5 (Below.refl _ _) rfl)
   refine ⟨?_, ?_⟩
   ·refine fact_free rfl (fun V w5 hB hF K hK => ?_)
    have h0 : V 0 = .pointer (some ⟨s, 0, none⟩) := hF.out 0 (by kernel_rfl)
    go_simp
    exact put_is (by rw [h0]; kernel_rfl) (hK.out (.pointer (some ⟨s, 0, none⟩)) w5 (Below.refl _ _) rfl)
   refine ⟨?_, ?_⟩
   ·refine fact_free rfl (fun V w5 hB hF K hK => ?_)
    have h1 : V 1 = .pointer (some ⟨s, 0, none⟩) := hF.out 1 (by kernel_rfl)
    go_simp
    exact put_is (by rw [h1]; kernel_rfl) (hK.out (.pointer (some ⟨s, 1, none⟩)) w5 (Below.refl _ _) rfl)
   refine ⟨?_, ?_⟩
   ·refine fact_free rfl (fun V w5 hB hF K hK => ?_)
    have h2 : V 2 = .pointer (some ⟨s, 1, none⟩) := hF.out 2 (by kernel_rfl)
    go_simp
    exact put_is (by rw [h2]; kernel_rfl) (hK.out (.pointer (some ⟨s, 1, none⟩)) w5 (Below.refl _ _) rfl)
   refine ⟨?_, ?_⟩
   ·refine fact_free rfl (fun V w5 hB hF K hK => ?_)
    have h3 : V 3 = .pointer (some ⟨s, 1, none⟩) := hF.out 3 (by kernel_rfl)
    have c1 := (cell_of_row w5 _ 1 _ _ _ ((hB.block s (by have := HP.out; omega)).trans HROW.out)).trans rfl
    go_simp
    exact put_is (by rw [h3]; kernel_rfl) (hK.out (.int .i64 xk) w5 (Below.refl _ _) rfl)
   refine ⟨?_, ?_⟩
   ·refine fact_free rfl (fun V w5 hB hF K hK => ?_)
    have h4 : V 4 = .int .i64 xk := hF.out 4 (by kernel_rfl)
    go_simp
    exact put_is (by rw [h4]; kernel_rfl) (hK.out (.bool false) w5 (Below.refl _ _) rfl)
   refine ⟨?_, ?_⟩
   ·refine fact_free rfl (fun V w5 hB hF K hK => ?_)
    have h5 : V 5 = .bool false := hF.out 5 (by kernel_rfl)
    go_simp
    exact put_is (by rw [h5]; kernel_rfl) (hK.out (.bool false) w5 (Below.refl _ _) rfl)
   refine ⟨?_, ?_⟩
   ·refine fact_on 6 false rfl (by kernel_rfl) (fun V => by kernel_rfl) (fun v w h => h) (fun V w5 hB hF K hK => ?_)
    obtain ⟨b0, b1, b2, b3, b4, b5⟩ := (HX1.out.keep hB).cells
    go_simp
    exact put_is (by kernel_rfl) (hK.out (.agg #[.int .i64 yk, .int .i64 yn, .string ys, .slice ba bn bc, .slice fa fn fc, .slice la ln lc]) w5 (Below.refl _ _) rfl)
   refine ⟨?_, ?_⟩
   ·refine fact_on 6 false rfl (by kernel_rfl) (fun V => by kernel_rfl) (fun v w h => h) (fun V w5 hB hF K hK => ?_)
    go_simp
    exact put_is (by kernel_rfl) (hK.out (.pointer (some ⟨s, 0, none⟩)) w5 (Below.refl _ _) rfl)
   refine ⟨?_, ?_⟩
   ·refine fact_on 6 false rfl (by kernel_rfl) (fun V => by kernel_rfl) (fun v w h => h) (fun V w5 hB hF K hK => ?_)
    have h8 : V 8 = .pointer (some ⟨s, 0, none⟩) := hF.out 8 (by kernel_rfl)
    go_simp
    exact put_is (by rw [h8]; kernel_rfl) (hK.out (.pointer (some ⟨s, 0, none⟩)) w5 (Below.refl _ _) rfl)
   refine ⟨?_, ?_⟩
   ·refine fact_on 6 false rfl (by kernel_rfl) (fun V => by kernel_rfl) (fun v w h => h) (fun V w5 hB hF K hK => ?_)
    have h9 : V 9 = .pointer (some ⟨s, 0, none⟩) := hF.out 9 (by kernel_rfl)
    go_simp
    exact put_is (by rw [h9]; kernel_rfl) (hK.out (.pointer (some ⟨s, 1, none⟩)) w5 (Below.refl _ _) rfl)
   refine ⟨?_, ?_⟩
   ·refine fact_on 6 false rfl (by kernel_rfl) (fun V => by kernel_rfl) (fun v w h => h) (fun V w5 hB hF K hK => ?_)
    have h10 : V 10 = .pointer (some ⟨s, 1, none⟩) := hF.out 10 (by kernel_rfl)
    have c1 := (cell_of_row w5 _ 1 _ _ _ ((hB.block s (by have := HP.out; omega)).trans HROW.out)).trans rfl
    have c2 := (cell_of_row w5 _ 2 _ _ _ ((hB.block s (by have := HP.out; omega)).trans HROW.out)).trans rfl
    have c3 := (cell_of_row w5 _ 3 _ _ _ ((hB.block s (by have := HP.out; omega)).trans HROW.out)).trans rfl
    have c4 := (cell_of_row w5 _ 4 _ _ _ ((hB.block s (by have := HP.out; omega)).trans HROW.out)).trans rfl
    have c5 := (cell_of_row w5 _ 5 _ _ _ ((hB.block s (by have := HP.out; omega)).trans HROW.out)).trans rfl
    have c6 := (cell_of_row w5 _ 6 _ _ _ ((hB.block s (by have := HP.out; omega)).trans HROW.out)).trans rfl
    go_simp
    exact put_is (by rw [h10]; kernel_rfl) (hK.out (.agg #[.int .i64 xk, .int .i64 xn, .string xs, .slice xba xbn xbc, .slice xfa xfn xfc, .slice xla xln xlc]) w5 (Below.refl _ _) rfl)
   refine ⟨?_, ?_⟩
   ·refine fact_on 6 false rfl (by kernel_rfl) (fun V => by kernel_rfl) (fun v w h => h) (fun V w5 hB hF K hK => ?_)
    have h7 : V 7 = .agg #[.int .i64 yk, .int .i64 yn, .string ys, .slice ba bn bc, .slice fa fn fc, .slice la ln lc] := hF.out 7 (by kernel_rfl)
    have h11 : V 11 = .agg #[.int .i64 xk, .int .i64 xn, .string xs, .slice xba xbn xbc, .slice xfa xfn xfc, .slice xla xln xlc] := hF.out 11 (by kernel_rfl)
    go_simp
    refine (CC.out w5 hB).mono ?_
    rintro e w6 ⟨rfl, hb6⟩
    exact put_is (by rw [h7, h11]; kernel_rfl) (hK.out (.int .i64 c) w6 hb6 rfl)
   refine ⟨?_, ?_⟩
   ·refine fact_on 6 false rfl (by kernel_rfl) (fun V => by kernel_rfl) (fun v w h => h) (fun V w5 hB hF K hK => ?_)
    go_simp
    exact put_is (by kernel_rfl) (hK.out (.int .i64 sd) w5 (Below.refl _ _) rfl)
   refine ⟨?_, ?_⟩
   ·refine fact_on 6 false rfl (by kernel_rfl) (fun V => by kernel_rfl) (fun v w h => h) (fun V w5 hB hF K hK => ?_)
    have h12 : V 12 = .int .i64 c := hF.out 12 (by kernel_rfl)
    have h13 : V 13 = .int .i64 sd := hF.out 13 (by kernel_rfl)
    go_simp
    exact put_is (by rw [h12, h13]; kernel_rfl) (hK.out (.bool false) w5 (Below.refl _ _) rfl)
   refine ⟨?_, ?_⟩
   ·refine fact_free rfl (fun V w5 hB hF K hK => ?_)
    have h6 : V 6 = .bool false := hF.out 6 (by kernel_rfl)
    have h14 : V 14 = .bool false := hF.out 14 (by kernel_rfl)
    go_simp
    exact put_is (by rw [h6, h14]; kernel_rfl) (hK.out (.bool false) w5 (Below.refl _ _) rfl)
   trivial
  ·intro V w5 hB hF
   have h15 : V 15 = .bool false := hF 15 (by decide)
   rw [h15]
   have HB5 : Hid (Below w.heap.size w w5) := HB1.out.trans (hB.mono HB1.out.size)
   have HX5 := Lib.hid (HX1.out.keep hB)
   clear hB hF h15
   go_wp2_with fail
   go_ret
   exact ⟨rfl, HB5.out⟩
theorem aleast_any (B s : Nat) (m u rv : Value) (wt : Int) (Q Qy : Nat → Prop) (H : Nat) (x y : Val) (v : Value) (w : World) (hB : B ≤ s) (hs : Cells w s m u wt rv) (hx : VIn w Q (H + 1) x u) (hv : VIn w Qy (H + 1) y v) (hQ : ¬ Qy s) (hT : TabsAt B w) :
  Calls Tryd.prog 15 #[.pointer (some ⟨s, 0, none⟩), v] w (KindPost w s m rv H 0 (if y.kind = 0 ∨ y.kind = 2 then none else if x.kind = 0 ∨ Order.cmp (H + 1) y x = (-1) then some y else none)) := by
 have hlt := hs.lt
 obtain ⟨xk, xn, xs, xba, xfa, xla, xbn, xbc, xfn, xfc, xln, xlc, rfl, hxk, hxn, -⟩ := hx.letters
 obtain ⟨yk, yn, ys, ba, fa, la, bn, bc, fn, fc, ln, lc, rfl, hyk, hyn, -⟩ := hv.letters
 have hrow := hs.row
 obtain ⟨W1, hW1⟩ : ∃ W, W = w.alloc (.cells #[.int .i64 yk, .int .i64 yn, .string ys, .slice ba bn bc, .slice fa fn fc, .slice la ln lc] 32) := ⟨_, rfl⟩
 have hb1 : Below w.heap.size w W1 := by rw [hW1]; exact (Below.refl _ _).alloc (Nat.le_refl _) _
 have hbx1 : IsBox W1 w.heap.size (.int .i64 yk) (.int .i64 yn) (.string ys) (.slice ba bn bc) (.slice fa fn fc) (.slice la ln lc) := by rw [hW1]; exact IsBox.new w (.int .i64 yk) (.int .i64 yn) (.string ys) (.slice ba bn bc) (.slice fa fn fc) (.slice la ln lc)
 have hp : W1.heap.size = w.heap.size + 1 := by rw [hW1]; simp
 have hrow1 : W1.heap[s]? = some (.cells #[m, .int .i64 xk, .int .i64 xn, .string xs, .slice xba xbn xbc, .slice xfa xfn xfc, .slice xla xln xlc, .int .i64 wt, rv] 41 (0, 0)) := (hb1.block s hlt).trans hrow
 have HW1 := Lib.hid hW1; have HB1 := Lib.hid hb1; have HX1 := Lib.hid hbx1; have HP := Lib.hid hp; have HROW := Lib.hid hrow1
 have HX := Lib.hid hx; have HV := Lib.hid hv; have HT := Lib.hid hT; have HQ := Lib.hid hQ; have HS := Lib.hid hs
 have HXK := Lib.hid hxk; have HYK := Lib.hid hyk; have HXN := Lib.hid hxn; have HYN := Lib.hid hyn
 clear hW1 hb1 hbx1 hp hrow hrow1 hx hv hT hQ hs hxk hyk hxn hyn
 have CO := Lib.hid (aoutermost_any (-1) B s m _ rv wt Q Qy H x y _ W1 hB (HS.out.keep (HB1.out.block s hlt)) (VIn.keep HB1.out HX.out) (VIn.keep HB1.out HV.out) HQ.out (HT.out.mono (HB1.out.mono HT.out.1)))
 generalize (if y.kind = 0 ∨ y.kind = 2 then none else if x.kind = 0 ∨ Order.cmp (H + 1) y x = (-1) then some y else none) = ox at CO ⊢
 go_enter Tryd.func15, Tryd.ntmps15
 go_upto_region 1 with fail
 rw [← HW1.out]
 obtain ⟨b0, b1, b2, b3, b4, b5⟩ := HX1.out.cells
 go_wp2_with fail
 refine CO.out.mono ?_
 rintro e w2 ⟨rfl, hk⟩
 have HK : Hid (KindPost w s m rv H 0 ox (.returned (.int .i64 0)) w2) := KindPost.of HB1.out ⟨rfl, hk⟩
 clear hk
 go_wp2_with fail
 go_ret
 exact ⟨rfl, HK.out.2⟩
theorem agreatest_any (B s : Nat) (m u rv : Value) (wt : Int) (Q Qy : Nat → Prop) (H : Nat) (x y : Val) (v : Value) (w : World) (hB : B ≤ s) (hs : Cells w s m u wt rv) (hx : VIn w Q (H + 1) x u) (hv : VIn w Qy (H + 1) y v) (hQ : ¬ Qy s) (hT : TabsAt B w) :
  Calls Tryd.prog 16 #[.pointer (some ⟨s, 0, none⟩), v] w (KindPost w s m rv H 0 (if y.kind = 0 ∨ y.kind = 2 then none else if x.kind = 0 ∨ Order.cmp (H + 1) y x = 1 then some y else none)) := by
 have hlt := hs.lt
 obtain ⟨xk, xn, xs, xba, xfa, xla, xbn, xbc, xfn, xfc, xln, xlc, rfl, hxk, hxn, -⟩ := hx.letters
 obtain ⟨yk, yn, ys, ba, fa, la, bn, bc, fn, fc, ln, lc, rfl, hyk, hyn, -⟩ := hv.letters
 have hrow := hs.row
 obtain ⟨W1, hW1⟩ : ∃ W, W = w.alloc (.cells #[.int .i64 yk, .int .i64 yn, .string ys, .slice ba bn bc, .slice fa fn fc, .slice la ln lc] 32) := ⟨_, rfl⟩
 have hb1 : Below w.heap.size w W1 := by rw [hW1]; exact (Below.refl _ _).alloc (Nat.le_refl _) _
 have hbx1 : IsBox W1 w.heap.size (.int .i64 yk) (.int .i64 yn) (.string ys) (.slice ba bn bc) (.slice fa fn fc) (.slice la ln lc) := by rw [hW1]; exact IsBox.new w (.int .i64 yk) (.int .i64 yn) (.string ys) (.slice ba bn bc) (.slice fa fn fc) (.slice la ln lc)
 have hp : W1.heap.size = w.heap.size + 1 := by rw [hW1]; simp
 have hrow1 : W1.heap[s]? = some (.cells #[m, .int .i64 xk, .int .i64 xn, .string xs, .slice xba xbn xbc, .slice xfa xfn xfc, .slice xla xln xlc, .int .i64 wt, rv] 41 (0, 0)) := (hb1.block s hlt).trans hrow
 have HW1 := Lib.hid hW1; have HB1 := Lib.hid hb1; have HX1 := Lib.hid hbx1; have HP := Lib.hid hp; have HROW := Lib.hid hrow1
 have HX := Lib.hid hx; have HV := Lib.hid hv; have HT := Lib.hid hT; have HQ := Lib.hid hQ; have HS := Lib.hid hs
 have HXK := Lib.hid hxk; have HYK := Lib.hid hyk; have HXN := Lib.hid hxn; have HYN := Lib.hid hyn
 clear hW1 hb1 hbx1 hp hrow hrow1 hx hv hT hQ hs hxk hyk hxn hyn
 have CO := Lib.hid (aoutermost_any 1 B s m _ rv wt Q Qy H x y _ W1 hB (HS.out.keep (HB1.out.block s hlt)) (VIn.keep HB1.out HX.out) (VIn.keep HB1.out HV.out) HQ.out (HT.out.mono (HB1.out.mono HT.out.1)))
 generalize (if y.kind = 0 ∨ y.kind = 2 then none else if x.kind = 0 ∨ Order.cmp (H + 1) y x = 1 then some y else none) = ox at CO ⊢
 go_enter Tryd.func16, Tryd.ntmps16
 go_upto_region 1 with fail
 rw [← HW1.out]
 obtain ⟨b0, b1, b2, b3, b4, b5⟩ := HX1.out.cells
 go_wp2_with fail
 refine CO.out.mono ?_
 rintro e w2 ⟨rfl, hk⟩
 have HK : Hid (KindPost w s m rv H 0 ox (.returned (.int .i64 0)) w2) := KindPost.of HB1.out ⟨rfl, hk⟩
 clear hk
 go_wp2_with fail
 go_ret
 exact ⟨rfl, HK.out.2⟩
theorem acount_any (B s : Nat) (m u rv : Value) (wt : Int) (Q Qy : Nat → Prop) (H : Nat) (x y : Val) (v : Value) (w : World) (hB : B ≤ s) (hs : Cells w s m u wt rv) (hx : VIn w Q (H + 1) x u) (hv : VIn w Qy (H + 1) y v) (hQ : ¬ Qy s) (hT : TabsAt B w) (hn1 : x.n + 1 ≤ 9223372036854775807) :
  Calls Tryd.prog 22 #[.pointer (some ⟨s, 0, none⟩), v] w fun e w' => e = .returned (.int .i64 0) ∧ Cells w' s m (.agg #[.int .i64 (Num.ofK (x.n + 1)), .int .i64 (x.n + 1), .string ⟨#[]⟩, .slice none 0 0, .slice none 0 0, .slice none 0 0]) wt rv ∧ RM (fun g => g = s) w w' := by
 have hlt := hs.lt
 obtain ⟨xk, xn, xs, xba, xfa, xla, xbn, xbc, xfn, xfc, xln, xlc, rfl, hxk, hxn, -⟩ := hx.letters
 obtain ⟨yk, yn, ys, ba, fa, la, bn, bc, fn, fc, ln, lc, rfl, hyk, hyn, -⟩ := hv.letters
 have hrow := hs.row
 obtain ⟨W1, hW1⟩ : ∃ W, W = w.alloc (.cells #[.int .i64 yk, .int .i64 yn, .string ys, .slice ba bn bc, .slice fa fn fc, .slice la ln lc] 32) := ⟨_, rfl⟩
 have hb1 : Below w.heap.size w W1 := by rw [hW1]; exact (Below.refl _ _).alloc (Nat.le_refl _) _
 have hbx1 : IsBox W1 w.heap.size (.int .i64 yk) (.int .i64 yn) (.string ys) (.slice ba bn bc) (.slice fa fn fc) (.slice la ln lc) := by rw [hW1]; exact IsBox.new w (.int .i64 yk) (.int .i64 yn) (.string ys) (.slice ba bn bc) (.slice fa fn fc) (.slice la ln lc)
 have hp : W1.heap.size = w.heap.size + 1 := by rw [hW1]; simp
 have hrow1 : W1.heap[s]? = some (.cells #[m, .int .i64 xk, .int .i64 xn, .string xs, .slice xba xbn xbc, .slice xfa xfn xfc, .slice xla xln xlc, .int .i64 wt, rv] 41 (0, 0)) := (hb1.block s hlt).trans hrow
 have HW1 := Lib.hid hW1; have HB1 := Lib.hid hb1; have HX1 := Lib.hid hbx1; have HP := Lib.hid hp; have HROW := Lib.hid hrow1
 have HX := Lib.hid hx; have HV := Lib.hid hv; have HT := Lib.hid hT; have HQ := Lib.hid hQ; have HS := Lib.hid hs
 have HXK := Lib.hid hxk; have HYK := Lib.hid hyk; have HXN := Lib.hid hxn; have HYN := Lib.hid hyn
 clear hW1 hb1 hbx1 hp hrow hrow1 hx hv hT hQ hs hxk hyk hxn hyn
 have hxl : -9223372036854775808 ≤ xn ∧ xn + 1 ≤ 9223372036854775807 := ⟨by rw [HXN.out]; exact (VIn.lim HX.out).n0, by rw [HXN.out]; exact hn1⟩
 have hwr : IntKind.i64.wrap (xn + 1) = xn + 1 := IntWalk.i64_in _ (by omega)
 rw [← HXN.out]
 clear hn1
 have CO := Lib.hid (fun W => of_any (xn + 1) W)
 obtain ⟨ko, hko⟩ : ∃ k, k = Num.ofK (xn + 1) := ⟨_, rfl⟩
 rw [← hko] at CO ⊢
 clear hko
 go_enter Tryd.func22, Tryd.ntmps22
 go_upto_region 1 with fail
 rw [← HW1.out]
 have c2 := (cell_of_row W1 _ 2 _ _ _ HROW.out).trans rfl
 go_wp2_with fail
 refine (CO.out _).mono ?_
 rintro e w2 ⟨rfl, hb2⟩
 have hr2 := (hb2.block s (by have := HP.out; omega)).trans HROW.out
 have g1 := (cell_of_row w2 _ 1 _ _ _ hr2).trans rfl
 have g2 := (cell_of_row w2 _ 2 _ _ _ hr2).trans rfl
 have g3 := (cell_of_row w2 _ 3 _ _ _ hr2).trans rfl
 have g4 := (cell_of_row w2 _ 4 _ _ _ hr2).trans rfl
 have g5 := (cell_of_row w2 _ 5 _ _ _ hr2).trans rfl
 have g6 := (cell_of_row w2 _ 6 _ _ _ hr2).trans rfl
 have z1 := frozen_of_row w2 _ 1 _ _ hr2
 have z2 := frozen_of_row w2 _ 2 _ _ hr2
 have z3 := frozen_of_row w2 _ 3 _ _ hr2
 have z4 := frozen_of_row w2 _ 4 _ _ hr2
 have z5 := frozen_of_row w2 _ 5 _ _ hr2
 have z6 := frozen_of_row w2 _ 6 _ _ hr2
 have HB2 : Hid (Below w.heap.size w w2) := HB1.out.trans (hb2.mono HB1.out.size)
 have HR2 := Lib.hid hr2
 clear hb2 hr2
 go_wp2_with fail
 go_ret
 exact ⟨rfl, ⟨_, _, _, _, _, _, rfl, six_row HR2.out (.int .i64 ko) (.int .i64 (xn + 1)) (.string ⟨#[]⟩) (.slice none 0 0) (.slice none 0 0) (.slice none 0 0)⟩, RM.puts (F := fun g => g = s) (RM.of_below HB2.out) rfl 1 [.int .i64 ko, .int .i64 (xn + 1), .string ⟨#[]⟩, .slice none 0 0, .slice none 0 0, .slice none 0 0]⟩
theorem areck_in (o : Int × Int) (a b : Int) (h : o.2 = 0 → Num.In o.1) : Num.In (Num.reck o a b).1 ∧ Num.In (Num.reck o a b).2.1 := by
 have k0 : Num.In 0 := by unfold Num.In; omega
 have k2 : Num.In 2 := by unfold Num.In; omega
 have k3 : Num.In 3 := by unfold Num.In; omega
 have k4 : Num.In 4 := by unfold Num.In; omega
 unfold Num.reck
 repeat' split
 all_goals first | exact ⟨k2, k0⟩ | exact ⟨k0, k0⟩ | skip
 all_goals first | exact ⟨k4, h (by omega)⟩ | skip
 refine ⟨?_, h (by omega)⟩
 unfold Num.ofK
 split <;> assumption
theorem asum_any (B s : Nat) (m u rv : Value) (wt : Int) (Q Qy : Nat → Prop) (H : Nat) (x y : Val) (v : Value) (w : World) (hB : B ≤ s) (hs : Cells w s m u wt rv) (hx : VIn w Q (H + 1) x u) (hv : VIn w Qy (H + 1) y v) (hQ : ¬ Qy s) (hT : TabsAt B w) :
  Calls Tryd.prog 12 #[.pointer (some ⟨s, 0, none⟩), v] w (if numB y.kind = true then KindPost w s m rv H (Num.reck (Num.sumR x.n y.n) x.kind y.kind).2.2 (if (Num.reck (Num.sumR x.n y.n) x.kind y.kind).2.2 = 0 then some (numV (Num.reck (Num.sumR x.n y.n) x.kind y.kind).1 (Num.reck (Num.sumR x.n y.n) x.kind y.kind).2.1) else none) else KindPost w s m rv H 0 none) := by
 have hlt := hs.lt
 obtain ⟨xk, xn, xs, xba, xfa, xla, xbn, xbc, xfn, xfc, xln, xlc, rfl, hxk, hxn, -⟩ := hx.letters
 obtain ⟨yk, yn, ys, ba, fa, la, bn, bc, fn, fc, ln, lc, rfl, hyk, hyn, -⟩ := hv.letters
 have hrow := hs.row
 obtain ⟨W1, hW1⟩ : ∃ W, W = w.alloc (.cells #[.int .i64 yk, .int .i64 yn, .string ys, .slice ba bn bc, .slice fa fn fc, .slice la ln lc] 32) := ⟨_, rfl⟩
 have hb1 : Below w.heap.size w W1 := by rw [hW1]; exact (Below.refl _ _).alloc (Nat.le_refl _) _
 have hbx1 : IsBox W1 w.heap.size (.int .i64 yk) (.int .i64 yn) (.string ys) (.slice ba bn bc) (.slice fa fn fc) (.slice la ln lc) := by rw [hW1]; exact IsBox.new w (.int .i64 yk) (.int .i64 yn) (.string ys) (.slice ba bn bc) (.slice fa fn fc) (.slice la ln lc)
 have hp : W1.heap.size = w.heap.size + 1 := by rw [hW1]; simp
 have hrow1 : W1.heap[s]? = some (.cells #[m, .int .i64 xk, .int .i64 xn, .string xs, .slice xba xbn xbc, .slice xfa xfn xfc, .slice xla xln xlc, .int .i64 wt, rv] 41 (0, 0)) := (hb1.block s hlt).trans hrow
 have HW1 := Lib.hid hW1; have HB1 := Lib.hid hb1; have HX1 := Lib.hid hbx1; have HP := Lib.hid hp; have HROW := Lib.hid hrow1
 have HX := Lib.hid hx; have HV := Lib.hid hv; have HT := Lib.hid hT; have HQ := Lib.hid hQ; have HS := Lib.hid hs
 have HXK := Lib.hid hxk; have HYK := Lib.hid hyk; have HXN := Lib.hid hxn; have HYN := Lib.hid hyn
 clear hW1 hb1 hbx1 hp hrow hrow1 hx hv hT hQ hs hxk hyk hxn hyn
 obtain ⟨nb, hnb⟩ : ∃ b, b = numB yk := ⟨_, rfl⟩
 have CN := Lib.hid (number_any yk (.int .i64 yn) (.string ys) (.slice ba bn bc) (.slice fa fn fc) (.slice la ln lc) W1)
 rw [← hnb] at CN
 rw [← HYK.out, ← hnb, ← HXK.out, ← HXN.out, ← HYN.out]
 clear hnb
 obtain ⟨rk, rn, re, hr⟩ : ∃ rk rn re, (rk, rn, re) = Num.reck (Num.sumR xn yn) xk yk := ⟨_, _, _, rfl⟩
 have hix : Num.In xn := by rw [HXN.out]; exact ⟨(VIn.lim HX.out).n0, (VIn.lim HX.out).n1⟩
 have hiy : Num.In yn := by rw [HYN.out]; exact ⟨(VIn.lim HV.out).n0, (VIn.lim HV.out).n1⟩
 have CA : Hid (∀ W, Calls Tryd.prog 28 #[.agg #[.int .i64 xk, .int .i64 xn, .string xs, .slice xba xbn xbc, .slice xfa xfn xfc, .slice xla xln xlc], .agg #[.int .i64 yk, .int .i64 yn, .string ys, .slice ba bn bc, .slice fa fn fc, .slice la ln lc]] W (ValE (rk, rn, re) W)) := fun W => by rw [hr]; exact numAdd_any xk xn yk yn _ _ _ _ _ _ _ _ W hix hiy
 have HIN : Hid (Num.In rk ∧ Num.In rn) := by have h := areck_in (Num.sumR xn yn) xk yk num_sumR; rw [← hr] at h; exact h
 rw [← hr]
 clear hr hix hiy
 obtain ⟨ox, hox⟩ : ∃ o, o = (if re = 0 then some (numV rk rn) else none) := ⟨_, rfl⟩
 show Calls _ _ _ _ (if nb = true then KindPost w s m rv H re (if re = 0 then some (numV rk rn) else none) else KindPost w s m rv H 0 none)
 rw [← hox]
 have HOX := Lib.hid hox
 clear hox
 cases nb with
 | false =>
  rw [if_neg (by decide)]
  go_enter Tryd.func12, Tryd.ntmps12
  go_upto_region 1 with fail
  rw [← HW1.out]
  obtain ⟨b0, b1, b2, b3, b4, b5⟩ := HX1.out.cells
  go_wp2_with fail
  refine CN.out.mono ?_
  rintro e w2 ⟨rfl, hb2⟩
  have HB2 : Hid (Below w.heap.size w w2) := HB1.out.trans (hb2.mono HB1.out.size)
  clear hb2
  go_wp2_with fail
  go_ret
  exact ⟨rfl, HB2.out⟩
 | true =>
  rw [if_pos rfl]
  go_enter Tryd.func12, Tryd.ntmps12
  go_upto_region 1 with fail
  rw [← HW1.out]
  obtain ⟨b0, b1, b2, b3, b4, b5⟩ := HX1.out.cells
  go_wp2_with fail
  refine CN.out.mono ?_
  rintro e w2 ⟨rfl, hb2⟩
  have HB2 : Hid (Below w.heap.size w w2) := HB1.out.trans (hb2.mono HB1.out.size)
  have HBB := Lib.hid (fun W (hb : Below w2.heap.size w2 W) => hb2.trans (hb.mono hb2.size))
  have HSZ := Lib.hid hb2.size
  clear b0 b1 b2 b3 b4 b5 hb2
  go_upto_region 3 with fail
  refine wp_region_inv0 (fun V => { tmps := #[.pointer (some ⟨s, 0, none⟩), .agg #[.int .i64 yk, .int .i64 yn, .string ys, .slice ba bn bc, .slice fa fn fc, .slice la ln lc], undef, .pointer (some ⟨w.heap.size, 0, none⟩), .int .i64 0, V 9, V 11, .agg #[.int .i64 yk, .int .i64 yn, .string ys, .slice ba bn bc, .slice fa fn fc, .slice la ln lc], .bool true, .bool false, V 6, V 0, V 1, V 2, V 3, V 4, V 5, V 7, V 8, undef, undef, undef, undef, undef, undef], defers := [] }) (CI w2 [.pointer (some ⟨s, 0, none⟩), .pointer (some ⟨s, 0, none⟩), .pointer (some ⟨s, 1, none⟩), .agg #[.int .i64 xk, .int .i64 xn, .string xs, .slice xba xbn xbc, .slice xfa xfn xfc, .slice xla xln xlc], .agg #[.int .i64 yk, .int .i64 yn, .string ys, .slice ba bn bc, .slice fa fn fc, .slice la ln lc]] (.int .i64 re) (H + 1) (numV rk rn)) (by kernel_rfl) (by kernel_rfl) (by kernel_rfl) (fun V => by kernel_rfl) ?_ CI.start ?_
  ·refine ⟨?_, ?_⟩
   ·refine inv_free rfl (fun D9 V w5 hDi hpre hI K hK => ?_)
    go_simp
    exact put_is (by kernel_rfl) (hK.out (.pointer (some ⟨s, 0, none⟩)) w5 (hI.step (by decide) rfl))
   refine ⟨?_, ?_⟩
   ·refine inv_free rfl (fun D9 V w5 hDi hpre hI K hK => ?_)
    have e0 : V 0 = .pointer (some ⟨s, 0, none⟩) := hI.known (by decide) (hpre.out 0 (by kernel_rfl))
    go_simp
    exact put_is (by rw [e0]; kernel_rfl) (hK.out (.pointer (some ⟨s, 0, none⟩)) w5 (hI.step (by decide) rfl))
   refine ⟨?_, ?_⟩
   ·refine inv_free rfl (fun D9 V w5 hDi hpre hI K hK => ?_)
    have e1 : V 1 = .pointer (some ⟨s, 0, none⟩) := hI.known (by decide) (hpre.out 1 (by kernel_rfl))
    go_simp
    exact put_is (by rw [e1]; kernel_rfl) (hK.out (.pointer (some ⟨s, 1, none⟩)) w5 (hI.step (by decide) rfl))
   refine ⟨?_, ?_⟩
   ·refine inv_free rfl (fun D9 V w5 hDi hpre hI K hK => ?_)
    have e2 : V 2 = .pointer (some ⟨s, 1, none⟩) := hI.known (by decide) (hpre.out 2 (by kernel_rfl))
    have c1 := (cell_of_row w5 _ 1 _ _ _ (((HBB.out _ hI.below).block s (by have := HP.out; omega)).trans HROW.out)).trans rfl
    have c2 := (cell_of_row w5 _ 2 _ _ _ (((HBB.out _ hI.below).block s (by have := HP.out; omega)).trans HROW.out)).trans rfl
    have c3 := (cell_of_row w5 _ 3 _ _ _ (((HBB.out _ hI.below).block s (by have := HP.out; omega)).trans HROW.out)).trans rfl
    have c4 := (cell_of_row w5 _ 4 _ _ _ (((HBB.out _ hI.below).block s (by have := HP.out; omega)).trans HROW.out)).trans rfl
    have c5 := (cell_of_row w5 _ 5 _ _ _ (((HBB.out _ hI.below).block s (by have := HP.out; omega)).trans HROW.out)).trans rfl
    have c6 := (cell_of_row w5 _ 6 _ _ _ (((HBB.out _ hI.below).block s (by have := HP.out; omega)).trans HROW.out)).trans rfl
    go_simp
    exact put_is (by rw [e2]; kernel_rfl) (hK.out (.agg #[.int .i64 xk, .int .i64 xn, .string xs, .slice xba xbn xbc, .slice xfa xfn xfc, .slice xla xln xlc]) w5 (hI.step (by decide) rfl))
   refine ⟨?_, ?_⟩
   ·refine inv_free rfl (fun D9 V w5 hDi hpre hI K hK => ?_)
    obtain ⟨b0, b1, b2, b3, b4, b5⟩ := (HX1.out.keep (HBB.out _ hI.below)).cells
    go_simp
    exact put_is (by kernel_rfl) (hK.out (.agg #[.int .i64 yk, .int .i64 yn, .string ys, .slice ba bn bc, .slice fa fn fc, .slice la ln lc]) w5 (hI.step (by decide) rfl))
   refine ⟨?_, ?_⟩
   ·refine inv_free rfl (fun D9 V w5 hDi hpre hI K hK => ?_)
    have e3 : V 3 = .agg #[.int .i64 xk, .int .i64 xn, .string xs, .slice xba xbn xbc, .slice xfa xfn xfc, .slice xla xln xlc] := hI.known (by decide) (hpre.out 3 (by kernel_rfl))
    have e4 : V 4 = .agg #[.int .i64 yk, .int .i64 yn, .string ys, .slice ba bn bc, .slice fa fn fc, .slice la ln lc] := hI.known (by decide) (hpre.out 4 (by kernel_rfl))
    go_simp
    refine (CA.out w5).mono ?_
    rintro e w6 ⟨rfl, hb6⟩
    exact put_is (by rw [e3, e4]; kernel_rfl) (hK.out _ w6 (hI.call hDi hb6 (leaf_in w6 _ rk rn HIN.out.1 HIN.out.2 H)))
   refine ⟨?_, ?_⟩
   ·refine inv_free rfl (fun D9 V w5 hDi hpre hI K hK => ?_)
    have h5 := hpre.out 5 (by kernel_rfl)
    go_simp
    exact put_is (by kernel_rfl) (hK.out (V 5) w5 (hI.moved h5))
   refine ⟨?_, ?_⟩
   ·refine inv_free rfl (fun D9 V w5 hDi hpre hI K hK => ?_)
    obtain ⟨v, e6, h7, -⟩ := hI.got (hpre.out 6 (by kernel_rfl))
    go_simp
    exact put_is (by rw [e6]; kernel_rfl) (hK.out v w5 h7)
   refine ⟨?_, ?_⟩
   ·refine inv_free rfl (fun D9 V w5 hDi hpre hI K hK => ?_)
    obtain ⟨v, e6, -, h8⟩ := hI.got (hpre.out 6 (by kernel_rfl))
    go_simp
    exact put_is (by rw [e6]; kernel_rfl) (hK.out (.int .i64 re) w5 h8)
   refine ⟨?_, ?_⟩
   ·refine inv_free rfl (fun D9 V w5 hDi hpre hI K hK => ?_)
    go_simp
    exact put_is (by kernel_rfl) (hK.out (.pointer (some ⟨w5.heap.size, 0, none⟩)) _ (hI.made hDi))
   refine ⟨?_, ?_⟩
   ·refine inv_free rfl (fun D9 V w5 hDi hpre hI K hK => ?_)
    obtain ⟨p, k9, n9, s9, ba9, fa9, la9, bn9, bc9, fn9, fc9, ln9, lc9, e9, e7, hbx, h10⟩ := hI.kept (hpre.out 9 (by kernel_rfl)) (hpre.out 7 (by kernel_rfl)) hDi
    obtain ⟨z0, z1, z2, z3, z4, z5⟩ := hbx.cells
    obtain ⟨q0, q1, q2, q3, q4, q5⟩ := hbx.thaw
    go_simp
    exact put_is (by rw [e9, e7]; kernel_rfl) (hK.out undef _ h10)
   refine ⟨?_, ?_⟩
   ·refine inv_free rfl (fun D9 V w5 hDi hpre hI K hK => ?_)
    obtain ⟨e8, h11⟩ := hI.err (hpre.out 8 (by kernel_rfl))
    go_simp
    exact put_is (by rw [e8]; kernel_rfl) (hK.out (.int .i64 re) w5 h11)
   trivial
  intro D9 V w9 hD9 hI9
  obtain ⟨p, k, n, z, b1, f1, l1, b2, b3, f2, f3, l2, l3, lo, hi, e9, e11, hbx, hv9, hlo, hhi, hp, hb9⟩ := hI9.end hD9
  rw [e9, e11]
  have HB9 : Hid (Below w.heap.size w w9) := HB2.out.trans (hb9.mono HB2.out.size)
  have HX9 := Lib.hid hbx
  have HV9 := Lib.hid hv9
  have HLO := Lib.hid hlo
  clear hI9 hD9 hbx hv9 hlo hhi hp hb9 e9 e11
  by_cases hre : re = 0
  ·subst hre
   have ho : ox = some (numV rk rn) := HOX.out.trans (if_pos rfl)
   subst ho
   obtain ⟨b0, b1, b2, b3, b4, b5⟩ := HX9.out.cells
   go_wp2_with fail
   refine (akeep_any B s m _ rv wt (fun g => lo ≤ g ∧ g < hi) H (numV rk rn) _ w9 hB (HS.out.keep (HB9.out.block s hlt)) HV9.out (fun h => by have := HLO.out; have := HSZ.out; have := HP.out; omega) (HT.out.mono (HB9.out.mono HT.out.1))).mono ?_
   rintro e w' ⟨rfl, hk⟩
   have HK := Lib.hid (KeptX.of HB9.out hk)
   clear hk
   go_wp2_with fail
   go_ret
   exact ⟨rfl, HK.out⟩
  ·have ee : ((re : Int) == 0) = false := by rw [beq_eq_false_iff_ne]; exact hre
   have ho : ox = none := HOX.out.trans (if_neg hre)
   subst ho
   go_wp2_with fail
   go_ret
   exact ⟨rfl, HB9.out⟩
end Acc
end Go.Proofs.YtngllchoiffniaaDoor
end
