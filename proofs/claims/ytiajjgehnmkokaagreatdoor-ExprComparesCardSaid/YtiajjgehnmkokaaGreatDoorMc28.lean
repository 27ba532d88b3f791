/- ExprRdr, ExprArgs, ExprRTerms, ExprRText. -/
import Derived.Test.YtiajjgehnmkokaaGreatDoorMc27
import Derived.Test.YtiajjgehnmkokaaGreatDoorMc20
set_option maxRecDepth 100000
set_option maxHeartbeats 20000000
section
namespace Go.Proofs.YtiajjgehnmkokaaGreatDoor
open Go.RowKit
open Seal
open Bson (Val)
structure RM (F : Nat → Prop) (w w' : World) : Prop where
 os : w'.os = w.os
 tape : w'.tape = w.tape
 output : w'.output = w.output
 size : w.heap.size ≤ w'.heap.size
 block : ∀ k, k < w.heap.size → ¬ F k → w'.heap[k]? = w.heap[k]?
section
variable {F G F' : Nat → Prop} {w w' w2 : World}
theorem RM.refl (F : Nat → Prop) (w : World) : RM F w w := ⟨rfl, rfl, rfl, Nat.le_refl _, fun _ _ _ => rfl⟩
theorem RM.trans (h : RM F w w') (h2 : RM G w' w2) (hG : ∀ k, k < w.heap.size → G k → F k) : RM F w w2 :=
 ⟨h2.os.trans h.os, h2.tape.trans h.tape, h2.output.trans h.output, Nat.le_trans h.size h2.size, fun k hk hn => (h2.block k (Nat.lt_of_lt_of_le hk h.size) (fun e => hn (hG k hk e))).trans (h.block k hk hn)⟩
theorem RM.of_below (hb : Below w.heap.size w w') : RM F w w' := ⟨hb.os, hb.tape, hb.output, hb.size, fun k hk _ => hb.block k hk⟩
theorem RM.of_grown {row : Option Nat} (h : w.grownBy w' row) : RM (fun k => row = some k) w w' := ⟨h.os, h.tape, h.output, h.size, fun k hk hn => h.block k hk (fun e => hn e.symm)⟩
theorem RM.below {B : Nat} (h : RM F w w') (hB : B ≤ w.heap.size) (hF : ∀ k, F k → B ≤ k) : Below B w w' := ⟨h.os, h.tape, h.output, h.size, fun k hk => h.block k (by omega) (fun e => by have := hF k e; omega)⟩
theorem RM.cell {b o : Nat} {v : Value} (h : RM F w w') (hc : w.cell? ⟨b, o, none⟩ = some v) (hn : ¬ F b) : w'.cell? ⟨b, o, none⟩ = some v :=
 (World.cell?_of_block (a := ⟨b, o, none⟩) (h.block b (World.block_lt_of_cell? w _ hc) hn)).trans hc
theorem RM.mono (h : RM F w w') (hF : ∀ k, k < w.heap.size → F k → G k) : RM G w w' := ⟨h.os, h.tape, h.output, h.size, fun k hk hn => h.block k hk (fun e => hn (hF k hk e))⟩
end
def RF (g : Nat) (pv : Value) (k : Nat) : Prop := k = g ∨ pv.ownBlock = some k
def TF (g B : Nat) (pv : Value) (k : Nat) : Prop := (g ≤ k ∧ k < B) ∨ pv.ownBlock = some k
def Mvd (w : World) (pv pv' : Value) : Prop := pv'.ownBlock = pv.ownBlock ∨ ∃ b, pv'.ownBlock = some b ∧ w.heap.size ≤ b
theorem Mvd.refl (w : World) (pv : Value) : Mvd w pv pv := .inl rfl
theorem Mvd.trans {w w' : World} {pv pv' pv2 : Value} (h : Mvd w pv pv') (h2 : Mvd w' pv' pv2) (hs : w.heap.size ≤ w'.heap.size) : Mvd w pv pv2 := by
 rcases h2 with h2 | ⟨b, h2, h3⟩
 ·rcases h with h | ⟨b, h, h3⟩
  ·exact .inl (h2.trans h)
  ·exact .inr ⟨b, h2.trans h, h3⟩
 ·exact .inr ⟨b, h2, by omega⟩
theorem Mvd.old {w : World} {pv pv' : Value} (h : Mvd w pv pv') {k : Nat} (hk : k < w.heap.size) (e : pv'.ownBlock = some k) : pv.ownBlock = some k := by
 rcases h with h | ⟨b, h, h3⟩
 ·exact h.symm.trans e
 ·have := Option.some.inj (h.symm.trans e); omega
theorem Mvd.rf {w : World} {g : Nat} {pv pv' : Value} (h : Mvd w pv pv') {k : Nat} (hk : k < w.heap.size) (e : RF g pv' k) : RF g pv k := e.imp id (h.old hk)
theorem RM.next {w w' w2 : World} {g : Nat} {pv pv' : Value} (h : RM (RF g pv) w w') (hm : Mvd w pv pv') (h2 : RM (RF g pv') w' w2) : RM (RF g pv) w w2 := h.trans h2 fun _ hk e => hm.rf hk e
def EvF (F : Nat → Prop) (w : World) (t : Value) (H : Nat) (f : Nat → Val → Expr.Out) : Prop := ∀ W, RM F w W → Ev W t H f
theorem EvF.ev {F : Nat → Prop} {w : World} {t : Value} {H : Nat} {f : Nat → Val → Expr.Out} (h : EvF F w t H f) : Ev w t H f := h w (RM.refl _ _)
theorem EvF.up {F : Nat → Prop} {w : World} {t : Value} {H H' : Nat} {f : Nat → Val → Expr.Out} (h : EvF F w t H f) (hH : H ≤ H') : EvF F w t H' f := fun W hW => (h W hW).up hH
theorem EvF.keep {F F' G : Nat → Prop} {w w' : World} {t : Value} {H : Nat} {f : Nat → Val → Expr.Out} (h : EvF F w t H f) (hm : RM G w w') (hG : ∀ k, k < w.heap.size → G k → F k) (hF : ∀ k, k < w.heap.size → F' k → F k) : EvF F' w' t H f :=
 fun W hW => h W ((hm.mono hG).trans hW hF)
def NotStr (w : World) (k : Nat) : Prop := ∀ c, w.heap[k]? ≠ some (.cells c 9 (0, 0))
def txtV (p : List ByteArray) : List Value := p.map .string
structure Rd (w : World) (g : Nat) (pv : Value) (L : List (List ByteArray)) : Prop where
 blk : w.heap[g]? = some (.cells #[pv] 59 (0, 0))
 own : ∃ xs, w.ownsRow (g + 1) 42 1 pv L.length xs ∧ ∀ i (hi : i < L.length), ∃ v, xs[i]? = some v ∧ w.ownsRow 0 9 1 v L[i].length (txtV L[i])
section
variable {w w' : World} {g : Nat} {pv : Value} {L : List (List ByteArray)}
theorem Rd.lt (h : Rd w g pv L) : g < w.heap.size := (Array.getElem?_eq_some_iff.1 h.blk).1
theorem Rd.block (h : Rd w g pv L) {k : Nat} (hk : pv.ownBlock = some k) : g < k ∧ k < w.heap.size := by
 obtain ⟨xs, h1, -⟩ := h.own
 have := owns_block h1 hk
 omega
theorem Rd.ge (h : Rd w g pv L) {k : Nat} (hk : RF g pv k) : g ≤ k ∧ k < w.heap.size := by
 rcases hk with rfl | hk
 ·exact ⟨Nat.le_refl _, h.lt⟩
 ·have := h.block hk; omega
theorem Rd.cell (h : Rd w g pv L) : w.cell? ⟨g, 0, none⟩ = some pv := (cell_of_row w g 0 _ _ _ h.blk).trans rfl
theorem owns_type {e : TypeId} {base size n : Nat} {v : Value} {xs : List Value} (h : w.ownsRow base e size v n xs) {k : Nat} (hk : v.ownBlock = some k) : ∃ c, w.heap[k]? = some (.cells c e (0, 0)) := by
 obtain ⟨_, ⟨rfl, _⟩ | ⟨b, cap, cur, rfl, hb, hrow, _⟩⟩ := h
 ·cases hk
 ·obtain rfl : b = k := Option.some.inj hk
  exact ⟨cur, hrow⟩
theorem notStr_of {e : TypeId} {c : Array Value} {k : Nat} (h : w.heap[k]? = some (.cells c e (0, 0))) (he : e ≠ 9) : NotStr w k := by
 intro c' e'
 rw [h] at e'
 injection e' with e1
 injection e1 with _ e2 _
 exact he e2
theorem Rd.notStr (h : Rd w g pv L) {k : Nat} (hk : RF g pv k) : NotStr w k := by
 rcases hk with rfl | hk
 ·exact notStr_of h.blk (by decide)
 ·obtain ⟨xs, h1, -⟩ := h.own
  obtain ⟨c, hc⟩ := owns_type h1 hk
  exact notStr_of hc (by decide)
theorem strs_keep {G : Nat → Prop} (hm : RM G w w') (hS : ∀ k, k < w.heap.size → G k → NotStr w k) {base n : Nat} {v : Value} {xs : List Value} (h : w.ownsRow base 9 1 v n xs) : w'.ownsRow base 9 1 v n xs :=
 owns_same h fun k hk => by
  obtain ⟨c, hc⟩ := owns_type h hk
  exact hm.block k (owns_block h hk).2 fun e => hS k (owns_block h hk).2 e c hc
theorem Rd.keep {G : Nat → Prop} (h : Rd w g pv L) (hm : RM G w w') (hG : ∀ k, k < w.heap.size → G k → ¬ RF g pv k) (hS : ∀ k, k < w.heap.size → G k → NotStr w k) : Rd w' g pv L := by
 obtain ⟨xs, h1, h2⟩ := h.own
 refine ⟨(hm.block g h.lt (fun e => hG g h.lt e (.inl rfl))).trans h.blk, xs, owns_same h1 (fun k hk => hm.block k (h.block hk).2 (fun e => hG k (h.block hk).2 e (.inr hk))), fun i hi => ?_⟩
 obtain ⟨v, h3, h4⟩ := h2 i hi
 exact ⟨v, h3, strs_keep hm hS h4⟩
theorem Rd.below (h : Rd w g pv L) (hb : Below w.heap.size w w') : Rd w' g pv L := h.keep (G := fun _ => False) (RM.of_below hb) (fun _ _ e => e.elim) (fun _ _ e => e.elim)
end
def RdrPost (w : World) (g : Nat) (pv : Value) (L P : List (List ByteArray)) (code : Int) (Good : World → Value → Value → Prop) (e : Ending) (w' : World) : Prop :=
 ∃ t pv' L', e = .returned (.tuple #[t, .int .i64 code]) ∧ RM (RF g pv) w w' ∧ Mvd w pv pv' ∧ Rd w' g pv' L' ∧ (code = 0 → L' = L ++ P ∧ Good w' pv' t)
def TermGood (g B : Nat) (H : Nat) (f : Nat → Val → Expr.Out) (w' : World) (pv' t : Value) : Prop := EvF (TF g B pv') w' t H f
def RowGood (g B : Nat) (H : Nat) (fs : List (Nat → Val → Expr.Out)) (w' : World) (pv' t : Value) : Prop :=
 ∃ a c, t = .slice a fs.length c ∧ fs.length ≤ c ∧ c ≤ 9223372036854775807 ∧ ∀ W, RM (TF g B pv') w' W → TermsIn W a H fs
def LF (g B : Nat) (pv rv : Value) (k : Nat) : Prop := TF g B pv k ∨ rv.ownBlock = some k
section
variable {w wr w2 w3 w5 : World} {g B size k n : Nat} {e : TypeId} {pv pvk pv2 rv v5 : Value} {xs xs5 : List Value} {L L2 : List (List ByteArray)}
theorem Rd.apart (hR : Rd w g pv L) (hB : g < B) (he2 : e ≠ 42) (ho : w.ownsRow B e size rv k xs) {b : Nat} (hb : rv.ownBlock = some b) : ¬ RF g pv b := by
 have h1 := owns_block ho hb
 rintro (rfl | h2)
 ·omega
 ·obtain ⟨ys, h3, -⟩ := hR.own
  obtain ⟨c1, h4⟩ := owns_type h3 h2
  obtain ⟨c2, h5⟩ := owns_type ho hb
  rw [h4] at h5
  injection h5 with h6
  injection h6 with _ h7 _
  exact he2 h7.symm
theorem loop_rm (hm0 : RM (RF g pv) w wr) (hv0 : Mvd w pv pvk) (hm : RM (RF g pvk) wr w2) (hb3 : Below w2.heap.size w2 w3) (ho3 : w3.ownsRow w.heap.size e size rv k xs) (hl : Lies w3 w5 rv v5) : RM (RF g pv) w w5 := by
 have h1 := (hm0.next hv0 hm).trans (RM.of_below (F := fun _ => False) hb3) (fun _ _ e => e.elim)
 exact h1.trans (RM.of_grown (Wrote.of_lies hl).1) (fun b hb e => by have := (owns_block ho3 e).1; omega)
theorem loop_rd (hR2 : Rd w2 g pv2 L2) (hB : g < B) (he1 : e ≠ 9) (he2 : e ≠ 42) (hb3 : Below w2.heap.size w2 w3) (ho3 : w3.ownsRow B e size rv k xs) (hl : Lies w3 w5 rv v5) : Rd w5 g pv2 L2 :=
 have hR3 := hR2.below hb3
 hR3.keep (RM.of_grown (Wrote.of_lies hl).1) (fun _ _ e => hR3.apart hB he2 ho3 e) (fun _ _ e => by obtain ⟨c, hc⟩ := owns_type ho3 e; exact notStr_of hc he1)
theorem lies_mvd (hl : Lies w3 w5 rv v5) : Mvd w3 rv v5 := (Wrote.of_lies hl).2
theorem loop_old (hB : g < B) (hR : Rd wr g pvk L) (hm : RM (RF g pvk) wr w2) (hv : Mvd wr pvk pv2) (hb3 : Below w2.heap.size w2 w3) (hl : Lies w3 w5 rv v5) {t : Value} {H : Nat} {f : Nat → Val → Expr.Out} (h : EvF (LF g B pvk rv) wr t H f) : EvF (LF g B pv2 v5) w5 t H f := by
 have hs := hm.size
 have hs3 := hb3.size
 refine h.keep (G := LF g B pvk rv) (((hm.mono (G := LF g B pvk rv) ?_).trans (RM.of_below (F := fun _ => False) hb3) (fun _ _ e => e.elim)).trans (RM.of_grown (Wrote.of_lies hl).1) (fun b hb e => .inr e)) (fun _ _ e => e) ?_
 ·rintro b hb (rfl | e)
  ·exact .inl (.inl ⟨Nat.le_refl _, hB⟩)
  ·exact .inl (.inr e)
 ·rintro b hb ((e | e) | e)
  ·exact .inl (.inl e)
  ·exact .inl (.inr (hv.old hb e))
  ·exact .inr ((lies_mvd hl).old (by omega) e)
theorem loop_new (hB : g < B) (hBr : B ≤ wr.heap.size) {B1 : Nat} (hB1 : wr.heap.size ≤ B1) (_ : wr.heap.size ≤ w2.heap.size) (hb3 : Below w2.heap.size w2 w3) (ho : wr.ownsRow B e size rv k xs) (hl : Lies w3 w5 rv v5) {t : Value} {H : Nat} {f : Nat → Val → Expr.Out} (h : EvF (TF g B1 pv2) w2 t H f) : EvF (LF g B pv2 v5) w5 t H f := by
 have hs3 := hb3.size
 have own : ∀ b, rv.ownBlock = some b → TF g B1 pv2 b := fun b e => .inl (by have := owns_block ho e; omega)
 refine h.keep (G := TF g B1 pv2) (((RM.of_below (F := TF g B1 pv2) hb3)).trans (RM.of_grown (Wrote.of_lies hl).1) (fun b hb e => own b e)) (fun _ _ e => e) ?_
 rintro b hb ((e | e) | e)
 ·exact .inl ⟨e.1, by omega⟩
 ·exact .inr e
 ·exact own b ((lies_mvd hl).old (by omega) e)
end
def TRow (w : World) (g B H : Nat) (pv rv : Value) (k : Nat) (fs : List (Nat → Val → Expr.Out)) (xs : List Value) : Prop :=
 w.ownsRow B 61 1 rv k xs ∧ ∀ i (hi : i < k) (hi2 : i < fs.length), ∃ t, xs[i]? = some t ∧ EvF (LF g B pv rv) w t H fs[i]
theorem TRow.good {w : World} {g B H : Nat} {pv rv : Value} {k : Nat} {fs : List (Nat → Val → Expr.Out)} {xs : List Value} {L : List (List ByteArray)} (h : TRow w g B H pv rv k fs xs) (hR : Rd w g pv L) (hB : g < B) (hk : fs.length = k) : RowGood g B H fs w pv rv := by
 subst hk
 obtain ⟨ho, hall⟩ := h
 rcases id ho with ⟨hxl, ⟨rfl, hn⟩ | ⟨b, cap, cur, rfl, hb, hrow, hc, hm, hsz, htake⟩⟩
 ·have := List.eq_nil_of_length_eq_zero hn
  subst this
  exact ⟨none, 0, rfl, Nat.le_refl _, by omega, fun _ _ => .inl rfl⟩
 ·have hap : ¬ RF g pv b := hR.apart hB (by decide) ho rfl
  refine ⟨_, cap, rfl, hc, by unfold maxLen at hm; omega, fun W hW => .inr ⟨b, 0, rfl, fun i hi => ?_⟩⟩
  obtain ⟨t, h1, h2⟩ := hall i hi hi
  refine ⟨t, ?_, h2 W (hW.mono fun _ _ e => .inl e)⟩
  have e : w.cell? ⟨b, 0 + i, none⟩ = some t := by
   rw [Nat.zero_add, cell_of_row w b i _ _ _ hrow, ← Array.getElem?_toList]
   have e2 : cur.toList[i]? = xs[i]? := by rw [← htake, List.getElem?_take_of_lt (by omega)]
   rw [e2, h1]
  refine hW.cell e ?_
  rintro (⟨_, e3⟩ | e3)
  ·omega
  ·exact hap (.inr e3)
inductive FitV : Val → Prop
 | mk (x : Val) (hs : x.s.size ≤ 4294967280) (hf : x.f.length ≤ 256) (hl : x.l.length ≤ 256) (hfs : ∀ p ∈ x.f, FitV p.2) (hls : ∀ y ∈ x.l, FitV y) : FitV x
theorem FitV.s {x : Val} (h : FitV x) : x.s.size ≤ 4294967280 := by cases h; assumption
theorem FitV.f {x : Val} (h : FitV x) : x.f.length ≤ 256 := by cases h; assumption
theorem FitV.l {x : Val} (h : FitV x) : x.l.length ≤ 256 := by cases h; assumption
theorem FitV.fs {x : Val} (h : FitV x) : ∀ p ∈ x.f, FitV p.2 := by cases h; assumption
theorem FitV.ls {x : Val} (h : FitV x) : ∀ y ∈ x.l, FitV y := by cases h; assumption
theorem FitV.args {x : Val} (h : FitV x) : (Expr.args x).length ≤ 256 ∧ ∀ y ∈ Expr.args x, FitV y := by
 unfold Expr.args
 split
 ·exact ⟨h.l, h.ls⟩
 ·exact ⟨by simp, fun y hy => by rw [List.mem_singleton.1 hy]; exact h⟩
def pathsV : Nat → Val → List (List ByteArray)
 | 0, _ => []
 | h + 1, x =>
  if x.kind = 5 then (if Expr.dollar x.s = true then [(Expr.pathOf x.s).getD []] else [])
  else if x.kind = 7 then (x.l.map (pathsV h)).flatten
  else if x.kind = 6 then
   (if (x.f.any fun p => Expr.dollar p.1) = true then
    (match x.f with
    | [(s, a)] => if s = Expr.literal then [] else ((Expr.args a).map (pathsV h)).flatten
    | _ => [])
   else (x.f.map fun p => pathsV h p.2).flatten)
  else []
def TermDo (N C h : Nat) : Prop :=
 ∀ (W0 w : World) (g : Nat) (pv : Value) (L : List (List ByteArray)) (Q : Nat → Prop) (x : Val) (v : Value), Ground W0 → W0.heap.size ≤ g → Below W0.heap.size W0 w → Rd w g pv L → VIn W0 Q h x v → FitV x → L.length + (pathsV h x).length ≤ 1000000 →
  Calls Tryz.prog 26 #[.pointer (some ⟨g, 0, none⟩), v] w (RdrPost w g pv L (pathsV h x) (Expr.parseV h x) (TermGood g w.heap.size (3 * h) (evF N C h x)))
end Go.Proofs.YtiajjgehnmkokaaGreatDoor
end
section
namespace Go.Proofs.YtiajjgehnmkokaaGreatDoor
open Go.RowKit
open Seal
open Bson (Val)
theorem items_old {W0 w : World} {Q : Nat → Prop} {V : Val → Value → Prop} {a : Option Addr} {l : List Val} (h : ItemsIn W0 Q V a l) (hb : Below W0.heap.size W0 w) : ItemsIn w (fun k => k < W0.heap.size) V a l := by
 rcases h with h | ⟨g, o, e, _, h⟩
 ·exact .inl h
 ·cases l with
  | nil => exact .inl rfl
  | cons x r =>
   have hg : g < W0.heap.size := by
    obtain ⟨v, ⟨c0, c1, c2, c3, c4, c5, _, h0, _⟩, _⟩ := h 0 (by simp)
    exact World.block_lt_of_cell? W0 _ h0
   refine .inr ⟨g, o, e, hg, fun i hi => ?_⟩
   obtain ⟨v, h1, h2⟩ := h i hi
   exact ⟨v, h1.keep hb, h2⟩
theorem items_keep {w w' : World} {Q Q' : Nat → Prop} {V : Val → Value → Prop} {a : Option Addr} {l : List Val} (h : ItemsIn w Q V a l) (hb : Below w.heap.size w w') (hQ : ∀ k, Q k → Q' k) : ItemsIn w' Q' V a l := by
 rcases h with h | ⟨g, o, e, hq, h⟩
 ·exact .inl h
 ·refine .inr ⟨g, o, e, hQ g hq, fun i hi => ?_⟩
  obtain ⟨v, h1, h2⟩ := h i hi
  exact ⟨v, h1.keep hb, h2⟩
theorem one_row {w : World} {Q : Nat → Prop} {V : Val → Value → Prop} {g : Nat} {x : Val} {a0 a1 a2 a3 a4 a5 : Value} {t : TypeId} (hr : w.heap[g]? = some (.cells #[a0, a1, a2, a3, a4, a5] t (0, 0))) (hq : Q g) (hx : V x (.agg #[a0, a1, a2, a3, a4, a5])) : ItemsIn w Q V (some ⟨g, 0, none⟩) [x] := by
 have e : ∀ j c, (#[a0, a1, a2, a3, a4, a5] : Array Value)[j]? = some c → w.cell? ⟨g, j, none⟩ = some c := fun j c hc => (cell_of_row _ _ j _ _ _ hr).trans hc
 refine .inr ⟨g, 0, rfl, hq, fun i hi => ?_⟩
 have : i = 0 := by simp at hi; omega
 subst this
 exact ⟨_, ⟨a0, a1, a2, a3, a4, a5, rfl, e 0 _ rfl, e 1 _ rfl, e 2 _ rfl, e 3 _ rfl, e 4 _ rfl, e 5 _ rfl⟩, hx⟩
theorem args_any (W0 w : World) (Q : Nat → Prop) (B : Nat) (x : Val) (v : Value) (hb : Below W0.heap.size W0 w) (hv : VIn W0 Q (B + 1) x v) :
  Calls Tryz.prog 80 #[v] w fun e w' => ∃ a c, e = .returned (.slice a (Expr.args x).length c) ∧ ((Expr.args x).length ≤ c ∧ c ≤ 9223372036854775807) ∧ ItemsIn w' (fun k => k < W0.heap.size ∨ w.heap.size ≤ k) (VIn W0 Q (B + 1)) a (Expr.args x) ∧ Below w.heap.size w w' := by
 obtain ⟨ik, im, is_, b0, f0, l0, bb0, bc0, fb0, fc0, lb0, lc0, rfl⟩ := hv.shape
 obtain ⟨W1, hW1⟩ : ∃ W1, W1 = w.alloc (.cells #[.int .i64 ik, .int .i64 im, .string is_, .slice b0 bb0 bc0, .slice f0 fb0 fc0, .slice l0 lb0 lc0] 26) := ⟨_, rfl⟩
 have hb0 : Below w.heap.size w W1 := by rw [hW1]; exact (Below.refl _ _).alloc (Nat.le_refl _) _
 have hx0 : IsBox W1 w.heap.size (.int .i64 ik) (.int .i64 im) (.string is_) (.slice b0 bb0 bc0) (.slice f0 fb0 fc0) (.slice l0 lb0 lc0) := by rw [hW1]; exact IsBox.new w (.int .i64 ik) (.int .i64 im) (.string is_) (.slice b0 bb0 bc0) (.slice f0 fb0 fc0) (.slice l0 lb0 lc0)
 have HB := Lib.hid hb0
 have HV := Lib.hid hv
 have HW1 := Lib.hid hW1
 obtain ⟨e1, -, -, e4, -⟩ := hv.top
 obtain ⟨x0, x1, x2, x3, x4, x5⟩ := hx0.cells
 have HX := Lib.hid hx0
 by_cases h7 : ik = 7
 ·have ha : Expr.args x = x.l := by unfold Expr.args; rw [if_pos (by rw [← e1]; exact h7)]
  have hcap : lb0 ≤ lc0 ∧ lc0 ≤ 9223372036854775807 := by
   obtain ⟨ba, fa, la, bc, fc, lc, e, -, -, -, h3, -⟩ := hv
   unfold agg at e
   simp only [Value.agg.injEq, Array.mk.injEq, List.cons.injEq, Value.slice.injEq, and_true] at e
   obtain ⟨-, -, -, -, -, -, e6, e7⟩ := e
   omega
  have hit := hv.items.2
  have hit2 : ItemsIn W1 (fun k => k < W0.heap.size ∨ w.heap.size ≤ k) (VIn W0 Q (B + 1)) l0 x.l :=
   (items_keep (items_old hit hb) hb0 (fun _ h => .inl h)).kept (Kept.of_below (Below.refl _ _)) (fun _ h => h) (fun _ _ h => h.up (Nat.le_succ _))
  have HE : Hid (ItemsIn W1 (fun k => k < W0.heap.size ∨ w.heap.size ≤ k) (VIn W0 Q (B + 1)) l0 x.l ∧ lb0 = x.l.length ∧ (lb0 ≤ lc0 ∧ lc0 ≤ 9223372036854775807)) := ⟨hit2, e4, hcap⟩
  rw [ha]
  subst h7
  clear hv e1 e4 ha hcap hit hit2 hW1 hx0 hb0 hb
  go_enter Tryz.func80, Tryz.ntmps80
  go_upto_region 1 with fail
  rw [← HW1.out]
  go_wp2_with fail
  go_ret
  exact ⟨l0, lc0, by rw [HE.out.2.1]; rfl, by rw [← HE.out.2.1]; exact HE.out.2.2, HE.out.1, HB.out⟩
 ·have h7b : (ik == 7) = false := by rw [beq_eq_false_iff_ne]; exact h7
  have ha : Expr.args x = [x] := by unfold Expr.args; rw [if_neg (by rw [← e1]; exact h7)]
  have hb1 : Below W1.heap.size W1 (W1.alloc (.cells #[.int .i64 ik, .int .i64 im, .string is_, .slice b0 bb0 bc0, .slice f0 fb0 fc0, .slice l0 lb0 lc0] 26)) := (Below.refl _ _).alloc (Nat.le_refl _) _
  have HE : Hid (ItemsIn (W1.alloc (.cells #[.int .i64 ik, .int .i64 im, .string is_, .slice b0 bb0 bc0, .slice f0 fb0 fc0, .slice l0 lb0 lc0] 26)) (fun k => k < W0.heap.size ∨ w.heap.size ≤ k) (VIn W0 Q (B + 1)) (some ⟨W1.heap.size, 0, none⟩) [x]) := one_row (heap_alloc_new W1 _) (.inr hb0.size) hv
  have HB1 := Lib.hid (hb0.trans (hb1.mono hb0.size))
  rw [ha]
  clear hv e1 e4 ha h7 hW1 hx0 hb0 hb1 hb
  go_enter Tryz.func80, Tryz.ntmps80
  go_upto_region 1 with fail
  rw [← HW1.out]
  go_wp2_with fail
  go_ret
  exact ⟨_, 1, rfl, ⟨Nat.le_refl _, by omega⟩, HE.out, HB1.out⟩
end Go.Proofs.YtiajjgehnmkokaaGreatDoor
end
section
namespace Go.Proofs.YtiajjgehnmkokaaGreatDoor
open Go.RowKit
open Seal
open Bson (Val)
theorem infoTerm : (Tryz.prog.info? 61).map (fun i => (i.zero, i.size, i.bytes)) = some (some .nilIface, 1, 16) := by kernel_rfl
namespace Expr
theorem parseAll_ok {ps : Val → Int} : ∀ {l : List Val}, (∀ y ∈ l, ps y = 0) → parseAll ps l = 0
 | [], _ => rfl
 | x :: r, h => by
  rw [parseAll, if_pos (h x List.mem_cons_self)]
  exact parseAll_ok fun y hy => h y (List.mem_cons_of_mem _ hy)
theorem parseAll_bad {ps : Val → Int} : ∀ {l : List Val} {k : Nat} (hk : k < l.length), (∀ i (hi : i < k), ps (l[i]'(by omega)) = 0) → ps l[k] ≠ 0 → parseAll ps l = ps l[k]
 | [], _, hk, _, _ => by simp at hk
 | x :: r, 0, _, _, h => by
  have h' : ¬ ps x = 0 := h
  rw [parseAll, if_neg h']; rfl
 | x :: r, k + 1, hk, hb, h => by
  have h1 : ps x = 0 := hb 0 (by omega)
  rw [parseAll, if_pos h1]
  exact parseAll_bad (l := r) (k := k) (by simpa using hk) (fun i hi => hb (i + 1) (by omega)) h
end Expr
theorem flatP_snoc {α β : Type} (f : α → List β) (l : List α) (k : Nat) (hk : k < l.length) : ((l.take (k + 1)).map f).flatten = ((l.take k).map f).flatten ++ f l[k] := by
 rw [List.take_succ_eq_append_getElem hk, List.map_append, List.flatten_append]
 simp
theorem flatP_le {α β : Type} (f : α → List β) (l : List α) (k : Nat) : ((l.take k).map f).flatten.length ≤ (l.map f).flatten.length := by
 conv => rhs; rw [← List.take_append_drop k l]
 rw [List.map_append, List.flatten_append, List.length_append]
 omega
theorem rterms_any (N C h : Nat) (IH : TermDo N C h) (W0 w : World) (g : Nat) (pv : Value) (L : List (List ByteArray)) (Q Qr : Nat → Prop) (a : Option Addr) (n c : Nat) (l : List Val) (hG : Ground W0) (hg : W0.heap.size ≤ g) (hb : Below W0.heap.size W0 w) (hR : Rd w g pv L) (hn : l.length = n) (hlim : n ≤ 256) (hF : ∀ y ∈ l, FitV y)
  (hI : ItemsIn w Qr (VIn W0 Q h) a l) (hQr : ∀ k, Qr k → ¬ RF g pv k) (hL : L.length + (l.map (pathsV h)).flatten.length ≤ 1000000) :
  Calls Tryz.prog 48 #[.pointer (some ⟨g, 0, none⟩), .slice a n c] w (RdrPost w g pv L (l.map (pathsV h)).flatten (Expr.parseAll (Expr.parseV h) l) (RowGood g w.heap.size (3 * h) (l.map (evF N C h)))) := by
 obtain ⟨i0, hi, hz0, hz1, hz2⟩ := info_parts infoTerm
 have HR := Lib.hid hR
 have HI := Lib.hid hI
 have HB := Lib.hid hb
 have HN := Lib.hid hn
 have HQ : Hid (∀ k, Qr k → ¬ RF g pv k) := hQr
 have HF := Lib.hid hF
 have HL := Lib.hid hL
 have HG := Lib.hid hG
 have HGE := Lib.hid hg
 have HGW : Hid (g < w.heap.size) := hR.lt
 have HIH : Hid (TermDo N C h) := IH
 obtain ⟨code, hcode⟩ : ∃ z, z = Expr.parseAll (Expr.parseV h) l := ⟨_, rfl⟩
 obtain ⟨P, hP⟩ : ∃ z, z = (l.map (pathsV h)).flatten := ⟨_, rfl⟩
 rw [← hcode, ← hP]
 have HC := Lib.hid hcode
 have HP := Lib.hid hP
 clear hR hI hb hn hQr hF hL hG hg IH hcode hP
 go_enter Tryz.func48, Tryz.ntmps48
 go_wp2_with fail
 go_loopw [6, 13] (fun rv i wr => ∃ (k : Nat) (pvk : Value) (xs : List Value), k ≤ n ∧ i = .int .i64 k ∧ Hid (∀ i (hi : i < k) (hi2 : i < l.length), Expr.parseV h l[i] = 0) ∧ Hid (Rd wr g pvk (L ++ ((l.take k).map (pathsV h)).flatten)) ∧ Hid (RM (RF g pv) w wr) ∧ Hid (Mvd w pv pvk) ∧ Hid (TRow wr g w.heap.size (3 * h) pvk rv k (l.map (evF N C h)) xs)) (fun _ i _ => n - (intOf i).toNat)
 case atStart => exact ⟨0, pv, [], Nat.zero_le _, rfl, fun _ h => absurd h (Nat.not_lt_zero _), by show Rd _ _ _ _; have := HR.out; simpa using this, RM.refl _ _, Mvd.refl _ _, World.ownsRow_nil _ _ _ _, fun i hi => absurd hi (Nat.not_lt_zero _)⟩
 case round =>
  obtain ⟨k, pvk, xs, hk, rfl, HOK, HRK, HM, HV, HT⟩ := hrel
  by_cases hlt : k < n
  ·have hkl : k < l.length := by rw [HN.out]; exact hlt
   obtain ⟨g0, o0, rfl, hq0, hall⟩ := HI.out.resolve_left (fun e => by rw [e] at hkl; cases hkl)
   obtain ⟨v1, hsix, hV⟩ := hall k hkl
   obtain ⟨ik, im, is_, b0, f0, l0, bb0, bc0, fb0, fc0, lb0, lc0, rfl⟩ := hV.shape
   obtain ⟨s0, s1, s2, s3, s4, s5⟩ := hsix.cells
   have hnq := HQ.out g0 hq0
   have s0 := HM.out.cell s0 hnq
   have s1 := HM.out.cell s1 hnq
   have s2 := HM.out.cell s2 hnq
   have s3 := HM.out.cell s3 hnq
   have s4 := HM.out.cell s4 hnq
   have s5 := HM.out.cell s5 hnq
   obtain ⟨W5, hW5⟩ : ∃ W5, W5 = wr.alloc (.cells #[.int .i64 ik, .int .i64 im, .string is_, .slice b0 bb0 bc0, .slice f0 fb0 fc0, .slice l0 lb0 lc0] 26) := ⟨_, rfl⟩
   obtain ⟨PB, hPB⟩ : ∃ P, P = wr.heap.size := ⟨_, rfl⟩
   have hb5 : Below wr.heap.size wr W5 := by rw [hW5]; exact (Below.refl _ _).alloc (Nat.le_refl _) _
   have hX5 : IsBox W5 PB (.int .i64 ik) (.int .i64 im) (.string is_) (.slice b0 bb0 bc0) (.slice f0 fb0 fc0) (.slice l0 lb0 lc0) := by rw [hW5, hPB]; exact IsBox.new wr (.int .i64 ik) (.int .i64 im) (.string is_) (.slice b0 bb0 bc0) (.slice f0 fb0 fc0) (.slice l0 lb0 lc0)
   have hBW : Below W0.heap.size W0 W5 := by
    have h1 := HB.out.trans (HM.out.below HB.out.size (fun b e => Nat.le_trans HGE.out (HR.out.ge e).1))
    exact h1.trans (hb5.mono h1.size)
   have hlen : (L ++ ((l.take k).map (pathsV h)).flatten).length + (pathsV h l[k]).length ≤ 1000000 := by
    have h1 := flatP_le (pathsV h) l (k + 1)
    rw [flatP_snoc (pathsV h) l k hkl, List.length_append] at h1
    have := HL.out
    rw [List.length_append]; omega
   have CK := Lib.hid (HIH.out W0 W5 g pvk _ Q l[k] _ HG.out HGE.out hBW (HRK.out.below hb5) hV (HF.out _ (List.getElem_mem hkl)) hlen)
   obtain ⟨ck, hck⟩ : ∃ z, z = Expr.parseV h l[k] := ⟨_, rfl⟩
   rw [← hck] at CK
   have HCK := Lib.hid hck
   have HW5 := Lib.hid hW5
   have HPB := Lib.hid hPB
   have HX5 := Lib.hid hX5
   have HB5 : Hid (Below wr.heap.size wr W5) := hb5
   have HR5 := Lib.hid (HRK.out.below hb5)
   clear hall hsix hV hnq hq0 hb5 hX5 hW5 hPB hck hlen hBW
   go_upto_region 5 with fail
   rw [← HW5.out, ← HPB.out]
   clear s0 s1 s2 s3 s4 s5
   obtain ⟨y0, y1, y2, y3, y4, y5⟩ := HX5.out.cells
   go_wp2_with fail
   refine CK.out.mono ?_
   rintro e w2 ⟨t, pv2, L2, rfl, hm2, hv2, hR2, hgood⟩
   have HM2 : Hid (RM (RF g pvk) wr w2) := (RM.of_below (F := RF g pvk) HB5.out).trans hm2 (fun _ _ e => e)
   have HV2 : Hid (Mvd wr pvk pv2) := by
    rcases hv2 with e | ⟨b, e, h1⟩
    ·exact .inl e
    ·exact .inr ⟨b, e, Nat.le_trans HB5.out.size h1⟩
   have HR2 := Lib.hid hR2
   have HGD : Hid (ck = 0 → L2 = L ++ ((l.take k).map (pathsV h)).flatten ++ pathsV h l[k] ∧ TermGood g W5.heap.size (3 * h) (evF N C h l[k]) w2 pv2 t) := hgood
   clear hm2 hv2 hR2 hgood CK y0 y1 y2 y3 y4 y5
   by_cases hz : ck = 0
   ·subst hz
    obtain ⟨hL2, htg⟩ := HGD.out rfl
    obtain ⟨TT, TK, tv, rfl, -⟩ := htg.ev
    obtain ⟨t, ht⟩ : ∃ t, t = Value.iface TT tv := ⟨_, rfl⟩
    rw [← ht] at htg
    have HTT := Lib.hid ht
    have HTG : Hid (EvF (TF g W5.heap.size pv2) w2 t (3 * h) (evF N C h l[k])) := htg
    have HL2 : Hid (L2 = L ++ ((l.take (k + 1)).map (pathsV h)).flatten) := by show _ = _; rw [hL2, flatP_snoc (pathsV h) l k hkl, List.append_assoc]
    have HOK2 : Hid (∀ i (hi : i < k + 1) (hi2 : i < l.length), Expr.parseV h l[i] = 0) := fun i hi hi2 => by
     by_cases e : i = k
     ·subst e; exact HCK.out.symm
     ·exact HOK.out i (by omega) hi2
    have hb6 : Below w2.heap.size w2 (w2.alloc (.cells #[.iface TT tv] 61)) := (Below.refl _ _).alloc (Nat.le_refl _) _
    have hap := fun b e => HRK.out.apart HGW.out (by decide) HT.out.1 (b := b) e
    have hO2 : w2.ownsRow w.heap.size 61 1 u6 k xs := owns_same HT.out.1 (fun b e => HM2.out.block b (owns_block HT.out.1 e).2 (hap b e))
    have HO6 := Lib.hid (owns_below hO2 hb6)
    have HB6 := Lib.hid hb6
    have HS6 : Hid (w.heap.size ≤ (w2.alloc (.cells #[.iface TT tv] 61)).heap.size) := Nat.le_trans HM.out.size (Nat.le_trans HM2.out.size hb6.size)
    have HNW := Lib.hid (one_new w2 (.iface TT tv) 61)
    clear hL2 htg hb6 hap hO2 ht HGD
    go_wp2_with (at_builtin; refine wpList_append_sz _ rfl (.tmp 26) (.tmp 28) 90 rfl w.heap.size 61 i0 .nilIface 1 16 Tryz.underlying90 hi hz0 hz1 hz2 rfl u6 k xs rfl HO6.out ⟨w2.heap.size, 0, none⟩ 1 1 [.iface TT tv] rfl rfl (by decide) (by decide) HNW.out (by intro u hu; rw [List.mem_singleton.1 hu]; exact rfl) (by unfold maxLen; omega) (by omega) HS6.out ?_)
    intro v9 w9 hown9 hlies9
    have HM9 : Hid (RM (RF g pv) w w9) := loop_rm HM.out HV.out HM2.out HB6.out HO6.out hlies9
    have HR9 : Hid (Rd w9 g pv2 L2) := loop_rd HR2.out HGW.out (by decide) (by decide) HB6.out HO6.out hlies9
    have HV9 : Hid (Mvd w pv pv2) := HV.out.trans HV2.out HM.out.size
    have HT9 : Hid (TRow w9 g w.heap.size (3 * h) pv2 v9 (k + 1) (l.map (evF N C h)) (xs ++ [t])) := by
     refine ⟨by rw [HTT.out]; exact hown9, fun i hi hi2 => ?_⟩
     by_cases e : i = k
     ·subst e
      refine ⟨t, ?_, ?_⟩
      ·have hx : xs.length = i := by have := HT.out.1.1; omega
       rw [List.getElem?_append_right (by omega), hx, Nat.sub_self]; rfl
      ·rw [List.getElem_map]
       exact loop_new HGW.out HM.out.size HB5.out.size HM2.out.size HB6.out HT.out.1 hlies9 HTG.out
     ·obtain ⟨t', h1, h2⟩ := HT.out.2 i (by omega) hi2
      refine ⟨t', ?_, loop_old HGW.out HRK.out HM2.out HV2.out HB6.out hlies9 h2⟩
      have hx : xs.length = k := by have := HT.out.1.1; omega
      rw [List.getElem?_append_left (by omega)]; exact h1
    have HR9' : Hid (Rd w9 g pv2 (L ++ ((l.take (k + 1)).map (pathsV h)).flatten)) := by have := HR9.out; rw [HL2.out] at this; exact this
    clear hown9 hlies9
    go_wp2_with fail
    go_roundw
    case rel => exact ⟨k + 1, pv2, _, by omega, by go_num, HOK2.out, HR9'.out, HM9.out, HV9.out, HT9.out⟩
    case measure => simp [intOf]; omega
   ·have hz2 : (ck == 0) = false := by rw [beq_eq_false_iff_ne]; exact hz
    have hz3 : (ck != 0) = true := by unfold bne; rw [hz2]; rfl
    have hres : code = ck := by
     rw [HC.out, Expr.parseAll_bad hkl (fun i hi => HOK.out i hi (by omega)) (by rw [← HCK.out]; exact hz), ← HCK.out]
    have HRES := Lib.hid hres
    have HZ := Lib.hid hz
    clear hz hres
    go_wp2_with fail
    refine bodyPost_ret (v := .tuple #[.slice none 0 0, .int .i64 ck]) ?_ rfl ?_
    ·simp [results, Tryz.results48, go_sem, *]
    ·exact ⟨_, pv2, L2, by rw [HRES.out], HM.out.next HV.out HM2.out, HV.out.trans HV2.out HM.out.size, HR2.out, fun e => absurd (HRES.out ▸ e) HZ.out⟩
  ·obtain rfl : k = n := by omega
   have htk : l.take k = l := List.take_of_length_le (by rw [HN.out]; exact Nat.le_refl _)
   have hres : code = 0 := by
    rw [HC.out]
    exact Expr.parseAll_ok fun y hy => by
     obtain ⟨i, hi, rfl⟩ := List.getElem_of_mem hy
     exact HOK.out i (by rw [← HN.out]; exact hi) hi
   have hR := HRK.out
   rw [htk, ← HP.out] at hR
   have HRF := Lib.hid hR
   have HGOOD : Hid (RowGood g w.heap.size (3 * h) (l.map (evF N C h)) wr pvk u6) := TRow.good HT.out HRK.out HGW.out (by rw [List.length_map]; exact HN.out)
   have HRES := Lib.hid hres
   clear htk hres hR
   go_wp2_with fail
   refine bodyPost_ret (v := .tuple #[u6, .int .i64 0]) ?_ rfl ?_
   ·simp [results, Tryz.results48, go_sem, *]
   ·exact ⟨u6, pvk, _, by rw [HRES.out], HM.out, HV.out, HRF.out, fun _ => ⟨rfl, HGOOD.out⟩⟩
end Go.Proofs.YtiajjgehnmkokaaGreatDoor
end
section
namespace Go.Proofs.YtiajjgehnmkokaaGreatDoor
open Go.RowKit
open Seal
open Bson (Val)
theorem infoNames : (Tryz.prog.info? 42).map (fun i => (i.zero, i.size, i.bytes)) = some (some (.slice none 0 0), 1, 24) := by kernel_rfl
theorem parse_len {l : List UInt8} {p : List (List UInt8)} (h : Path.parse l = some p) : p.length ≤ 16 := by
 unfold Path.parse at h
 split at h
 ·rename_i h2; rw [← Option.some.inj h]; exact h2.2
 ·cases h
theorem cut_list (s : ByteArray) : (s.extract 1 s.size).data.toList = s.data.toList.drop 1 := by
 obtain ⟨⟨l⟩⟩ := s
 simp [ByteArray.extract, ByteArray.copySlice, ByteArray.size]
 exact List.take_of_length_le (by simp)
theorem Rd.push {w w2 w5 : World} {g : Nat} {pv pvn v5 : Value} {L : List (List ByteArray)} {p : List ByteArray} {xs : List Value} {t : TypeId} {n5 : Nat} (hR : Rd w g pv L) (hb2 : Below w.heap.size w w2) (hp : w2.ownsRow w.heap.size 9 1 pvn p.length (txtV p))
  (hxs : ∀ i (hi : i < L.length), ∃ v, xs[i]? = some v ∧ w.ownsRow 0 9 1 v L[i].length (txtV L[i])) (hx : xs.length = L.length)
  (ho3 : (w2.alloc (.cells #[pvn] t)).ownsRow (g + 1) 42 1 pv L.length xs) (hown5 : w5.ownsRow (g + 1) 42 1 v5 n5 (xs ++ [pvn])) (hn5 : n5 = L.length + 1) (hl : Lies (w2.alloc (.cells #[pvn] t)) w5 pv v5) :
  Rd (w5.setCell ⟨g, 0, none⟩ v5) g v5 (L ++ [p]) ∧ RM (RF g pv) w (w5.setCell ⟨g, 0, none⟩ v5) ∧ Mvd w pv v5 ∧ (w5.setCell ⟨g, 0, none⟩ v5).ownsRow w.heap.size 9 1 pvn p.length (txtV p) := by
 subst hn5
 have hb3 : Below w2.heap.size w2 (w2.alloc (.cells #[pvn] t)) := (Below.refl _ _).alloc (Nat.le_refl _) _
 have hgr := (Wrote.of_lies hl).1
 have hs2 := hb2.size
 have hs3 := hb3.size
 have hs5 := hgr.size
 have hglt := hR.lt
 have hR3 : Rd (w2.alloc (.cells #[pvn] t)) g pv L := (hR.below hb2).below hb3
 have hg5 : w5.heap[g]? = some (.cells #[pv] 59 (0, 0)) := (hgr.block g (by omega) (fun e => by have := owns_block ho3 e.symm; omega)).trans hR3.blk
 have hset : ∀ k, k ≠ g → (w5.setCell ⟨g, 0, none⟩ v5).heap[k]? = w5.heap[k]? := fun k hk => Below.heap_setCell _ _ _ _ hk
 have hrm : RM (RF g pv) w (w5.setCell ⟨g, 0, none⟩ v5) := by
  refine ⟨hgr.os.trans (hb3.os.trans hb2.os), hgr.tape.trans (hb3.tape.trans hb2.tape), hgr.output.trans (hb3.output.trans hb2.output), ?_, fun k hk hn => ?_⟩
  ·show w.heap.size ≤ (w5.heap.modify _ _).size
   rw [Array.size_modify]; omega
  ·rw [hset k (fun e => hn (.inl e)), hgr.block k (by omega) (fun e => hn (.inr e.symm)), hb3.block k (by omega), hb2.block k hk]
 have hmv : Mvd w pv v5 := by
  rcases (Wrote.of_lies hl).2 with e | ⟨b, e, h⟩
  ·exact .inl e
  ·exact .inr ⟨b, e, by omega⟩
 -- rows of texts are not written
 have hstr : ∀ {base n : Nat} {v : Value} {ys : List Value}, (w2.alloc (.cells #[pvn] t)).ownsRow base 9 1 v n ys → (w5.setCell ⟨g, 0, none⟩ v5).ownsRow base 9 1 v n ys := by
  intro base n v ys h
  refine owns_same h fun k hk => ?_
  obtain ⟨c, hc⟩ := owns_type h hk
  have hne : ¬ RF g pv k := fun e => hR3.notStr e c hc
  rw [hset k (fun e => hne (.inl e)), hgr.block k (owns_block h hk).2 (fun e => hne (.inr e.symm))]
 have hp6 := hstr (owns_below hp hb3)
 refine ⟨⟨?_, xs ++ [pvn], ?_, fun i hi => ?_⟩, hrm, hmv, hp6⟩
 ·exact heap_setCell_same w5 g 0 _ _ v5 hg5
 ·rw [List.length_append]; exact ownsRow_setCell_below hown5 (Nat.lt_succ_self g) v5
 ·by_cases hi2 : i < L.length
  ·obtain ⟨v, h1, h2⟩ := hxs i hi2
   refine ⟨v, by rw [List.getElem?_append_left (by omega)]; exact h1, ?_⟩
   rw [List.getElem_append_left hi2]
   exact hstr (owns_below (owns_below h2 hb2) hb3)
  ·have : i = L.length := by rw [List.length_append] at hi; simp at hi; omega
   subst this
   refine ⟨pvn, by rw [List.getElem?_append_right (by omega), hx, Nat.sub_self]; rfl, ?_⟩
   have e : (L ++ [p])[L.length] = p := by simp
   rw [e]
   obtain ⟨h1, h2⟩ := hp6
   exact ⟨h1, h2.imp id fun ⟨b, cap, cur, e, _, h⟩ => ⟨b, cap, cur, e, Nat.zero_le _, h⟩⟩
theorem pathsV_text (h : Nat) (x : Val) (hk : x.kind = 5) : pathsV (h + 1) x = if Expr.dollar x.s = true then [(Expr.pathOf x.s).getD []] else [] := by
 rw [pathsV, if_pos hk]
theorem parseV_text (h : Nat) (x : Val) (hk : x.kind = 5) : Expr.parseV (h + 1) x = if Expr.dollar x.s = true then (if (Expr.pathOf x.s).isSome = true then 0 else 15) else 0 := by
 rw [Expr.parseV, if_neg (by rw [hk]; omega), if_pos hk]
theorem etext_any (N C h : Nat) (hN : 16 ≤ N) (W0 w : World) (g : Nat) (pv : Value) (L : List (List ByteArray)) (Q : Nat → Prop) (x : Val) (v : Value) (hk : x.kind = 5) (hG : Ground W0) (hg : W0.heap.size ≤ g) (hb : Below W0.heap.size W0 w) (hR : Rd w g pv L) (hv : VIn W0 Q (h + 1) x v) (hf : FitV x) (hL : L.length ≤ 1000000) :
  Calls Tryz.prog 46 #[.pointer (some ⟨g, 0, none⟩), v] w (RdrPost w g pv L (pathsV (h + 1) x) (Expr.parseV (h + 1) x) (TermGood g w.heap.size (3 * (h + 1)) (evF N C (h + 1) x))) := by
 obtain ⟨i0, hi, hz0, hz1, hz2⟩ := info_parts infoNames
 obtain ⟨ik, im, is_, b0, f0, l0, bb0, bc0, fb0, fc0, lb0, lc0, rfl⟩ := hv.shape
 obtain ⟨e1, -, e3, -, -⟩ := hv.top
 obtain ⟨W1, hW1⟩ : ∃ W, W = w.alloc (.cells #[.int .i64 ik, .int .i64 im, .string is_, .slice b0 bb0 bc0, .slice f0 fb0 fc0, .slice l0 lb0 lc0] 26) := ⟨_, rfl⟩
 obtain ⟨P1, hP1⟩ : ∃ P, P = w.heap.size := ⟨_, rfl⟩
 have hb1 : Below w.heap.size w W1 := by rw [hW1]; exact (Below.refl _ _).alloc (Nat.le_refl _) _
 have hX1 : IsBox W1 P1 (.int .i64 ik) (.int .i64 im) (.string is_) (.slice b0 bb0 bc0) (.slice f0 fb0 fc0) (.slice l0 lb0 lc0) := by rw [hW1, hP1]; exact IsBox.new w (.int .i64 ik) (.int .i64 im) (.string is_) (.slice b0 bb0 bc0) (.slice f0 fb0 fc0) (.slice l0 lb0 lc0)
 have HV := Lib.hid hv
 have HB := Lib.hid hb
 have HB1 : Hid (Below w.heap.size w W1) := hb1
 have HR := Lib.hid hR
 have HG1 : Hid (Ground W1) := hG.keep (hb.trans (hb1.mono hb.size))
 have CP := Lib.hid (cutDollar_any is_ W1)
 have HS : Hid (is_.size ≤ 4294967280) := by rw [e3]; exact hf.s
 have HW1 := Lib.hid hW1
 have HP1 := Lib.hid hP1
 have HX1 := Lib.hid hX1
 have HGE := Lib.hid hg
 rw [pathsV_text h x hk, parseV_text h x hk]
 have EP := Lib.hid (evF_path N C h x hk)
 have ET := Lib.hid (evF_text N C h x hk)
 rw [← e3] at EP ET ⊢
 cases hd : Expr.dollar is_ with
 | false =>
  rw [hd] at CP
  simp only [Bool.false_eq_true, if_false] at CP ⊢
  have HE := Lib.hid (ET.out hd)
  clear hv hb hR hG hf e1 e3 hW1 hP1 hX1 hb1 hg hk ET EP hd
  go_enter Tryz.func46, Tryz.ntmps46
  go_upto_region 1 with fail
  rw [← HW1.out, ← HP1.out]
  obtain ⟨x0, x1, x2, x3, x4, x5⟩ := HX1.out.cells
  go_wp2_with fail
  refine CP.out.mono ?_
  rintro e w2 ⟨rfl, hb2⟩
  have HB2 : Hid (Below w.heap.size w w2) := HB1.out.trans (hb2.mono HB1.out.size)
  have HX2 := Lib.hid (HX1.out.keep hb2)
  clear x0 x1 x2 x3 x4 x5 hb2 CP
  obtain ⟨x0, x1, x2, x3, x4, x5⟩ := HX2.out.cells
  go_wp2_with fail
  refine bodyPost_ret (v := .tuple #[.iface 95 (.agg #[.int .i64 ik, .int .i64 im, .string is_, .slice b0 bb0 bc0, .slice f0 fb0 fc0, .slice l0 lb0 lc0]), .int .i64 0]) ?_ rfl ?_
  ·simp [results, Tryz.results46, go_sem, *]
  ·refine ⟨_, pv, L, rfl, RM.of_below HB2.out, Mvd.refl _ _, HR.out.below HB2.out, fun _ => ⟨by simp, fun W hW => ?_⟩⟩
   rw [HE.out]
   have hbW : Below W0.heap.size W0 W := (HB.out.trans (HB2.out.mono HB.out.size)).trans (hW.below (Nat.le_trans HB.out.size HB2.out.size) (fun k e => by rcases e with e | e; exact Nat.le_trans HGE.out e.1; exact Nat.le_trans HGE.out (Nat.le_of_lt (HR.out.block e).1)))
   exact (ev_const W h Q x _ (VIn.keep hbW HV.out)).up (by omega)
 | true =>
  rw [hd] at CP
  simp only [if_true] at CP ⊢
  have hpe : Expr.pathOf is_ = (Path.parse (is_.extract 1 is_.size).data.toList).map Path.names := by rw [cut_list]; rfl
  have hss : (is_.extract 1 is_.size).size ≤ 4294967280 := by
   have := HS.out
   rw [ByteArray.size_extract]; omega
  have HE := Lib.hid (EP.out hd)
  obtain ⟨po, hpo⟩ : ∃ z, z = Expr.pathOf is_ := ⟨_, rfl⟩
  rw [← hpo] at HE hpe ⊢
  obtain ⟨code, hcode⟩ : ∃ z : Int, z = (if po.isSome = true then 0 else 15) := ⟨_, rfl⟩
  rw [← hcode]
  have HCO := Lib.hid hcode
  clear hcode
  generalize is_.extract 1 is_.size = cs at CP hpe hss
  have CPA : Hid (∀ W, Below W1.heap.size W1 W → Calls Tryz.prog 62 #[.string cs] W (ParseOwnP cs.data.toList W)) := fun W hW => ParseOwn_any cs W hss (HG1.out.keep hW)
  have HPE := Lib.hid hpe
  clear hv hb hR hG hf e1 e3 hW1 hP1 hX1 hb1 hg hk ET EP hd hpo hpe hss
  go_enter Tryz.func46, Tryz.ntmps46
  go_upto_region 1 with fail
  rw [← HW1.out, ← HP1.out]
  obtain ⟨x0, x1, x2, x3, x4, x5⟩ := HX1.out.cells
  go_wp2_with fail
  refine CP.out.mono ?_
  rintro e w2 ⟨rfl, hb2⟩
  have HB2 : Hid (Below w.heap.size w w2) := HB1.out.trans (hb2.mono HB1.out.size)
  have CPB := Lib.hid (CPA.out w2 hb2)
  clear x0 x1 x2 x3 x4 x5 hb2 CP CPA
  go_wp2_with fail
  refine CPB.out.mono ?_
  rintro e w3 ⟨nv, ok, rfl, hb3, hsome, hnone⟩
  have HB3 : Hid (Below w.heap.size w w3) := HB2.out.trans (hb3.mono HB2.out.size)
  cases hp : Path.parse cs.data.toList with
  | none =>
   obtain ⟨rfl, rfl⟩ := hnone hp
   rw [hp] at HPE
   have HPO : Hid (po = none) := HPE.out
   clear hsome hnone hb3 CPB hp
   go_wp2_with fail
   refine bodyPost_ret (v := .tuple #[.nilIface, .int .i64 15]) ?_ rfl ?_
   ·simp [results, Tryz.results46, go_sem, *]
   ·refine ⟨_, pv, L, by rw [HCO.out, HPO.out]; rfl, RM.of_below HB3.out, Mvd.refl _ _, HR.out.below HB3.out, fun e => ?_⟩
    rw [HCO.out, HPO.out] at e; cases e
  | some p =>
   obtain ⟨rfl, hown⟩ := hsome p hp
   rw [hp] at HPE
   have HPO : Hid (po = some (Path.names p)) := HPE.out
   have HLEN : Hid ((Path.names p).length ≤ 16) := by show _ ≤ _; rw [Path.names_length]; exact parse_len hp
   have hown2 : w3.ownsRow w.heap.size 9 1 nv (Path.names p).length (txtV (Path.names p)) := by
    rw [Path.strs_names, ← Path.names_length] at hown
    obtain ⟨h1, h2⟩ := hown
    exact ⟨h1, h2.imp id fun ⟨b, cap, cur, e, h3, h⟩ => ⟨b, cap, cur, e, Nat.le_trans HB2.out.size h3, h⟩⟩
   obtain ⟨na, nc, hnv⟩ := owns_shape hown2
   obtain ⟨nn, hnn⟩ : ∃ z, z = (Path.names p).length := ⟨_, rfl⟩
   rw [← hnn] at hnv
   subst hnv
   have HOWN := Lib.hid hown2
   clear hnn
   generalize Path.names p = q at HPO HLEN HOWN
   obtain ⟨xs, hox, hxs⟩ := HR.out.own
   obtain ⟨ln, hln⟩ : ∃ z, z = L.length := ⟨_, rfl⟩
   have hb4 : Below w3.heap.size w3 (w3.alloc (.cells #[.slice na nn nc] 42)) := (Below.refl _ _).alloc (Nat.le_refl _) _
   have hO4 : (w3.alloc (.cells #[.slice na nn nc] 42)).ownsRow (g + 1) 42 1 pv L.length xs := owns_below (owns_below hox HB3.out) hb4
   have HO4' := Lib.hid hO4
   rw [← hln] at hO4
   have HO4 := Lib.hid hO4
   have HXS := Lib.hid hxs
   have HXL : Hid (xs.length = L.length) := by have := hox.1; show _ = _; omega
   have HNW := Lib.hid (one_new w3 (.slice na nn nc) 42)
   have hS4 : g + 1 ≤ (w3.alloc (.cells #[.slice na nn nc] 42)).heap.size := Nat.le_trans HR.out.lt (Nat.le_trans HB3.out.size hb4.size)
   have HS4 := Lib.hid hS4
   have HLN : Hid (ln = L.length) := hln
   have hlm : ln ≤ 1000000 := by omega
   have c0 : w3.cell? ⟨g, 0, none⟩ = some pv := (HR.out.below HB3.out).cell
   clear hsome hnone hb3 CPB hp hown hown2 hox hxs hb4 hO4 hS4 hln hL
   go_wp2_with (at_builtin; refine wpList_append_sz _ rfl (.tmp 31) (.tmp 33) 52 rfl (g + 1) 42 i0 (.slice none 0 0) 1 24 Tryz.underlying52 hi hz0 hz1 hz2 rfl pv ln xs rfl HO4.out ⟨w3.heap.size, 0, none⟩ 1 1 [.slice na nn nc] rfl rfl (by decide) (by decide) HNW.out (by intro u hu; rw [List.mem_singleton.1 hu]; rfl) (by unfold maxLen; omega) (by omega) HS4.out ?_)
   intro v5 w5 hown5 hlies5
   obtain ⟨va, vc, rfl⟩ := owns_shape hown5
   obtain ⟨hR6, hM6, hV6, hp6⟩ := HR.out.push HB3.out HOWN.out HXS.out HXL.out HO4'.out hown5 (by rw [HLN.out]) hlies5
   have hgr := (Wrote.of_lies hlies5).1
   have hR4 := (HR.out.below HB3.out).below ((Below.refl _ _).alloc (Nat.le_refl _) (.cells #[.slice na nn nc] 42))
   have hg5 : w5.heap[g]? = some (.cells #[pv] 59 (0, 0)) := (hgr.block g hR4.lt (fun e => by have := owns_block HO4.out e.symm; omega)).trans hR4.blk
   have c5 : w5.cell? ⟨g, 0, none⟩ = some pv := (cell_of_row w5 g 0 _ _ _ hg5).trans rfl
   have q5 : w5.frozen? ⟨g, 0, none⟩ = false := frozen_of_row w5 g 0 _ _ hg5
   have HR6 := Lib.hid hR6
   have HM6 := Lib.hid hM6
   have HV6 := Lib.hid hV6
   have HP6 := Lib.hid hp6
   clear hown5 hlies5 hR6 hM6 hV6 hp6 hgr hR4 hg5 c0
   go_wp2_with fail
   refine bodyPost_ret (v := .tuple #[.iface 106 (.slice na nn nc), .int .i64 0]) ?_ rfl ?_
   ·simp [results, Tryz.results46, go_sem, *]
   ·refine ⟨_, _, L ++ [q], by rw [HCO.out, HPO.out]; rfl, HM6.out, HV6.out, HR6.out, fun _ => ⟨by rw [HPO.out]; rfl, fun W hW => ?_⟩⟩
    rw [HE.out, HPO.out]
    have hoW : W.ownsRow w.heap.size 9 1 (.slice na nn nc) q.length (txtV q) := by
     refine owns_same HP6.out fun k hk => hW.block k (owns_block HP6.out hk).2 ?_
     rintro (e | e)
     ·have := (owns_block HP6.out hk).1; omega
     ·obtain ⟨c, hc⟩ := owns_type HP6.out hk
      exact HR6.out.notStr (.inr e) c hc
    obtain ⟨a, c, e, hc, hst⟩ := owns_strs hoW
    rw [e]
    exact (ev_reach W N q a q.length c (Nat.le_trans HLEN.out hN) rfl hc.1 hst).up (by omega)
end Go.Proofs.YtiajjgehnmkokaaGreatDoor
end
