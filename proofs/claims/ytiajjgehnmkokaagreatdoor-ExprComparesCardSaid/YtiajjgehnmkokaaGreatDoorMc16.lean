/- RefCmp. -/
import Derived.Test.YtiajjgehnmkokaaGreatDoorMc11
import Derived.Test.YtiajjgehnmkokaaGreatDoorMc12
import Derived.Test.YtiajjgehnmkokaaGreatDoorMc15
import Derived.Test.YtiajjgehnmkokaaGreatDoorMc5
set_option maxRecDepth 100000
set_option maxHeartbeats 20000000
section
namespace Go.Proofs.YtiajjgehnmkokaaGreatDoor
open Go.RowKit
open Seal
open Bson (Val)
theorem cls_of {k : Int} : (k = 3 ∨ k = 4 → Order.cls k = 3) ∧ (k = 10 → Order.cls k = 9) ∧ (k = 11 → Order.cls k = 10) ∧ (k = 5 → Order.cls k = 4) ∧ (k = 6 → Order.cls k = 5) ∧ (k = 7 → Order.cls k = 6) ∧ (k = 8 → Order.cls k = 7) ∧ (k = 9 → Order.cls k = 8) := by
 unfold Order.cls
 refine ⟨fun h => ?_, fun h => ?_, fun h => ?_, fun h => ?_, fun h => ?_, fun h => ?_, fun h => ?_, fun h => ?_⟩
 ·rcases h with rfl | rfl <;> rfl
 all_goals (subst h; rfl)
theorem cls_rest {k : Int} (h : k < 3 ∨ 11 < k) : Order.cls k = -1 ∨ Order.cls k = 0 ∨ Order.cls k = 1 ∨ Order.cls k = 2 ∨ Order.cls k = 11 := by
 unfold Order.cls
 split
 ·omega
 ·split <;> omega
theorem inner_rest {c : Val → Val → Int} {k : Int} (x y : Val) (h : k = -1 ∨ k = 0 ∨ k = 1 ∨ k = 2 ∨ k = 11) : Order.inner c k x y = 0 := by
 rcases h with rfl | rfl | rfl | rfl | rfl <;> rfl
theorem refCompare_any : ∀ (h : Nat), RefCmpAt h
 | 0 => fun _ _ _ _ _ _ _ hx _ => hx.elim
 | h + 1 => fun Q Q2 x y u v w hx hy => by
  have IH := refCompare_any h
  obtain ⟨xk, xn, xs, ba, fa, la, bn, bc, fn, fc, ln, lc, rfl, hxk, hxn, hxs, hbn, hfn, hln, hL, hF, hI⟩ := hx.letters
  obtain ⟨yk, yn, ys, ba2, fa2, la2, bn2, bc2, fn2, fc2, ln2, lc2, rfl, hyk, hyn, hys, hbn2, hfn2, hln2, hL2, hF2, hI2⟩ := hy.letters
  obtain ⟨ho, hsl⟩ := hx.byt
  obtain ⟨ho2, hsl2⟩ := hy.byt
  have bx := hx.kind_bd
  have bx2 := hy.kind_bd
  by_cases e : Order.cls xk = Order.cls yk
  case neg =>
   refine (refCmp_ne xk xn yk yn xs ys ba fa la ba2 fa2 la2 bn bc fn fc ln lc bn2 bc2 fn2 fc2 ln2 lc2 w bx bx2 (fun z => e (Order.sgn_zero.1 z))).mono fun e2 w2 hp => ?_
   have : Order.cmp (h + 1) x y = Order.sgn (Order.cls xk) (Order.cls yk) := by rw [hxk, hyk] at e ⊢; exact cmp_other (fun z => e (Order.sgn_zero.1 z))
   rw [this]; exact hp
  have same : ∀ k, Order.cls xk = k → Order.cmp (h + 1) x y = Order.inner (Order.cmp h) k x y := fun k hk => cmp_same (by rw [← hxk]; exact hk) (by rw [← hyk, ← e]; exact hk)
  obtain ⟨c3, c10, c11, c5, c6, c7, c8, c9⟩ := @cls_of xk
  by_cases k3 : xk = 3 ∨ xk = 4 ∨ xk = 10 ∨ xk = 11
  ·refine (refCmp_num xk xn yk yn xs ys ba fa la ba2 fa2 la2 bn bc fn fc ln lc bn2 bc2 fn2 fc2 ln2 lc2 w bx bx2 k3 e).mono fun e2 w2 hp => ?_
   have : Order.cmp (h + 1) x y = Order.sgn xn yn := by
    rw [hxn, hyn]
    rcases k3 with z | z | z | z
    ·rw [same 3 (c3 (.inl z))]; rfl
    ·rw [same 3 (c3 (.inr z))]; rfl
    ·rw [same 9 (c10 z)]; rfl
    ·rw [same 10 (c11 z)]; rfl
   rw [this]; exact hp
  by_cases k5 : xk = 5
  ·refine (refCmp_text xk xn yk yn xs ys ba fa la ba2 fa2 la2 bn bc fn fc ln lc bn2 bc2 fn2 fc2 ln2 lc2 w bx bx2 k5 e (by rw [hxs]; exact hL.s) (by rw [hys]; exact hL2.s)).mono fun e2 w2 hp => ?_
   have : Order.cmp (h + 1) x y = Order.text xs ys := by rw [hxs, hys, same 4 (c5 k5)]; rfl
   rw [this]; exact hp
  by_cases k8 : xk = 8
  ·have hin : Order.cmp (h + 1) x y = Order.blob x.b y.b := by rw [same 7 (c8 k8)]; rfl
   by_cases hn : bn = bn2
   ·refine (refCmp_blob xk xn yk yn xs ys ba fa la ba2 fa2 la2 bn bc fn fc ln lc bn2 bc2 fn2 fc2 ln2 lc2 w bx bx2 k8 e hn x.b y.b hbn.symm hbn2.symm hsl hsl2 ho ho2 (by rw [hbn]; exact hL.b) (by rw [hbn2]; exact hL2.b)).mono fun e2 w2 hp => ?_
    have : Order.cmp (h + 1) x y = Order.octs x.b y.b := by rw [hin, Order.blob, if_pos (Order.sgn_zero.2 (by omega))]
    rw [this]; exact hp
   ·refine (refCmp_blobne xk xn yk yn xs ys ba fa la ba2 fa2 la2 bn bc fn fc ln lc bn2 bc2 fn2 fc2 ln2 lc2 w bx bx2 k8 e hn).mono fun e2 w2 hp => ?_
    have : Order.cmp (h + 1) x y = Order.sgn (bn : Int) (bn2 : Int) := by rw [hin, Order.blob, if_neg (fun z => hn (by have := Order.sgn_zero.1 z; omega)), hbn, hbn2]
    rw [this]; exact hp
  by_cases k9 : xk = 9
  ·refine (refCmp_id xk xn yk yn xs ys ba fa la ba2 fa2 la2 bn bc fn fc ln lc bn2 bc2 fn2 fc2 ln2 lc2 w bx bx2 k9 e x.b y.b hbn.symm hbn2.symm hsl hsl2 ho ho2 (by rw [hbn]; exact hL.b) (by rw [hbn2]; exact hL2.b)).mono fun e2 w2 hp => ?_
   have : Order.cmp (h + 1) x y = Order.octs x.b y.b := by rw [same 8 (c9 k9)]; rfl
   rw [this]; exact hp
  by_cases k6 : xk = 6
  ·refine (refCmp_doc h IH Q Q2 xk xn yk yn xs ys ba fa la ba2 fa2 la2 bn bc fn fc ln lc bn2 bc2 fn2 fc2 ln2 lc2 w bx bx2 k6 e x.f y.f hfn.symm hfn2.symm (by rw [hfn]; exact hL.f) (by rw [hfn2]; exact hL2.f) hF hF2).mono fun e2 w2 hp => ?_
   have : Order.cmp (h + 1) x y = Order.lex (Order.fld (Order.cmp h)) x.f y.f := by rw [same 5 (c6 k6)]; rfl
   rw [this]; exact hp
  by_cases k7 : xk = 7
  ·refine (refCmp_list h IH Q Q2 xk xn yk yn xs ys ba fa la ba2 fa2 la2 bn bc fn fc ln lc bn2 bc2 fn2 fc2 ln2 lc2 w bx bx2 k7 e x.l y.l hln.symm hln2.symm (by rw [hln]; exact hL.l) (by rw [hln2]; exact hL2.l) hI hI2).mono fun e2 w2 hp => ?_
   have : Order.cmp (h + 1) x y = Order.lex (Order.cmp h) x.l y.l := by rw [same 6 (c7 k7)]; rfl
   rw [this]; exact hp
  ·have hr : xk < 3 ∨ 11 < xk := by omega
   refine (refCmp_else xk xn yk yn xs ys ba fa la ba2 fa2 la2 bn bc fn fc ln lc bn2 bc2 fn2 fc2 ln2 lc2 w bx bx2 hr e).mono fun e2 w2 hp => ?_
   have : Order.cmp (h + 1) x y = 0 := by rw [same _ rfl]; exact inner_rest x y (cls_rest hr)
   rw [this]; exact hp
end Go.Proofs.YtiajjgehnmkokaaGreatDoor
end
