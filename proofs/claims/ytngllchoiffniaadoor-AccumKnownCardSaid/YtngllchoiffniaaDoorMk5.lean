/- NumOps, OrderCmp. -/
import Derived.Test.YtngllchoiffniaaDoorMk4
import Derived.Test.YtngllchoiffniaaDoorMk2
set_option maxRecDepth 100000
set_option maxHeartbeats 20000000
section
namespace Go.Proofs.YtngllchoiffniaaDoor
open Go.RowKit
open Seal
open Num
theorem numAdd_any (ak an bk bn : Int) (p2 p3 p4 p5 q2 q3 q4 q5 : Value) (w : World) (ha : In an) (hb : In bn) : Calls Tryd.prog 28 #[.agg #[.int .i64 ak, .int .i64 an, p2, p3, p4, p5], .agg #[.int .i64 bk, .int .i64 bn, q2, q3, q4, q5]] w (ValE (reck (sumR an bn) ak bk) w) := by
 have HR0 := Lib.hid (R3.new w #[Value.int .i64 ak, .int .i64 an, p2, p3, p4, p5] #[Value.int .i64 bk, .int .i64 bn, q2, q3, q4, q5])
 have HC := Lib.hid (fun w => reckon_sum ak an bk bn p2 p3 p4 p5 q2 q3 q4 q5 w ha hb)
 clear ha hb
 generalize reck (sumR an bn) ak bk = r at *
 obtain ⟨k, n, e⟩ := r
 go_enter Tryd.func28, Tryd.ntmps28
 go_wp2_with fail
 generalize hW : (((w.alloc (.cells #[Value.int .i64 ak, .int .i64 an, p2, p3, p4, p5] 32)).alloc (.cells #[Value.int .i64 bk, .int .i64 bn, q2, q3, q4, q5] 32)).alloc (.cells #[Value.int .i64 0, .int .i64 0, .string ⟨#[]⟩, .slice none 0 0, .slice none 0 0, .slice none 0 0] 32)) = W0 at *
 clear hW
 obtain ⟨⟨a0, a1, a2, a3, a4, a5⟩, ⟨b0, b1, b2, b3, b4, b5⟩, ⟨z0, z1, z2, z3, z4, z5⟩, f0, f1, f2, f3, f4, f5⟩ := HR0.out.all
 go_wp2_with fail
 go_at_call 40
 refine (HC.out _).mono ?_
 rintro ee w1 ⟨rfl, hb⟩
 clear a0 a1 a2 a3 a4 a5 b0 b1 b2 b3 b4 b5 z0 z1 z2 z3 z4 z5 f0 f1 f2 f3 f4 f5
 have HR1 := Lib.hid (HR0.out.step hb)
 clear hb
 obtain ⟨⟨a0, a1, a2, a3, a4, a5⟩, ⟨b0, b1, b2, b3, b4, b5⟩, ⟨z0, z1, z2, z3, z4, z5⟩, f0, f1, f2, f3, f4, f5⟩ := HR1.out.all
 go_wp2_with fail
 exact bodyPost_ret (v := .tuple #[.agg #[.int .i64 k, .int .i64 n, .string ⟨#[]⟩, .slice none 0 0, .slice none 0 0, .slice none 0 0], .int .i64 e]) (by simp [results, Tryd.results28, go_sem, *]) rfl (val_e rfl (below_six HR1.out.2.2.2 (by omega) _ _ _ _ _ _))
end Go.Proofs.YtngllchoiffniaaDoor
end
section
namespace Go.Proofs.YtngllchoiffniaaDoor
open Go.RowKit
open Seal
open Bson (Val)
theorem cls_range (k : Int) : Order.cls k = -1 ∨ Order.cls k = 0 ∨ Order.cls k = 1 ∨ Order.cls k = 2 ∨ Order.cls k = 3 ∨ Order.cls k = 4 ∨ Order.cls k = 5 ∨ Order.cls k = 6 ∨ Order.cls k = 7 ∨ Order.cls k = 8 ∨ Order.cls k = 9 ∨ Order.cls k = 10 ∨ Order.cls k = 11 := by
 unfold Order.cls
 split
 ·omega
 ·split <;> omega
theorem cmp_same {h : Nat} {x y : Val} {k : Int} (hx : Order.cls x.kind = k) (hy : Order.cls y.kind = k) : Order.cmp (h + 1) x y = Order.inner (Order.cmp h) k x y := by
 rw [Order.cmp, hx, hy, if_pos (Order.sgn_self k)]
theorem cmp_other {h : Nat} {x y : Val} (e : Order.sgn (Order.cls x.kind) (Order.cls y.kind) ≠ 0) : Order.cmp (h + 1) x y = Order.sgn (Order.cls x.kind) (Order.cls y.kind) := by
 rw [Order.cmp, if_neg e]
theorem compare_any : ∀ (h : Nat), CmpAt h
 | 0 => fun _ _ _ _ _ _ _ hx _ => hx.elim
 | h + 1 => fun Q Q2 x y u v w hx hy => by
  have IH := Lib.hid (compare_any h)
  obtain ⟨xk, xn, xs, ba, fa, la, bn, bc, fn, fc, ln, lc, rfl, hxk, hxn, hxs, hbn, hfn, hln, hL, hF, hI⟩ := hx.letters
  obtain ⟨yk, yn, ys, ba2, fa2, la2, bn2, bc2, fn2, fc2, ln2, lc2, rfl, hyk, hyn, hys, hbn2, hfn2, hln2, hL2, hF2, hI2⟩ := hy.letters
  obtain ⟨ho, hsl⟩ := hx.byt
  obtain ⟨ho2, hsl2⟩ := hy.byt
  have HB : Hid (Below w.heap.size w ((w.alloc (.cells #[Value.int .i64 xk, .int .i64 xn, .string xs, .slice ba bn bc, .slice fa fn fc, .slice la ln lc] 32)).alloc (.cells #[Value.int .i64 yk, .int .i64 yn, .string ys, .slice ba2 bn2 bc2, .slice fa2 fn2 fc2, .slice la2 ln2 lc2] 32))) := ((Below.refl _ w).alloc (Nat.le_refl _) _).alloc (by simp) _
  have hfl := hL.f; have hll := hL.l
  rw [← hfn] at hfl; rw [← hln] at hll
  have HCF := Lib.hid (cmpF_any h IH.out Q Q2 fa fa2 fn fc fn2 fc2 x.f y.f ((w.alloc (.cells #[Value.int .i64 xk, .int .i64 xn, .string xs, .slice ba bn bc, .slice fa fn fc, .slice la ln lc] 32)).alloc (.cells #[Value.int .i64 yk, .int .i64 yn, .string ys, .slice ba2 bn2 bc2, .slice fa2 fn2 fc2, .slice la2 ln2 lc2] 32)) hfn.symm hfn2.symm hfl (hF.kept (Kept.of_below HB.out) (fun _ g => g) (fun _ _ g => VIn.keep HB.out g)) (hF2.kept (Kept.of_below HB.out) (fun _ g => g) (fun _ _ g => VIn.keep HB.out g)))
  have HCL := Lib.hid (cmpV_any h IH.out Q Q2 la la2 ln lc ln2 lc2 x.l y.l ((w.alloc (.cells #[Value.int .i64 xk, .int .i64 xn, .string xs, .slice ba bn bc, .slice fa fn fc, .slice la ln lc] 32)).alloc (.cells #[Value.int .i64 yk, .int .i64 yn, .string ys, .slice ba2 bn2 bc2, .slice fa2 fn2 fc2, .slice la2 ln2 lc2] 32)) hln.symm hln2.symm hll (hI.kept (Kept.of_below HB.out) (fun _ g => g) (fun _ _ g => VIn.keep HB.out g)) (hI2.kept (Kept.of_below HB.out) (fun _ g => g) (fun _ _ g => VIn.keep HB.out g)))
  have hs1 : SliceIs ((w.alloc (.cells #[Value.int .i64 xk, .int .i64 xn, .string xs, .slice ba bn bc, .slice fa fn fc, .slice la ln lc] 32)).alloc (.cells #[Value.int .i64 yk, .int .i64 yn, .string ys, .slice ba2 bn2 bc2, .slice fa2 fn2 fc2, .slice la2 ln2 lc2] 32)) ba x.b := by
   rcases hsl with e | ⟨g, o, e, hs⟩
   ·exact .inl e
   ·exact .inr ⟨g, o, e, fun j hj => cell_keep HB.out (hs j hj)⟩
  have hs2 : SliceIs ((w.alloc (.cells #[Value.int .i64 xk, .int .i64 xn, .string xs, .slice ba bn bc, .slice fa fn fc, .slice la ln lc] 32)).alloc (.cells #[Value.int .i64 yk, .int .i64 yn, .string ys, .slice ba2 bn2 bc2, .slice fa2 fn2 fc2, .slice la2 ln2 lc2] 32)) ba2 y.b := by
   rcases hsl2 with e | ⟨g, o, e, hs⟩
   ·exact .inl e
   ·exact .inr ⟨g, o, e, fun j hj => cell_keep HB.out (hs j hj)⟩
  have HCB := Lib.hid (cmpBytes_any ((w.alloc (.cells #[Value.int .i64 xk, .int .i64 xn, .string xs, .slice ba bn bc, .slice fa fn fc, .slice la ln lc] 32)).alloc (.cells #[Value.int .i64 yk, .int .i64 yn, .string ys, .slice ba2 bn2 bc2, .slice fa2 fn2 fc2, .slice la2 ln2 lc2] 32)) ba ba2 x.b y.b bn bc bn2 bc2 hbn.symm hbn2.symm hs1 hs2 ho ho2)
  have HCI := Lib.hid (bytesCmp_any ((w.alloc (.cells #[Value.int .i64 xk, .int .i64 xn, .string xs, .slice ba bn bc, .slice fa fn fc, .slice la ln lc] 32)).alloc (.cells #[Value.int .i64 yk, .int .i64 yn, .string ys, .slice ba2 bn2 bc2, .slice fa2 fn2 fc2, .slice la2 ln2 lc2] 32)) ba ba2 x.b y.b bn bc bn2 bc2 hbn.symm hbn2.symm hs1 hs2 ho ho2)
  have HE := Lib.hid (And.intro hxk (And.intro hyk (And.intro (And.intro hxn hyn) (And.intro hxs hys))))
  clear hx hy hxk hxn hxs hbn hfn hln hL hF hI hyk hyn hys hbn2 hfn2 hln2 hL2 hF2 hI2 ho ho2 hsl hsl2 hfl hll hs1 hs2
  by_cases e : Order.sgn (Order.cls xk) (Order.cls yk) = 0
  case neg =>
   have he : (Order.sgn (Order.cls xk) (Order.cls yk) != 0) = true := by rw [bne_iff_ne]; exact e
   have HR := Lib.hid (show Order.cmp (h + 1) x y = Order.sgn (Order.cls xk) (Order.cls yk) by rw [HE.out.1, HE.out.2.1] at e ⊢; exact cmp_other e)
   clear e
   go_enter Tryd.func43, Tryd.ntmps43
   go_wp2_with (first | (go_at_call 51; refine (class_any _ _).mono ?_; rintro e w' ⟨rfl, rfl⟩) | (go_at_call 52; refine (cmpInt_any _ _ _).mono ?_; rintro e w' ⟨rfl, rfl⟩))
   go_ret
   exact ⟨ret_i HR.out.symm, HB.out⟩
  have he := Order.sgn_zero.1 e
  have hs0 : Order.sgn (Order.cls yk) (Order.cls yk) = 0 := Order.sgn_self _
  clear e
  rcases cls_range yk with hk | hk | hk | hk | hk | hk | hk | hk | hk | hk | hk | hk | hk
  ·have hk2 : Order.cls xk = -1 := he.trans hk
   have HR := Lib.hid (show Order.cmp (h + 1) x y = 0 from (cmp_same (k := -1) (by rw [← HE.out.1]; exact hk2) (by rw [← HE.out.2.1]; exact hk)).trans (by rfl))
   have hsz : Order.sgn (-1) (-1) = 0 := rfl
   clear he hs0
   go_enter Tryd.func43, Tryd.ntmps43
   go_wp2_with (first | (go_at_call 51; refine (class_any _ _).mono ?_; rintro e w' ⟨rfl, rfl⟩) | (go_at_call 52; refine (cmpInt_any _ _ _).mono ?_; rintro e w' ⟨rfl, rfl⟩))
   go_ret
   exact ⟨ret_i HR.out.symm, HB.out⟩
  ·have hk2 : Order.cls xk = 0 := he.trans hk
   have HR := Lib.hid (show Order.cmp (h + 1) x y = 0 from (cmp_same (k := 0) (by rw [← HE.out.1]; exact hk2) (by rw [← HE.out.2.1]; exact hk)).trans (by rfl))
   have hsz : Order.sgn 0 0 = 0 := rfl
   clear he hs0
   go_enter Tryd.func43, Tryd.ntmps43
   go_wp2_with (first | (go_at_call 51; refine (class_any _ _).mono ?_; rintro e w' ⟨rfl, rfl⟩) | (go_at_call 52; refine (cmpInt_any _ _ _).mono ?_; rintro e w' ⟨rfl, rfl⟩))
   go_ret
   exact ⟨ret_i HR.out.symm, HB.out⟩
  ·have hk2 : Order.cls xk = 1 := he.trans hk
   have HR := Lib.hid (show Order.cmp (h + 1) x y = 0 from (cmp_same (k := 1) (by rw [← HE.out.1]; exact hk2) (by rw [← HE.out.2.1]; exact hk)).trans (by rfl))
   have hsz : Order.sgn 1 1 = 0 := rfl
   clear he hs0
   go_enter Tryd.func43, Tryd.ntmps43
   go_wp2_with (first | (go_at_call 51; refine (class_any _ _).mono ?_; rintro e w' ⟨rfl, rfl⟩) | (go_at_call 52; refine (cmpInt_any _ _ _).mono ?_; rintro e w' ⟨rfl, rfl⟩))
   go_ret
   exact ⟨ret_i HR.out.symm, HB.out⟩
  ·have hk2 : Order.cls xk = 2 := he.trans hk
   have HR := Lib.hid (show Order.cmp (h + 1) x y = 0 from (cmp_same (k := 2) (by rw [← HE.out.1]; exact hk2) (by rw [← HE.out.2.1]; exact hk)).trans (by rfl))
   have hsz : Order.sgn 2 2 = 0 := rfl
   clear he hs0
   go_enter Tryd.func43, Tryd.ntmps43
   go_wp2_with (first | (go_at_call 51; refine (class_any _ _).mono ?_; rintro e w' ⟨rfl, rfl⟩) | (go_at_call 52; refine (cmpInt_any _ _ _).mono ?_; rintro e w' ⟨rfl, rfl⟩))
   go_ret
   exact ⟨ret_i HR.out.symm, HB.out⟩
  ·have hk2 : Order.cls xk = 3 := he.trans hk
   have HR := Lib.hid (show Order.cmp (h + 1) x y = Order.sgn xn yn from (cmp_same (k := 3) (by rw [← HE.out.1]; exact hk2) (by rw [← HE.out.2.1]; exact hk)).trans (by rw [HE.out.2.2.1.1, HE.out.2.2.1.2]; rfl))
   have hsz : Order.sgn 3 3 = 0 := rfl
   clear he hs0
   go_enter Tryd.func43, Tryd.ntmps43
   go_wp2_with (first | (go_at_call 51; refine (class_any _ _).mono ?_; rintro e w' ⟨rfl, rfl⟩) | (go_at_call 52; refine (cmpInt_any _ _ _).mono ?_; rintro e w' ⟨rfl, rfl⟩) | (go_at_call 53; refine (cmpI64_any _ _ _).mono ?_; rintro e w' ⟨rfl, rfl⟩))
   go_ret
   exact ⟨ret_i HR.out.symm, HB.out⟩
  ·have hk2 : Order.cls xk = 4 := he.trans hk
   have HR := Lib.hid (show Order.cmp (h + 1) x y = Order.text xs ys from (cmp_same (k := 4) (by rw [← HE.out.1]; exact hk2) (by rw [← HE.out.2.1]; exact hk)).trans (by rw [HE.out.2.2.2.1, HE.out.2.2.2.2]; rfl))
   have hsz : Order.sgn 4 4 = 0 := rfl
   clear he hs0
   go_enter Tryd.func43, Tryd.ntmps43
   go_wp2_with (first | (go_at_call 51; refine (class_any _ _).mono ?_; rintro e w' ⟨rfl, rfl⟩) | (go_at_call 52; refine (cmpInt_any _ _ _).mono ?_; rintro e w' ⟨rfl, rfl⟩) | (go_at_call 54; refine (strCmp_any _ _ _).mono ?_; rintro e w' ⟨rfl, rfl⟩))
   go_ret
   exact ⟨ret_i HR.out.symm, HB.out⟩
  ·have hk2 : Order.cls xk = 5 := he.trans hk
   have HR := Lib.hid (show Order.cmp (h + 1) x y = Order.lex (Order.fld (Order.cmp h)) x.f y.f from (cmp_same (k := 5) (by rw [← HE.out.1]; exact hk2) (by rw [← HE.out.2.1]; exact hk)).trans (by rfl))
   have hsz : Order.sgn 5 5 = 0 := rfl
   clear he hs0
   go_enter Tryd.func43, Tryd.ntmps43
   go_wp2_with (first | (go_at_call 51; refine (class_any _ _).mono ?_; rintro e w' ⟨rfl, rfl⟩) | (go_at_call 52; refine (cmpInt_any _ _ _).mono ?_; rintro e w' ⟨rfl, rfl⟩) | (go_at_call 55; refine HCF.out.mono ?_; rintro e w2 ⟨rfl, hb2⟩))
   go_ret
   exact ⟨ret_i HR.out.symm, HB.out.trans (hb2.mono HB.out.size)⟩
  ·have hk2 : Order.cls xk = 6 := he.trans hk
   have HR := Lib.hid (show Order.cmp (h + 1) x y = Order.lex (Order.cmp h) x.l y.l from (cmp_same (k := 6) (by rw [← HE.out.1]; exact hk2) (by rw [← HE.out.2.1]; exact hk)).trans (by rfl))
   have hsz : Order.sgn 6 6 = 0 := rfl
   clear he hs0
   go_enter Tryd.func43, Tryd.ntmps43
   go_wp2_with (first | (go_at_call 51; refine (class_any _ _).mono ?_; rintro e w' ⟨rfl, rfl⟩) | (go_at_call 52; refine (cmpInt_any _ _ _).mono ?_; rintro e w' ⟨rfl, rfl⟩) | (go_at_call 57; refine HCL.out.mono ?_; rintro e w2 ⟨rfl, hb2⟩))
   go_ret
   exact ⟨ret_i HR.out.symm, HB.out.trans (hb2.mono HB.out.size)⟩
  ·have hk2 : Order.cls xk = 7 := he.trans hk
   have HR := Lib.hid (show Order.cmp (h + 1) x y = Order.blob x.b y.b from (cmp_same (k := 7) (by rw [← HE.out.1]; exact hk2) (by rw [← HE.out.2.1]; exact hk)).trans (by rfl))
   have hsz : Order.sgn 7 7 = 0 := rfl
   clear he hs0
   go_enter Tryd.func43, Tryd.ntmps43
   go_wp2_with (first | (go_at_call 51; refine (class_any _ _).mono ?_; rintro e w' ⟨rfl, rfl⟩) | (go_at_call 52; refine (cmpInt_any _ _ _).mono ?_; rintro e w' ⟨rfl, rfl⟩) | (go_at_call 58; refine HCB.out.mono ?_; rintro e w' ⟨rfl, rfl⟩))
   go_ret
   exact ⟨ret_i HR.out.symm, HB.out⟩
  ·have hk2 : Order.cls xk = 8 := he.trans hk
   have HR := Lib.hid (show Order.cmp (h + 1) x y = Order.octs x.b y.b from (cmp_same (k := 8) (by rw [← HE.out.1]; exact hk2) (by rw [← HE.out.2.1]; exact hk)).trans (by rfl))
   have hsz : Order.sgn 8 8 = 0 := rfl
   clear he hs0
   go_enter Tryd.func43, Tryd.ntmps43
   go_wp2_with (first | (go_at_call 51; refine (class_any _ _).mono ?_; rintro e w' ⟨rfl, rfl⟩) | (go_at_call 52; refine (cmpInt_any _ _ _).mono ?_; rintro e w' ⟨rfl, rfl⟩) | (go_at_call 59; refine HCI.out.mono ?_; rintro e w' ⟨rfl, rfl⟩))
   go_ret
   exact ⟨ret_i HR.out.symm, HB.out⟩
  ·have hk2 : Order.cls xk = 9 := he.trans hk
   have HR := Lib.hid (show Order.cmp (h + 1) x y = Order.sgn xn yn from (cmp_same (k := 9) (by rw [← HE.out.1]; exact hk2) (by rw [← HE.out.2.1]; exact hk)).trans (by rw [HE.out.2.2.1.1, HE.out.2.2.1.2]; rfl))
   have hsz : Order.sgn 9 9 = 0 := rfl
   clear he hs0
   go_enter Tryd.func43, Tryd.ntmps43
   go_wp2_with (first | (go_at_call 51; refine (class_any _ _).mono ?_; rintro e w' ⟨rfl, rfl⟩) | (go_at_call 52; refine (cmpInt_any _ _ _).mono ?_; rintro e w' ⟨rfl, rfl⟩) | (go_at_call 53; refine (cmpI64_any _ _ _).mono ?_; rintro e w' ⟨rfl, rfl⟩))
   go_ret
   exact ⟨ret_i HR.out.symm, HB.out⟩
  ·have hk2 : Order.cls xk = 10 := he.trans hk
   have HR := Lib.hid (show Order.cmp (h + 1) x y = Order.sgn xn yn from (cmp_same (k := 10) (by rw [← HE.out.1]; exact hk2) (by rw [← HE.out.2.1]; exact hk)).trans (by rw [HE.out.2.2.1.1, HE.out.2.2.1.2]; rfl))
   have hsz : Order.sgn 10 10 = 0 := rfl
   clear he hs0
   go_enter Tryd.func43, Tryd.ntmps43
   go_wp2_with (first | (go_at_call 51; refine (class_any _ _).mono ?_; rintro e w' ⟨rfl, rfl⟩) | (go_at_call 52; refine (cmpInt_any _ _ _).mono ?_; rintro e w' ⟨rfl, rfl⟩) | (go_at_call 53; refine (cmpI64_any _ _ _).mono ?_; rintro e w' ⟨rfl, rfl⟩))
   go_ret
   exact ⟨ret_i HR.out.symm, HB.out⟩
  ·have hk2 : Order.cls xk = 11 := he.trans hk
   have HR := Lib.hid (show Order.cmp (h + 1) x y = 0 from (cmp_same (k := 11) (by rw [← HE.out.1]; exact hk2) (by rw [← HE.out.2.1]; exact hk)).trans (by rfl))
   have hsz : Order.sgn 11 11 = 0 := rfl
   clear he hs0
   go_enter Tryd.func43, Tryd.ntmps43
   go_wp2_with (first | (go_at_call 51; refine (class_any _ _).mono ?_; rintro e w' ⟨rfl, rfl⟩) | (go_at_call 52; refine (cmpInt_any _ _ _).mono ?_; rintro e w' ⟨rfl, rfl⟩))
   go_ret
   exact ⟨ret_i HR.out.symm, HB.out⟩
end Go.Proofs.YtngllchoiffniaaDoor
end
