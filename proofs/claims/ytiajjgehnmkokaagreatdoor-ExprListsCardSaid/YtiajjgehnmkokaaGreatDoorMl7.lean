/- RefSame. -/
import Derived.Deep.RegionHeld3
import Derived.BigQuiet
import Derived.Lib.QuietBelow
import Derived.Test.YtiajjgehnmkokaaGreatDoorMl2
import Derived.Test.YtiajjgehnmkokaaGreatDoorMl1
set_option maxRecDepth 100000
set_option maxHeartbeats 20000000
section
namespace Go.Proofs.YtiajjgehnmkokaaGreatDoor
open Go.RowKit
open Seal
open Bson (Val)
open Go.Sort
theorem val_ext : ∀ {x y : Val}, x.kind = y.kind → x.n = y.n → x.s = y.s → x.b = y.b → x.f = y.f → x.l = y.l → x = y
 | .mk .., .mk .., rfl, rfl, rfl, rfl, rfl, rfl => rfl
def SamePost {α : Type} (x y : α) (w : World) (e : Ending) (w' : World) : Prop := ∃ r, e = .returned (.bool r) ∧ (r = true ↔ x = y) ∧ Below w.heap.size w w'
theorem take_next {α : Type} {p q : List α} {k : Nat} (hp : k < p.length) (hq : k < q.length) (h : p.take k = q.take k) (e : p[k] = q[k]) : p.take (k + 1) = q.take (k + 1) := by
 rw [List.take_add_one, List.take_add_one, List.getElem?_eq_getElem hp, List.getElem?_eq_getElem hq, h, e]
theorem take_ne {α : Type} {p q : List α} {k : Nat} (hp : k < p.length) (hq : k < q.length) (e : p[k] ≠ q[k]) : p ≠ q := fun h => by subst h; exact e rfl
theorem same_step (h h2 : Nat) (IH0 : ∀ (h2 : Nat) (Q Q2 : Nat → Prop) (x y : Val) (u v : Value) (w : World), VIn w Q h x u → VIn w Q2 h2 y v → Calls Tryz.prog 12 #[u, v] w (SamePost x y w)) (Q Q2 : Nat → Prop) (x y : Val) (u v : Value) (w : World) (hx : VIn w Q (h + 1) x u) (hy : VIn w Q2 (h2 + 1) y v) : Calls Tryz.prog 12 #[u, v] w (SamePost x y w) := by
 have IH := Lib.hid IH0
 clear IH0
 obtain ⟨xk, xn, xs, ba, fa, la, bn, bc, fn, fc, ln, lc, rfl, hxk, hxn, hxs, hbn, hfn, hln, hL, hF, hI⟩ := hx.letters
 obtain ⟨yk, yn, ys, ba2, fa2, la2, bn2, bc2, fn2, fc2, ln2, lc2, rfl, hyk, hyn, hys, hbn2, hfn2, hln2, hL2, hF2, hI2⟩ := hy.letters
 obtain ⟨ho, hsl⟩ := hx.byt
 obtain ⟨ho2, hsl2⟩ := hy.byt
 have HF := Lib.hid hF; have HI := Lib.hid hI; have HF2 := Lib.hid hF2; have HI2 := Lib.hid hI2
 have HFN := Lib.hid hfn; have HLN := Lib.hid hln; have HFN2 := Lib.hid hfn2; have HLN2 := Lib.hid hln2
 have HE := Lib.hid (And.intro hxk (And.intro hxn (And.intro hxs (And.intro hyk (And.intro hyn hys)))))
 have HO := Lib.hid (And.intro ho ho2)
 have hfl := hL.f; have hll := hL.l; have hfl2 := hL2.f; have hll2 := hL2.l
 rw [← hfn] at hfl; rw [← hln] at hll; rw [← hfn2] at hfl2; rw [← hln2] at hll2
 obtain ⟨ca, hca⟩ : ∃ ca, ca = #[Value.int .i64 xk, .int .i64 xn, .string xs, .slice ba bn bc, .slice fa fn fc, .slice la ln lc] := ⟨_, rfl⟩
 obtain ⟨cb, hcb⟩ : ∃ cb, cb = #[Value.int .i64 yk, .int .i64 yn, .string ys, .slice ba2 bn2 bc2, .slice fa2 fn2 fc2, .slice la2 ln2 lc2] := ⟨_, rfl⟩
 have HX : Hid (Boxed2 w ca cb 26 ((w.alloc (.cells #[Value.int .i64 xk, .int .i64 xn, .string xs, .slice ba bn bc, .slice fa fn fc, .slice la ln lc] 26)).alloc (.cells #[Value.int .i64 yk, .int .i64 yn, .string ys, .slice ba2 bn2 bc2, .slice fa2 fn2 fc2, .slice la2 ln2 lc2] 26))) := by rw [hca, hcb]; exact Boxed2.refl _ _ _ _
 have HCA := Lib.hid hca; have HCB := Lib.hid hcb
 have hsK : ∀ (a : Option Addr) (l : List Nat), SliceIs w a l → SliceIs ((w.alloc (.cells #[Value.int .i64 xk, .int .i64 xn, .string xs, .slice ba bn bc, .slice fa fn fc, .slice la ln lc] 26)).alloc (.cells #[Value.int .i64 yk, .int .i64 yn, .string ys, .slice ba2 bn2 bc2, .slice fa2 fn2 fc2, .slice la2 ln2 lc2] 26)) a l := by
  intro a l hs
  rcases hs with hs | ⟨g, o, e, hs⟩
  ·exact .inl hs
  ·exact .inr ⟨g, o, e, fun j hj => cell_keep HX.out.below (hs j hj)⟩
 have HCV1 := Lib.hid (conv_str _ ba bn bc x.b hbn.symm (hsK _ _ hsl))
 have HCV2 := Lib.hid (conv_str _ ba2 bn2 bc2 y.b hbn2.symm (hsK _ _ hsl2))
 have a0 := (HX.out.one 0).trans (by rw [hca]; rfl : _ = some (Value.int .i64 xk))
 have a1 := (HX.out.one 1).trans (by rw [hca]; rfl : _ = some (Value.int .i64 xn))
 have a2 := (HX.out.one 2).trans (by rw [hca]; rfl : _ = some (Value.string xs))
 have a3 := (HX.out.one 3).trans (by rw [hca]; rfl : _ = some (Value.slice ba bn bc))
 have a4 := (HX.out.one 4).trans (by rw [hca]; rfl : _ = some (Value.slice fa fn fc))
 have a5 := (HX.out.one 5).trans (by rw [hca]; rfl : _ = some (Value.slice la ln lc))
 have b0 := (HX.out.two 0).trans (by rw [hcb]; rfl : _ = some (Value.int .i64 yk))
 have b1 := (HX.out.two 1).trans (by rw [hcb]; rfl : _ = some (Value.int .i64 yn))
 have b2 := (HX.out.two 2).trans (by rw [hcb]; rfl : _ = some (Value.string ys))
 have b3 := (HX.out.two 3).trans (by rw [hcb]; rfl : _ = some (Value.slice ba2 bn2 bc2))
 have b4 := (HX.out.two 4).trans (by rw [hcb]; rfl : _ = some (Value.slice fa2 fn2 fc2))
 have b5 := (HX.out.two 5).trans (by rw [hcb]; rfl : _ = some (Value.slice la2 ln2 lc2))
 clear hx hy hxk hxn hxs hbn hfn hln hL hF hI hyk hyn hys hbn2 hfn2 hln2 hL2 hF2 hI2 ho ho2 hsl hsl2 hsK hca hcb
 generalize hW : (w.alloc _).alloc _ = W at *
 go_enter Tryz.func12, Tryz.ntmps12
 by_cases ek : xk = yk
 case neg =>
  have hb : (xk != yk) = true := by rw [bne_iff_ne]; exact ek
  have HNE : Hid (x ≠ y) := fun e => ek (by rw [HE.out.1, HE.out.2.2.2.1, e])
  go_wp2_with fail
  go_ret
  exact ⟨false, rfl, by simp [HNE.out], HX.out.below⟩
 subst ek
 by_cases en : xn = yn
 case neg =>
  have hb : (xn != yn) = true := by rw [bne_iff_ne]; exact en
  have HNE : Hid (x ≠ y) := fun e => en (by rw [HE.out.2.1, HE.out.2.2.2.2.1, e])
  go_wp2_with fail
  go_ret
  exact ⟨false, rfl, by simp [HNE.out], HX.out.below⟩
 subst en
 by_cases es : xs = ys
 case neg =>
  have hb : (xs.toList == ys.toList) = false := str_ne es
  have HNE : Hid (x ≠ y) := fun e => es (by rw [HE.out.2.2.1, HE.out.2.2.2.2.2, e])
  go_wp2_with fail
  go_ret
  exact ⟨false, rfl, by simp [HNE.out], HX.out.below⟩
 subst es
 have hcv1 := HCV1.out
 have hcv2 := HCV2.out
 by_cases eb : x.b = y.b
 case neg =>
  have hb : ((strB x.b).toList == (strB y.b).toList) = false := str_ne (fun e => eb (strB_inj HO.out.1 HO.out.2 e))
  have HNE : Hid (x ≠ y) := fun e => eb (by rw [e])
  go_wp2_with fail
  go_ret
  exact ⟨false, rfl, by simp [HNE.out], HX.out.below⟩
 have hbb : ((strB x.b).toList == (strB y.b).toList) = true := by rw [eb]; simp
 have EB := Lib.hid eb
 generalize strB x.b = sb1 at *
 generalize strB y.b = sb2 at *
 by_cases ef : fn = fn2
 case neg =>
  have hb : ((fn : Int) != (fn2 : Int)) = true := by rw [bne_iff_ne]; omega
  have HNE : Hid (x ≠ y) := fun e => ef (by rw [HFN.out, HFN2.out, e])
  go_wp2_with fail
  go_ret
  exact ⟨false, rfl, by simp [HNE.out], HX.out.below⟩
 subst ef
 by_cases el : ln = ln2
 case neg =>
  have hb : ((ln : Int) != (ln2 : Int)) = true := by rw [bne_iff_ne]; omega
  have HNE : Hid (x ≠ y) := fun e => el (by rw [HLN.out, HLN2.out, e])
  go_wp2_with fail
  go_ret
  exact ⟨false, rfl, by simp [HNE.out], HX.out.below⟩
 subst el
 clear eb
 go_wp2_with fail
 go_loopw [5] (fun i wr => ∃ k : Nat, i = .int .i64 k ∧ k ≤ fn ∧ Hid (x.f.take k = y.f.take k) ∧ Hid (Boxed2 w ca cb 26 wr)) (fun i _ => fn - (intOf i).toNat)
 case atStart => exact ⟨0, rfl, Nat.zero_le _, rfl, HX⟩
 case round =>
  clear a0 a1 a2 a3 a4 a5 b0 b1 b2 b3 b4 b5 hcv1 hcv2
  obtain ⟨k, rfl, hk, HT, HB⟩ := hrel
  have a4 := (HB.out.one 4).trans (by rw [HCA.out]; rfl : _ = some (Value.slice fa fn fc))
  have b4 := (HB.out.two 4).trans (by rw [HCB.out]; rfl : _ = some (Value.slice fa2 fn fc2))
  by_cases hlt : k < fn
  ·have hk1 : k < x.f.length := by have := HFN.out; omega
   have hk2 : k < y.f.length := by have := HFN2.out; omega
   obtain ⟨g, o, hfa, _, hall⟩ := HF.out.resolve_left (fun e => by rw [e] at hk1; simp at hk1)
   obtain ⟨g2, o2, hfa2, _, hall2⟩ := HF2.out.resolve_left (fun e => by rw [e] at hk2; simp at hk2)
   obtain ⟨hnm, _, v1, hsix, hV⟩ := hall k hk1
   obtain ⟨hnm2, _, v2, hsix2, hV2⟩ := hall2 k hk2
   subst hfa hfa2
   have hV := Lib.hid (VIn.keep HB.out.below hV)
   have hV2 := Lib.hid (VIn.keep HB.out.below hV2)
   obtain ⟨d0, d1, d2, d3, d4, d5, rfl, s0, s1, s2, s3, s4, s5⟩ := hsix.keep HB.out.below
   obtain ⟨q0, q1, q2, q3, q4, q5, rfl, r0, r1, r2, r3, r4, r5⟩ := hsix2.keep HB.out.below
   have hnm := cell_keep HB.out.below hnm
   have hnm2 := cell_keep HB.out.below hnm2
   obtain ⟨m1, hm1⟩ : ∃ m, m = x.f[k] := ⟨_, rfl⟩
   obtain ⟨m2, hm2⟩ : ∃ m, m = y.f[k] := ⟨_, rfl⟩
   rw [← hm1] at hnm hV
   rw [← hm2] at hnm2 hV2
   have HM1 := Lib.hid hm1; have HM2 := Lib.hid hm2
   obtain ⟨nm1, z1⟩ := m1
   obtain ⟨nm2, z2⟩ := m2
   simp only at hnm hnm2 hV hV2
   clear hall hall2 hm1 hm2
   by_cases enm : nm1 = nm2
   ·subst enm
    have hnb : (nm1.toList == nm1.toList) = true := by simp
    go_wp2_with fail
    obtain ⟨r, hr⟩ : ∃ r : Bool, (r = true ↔ z1 = z2) := by
     by_cases e : z1 = z2
     ·exact ⟨true, by simp [e]⟩
     ·exact ⟨false, by simp [e]⟩
    have HQ := fun d os => Calls.regrown_of (P := Tryz.prog) (d := d) (os := os) (v := .bool r) ((IH.out h2 Q Q2 z1 z2 _ _ (grow (redrawn wr d) os) (VIn.keep (below_regrown wr d os) hV.out) (VIn.keep (below_regrown wr d os) hV2.out)).mono fun e w3 ⟨r2, he, hr2, hb⟩ => ⟨by rw [he]; congr 2; rw [Bool.eq_iff_iff]; exact hr2.trans hr.symm, hb⟩)
    have qa4 := fun d os => cell_regrown a4 d os
    have qb4 := fun d os => cell_regrown b4 d os
    have qhnm := fun d os => cell_regrown hnm d os
    have qhnm2 := fun d os => cell_regrown hnm2 d os
    have qs0 := fun d os => cell_regrown s0 d os
    have qs1 := fun d os => cell_regrown s1 d os
    have qs2 := fun d os => cell_regrown s2 d os
    have qs3 := fun d os => cell_regrown s3 d os
    have qs4 := fun d os => cell_regrown s4 d os
    have qs5 := fun d os => cell_regrown s5 d os
    have qr0 := fun d os => cell_regrown r0 d os
    have qr1 := fun d os => cell_regrown r1 d os
    have qr2 := fun d os => cell_regrown r2 d os
    have qr3 := fun d os => cell_regrown r3 d os
    have qr4 := fun d os => cell_regrown r4 d os
    have qr5 := fun d os => cell_regrown r5 d os
    refine wp_region_quiet_below (by kernel_rfl) (by kernel_rfl) ?_
    repeat (go_big_quiet_step (exact HQ _ _))
    refine wpQuiet_nil ?_
    intro _ hw'
    obtain ⟨⟨dq, osq⟩, hw''⟩ := hw'
    subst hw''
    have HB5 := Lib.hid (HB.out.step (below_regrown wr dq osq))
    clear HQ qa4 qb4 qhnm qhnm2 qs0 qs1 qs2 qs3 qs4 qs5 qr0 qr1 qr2 qr3 qr4 qr5
    have HR := Lib.hid hr
    clear hr
    cases r with
    | true =>
     have HT2 : Hid (x.f.take (k + 1) = y.f.take (k + 1)) := take_next hk1 hk2 HT.out (by rw [← HM1.out, ← HM2.out, HR.out.1 rfl])
     go_wp2_with fail
     go_roundw
     case rel => exact ⟨k + 1, by go_num, by omega, HT2, HB5⟩
     case measure => simp [intOf]; omega
    | false =>
     have HNE : Hid (x ≠ y) := fun e => take_ne hk1 hk2 (by rw [← HM1.out, ← HM2.out]; intro e2; injection e2 with _ e2; exact absurd (HR.out.2 e2) (by simp)) (by rw [e])
     go_wp2_with fail
     go_ret
     exact ⟨false, rfl, by simp [HNE.out], HB5.out.below⟩
   ·have hnb : (nm1.toList == nm2.toList) = false := str_ne enm
    have HNE : Hid (x ≠ y) := fun e => take_ne hk1 hk2 (by rw [← HM1.out, ← HM2.out]; intro e2; injection e2 with e2 _; exact enm e2) (by rw [e])
    go_wp2_with fail
    go_quiet (fail)
    all_goals (go_wp2_with fail)
    go_ret
    exact ⟨false, rfl, by simp [HNE.out], Go.below_drewN HB.out.below _⟩
  ·have hkk : k = fn := by omega
   subst hkk
   have HFE : Hid (x.f = y.f) := by
    have := HT.out
    rw [List.take_of_length_le (by rw [← HFN.out]; exact Nat.le_refl _), List.take_of_length_le (by rw [← HFN2.out]; exact Nat.le_refl _)] at this
    exact this
   go_wp2_with fail
   go_loopw [6] (fun i wr => ∃ k : Nat, i = .int .i64 k ∧ k ≤ ln ∧ Hid (x.l.take k = y.l.take k) ∧ Hid (Boxed2 w ca cb 26 wr)) (fun i _ => ln - (intOf i).toNat)
   case atStart => exact ⟨0, rfl, Nat.zero_le _, rfl, HB⟩
   case round =>
    clear a4 b4
    obtain ⟨k, rfl, hk, HT, HB⟩ := hrel
    have a5 := (HB.out.one 5).trans (by rw [HCA.out]; rfl : _ = some (Value.slice la ln lc))
    have b5 := (HB.out.two 5).trans (by rw [HCB.out]; rfl : _ = some (Value.slice la2 ln lc2))
    by_cases hlt : k < ln
    ·have hk1 : k < x.l.length := by have := HLN.out; omega
     have hk2 : k < y.l.length := by have := HLN2.out; omega
     obtain ⟨g, o, hla, _, hall⟩ := HI.out.resolve_left (fun e => by rw [e] at hk1; simp at hk1)
     obtain ⟨g2, o2, hla2, _, hall2⟩ := HI2.out.resolve_left (fun e => by rw [e] at hk2; simp at hk2)
     obtain ⟨v1, hsix, hV⟩ := hall k hk1
     obtain ⟨v2, hsix2, hV2⟩ := hall2 k hk2
     subst hla hla2
     have hV := Lib.hid (VIn.keep HB.out.below hV)
     have hV2 := Lib.hid (VIn.keep HB.out.below hV2)
     obtain ⟨d0, d1, d2, d3, d4, d5, rfl, s0, s1, s2, s3, s4, s5⟩ := hsix.keep HB.out.below
     obtain ⟨q0, q1, q2, q3, q4, q5, rfl, r0, r1, r2, r3, r4, r5⟩ := hsix2.keep HB.out.below
     obtain ⟨z1, hz1⟩ : ∃ m, m = x.l[k] := ⟨_, rfl⟩
     obtain ⟨z2, hz2⟩ : ∃ m, m = y.l[k] := ⟨_, rfl⟩
     rw [← hz1] at hV
     rw [← hz2] at hV2
     have HM1 := Lib.hid hz1; have HM2 := Lib.hid hz2
     clear hall hall2 hz1 hz2
     go_wp2_with fail
     obtain ⟨r, hr⟩ : ∃ r : Bool, (r = true ↔ z1 = z2) := by
      by_cases e : z1 = z2
      ·exact ⟨true, by simp [e]⟩
      ·exact ⟨false, by simp [e]⟩
     have HQ := fun d os => Calls.regrown_of (P := Tryz.prog) (d := d) (os := os) (v := .bool r) ((IH.out h2 Q Q2 z1 z2 _ _ (grow (redrawn wr d) os) (VIn.keep (below_regrown wr d os) hV.out) (VIn.keep (below_regrown wr d os) hV2.out)).mono fun e w3 ⟨r2, he, hr2, hb⟩ => ⟨by rw [he]; congr 2; rw [Bool.eq_iff_iff]; exact hr2.trans hr.symm, hb⟩)
     have qa5 := fun d os => cell_regrown a5 d os
     have qb5 := fun d os => cell_regrown b5 d os
     have qs0 := fun d os => cell_regrown s0 d os
     have qs1 := fun d os => cell_regrown s1 d os
     have qs2 := fun d os => cell_regrown s2 d os
     have qs3 := fun d os => cell_regrown s3 d os
     have qs4 := fun d os => cell_regrown s4 d os
     have qs5 := fun d os => cell_regrown s5 d os
     have qr0 := fun d os => cell_regrown r0 d os
     have qr1 := fun d os => cell_regrown r1 d os
     have qr2 := fun d os => cell_regrown r2 d os
     have qr3 := fun d os => cell_regrown r3 d os
     have qr4 := fun d os => cell_regrown r4 d os
     have qr5 := fun d os => cell_regrown r5 d os
     refine wp_region_quiet_below (by kernel_rfl) (by kernel_rfl) ?_
     repeat (go_big_quiet_step (exact HQ _ _))
     refine wpQuiet_nil ?_
     intro _ hw'
     obtain ⟨⟨dq, osq⟩, hw''⟩ := hw'
     subst hw''
     have HB5 := Lib.hid (HB.out.step (below_regrown wr dq osq))
     clear HQ qa5 qb5 qs0 qs1 qs2 qs3 qs4 qs5 qr0 qr1 qr2 qr3 qr4 qr5
     have HR := Lib.hid hr
     clear hr
     cases r with
     | true =>
      have HT2 : Hid (x.l.take (k + 1) = y.l.take (k + 1)) := take_next hk1 hk2 HT.out (by rw [← HM1.out, ← HM2.out, HR.out.1 rfl])
      go_wp2_with fail
      go_roundw
      case rel => exact ⟨k + 1, by go_num, by omega, HT2, HB5⟩
      case measure => simp [intOf]; omega
     | false =>
      have HNE : Hid (x ≠ y) := fun e => take_ne hk1 hk2 (by rw [← HM1.out, ← HM2.out]; intro e2; exact absurd (HR.out.2 e2) (by simp)) (by rw [e])
      go_wp2_with fail
      go_ret
      exact ⟨false, rfl, by simp [HNE.out], HB5.out.below⟩
    ·have hkk : k = ln := by omega
     subst hkk
     have HEQ : Hid (x = y) := by
      have := HT.out
      rw [List.take_of_length_le (by rw [← HLN.out]; exact Nat.le_refl _), List.take_of_length_le (by rw [← HLN2.out]; exact Nat.le_refl _)] at this
      exact val_ext (by rw [← HE.out.1, ← HE.out.2.2.2.1]) (by rw [← HE.out.2.1, ← HE.out.2.2.2.2.1]) (by rw [← HE.out.2.2.1, ← HE.out.2.2.2.2.2]) EB.out HFE.out this
     go_wp2_with fail
     go_ret
     exact ⟨true, rfl, by simp [HEQ.out], HB.out.below⟩
theorem same_any : ∀ (h h2 : Nat) (Q Q2 : Nat → Prop) (x y : Val) (u v : Value) (w : World), VIn w Q h x u → VIn w Q2 h2 y v → Calls Tryz.prog 12 #[u, v] w (SamePost x y w)
 | 0, _, _, _, _, _, _, _, _, hx, _ => hx.elim
 | _ + 1, 0, _, _, _, _, _, _, _, _, hy => hy.elim
 | h + 1, h2 + 1, Q, Q2, x, y, u, v, w, hx, hy => same_step h h2 (fun h2 Q Q2 x y u v w => same_any h h2 Q Q2 x y u v w) Q Q2 x y u v w hx hy
end Go.Proofs.YtiajjgehnmkokaaGreatDoor
end
