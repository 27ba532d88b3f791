/- RefCmpB, RefCmpL. -/
import Derived.Lib.QuietBelow
import Derived.Deep.RegionHeld3
import Derived.Test.YtiajjgehnmkokaaGreatDoorMc10
import Derived.Test.YtiajjgehnmkokaaGreatDoorMc3
set_option maxRecDepth 100000
set_option maxHeartbeats 20000000
section
namespace Go.Proofs.YtiajjgehnmkokaaGreatDoor
open Go.RowKit
open Seal
open Bson (Val)
open Go.Sort
theorem refCmp_num (xk xn yk yn : Int) (xs ys : ByteArray) (ba fa la ba2 fa2 la2 : Option Addr) (bn bc fn fc ln lc bn2 bc2 fn2 fc2 ln2 lc2 : Nat) (w : World) (hk : -9223372036854775808 ≤ xk ∧ xk ≤ 9223372036854775807) (hk2 : -9223372036854775808 ≤ yk ∧ yk ≤ 9223372036854775807) (hx : xk = 3 ∨ xk = 4 ∨ xk = 10 ∨ xk = 11) (e : Order.cls xk = Order.cls yk) :
  Calls Tryz.prog 14 #[.agg #[Value.int .i64 xk, .int .i64 xn, .string xs, .slice ba bn bc, .slice fa fn fc, .slice la ln lc], .agg #[Value.int .i64 yk, .int .i64 yn, .string ys, .slice ba2 bn2 bc2, .slice fa2 fn2 fc2, .slice la2 ln2 lc2]] w (CmpPost (Order.sgn xn yn) w) := by
 have he : Order.sgn (Order.cls xk) (Order.cls yk) = 0 := Order.sgn_zero.2 e
 have hb : (Order.sgn (Order.cls xk) (Order.cls yk) != 0) = false := by rw [he]; rfl
 obtain ⟨hk0, hk1⟩ := hk
 obtain ⟨hk20, hk21⟩ := hk2
 have HB : Hid (Below w.heap.size w ((w.alloc (.cells #[Value.int .i64 xk, .int .i64 xn, .string xs, .slice ba bn bc, .slice fa fn fc, .slice la ln lc] 26)).alloc (.cells #[Value.int .i64 yk, .int .i64 yn, .string ys, .slice ba2 bn2 bc2, .slice fa2 fn2 fc2, .slice la2 ln2 lc2] 26))) := ((Below.refl _ w).alloc (Nat.le_refl _) _).alloc (by simp) _
 clear e
 rcases hx with rfl | rfl | rfl | rfl
 all_goals
  go_enter Tryz.func14, Tryz.ntmps14
  go_wp2_with fail
  go_quiet (first | (go_at_call 35; exact Calls.quiet_of_same (refClass_q _ _ (by omega))) | (go_at_call 34; exact Calls.quiet_of_same (sign_q _ _ _)))
  go_wp2_with (go_at_call 34; refine (sign_any _ _ _).mono ?_; rintro e w' ⟨rfl, rfl⟩)
  go_ret
  exact ⟨rfl, below_dr HB.out _⟩
theorem refCmp_else (xk xn yk yn : Int) (xs ys : ByteArray) (ba fa la ba2 fa2 la2 : Option Addr) (bn bc fn fc ln lc bn2 bc2 fn2 fc2 ln2 lc2 : Nat) (w : World) (hk : -9223372036854775808 ≤ xk ∧ xk ≤ 9223372036854775807) (hk2 : -9223372036854775808 ≤ yk ∧ yk ≤ 9223372036854775807) (hx : xk < 3 ∨ 11 < xk) (e : Order.cls xk = Order.cls yk) :
  Calls Tryz.prog 14 #[.agg #[Value.int .i64 xk, .int .i64 xn, .string xs, .slice ba bn bc, .slice fa fn fc, .slice la ln lc], .agg #[Value.int .i64 yk, .int .i64 yn, .string ys, .slice ba2 bn2 bc2, .slice fa2 fn2 fc2, .slice la2 ln2 lc2]] w (CmpPost 0 w) := by
 have he : Order.sgn (Order.cls xk) (Order.cls yk) = 0 := Order.sgn_zero.2 e
 have hb : (Order.sgn (Order.cls xk) (Order.cls yk) != 0) = false := by rw [he]; rfl
 obtain ⟨hk0, hk1⟩ := hk
 obtain ⟨hk20, hk21⟩ := hk2
 have HB : Hid (Below w.heap.size w ((w.alloc (.cells #[Value.int .i64 xk, .int .i64 xn, .string xs, .slice ba bn bc, .slice fa fn fc, .slice la ln lc] 26)).alloc (.cells #[Value.int .i64 yk, .int .i64 yn, .string ys, .slice ba2 bn2 bc2, .slice fa2 fn2 fc2, .slice la2 ln2 lc2] 26))) := ((Below.refl _ w).alloc (Nat.le_refl _) _).alloc (by simp) _
 clear e
 have e3 : (xk == 3) = false := by rw [beq_eq_false_iff_ne]; omega
 have e4 : (xk == 4) = false := by rw [beq_eq_false_iff_ne]; omega
 have e5 : (xk == 5) = false := by rw [beq_eq_false_iff_ne]; omega
 have e6 : (xk == 6) = false := by rw [beq_eq_false_iff_ne]; omega
 have e7 : (xk == 7) = false := by rw [beq_eq_false_iff_ne]; omega
 have e8 : (xk == 8) = false := by rw [beq_eq_false_iff_ne]; omega
 have e9 : (xk == 9) = false := by rw [beq_eq_false_iff_ne]; omega
 have e10 : (xk == 10) = false := by rw [beq_eq_false_iff_ne]; omega
 have e11 : (xk == 11) = false := by rw [beq_eq_false_iff_ne]; omega
 clear hx
 go_enter Tryz.func14, Tryz.ntmps14
 go_wp2_with fail
 go_quiet (first | (go_at_call 35; exact Calls.quiet_of_same (refClass_q _ _ (by omega))) | (go_at_call 34; exact Calls.quiet_of_same (sign_q _ _ _)))
 go_wp2_with fail
 go_ret
 exact ⟨rfl, below_dr HB.out _⟩
end Go.Proofs.YtiajjgehnmkokaaGreatDoor
end
section
namespace Go.Proofs.YtiajjgehnmkokaaGreatDoor
open Go.RowKit
open Seal
open Bson (Val)
open Go.Sort
def RefCmpAt (h : Nat) : Prop := ∀ (Q Q2 : Nat → Prop) (x y : Val) (u v : Value) (w : World), VIn w Q h x u → VIn w Q2 h y v → Calls Tryz.prog 14 #[u, v] w (CmpPost (Order.cmp h x y) w)
theorem refCmp_list (h : Nat) (IH0 : RefCmpAt h) (Q Q2 : Nat → Prop) (xk xn yk yn : Int) (xs ys : ByteArray) (ba fa la ba2 fa2 la2 : Option Addr) (bn bc fn fc ln lc bn2 bc2 fn2 fc2 ln2 lc2 : Nat) (w : World) (hk : -9223372036854775808 ≤ xk ∧ xk ≤ 9223372036854775807) (hk2 : -9223372036854775808 ≤ yk ∧ yk ≤ 9223372036854775807) (hx : xk = 7) (e : Order.cls xk = Order.cls yk) (l m : List Val) (hn : l.length = ln) (hm : m.length = ln2) (hnb : ln ≤ 1353245080339) (_ : ln2 ≤ 1353245080339) (hI : ItemsIn w Q (VIn w Q h) la l) (hJ : ItemsIn w Q2 (VIn w Q2 h) la2 m) :
  Calls Tryz.prog 14 #[.agg #[Value.int .i64 xk, .int .i64 xn, .string xs, .slice ba bn bc, .slice fa fn fc, .slice la ln lc], .agg #[Value.int .i64 yk, .int .i64 yn, .string ys, .slice ba2 bn2 bc2, .slice fa2 fn2 fc2, .slice la2 ln2 lc2]] w (CmpPost (Order.lex (Order.cmp h) l m) w) := by
 have he : Order.sgn (Order.cls xk) (Order.cls yk) = 0 := Order.sgn_zero.2 e
 have hb : (Order.sgn (Order.cls xk) (Order.cls yk) != 0) = false := by rw [he]; rfl
 obtain ⟨hk0, hk1⟩ := hk
 obtain ⟨hk20, hk21⟩ := hk2
 have HB : Hid (Below w.heap.size w ((w.alloc (.cells #[Value.int .i64 xk, .int .i64 xn, .string xs, .slice ba bn bc, .slice fa fn fc, .slice la ln lc] 26)).alloc (.cells #[Value.int .i64 yk, .int .i64 yn, .string ys, .slice ba2 bn2 bc2, .slice fa2 fn2 fc2, .slice la2 ln2 lc2] 26))) := ((Below.refl _ w).alloc (Nat.le_refl _) _).alloc (by simp) _
 clear e
 subst hx
 have IH := Lib.hid IH0
 have HI := Lib.hid hI
 have HJ := Lib.hid hJ
 have HN := Lib.hid hn
 have HM := Lib.hid hm
 clear hI hJ IH0 hn hm
 go_enter Tryz.func14, Tryz.ntmps14
 go_wp2_with fail
 go_quiet (first | (go_at_call 35; exact Calls.quiet_of_same (refClass_q _ _ (by omega))) | (go_at_call 34; exact Calls.quiet_of_same (sign_q _ _ _)))
 go_wp2_with fail
 have HX0 : Hid (Boxed2 w #[Value.int .i64 7, .int .i64 xn, .string xs, .slice ba bn bc, .slice fa fn fc, .slice la ln lc] #[Value.int .i64 yk, .int .i64 yn, .string ys, .slice ba2 bn2 bc2, .slice fa2 fn2 fc2, .slice la2 ln2 lc2] 26 (((w.alloc (.cells #[Value.int .i64 7, .int .i64 xn, .string xs, .slice ba bn bc, .slice fa fn fc, .slice la ln lc] 26)).alloc (.cells #[Value.int .i64 yk, .int .i64 yn, .string ys, .slice ba2 bn2 bc2, .slice fa2 fn2 fc2, .slice la2 ln2 lc2] 26)).drewN nq)) := (Boxed2.refl _ _ _ _).step (below_dr (Below.refl _ _) _)
 generalize hW : (((w.alloc (.cells #[Value.int .i64 7, .int .i64 xn, .string xs, .slice ba bn bc, .slice fa fn fc, .slice la ln lc] 26)).alloc (.cells #[Value.int .i64 yk, .int .i64 yn, .string ys, .slice ba2 bn2 bc2, .slice fa2 fn2 fc2, .slice la2 ln2 lc2] 26))).drewN nq = W0 at *
 clear hW
 go_loopw [9] (fun i wr => ∃ k : Nat, i = .int .i64 k ∧ k ≤ ln ∧ k ≤ ln2 ∧ Hid (LexGo (Order.cmp h) l m k) ∧ Hid (Boxed2 w #[Value.int .i64 7, .int .i64 xn, .string xs, .slice ba bn bc, .slice fa fn fc, .slice la ln lc] #[Value.int .i64 yk, .int .i64 yn, .string ys, .slice ba2 bn2 bc2, .slice fa2 fn2 fc2, .slice la2 ln2 lc2] 26 wr)) (fun i _ => ln - (intOf i).toNat)
 case atStart => exact ⟨0, rfl, Nat.zero_le _, Nat.zero_le _, rfl, HX0⟩
 case round =>
  obtain ⟨k, rfl, hk, hk2, HT, HX⟩ := hrel
  have a5 : wr.cell? ⟨w.heap.size, 5, none⟩ = some (.slice la ln lc) := HX.out.one 5
  have b5 : wr.cell? ⟨w.heap.size + 1, 5, none⟩ = some (.slice la2 ln2 lc2) := HX.out.two 5
  by_cases hlt : k < ln
  ·by_cases hlt2 : k < ln2
   ·have hk1 : k < l.length := by have := HN.out; omega
    have hk3 : k < m.length := by have := HM.out; omega
    obtain ⟨g, o, hla, _, hall⟩ := HI.out.resolve_left (fun e => by rw [e] at hk1; simp at hk1)
    obtain ⟨g2, o2, hla2, _, hall2⟩ := HJ.out.resolve_left (fun e => by rw [e] at hk3; simp at hk3)
    obtain ⟨v1, hsix, hV⟩ := hall k hk1
    obtain ⟨v2, hsix2, hV2⟩ := hall2 k hk3
    subst hla hla2
    have hV := Lib.hid (VIn.keep HX.out.below hV)
    have hV2 := Lib.hid (VIn.keep HX.out.below hV2)
    obtain ⟨d0, d1, d2, d3, d4, d5, rfl, s0, s1, s2, s3, s4, s5⟩ := hsix.keep HX.out.below
    obtain ⟨q0, q1, q2, q3, q4, q5, rfl, r0, r1, r2, r3, r4, r5⟩ := hsix2.keep HX.out.below
    clear hall hall2 hsix hsix2
    obtain ⟨r, hr⟩ : ∃ r, r = Order.cmp h l[k] m[k] := ⟨_, rfl⟩
    have HR := Lib.hid hr
    clear hr
    have HQ := fun d os => Calls.regrown_of (P := Tryz.prog) (d := d) (os := os) (v := .int .i64 r) ((IH.out Q Q2 l[k] m[k] _ _ (grow (redrawn wr d) os) (VIn.keep (below_regrown wr d os) hV.out) (VIn.keep (below_regrown wr d os) hV2.out)).mono fun e w3 ⟨he, hb⟩ => ⟨by rw [he, HR.out], hb⟩)
    have qa5 := fun d os => cell_regrown a5 d os
    have qb5 := fun d os => cell_regrown b5 d os
    have qs0 := fun d os => cell_regrown s0 d os
    have qs1 := fun d os => cell_regrown s1 d os
    have qs2 := fun d os => cell_regrown s2 d os
    have qs3 := fun d os => cell_regrown s3 d os
    have qs4 := fun d os => cell_regrown s4 d os
    have qs5 := fun d os => cell_regrown s5 d os
    have qr0 := fun d os => cell_regrown r0 d os
    have qr1 := fun d os => cell_regrown r1 d os
    have qr2 := fun d os => cell_regrown r2 d os
    have qr3 := fun d os => cell_regrown r3 d os
    have qr4 := fun d os => cell_regrown r4 d os
    have qr5 := fun d os => cell_regrown r5 d os
    go_wp2_with fail
    refine wp_region_quiet_below (by kernel_rfl) (by kernel_rfl) ?_
    repeat (go_big_quiet_step (exact HQ _ _))
    refine wpQuiet_nil ?_
    intro _ hw'
    obtain ⟨⟨dq, osq⟩, hw''⟩ := hw'
    subst hw''
    have HX2 := Lib.hid (HX.out.step (below_regrown wr dq osq))
    clear HQ qa5 qb5 qs0 qs1 qs2 qs3 qs4 qs5 qr0 qr1 qr2 qr3 qr4 qr5
    by_cases e : r = 0
    ·have HL := Lib.hid (HT.out.next hk1 hk3 (HR.out.symm.trans e))
     subst e
     go_wp2_with fail
     go_roundw
     case rel => exact ⟨k + 1, by go_num, by omega, by omega, HL, HX2⟩
     case measure => simp [intOf]; omega
    ·have HL := Lib.hid (HT.out.here hk1 hk3 (fun x => e (HR.out.trans x)))
     have hb : (r != 0) = true := by rw [bne_iff_ne]; exact e
     clear e
     go_wp2_with fail
     go_ret
     exact ⟨ret_i (HL.out.trans HR.out.symm).symm, HX2.out.below⟩
   ·have HL := Lib.hid (HT.out.last (by have := HN.out; omega) (by have := HM.out; omega) (by have := HM.out; omega))
    have HE := Lib.hid (show Order.lex (Order.cmp h) l m = Order.sgn (ln : Int) (ln2 : Int) by rw [HL.out, HN.out, HM.out])
    go_wp2_with (go_at_call 34; refine (sign_any _ _ _).mono ?_; rintro e w' ⟨rfl, rfl⟩)
    go_ret
    exact ⟨ret_i HE.out.symm, HX.out.below⟩
  ·have HL := Lib.hid (HT.out.last (by have := HN.out; omega) (by have := HM.out; omega) (by have := HN.out; omega))
   have HE := Lib.hid (show Order.lex (Order.cmp h) l m = Order.sgn (ln : Int) (ln2 : Int) by rw [HL.out, HN.out, HM.out])
   go_wp2_with (go_at_call 34; refine (sign_any _ _ _).mono ?_; rintro e w' ⟨rfl, rfl⟩)
   go_ret
   exact ⟨ret_i HE.out.symm, HX.out.below⟩
end Go.Proofs.YtiajjgehnmkokaaGreatDoor
end
