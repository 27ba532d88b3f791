/- PathSmall. -/
import Derived.Test.YtiajjgehnmkokaaGreatDoorMl2
import Derived.Test.YtiajjgehnmkokaaGreatDoorMl5
import Derived.Test.YtiajjgehnmkokaaGreatDoorMl1
set_option maxRecDepth 100000
set_option maxHeartbeats 20000000
section
namespace Go.Proofs.YtiajjgehnmkokaaGreatDoor
open Go.RowKit
open Seal
open Bson (Val)
def SmallPost (w : World) (h : Nat) (x : Val) (e : Ending) (w' : World) : Prop := ∃ b, e = .returned (.bool b) ∧ (b = true → wt h x ≤ 3000) ∧ Below w.heap.size w w'
theorem small_any (Q : Nat → Prop) (h : Nat) (x : Val) (v : Value) (w : World) (hv : VIn w Q (h + 1) x v) : Calls Tryz.prog 22 #[v] w (SmallPost w (h + 1) x) := by
 obtain ⟨xk, xn, xs, ba, fa, la, bn, bc, fn, fc, ln, lc, rfl, hxk, hxn, hxs, hbn, hfn, hln, hL, hF, hI⟩ := hv.letters
 have HV := Lib.hid hv
 have HV0 : Hid (VIn (w.alloc (.cells #[.int .i64 xk, .int .i64 xn, .string xs, .slice ba bn bc, .slice fa fn fc, .slice la ln lc] 26)) Q (h + 1) x (.agg #[.int .i64 xk, .int .i64 xn, .string xs, .slice ba bn bc, .slice fa fn fc, .slice la ln lc])) := VIn.keep ((Below.refl _ w).alloc (Nat.le_refl _) _) hv
 have HB0 : Hid (Below w.heap.size w (w.alloc (.cells #[.int .i64 xk, .int .i64 xn, .string xs, .slice ba bn bc, .slice fa fn fc, .slice la ln lc] 26))) := (Below.refl _ w).alloc (Nat.le_refl _) _
 have hS := SixIs.new w (.int .i64 xk) (.int .i64 xn) (.string xs) (.slice ba bn bc) (.slice fa fn fc) (.slice la ln lc) 26
 have HS0 := Lib.hid hS
 clear hv hxk hS hxn hxs hbn hfn hln hL hF hI
 generalize hW : w.alloc (.cells #[.int .i64 xk, .int .i64 xn, .string xs, .slice ba bn bc, .slice fa fn fc, .slice la ln lc] 26) = W0 at *
 obtain ⟨e0, e1, e2, e3, e4, e5⟩ := HS0.out
 go_enter Tryz.func22, Tryz.ntmps22
 go_wp2_with fail
 clear hW
 go_at_call 38
 refine (weight_any Q (h + 1) x _ 3000 W0 HV0.out (by decide) (by decide)).mono ?_
 rintro e w1 ⟨r, rfl, hr1, hr2, hr3, hb1⟩
 obtain ⟨f0, f1, f2, f3, f4, f5⟩ := HS0.out.keep hb1
 have HV1 := Lib.hid (VIn.keep hb1 HV0.out)
 have HB1 : Hid (Below w.heap.size w w1) := HB0.out.trans (hb1.mono HB0.out.size)
 have HR := Lib.hid hr3
 clear hb1 hr3 hr1 hr2
 by_cases hr : r ≤ 3000
 ·have hd : decide (r ≤ 3000) = true := decide_eq_true hr
  have HW : Hid (wt (h + 1) x ≤ 3000) := by have := HR.out hr; show wt (h + 1) x ≤ 3000; omega
  go_wp2_with fail
  go_at_call 39
  refine (shallow_any Q (h + 1) x _ 60 w1 HV1.out (by decide) (by decide)).mono ?_
  rintro e w2 ⟨b, rfl, hb2⟩
  have HB2 : Hid (Below w.heap.size w w2) := HB1.out.trans (hb2.mono HB1.out.size)
  clear hb2
  go_wp2_with fail
  go_ret
  exact ⟨_, rfl, fun _ => HW.out, HB2.out⟩
 ·have hd : decide (r ≤ 3000) = false := decide_eq_false hr
  go_wp2_with fail
  go_ret
  exact ⟨_, rfl, fun hb => (by cases hb), HB1.out⟩
end Go.Proofs.YtiajjgehnmkokaaGreatDoor
end
