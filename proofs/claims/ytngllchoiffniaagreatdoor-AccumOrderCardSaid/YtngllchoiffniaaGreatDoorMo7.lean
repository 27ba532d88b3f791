/- PathSmall, OrderFew. -/
import Derived.Test.YtngllchoiffniaaGreatDoorMo3
import Derived.Test.YtngllchoiffniaaGreatDoorMo2
import Derived.Test.YtngllchoiffniaaGreatDoorMo6
set_option maxRecDepth 100000
set_option maxHeartbeats 20000000
section
namespace Go.Proofs.YtngllchoiffniaaGreatDoor
open Go.RowKit
open Seal
open Bson (Val)
def SmallPost (w : World) (h : Nat) (x : Val) (e : Ending) (w' : World) : Prop := ∃ b, e = .returned (.bool b) ∧ (b = true → wt h x ≤ 3000) ∧ Below w.heap.size w w'
theorem small_any (Q : Nat → Prop) (h : Nat) (x : Val) (v : Value) (w : World) (hv : VIn w Q (h + 1) x v) : Calls Tryz.prog 19 #[v] w (SmallPost w (h + 1) x) := by
 obtain ⟨xk, xn, xs, ba, fa, la, bn, bc, fn, fc, ln, lc, rfl, hxk, hxn, hxs, hbn, hfn, hln, hL, hF, hI⟩ := hv.letters
 have HV := Lib.hid hv
 have HV0 : Hid (VIn (w.alloc (.cells #[.int .i64 xk, .int .i64 xn, .string xs, .slice ba bn bc, .slice fa fn fc, .slice la ln lc] 35)) Q (h + 1) x (.agg #[.int .i64 xk, .int .i64 xn, .string xs, .slice ba bn bc, .slice fa fn fc, .slice la ln lc])) := VIn.keep ((Below.refl _ w).alloc (Nat.le_refl _) _) hv
 have HB0 : Hid (Below w.heap.size w (w.alloc (.cells #[.int .i64 xk, .int .i64 xn, .string xs, .slice ba bn bc, .slice fa fn fc, .slice la ln lc] 35))) := (Below.refl _ w).alloc (Nat.le_refl _) _
 have hS := SixIs.new w (.int .i64 xk) (.int .i64 xn) (.string xs) (.slice ba bn bc) (.slice fa fn fc) (.slice la ln lc) 35
 have HS0 := Lib.hid hS
 clear hv hxk hS hxn hxs hbn hfn hln hL hF hI
 generalize hW : w.alloc (.cells #[.int .i64 xk, .int .i64 xn, .string xs, .slice ba bn bc, .slice fa fn fc, .slice la ln lc] 35) = W0 at *
 obtain ⟨e0, e1, e2, e3, e4, e5⟩ := HS0.out
 go_enter Tryz.func19, Tryz.ntmps19
 go_wp2_with fail
 clear hW
 go_at_call 20
 refine (weight_any Q (h + 1) x _ 3000 W0 HV0.out (by decide) (by decide)).mono ?_
 rintro e w1 ⟨r, rfl, hr1, hr2, hr3, hb1⟩
 obtain ⟨f0, f1, f2, f3, f4, f5⟩ := HS0.out.keep hb1
 have HV1 := Lib.hid (VIn.keep hb1 HV0.out)
 have HB1 : Hid (Below w.heap.size w w1) := HB0.out.trans (hb1.mono HB0.out.size)
 have HR := Lib.hid hr3
 clear hb1 hr3 hr1 hr2
 by_cases hr : r ≤ 3000
 ·have hd : decide (r ≤ 3000) = true := decide_eq_true hr
  have HW : Hid (wt (h + 1) x ≤ 3000) := by have := HR.out hr; show wt (h + 1) x ≤ 3000; omega
  go_wp2_with fail
  go_at_call 42
  refine (shallow_any Q (h + 1) x _ 60 w1 HV1.out (by decide) (by decide)).mono ?_
  rintro e w2 ⟨b, rfl, hb2⟩
  have HB2 : Hid (Below w.heap.size w w2) := HB1.out.trans (hb2.mono HB1.out.size)
  clear hb2
  go_wp2_with fail
  go_ret
  exact ⟨_, rfl, fun _ => HW.out, HB2.out⟩
 ·have hd : decide (r ≤ 3000) = false := decide_eq_false hr
  go_wp2_with fail
  go_ret
  exact ⟨_, rfl, fun hb => (by cases hb), HB1.out⟩
theorem few_more (Q : Nat → Prop) (h : Nat) (a : Option Addr) (n c : Nat) (l : List Val) (w : World) (hn : l.length = n) (hnb : n ≤ 1353245080339) (hI : ItemsIn w Q (VIn w Q (h + 1)) a l) :
  Calls Tryz.prog 6 #[.slice a n c] w fun e w' => ∃ b, e = .returned (.bool b) ∧ (b = true → n ≤ 30 ∧ ∀ x ∈ l, wt (h + 1) x ≤ 3000) ∧ Below w.heap.size w w' := by
 have HI := Lib.hid hI
 have HN := Lib.hid hn
 clear hI hn
 go_enter Tryz.func6, Tryz.ntmps6
 go_wp2_with fail
 go_loopw [3, 4] (fun q i wr => ∃ (k : Nat) (m : Int), q = .int .i64 m ∧ i = .int .i64 k ∧ k ≤ n ∧ Hid (Below w.heap.size w wr) ∧ Hid (∀ j (hj : j < l.length), j < k → wt (h + 1) l[j] ≤ 3000)) (fun _ i _ => n - (intOf i).toNat)
 case atStart => exact ⟨0, 0, rfl, rfl, Nat.zero_le _, Below.refl _ _, fun j _ hj => absurd hj (Nat.not_lt_zero _)⟩
 case round =>
  obtain ⟨k, m, rfl, rfl, hk, HB, HW⟩ := hrel
  by_cases hlt : k < n
  ·obtain ⟨g, o, hla, _, hall⟩ := HI.out.resolve_left (fun e => by have := HN.out; rw [e] at this; simp at this; omega)
   obtain ⟨v1, hsix, hV⟩ := hall k (by have := HN.out; omega)
   obtain rfl := hla
   obtain ⟨ka, na, sa, ba, fa, la, bl, bc, fl, fc, ll, lc, rfl⟩ := VIn.shape (h := h + 1) hV
   have HV := Lib.hid (VIn.keep (h := h + 1) HB.out hV)
   have HSX := Lib.hid (hsix.keep HB.out)
   obtain ⟨s0, s1, s2, s3, s4, s5⟩ := HSX.out.cells
   clear hall hsix hV
   go_wp2_with fail
   go_at_call 19
   refine (small_any Q h _ _ wr HV.out).mono ?_
   rintro e w1 ⟨b, rfl, hw1, hb1⟩
   have HW1 := Lib.hid hw1
   clear hw1
   have HB1 : Hid (Below w.heap.size w w1) := HB.out.trans (hb1.mono HB.out.size)
   have HV1 := Lib.hid (VIn.keep hb1 HV.out)
   obtain ⟨z0, z1, z2, z3, z4, z5⟩ := (HSX.out.keep hb1).cells
   clear hb1 s0 s1 s2 s3 s4 s5
   cases b with
   | false =>
    go_wp2_with fail
    go_ret
    exact ⟨_, rfl, nofun, HB1.out⟩
   | true =>
    have HWN : Hid (∀ j (hj : j < l.length), j < k + 1 → wt (h + 1) l[j] ≤ 3000) := fun j hj hjk => by
     by_cases e : j = k
     ·subst e; exact HW1.out rfl
     ·exact HW.out j hj (by omega)
    clear HW1
    go_wp2_with fail
    go_at_call 20
    refine (weight_any Q (h + 1) _ _ 3000 w1 HV1.out (by decide) (by decide)).mono ?_
    rintro e w2 ⟨r, rfl, _, _, _, hb2⟩
    have HB2 : Hid (Below w.heap.size w w2) := HB1.out.trans (hb2.mono HB1.out.size)
    clear hb2
    go_wp2_with fail
    go_roundw
    case rel => exact ⟨k + 1, _, rfl, by go_num, by omega, HB2, HWN⟩
    case measure => simp [intOf]; omega
  ·by_cases h30 : n ≤ 30
   ·have hd : decide ((n : Int) ≤ 30) = true := by rw [decide_eq_true_eq]; omega
    go_wp2_with fail
    go_ret
    exact ⟨_, rfl, fun _ => ⟨h30, fun x hx => by obtain ⟨j, hj, rfl⟩ := List.getElem_of_mem hx; exact HW.out j hj (by have := HN.out; omega)⟩, HB.out⟩
   ·have hd : decide ((n : Int) ≤ 30) = false := by rw [decide_eq_false_iff_not]; omega
    go_wp2_with fail
    go_ret
    exact ⟨_, rfl, nofun, HB.out⟩
end Go.Proofs.YtngllchoiffniaaGreatDoor
end
