/- RefBare. -/
import Derived.Test.YtngllchoiffniaaGreatDoorMo26
set_option maxRecDepth 100000
set_option maxHeartbeats 20000000
section
namespace Go.Proofs.YtngllchoiffniaaGreatDoor
open Go.RowKit
open Seal
open Bson (Val)
theorem bare_of (x : Val) {xn : Int} {xs : ByteArray} {bn fn ln : Nat} (h1 : xn = x.n) (h2 : xs = x.s) (h3 : bn = x.b.length) (h4 : fn = x.f.length) (h5 : ln = x.l.length) (n s b f l : Bool) :
  Bson.bare x n s b f l = ((n || xn == 0) && (s || xs.size == 0) && (b || bn == 0) && (f || fn == 0) && (l || ln == 0)) := by
 have e : ∀ {α : Type} (q : List α), q.isEmpty = (q.length == 0) := fun q => by cases q <;> rfl
 unfold Bson.bare
 rw [e, e, e, ← h1, ← h2, ← h3, ← h4, ← h5]
theorem bare_some0 (Q : Nat → Prop) (h : Nat) (x : Val) (v : Value) (w : World) (hv : VIn w Q h x v) : Calls Tryz.prog 69 #[v, .bool false, .bool false, .bool false, .bool false, .bool false] w fun e w' => e = .returned (.bool (Bson.bare x false false false false false)) ∧ Below w.heap.size w w' := by
 cases h with
 | zero => exact hv.elim
 | succ h =>
  obtain ⟨xk, xn, xs, ba, fa, la, bn, bc, fn, fc, ln, lc, rfl, hxk, hxn, hxs, hbn, hfn, hln, hL, hF, hI⟩ := hv.letters
  have HE := Lib.hid (And.intro hxn (And.intro hxs (And.intro hbn (And.intro hfn hln))))
  clear hL hF hI hxk hxn hxs hbn hfn hln hv
  have HB : Hid (Below w.heap.size w (w.alloc (.cells #[.int .i64 xk, .int .i64 xn, .string xs, .slice ba bn bc, .slice fa fn fc, .slice la ln lc] 35))) := (Below.refl _ w).alloc (Nat.le_refl _) _
  by_cases hn : xn = 0
  case neg =>
   have hb : (xn == 0) = false := by rw [beq_eq_false_iff_ne]; exact hn
   have HRES : Hid (Bson.bare x false false false false false = false) := by show Bson.bare x false false false false false = false; rw [bare_of x HE.out.1 HE.out.2.1 HE.out.2.2.1 HE.out.2.2.2.1 HE.out.2.2.2.2]; simp [hn]
   go_enter Tryz.func69, Tryz.ntmps69
   go_wp2_with fail
   go_ret
   exact ⟨by rw [HRES.out]; rfl, HB.out⟩
  subst hn
  by_cases hs : xs.size = 0
  case neg =>
   obtain ⟨h1, h2, h3⟩ := Path.filled xs hs
   have HRES : Hid (Bson.bare x false false false false false = false) := by show Bson.bare x false false false false false = false; rw [bare_of x HE.out.1 HE.out.2.1 HE.out.2.2.1 HE.out.2.2.2.1 HE.out.2.2.2.2]; simp [hs]
   go_enter Tryz.func69, Tryz.ntmps69
   go_wp2_with fail
   go_ret
   exact ⟨by rw [HRES.out]; rfl, HB.out⟩
  obtain rfl := (empty_iff xs).2 hs
  by_cases hbz : bn = 0
  case neg =>
   have hb : ((bn : Int) == 0) = false := by rw [beq_eq_false_iff_ne]; omega
   have HRES : Hid (Bson.bare x false false false false false = false) := by show Bson.bare x false false false false false = false; rw [bare_of x HE.out.1 HE.out.2.1 HE.out.2.2.1 HE.out.2.2.2.1 HE.out.2.2.2.2]; simp [hbz]
   go_enter Tryz.func69, Tryz.ntmps69
   go_wp2_with fail
   go_ret
   exact ⟨by rw [HRES.out]; rfl, HB.out⟩
  subst hbz
  by_cases hfz : fn = 0
  case neg =>
   have hb : ((fn : Int) == 0) = false := by rw [beq_eq_false_iff_ne]; omega
   have HRES : Hid (Bson.bare x false false false false false = false) := by show Bson.bare x false false false false false = false; rw [bare_of x HE.out.1 HE.out.2.1 HE.out.2.2.1 HE.out.2.2.2.1 HE.out.2.2.2.2]; simp [hfz]
   go_enter Tryz.func69, Tryz.ntmps69
   go_wp2_with fail
   go_ret
   exact ⟨by rw [HRES.out]; rfl, HB.out⟩
  subst hfz
  by_cases hlz : ln = 0
  case neg =>
   have hb : ((ln : Int) == 0) = false := by rw [beq_eq_false_iff_ne]; omega
   have HRES : Hid (Bson.bare x false false false false false = false) := by show Bson.bare x false false false false false = false; rw [bare_of x HE.out.1 HE.out.2.1 HE.out.2.2.1 HE.out.2.2.2.1 HE.out.2.2.2.2]; simp [hlz]
   go_enter Tryz.func69, Tryz.ntmps69
   go_wp2_with fail
   go_ret
   exact ⟨by rw [HRES.out]; rfl, HB.out⟩
  subst hlz
  have HRES : Hid (Bson.bare x false false false false false = true) := by show Bson.bare x false false false false false = true; rw [bare_of x HE.out.1 HE.out.2.1 HE.out.2.2.1 HE.out.2.2.2.1 HE.out.2.2.2.2]; simp [show (⟨#[]⟩ : ByteArray).size = 0 from rfl]
  go_enter Tryz.func69, Tryz.ntmps69
  go_wp2_with fail
  go_ret
  exact ⟨by rw [HRES.out]; rfl, HB.out⟩
theorem bare_some1 (Q : Nat → Prop) (h : Nat) (x : Val) (v : Value) (w : World) (hv : VIn w Q h x v) : Calls Tryz.prog 69 #[v, .bool true, .bool false, .bool false, .bool false, .bool false] w fun e w' => e = .returned (.bool (Bson.bare x true false false false false)) ∧ Below w.heap.size w w' := by
 cases h with
 | zero => exact hv.elim
 | succ h =>
  obtain ⟨xk, xn, xs, ba, fa, la, bn, bc, fn, fc, ln, lc, rfl, hxk, hxn, hxs, hbn, hfn, hln, hL, hF, hI⟩ := hv.letters
  have HE := Lib.hid (And.intro hxn (And.intro hxs (And.intro hbn (And.intro hfn hln))))
  clear hL hF hI hxk hxn hxs hbn hfn hln hv
  have HB : Hid (Below w.heap.size w (w.alloc (.cells #[.int .i64 xk, .int .i64 xn, .string xs, .slice ba bn bc, .slice fa fn fc, .slice la ln lc] 35))) := (Below.refl _ w).alloc (Nat.le_refl _) _
  by_cases hs : xs.size = 0
  case neg =>
   obtain ⟨h1, h2, h3⟩ := Path.filled xs hs
   have HRES : Hid (Bson.bare x true false false false false = false) := by show Bson.bare x true false false false false = false; rw [bare_of x HE.out.1 HE.out.2.1 HE.out.2.2.1 HE.out.2.2.2.1 HE.out.2.2.2.2]; simp [hs]
   go_enter Tryz.func69, Tryz.ntmps69
   go_wp2_with fail
   go_ret
   exact ⟨by rw [HRES.out]; rfl, HB.out⟩
  obtain rfl := (empty_iff xs).2 hs
  by_cases hbz : bn = 0
  case neg =>
   have hb : ((bn : Int) == 0) = false := by rw [beq_eq_false_iff_ne]; omega
   have HRES : Hid (Bson.bare x true false false false false = false) := by show Bson.bare x true false false false false = false; rw [bare_of x HE.out.1 HE.out.2.1 HE.out.2.2.1 HE.out.2.2.2.1 HE.out.2.2.2.2]; simp [hbz]
   go_enter Tryz.func69, Tryz.ntmps69
   go_wp2_with fail
   go_ret
   exact ⟨by rw [HRES.out]; rfl, HB.out⟩
  subst hbz
  by_cases hfz : fn = 0
  case neg =>
   have hb : ((fn : Int) == 0) = false := by rw [beq_eq_false_iff_ne]; omega
   have HRES : Hid (Bson.bare x true false false false false = false) := by show Bson.bare x true false false false false = false; rw [bare_of x HE.out.1 HE.out.2.1 HE.out.2.2.1 HE.out.2.2.2.1 HE.out.2.2.2.2]; simp [hfz]
   go_enter Tryz.func69, Tryz.ntmps69
   go_wp2_with fail
   go_ret
   exact ⟨by rw [HRES.out]; rfl, HB.out⟩
  subst hfz
  by_cases hlz : ln = 0
  case neg =>
   have hb : ((ln : Int) == 0) = false := by rw [beq_eq_false_iff_ne]; omega
   have HRES : Hid (Bson.bare x true false false false false = false) := by show Bson.bare x true false false false false = false; rw [bare_of x HE.out.1 HE.out.2.1 HE.out.2.2.1 HE.out.2.2.2.1 HE.out.2.2.2.2]; simp [hlz]
   go_enter Tryz.func69, Tryz.ntmps69
   go_wp2_with fail
   go_ret
   exact ⟨by rw [HRES.out]; rfl, HB.out⟩
  subst hlz
  have HRES : Hid (Bson.bare x true false false false false = true) := by show Bson.bare x true false false false false = true; rw [bare_of x HE.out.1 HE.out.2.1 HE.out.2.2.1 HE.out.2.2.2.1 HE.out.2.2.2.2]; simp [show (⟨#[]⟩ : ByteArray).size = 0 from rfl]
  go_enter Tryz.func69, Tryz.ntmps69
  go_wp2_with fail
  go_ret
  exact ⟨by rw [HRES.out]; rfl, HB.out⟩
theorem bare_some2 (Q : Nat → Prop) (h : Nat) (x : Val) (v : Value) (w : World) (hv : VIn w Q h x v) : Calls Tryz.prog 69 #[v, .bool false, .bool true, .bool false, .bool false, .bool false] w fun e w' => e = .returned (.bool (Bson.bare x false true false false false)) ∧ Below w.heap.size w w' := by
 cases h with
 | zero => exact hv.elim
 | succ h =>
  obtain ⟨xk, xn, xs, ba, fa, la, bn, bc, fn, fc, ln, lc, rfl, hxk, hxn, hxs, hbn, hfn, hln, hL, hF, hI⟩ := hv.letters
  have HE := Lib.hid (And.intro hxn (And.intro hxs (And.intro hbn (And.intro hfn hln))))
  clear hL hF hI hxk hxn hxs hbn hfn hln hv
  have HB : Hid (Below w.heap.size w (w.alloc (.cells #[.int .i64 xk, .int .i64 xn, .string xs, .slice ba bn bc, .slice fa fn fc, .slice la ln lc] 35))) := (Below.refl _ w).alloc (Nat.le_refl _) _
  by_cases hn : xn = 0
  case neg =>
   have hb : (xn == 0) = false := by rw [beq_eq_false_iff_ne]; exact hn
   have HRES : Hid (Bson.bare x false true false false false = false) := by show Bson.bare x false true false false false = false; rw [bare_of x HE.out.1 HE.out.2.1 HE.out.2.2.1 HE.out.2.2.2.1 HE.out.2.2.2.2]; simp [hn]
   go_enter Tryz.func69, Tryz.ntmps69
   go_wp2_with fail
   go_ret
   exact ⟨by rw [HRES.out]; rfl, HB.out⟩
  subst hn
  by_cases hbz : bn = 0
  case neg =>
   have hb : ((bn : Int) == 0) = false := by rw [beq_eq_false_iff_ne]; omega
   have HRES : Hid (Bson.bare x false true false false false = false) := by show Bson.bare x false true false false false = false; rw [bare_of x HE.out.1 HE.out.2.1 HE.out.2.2.1 HE.out.2.2.2.1 HE.out.2.2.2.2]; simp [hbz]
   go_enter Tryz.func69, Tryz.ntmps69
   go_wp2_with fail
   go_ret
   exact ⟨by rw [HRES.out]; rfl, HB.out⟩
  subst hbz
  by_cases hfz : fn = 0
  case neg =>
   have hb : ((fn : Int) == 0) = false := by rw [beq_eq_false_iff_ne]; omega
   have HRES : Hid (Bson.bare x false true false false false = false) := by show Bson.bare x false true false false false = false; rw [bare_of x HE.out.1 HE.out.2.1 HE.out.2.2.1 HE.out.2.2.2.1 HE.out.2.2.2.2]; simp [hfz]
   go_enter Tryz.func69, Tryz.ntmps69
   go_wp2_with fail
   go_ret
   exact ⟨by rw [HRES.out]; rfl, HB.out⟩
  subst hfz
  by_cases hlz : ln = 0
  case neg =>
   have hb : ((ln : Int) == 0) = false := by rw [beq_eq_false_iff_ne]; omega
   have HRES : Hid (Bson.bare x false true false false false = false) := by show Bson.bare x false true false false false = false; rw [bare_of x HE.out.1 HE.out.2.1 HE.out.2.2.1 HE.out.2.2.2.1 HE.out.2.2.2.2]; simp [hlz]
   go_enter Tryz.func69, Tryz.ntmps69
   go_wp2_with fail
   go_ret
   exact ⟨by rw [HRES.out]; rfl, HB.out⟩
  subst hlz
  have HRES : Hid (Bson.bare x false true false false false = true) := by show Bson.bare x false true false false false = true; rw [bare_of x HE.out.1 HE.out.2.1 HE.out.2.2.1 HE.out.2.2.2.1 HE.out.2.2.2.2]; simp
  go_enter Tryz.func69, Tryz.ntmps69
  go_wp2_with fail
  go_ret
  exact ⟨by rw [HRES.out]; rfl, HB.out⟩
theorem bare_some3 (Q : Nat → Prop) (h : Nat) (x : Val) (v : Value) (w : World) (hv : VIn w Q h x v) : Calls Tryz.prog 69 #[v, .bool false, .bool false, .bool true, .bool false, .bool false] w fun e w' => e = .returned (.bool (Bson.bare x false false true false false)) ∧ Below w.heap.size w w' := by
 cases h with
 | zero => exact hv.elim
 | succ h =>
  obtain ⟨xk, xn, xs, ba, fa, la, bn, bc, fn, fc, ln, lc, rfl, hxk, hxn, hxs, hbn, hfn, hln, hL, hF, hI⟩ := hv.letters
  have HE := Lib.hid (And.intro hxn (And.intro hxs (And.intro hbn (And.intro hfn hln))))
  clear hL hF hI hxk hxn hxs hbn hfn hln hv
  have HB : Hid (Below w.heap.size w (w.alloc (.cells #[.int .i64 xk, .int .i64 xn, .string xs, .slice ba bn bc, .slice fa fn fc, .slice la ln lc] 35))) := (Below.refl _ w).alloc (Nat.le_refl _) _
  by_cases hn : xn = 0
  case neg =>
   have hb : (xn == 0) = false := by rw [beq_eq_false_iff_ne]; exact hn
   have HRES : Hid (Bson.bare x false false true false false = false) := by show Bson.bare x false false true false false = false; rw [bare_of x HE.out.1 HE.out.2.1 HE.out.2.2.1 HE.out.2.2.2.1 HE.out.2.2.2.2]; simp [hn]
   go_enter Tryz.func69, Tryz.ntmps69
   go_wp2_with fail
   go_ret
   exact ⟨by rw [HRES.out]; rfl, HB.out⟩
  subst hn
  by_cases hs : xs.size = 0
  case neg =>
   obtain ⟨h1, h2, h3⟩ := Path.filled xs hs
   have HRES : Hid (Bson.bare x false false true false false = false) := by show Bson.bare x false false true false false = false; rw [bare_of x HE.out.1 HE.out.2.1 HE.out.2.2.1 HE.out.2.2.2.1 HE.out.2.2.2.2]; simp [hs]
   go_enter Tryz.func69, Tryz.ntmps69
   go_wp2_with fail
   go_ret
   exact ⟨by rw [HRES.out]; rfl, HB.out⟩
  obtain rfl := (empty_iff xs).2 hs
  by_cases hfz : fn = 0
  case neg =>
   have hb : ((fn : Int) == 0) = false := by rw [beq_eq_false_iff_ne]; omega
   have HRES : Hid (Bson.bare x false false true false false = false) := by show Bson.bare x false false true false false = false; rw [bare_of x HE.out.1 HE.out.2.1 HE.out.2.2.1 HE.out.2.2.2.1 HE.out.2.2.2.2]; simp [hfz]
   go_enter Tryz.func69, Tryz.ntmps69
   go_wp2_with fail
   go_ret
   exact ⟨by rw [HRES.out]; rfl, HB.out⟩
  subst hfz
  by_cases hlz : ln = 0
  case neg =>
   have hb : ((ln : Int) == 0) = false := by rw [beq_eq_false_iff_ne]; omega
   have HRES : Hid (Bson.bare x false false true false false = false) := by show Bson.bare x false false true false false = false; rw [bare_of x HE.out.1 HE.out.2.1 HE.out.2.2.1 HE.out.2.2.2.1 HE.out.2.2.2.2]; simp [hlz]
   go_enter Tryz.func69, Tryz.ntmps69
   go_wp2_with fail
   go_ret
   exact ⟨by rw [HRES.out]; rfl, HB.out⟩
  subst hlz
  have HRES : Hid (Bson.bare x false false true false false = true) := by show Bson.bare x false false true false false = true; rw [bare_of x HE.out.1 HE.out.2.1 HE.out.2.2.1 HE.out.2.2.2.1 HE.out.2.2.2.2]; simp [show (⟨#[]⟩ : ByteArray).size = 0 from rfl]
  go_enter Tryz.func69, Tryz.ntmps69
  go_wp2_with fail
  go_ret
  exact ⟨by rw [HRES.out]; rfl, HB.out⟩
theorem bare_some4 (Q : Nat → Prop) (h : Nat) (x : Val) (v : Value) (w : World) (hv : VIn w Q h x v) : Calls Tryz.prog 69 #[v, .bool false, .bool false, .bool false, .bool true, .bool false] w fun e w' => e = .returned (.bool (Bson.bare x false false false true false)) ∧ Below w.heap.size w w' := by
 cases h with
 | zero => exact hv.elim
 | succ h =>
  obtain ⟨xk, xn, xs, ba, fa, la, bn, bc, fn, fc, ln, lc, rfl, hxk, hxn, hxs, hbn, hfn, hln, hL, hF, hI⟩ := hv.letters
  have HE := Lib.hid (And.intro hxn (And.intro hxs (And.intro hbn (And.intro hfn hln))))
  clear hL hF hI hxk hxn hxs hbn hfn hln hv
  have HB : Hid (Below w.heap.size w (w.alloc (.cells #[.int .i64 xk, .int .i64 xn, .string xs, .slice ba bn bc, .slice fa fn fc, .slice la ln lc] 35))) := (Below.refl _ w).alloc (Nat.le_refl _) _
  by_cases hn : xn = 0
  case neg =>
   have hb : (xn == 0) = false := by rw [beq_eq_false_iff_ne]; exact hn
   have HRES : Hid (Bson.bare x false false false true false = false) := by show Bson.bare x false false false true false = false; rw [bare_of x HE.out.1 HE.out.2.1 HE.out.2.2.1 HE.out.2.2.2.1 HE.out.2.2.2.2]; simp [hn]
   go_enter Tryz.func69, Tryz.ntmps69
   go_wp2_with fail
   go_ret
   exact ⟨by rw [HRES.out]; rfl, HB.out⟩
  subst hn
  by_cases hs : xs.size = 0
  case neg =>
   obtain ⟨h1, h2, h3⟩ := Path.filled xs hs
   have HRES : Hid (Bson.bare x false false false true false = false) := by show Bson.bare x false false false true false = false; rw [bare_of x HE.out.1 HE.out.2.1 HE.out.2.2.1 HE.out.2.2.2.1 HE.out.2.2.2.2]; simp [hs]
   go_enter Tryz.func69, Tryz.ntmps69
   go_wp2_with fail
   go_ret
   exact ⟨by rw [HRES.out]; rfl, HB.out⟩
  obtain rfl := (empty_iff xs).2 hs
  by_cases hbz : bn = 0
  case neg =>
   have hb : ((bn : Int) == 0) = false := by rw [beq_eq_false_iff_ne]; omega
   have HRES : Hid (Bson.bare x false false false true false = false) := by show Bson.bare x false false false true false = false; rw [bare_of x HE.out.1 HE.out.2.1 HE.out.2.2.1 HE.out.2.2.2.1 HE.out.2.2.2.2]; simp [hbz]
   go_enter Tryz.func69, Tryz.ntmps69
   go_wp2_with fail
   go_ret
   exact ⟨by rw [HRES.out]; rfl, HB.out⟩
  subst hbz
  by_cases hlz : ln = 0
  case neg =>
   have hb : ((ln : Int) == 0) = false := by rw [beq_eq_false_iff_ne]; omega
   have HRES : Hid (Bson.bare x false false false true false = false) := by show Bson.bare x false false false true false = false; rw [bare_of x HE.out.1 HE.out.2.1 HE.out.2.2.1 HE.out.2.2.2.1 HE.out.2.2.2.2]; simp [hlz]
   go_enter Tryz.func69, Tryz.ntmps69
   go_wp2_with fail
   go_ret
   exact ⟨by rw [HRES.out]; rfl, HB.out⟩
  subst hlz
  have HRES : Hid (Bson.bare x false false false true false = true) := by show Bson.bare x false false false true false = true; rw [bare_of x HE.out.1 HE.out.2.1 HE.out.2.2.1 HE.out.2.2.2.1 HE.out.2.2.2.2]; simp [show (⟨#[]⟩ : ByteArray).size = 0 from rfl]
  go_enter Tryz.func69, Tryz.ntmps69
  go_wp2_with fail
  go_ret
  exact ⟨by rw [HRES.out]; rfl, HB.out⟩
theorem bare_some5 (Q : Nat → Prop) (h : Nat) (x : Val) (v : Value) (w : World) (hv : VIn w Q h x v) : Calls Tryz.prog 69 #[v, .bool false, .bool false, .bool false, .bool false, .bool true] w fun e w' => e = .returned (.bool (Bson.bare x false false false false true)) ∧ Below w.heap.size w w' := by
 cases h with
 | zero => exact hv.elim
 | succ h =>
  obtain ⟨xk, xn, xs, ba, fa, la, bn, bc, fn, fc, ln, lc, rfl, hxk, hxn, hxs, hbn, hfn, hln, hL, hF, hI⟩ := hv.letters
  have HE := Lib.hid (And.intro hxn (And.intro hxs (And.intro hbn (And.intro hfn hln))))
  clear hL hF hI hxk hxn hxs hbn hfn hln hv
  have HB : Hid (Below w.heap.size w (w.alloc (.cells #[.int .i64 xk, .int .i64 xn, .string xs, .slice ba bn bc, .slice fa fn fc, .slice la ln lc] 35))) := (Below.refl _ w).alloc (Nat.le_refl _) _
  by_cases hn : xn = 0
  case neg =>
   have hb : (xn == 0) = false := by rw [beq_eq_false_iff_ne]; exact hn
   have HRES : Hid (Bson.bare x false false false false true = false) := by show Bson.bare x false false false false true = false; rw [bare_of x HE.out.1 HE.out.2.1 HE.out.2.2.1 HE.out.2.2.2.1 HE.out.2.2.2.2]; simp [hn]
   go_enter Tryz.func69, Tryz.ntmps69
   go_wp2_with fail
   go_ret
   exact ⟨by rw [HRES.out]; rfl, HB.out⟩
  subst hn
  by_cases hs : xs.size = 0
  case neg =>
   obtain ⟨h1, h2, h3⟩ := Path.filled xs hs
   have HRES : Hid (Bson.bare x false false false false true = false) := by show Bson.bare x false false false false true = false; rw [bare_of x HE.out.1 HE.out.2.1 HE.out.2.2.1 HE.out.2.2.2.1 HE.out.2.2.2.2]; simp [hs]
   go_enter Tryz.func69, Tryz.ntmps69
   go_wp2_with fail
   go_ret
   exact ⟨by rw [HRES.out]; rfl, HB.out⟩
  obtain rfl := (empty_iff xs).2 hs
  by_cases hbz : bn = 0
  case neg =>
   have hb : ((bn : Int) == 0) = false := by rw [beq_eq_false_iff_ne]; omega
   have HRES : Hid (Bson.bare x false false false false true = false) := by show Bson.bare x false false false false true = false; rw [bare_of x HE.out.1 HE.out.2.1 HE.out.2.2.1 HE.out.2.2.2.1 HE.out.2.2.2.2]; simp [hbz]
   go_enter Tryz.func69, Tryz.ntmps69
   go_wp2_with fail
   go_ret
   exact ⟨by rw [HRES.out]; rfl, HB.out⟩
  subst hbz
  by_cases hfz : fn = 0
  case neg =>
   have hb : ((fn : Int) == 0) = false := by rw [beq_eq_false_iff_ne]; omega
   have HRES : Hid (Bson.bare x false false false false true = false) := by show Bson.bare x false false false false true = false; rw [bare_of x HE.out.1 HE.out.2.1 HE.out.2.2.1 HE.out.2.2.2.1 HE.out.2.2.2.2]; simp [hfz]
   go_enter Tryz.func69, Tryz.ntmps69
   go_wp2_with fail
   go_ret
   exact ⟨by rw [HRES.out]; rfl, HB.out⟩
  subst hfz
  have HRES : Hid (Bson.bare x false false false false true = true) := by show Bson.bare x false false false false true = true; rw [bare_of x HE.out.1 HE.out.2.1 HE.out.2.2.1 HE.out.2.2.2.1 HE.out.2.2.2.2]; simp [show (⟨#[]⟩ : ByteArray).size = 0 from rfl]
  go_enter Tryz.func69, Tryz.ntmps69
  go_wp2_with fail
  go_ret
  exact ⟨by rw [HRES.out]; rfl, HB.out⟩
end Go.Proofs.YtngllchoiffniaaGreatDoor
end
