/- order.item, turn.compare, By. -/
import Derived.Test.YtkpbfocbombpjaaOrderCmp
import Derived.Test.YtkpbfocbombpjaaOrderBools
import Derived.Test.YtkpbfocbombpjaaOrderRowsIn
import Derived.IntWalk
namespace Go.Proofs.Ytkpbfocbombpjaa
open Go.RowKit
open Seal
open Bson (Val)
def ByGo (c : Val → Val → Int) (l l2 : List Val) (bl : List Bool) (M k : Nat) : Prop := Order.rows c Bson.zero l l2 bl = Order.byFrom c Bson.zero l l2 bl (M - k) k
set_option maxRecDepth 100000 in
set_option maxHeartbeats 4000000 in
theorem turncmp_any (h : Nat) (Q Q2 : Nat → Prop) (t : Bool) (x y : Val) (u v : Value) (w : World) (hx : VIn w Q h x u) (hy : VIn w Q2 h y v) :
    Calls Try.prog 19 #[.bool t, u, v] w (CmpPost (Order.turned (Order.cmp h) t x y) w) := by
  obtain ⟨xk, xn, xs, ba, fa, la, bn, bc, fn, fc, ln, lc, rfl⟩ := hx.shape
  obtain ⟨yk, yn, ys, ba2, fa2, la2, bn2, bc2, fn2, fc2, ln2, lc2, rfl⟩ := hy.shape
  have HB : Hid (Below w.heap.size w ((w.alloc (.cells #[Value.int .i64 xk, .int .i64 xn, .string xs, .slice ba bn bc, .slice fa fn fc, .slice la ln lc] 27)).alloc (.cells #[Value.int .i64 yk, .int .i64 yn, .string ys, .slice ba2 bn2 bc2, .slice fa2 fn2 fc2, .slice la2 ln2 lc2] 27))) := ((Below.refl _ w).alloc (Nat.le_refl _) _).alloc (by simp) _
  have HC := Lib.hid (compare_any h Q Q2 x y _ _ _ (VIn.keep HB.out hx) (VIn.keep HB.out hy))
  obtain ⟨r, hr⟩ : ∃ r, r = Order.cmp h x y := ⟨_, rfl⟩
  have h3 : r = -1 ∨ r = 0 ∨ r = 1 := by rw [hr]; exact (Order.cmp_cmp h).one _ _
  have HT : Hid (Order.turned (Order.cmp h) t x y = if t then - r else r) := by rw [hr]; rfl
  rw [← hr] at HC
  clear hx hy hr
  cases t with
  | false =>
    go_enter Try.func19, Try.ntmps19
    go_wp2_with (go_at_call 6; refine HC.out.mono ?_; rintro e w2 ⟨rfl, hb2⟩)
    go_ret
    exact ⟨ret_i HT.out.symm, HB.out.trans (hb2.mono HB.out.size)⟩
  | true =>
    rcases h3 with rfl | rfl | rfl
    all_goals
      go_enter Try.func19, Try.ntmps19
      go_wp2_with (go_at_call 6; refine HC.out.mono ?_; rintro e w2 ⟨rfl, hb2⟩)
      go_ret
      exact ⟨ret_i HT.out.symm, HB.out.trans (hb2.mono HB.out.size)⟩
end Go.Proofs.Ytkpbfocbombpjaa
