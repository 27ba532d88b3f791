/- aqueductref5.Compare: numbers, Dates, Bools; what has nothing to compare. -/
import Derived.Test.YtngdjdhfciodjaaRefCmpN
namespace Go.Proofs.Ytngdjdhfciodjaa
open Go.RowKit
open Seal
open Bson (Val)
set_option maxRecDepth 100000 in
set_option maxHeartbeats 20000000 in
theorem refCmp_num (xk xn yk yn : Int) (xs ys : ByteArray) (ba fa la ba2 fa2 la2 : Option Addr) (bn bc fn fc ln lc bn2 bc2 fn2 fc2 ln2 lc2 : Nat) (w : World) (hk : -9223372036854775808 ≤ xk ∧ xk ≤ 9223372036854775807) (hk2 : -9223372036854775808 ≤ yk ∧ yk ≤ 9223372036854775807) (hx : xk = 3 ∨ xk = 4 ∨ xk = 10 ∨ xk = 11) (e : Order.cls xk = Order.cls yk) :
    Calls Try.prog 12 #[.agg #[Value.int .i64 xk, .int .i64 xn, .string xs, .slice ba bn bc, .slice fa fn fc, .slice la ln lc], .agg #[Value.int .i64 yk, .int .i64 yn, .string ys, .slice ba2 bn2 bc2, .slice fa2 fn2 fc2, .slice la2 ln2 lc2]] w (CmpPost (Order.sgn xn yn) w) := by
  have he : Order.sgn (Order.cls xk) (Order.cls yk) = 0 := Order.sgn_zero.2 e
  have hb : (Order.sgn (Order.cls xk) (Order.cls yk) != 0) = false := by rw [he]; rfl
  obtain ⟨hk0, hk1⟩ := hk
  obtain ⟨hk20, hk21⟩ := hk2
  have HB : Hid (Below w.heap.size w ((w.alloc (.cells #[Value.int .i64 xk, .int .i64 xn, .string xs, .slice ba bn bc, .slice fa fn fc, .slice la ln lc] 26)).alloc (.cells #[Value.int .i64 yk, .int .i64 yn, .string ys, .slice ba2 bn2 bc2, .slice fa2 fn2 fc2, .slice la2 ln2 lc2] 26))) := ((Below.refl _ w).alloc (Nat.le_refl _) _).alloc (by simp) _
  clear e
  rcases hx with rfl | rfl | rfl | rfl
  all_goals
    go_enter Try.func12, Try.ntmps12
    go_wp2_with fail
    go_quiet (first | (go_at_call 14; exact Calls.quiet_of_same (refClass_q _ _ (by omega))) | (go_at_call 32; exact Calls.quiet_of_same (sign_q _ _ _)))
    go_wp2_with (go_at_call 32; refine (sign_any _ _ _).mono ?_; rintro e w' ⟨rfl, rfl⟩)
    go_ret
    exact ⟨rfl, below_dr HB.out _⟩
set_option maxRecDepth 100000 in
set_option maxHeartbeats 20000000 in
theorem refCmp_else (xk xn yk yn : Int) (xs ys : ByteArray) (ba fa la ba2 fa2 la2 : Option Addr) (bn bc fn fc ln lc bn2 bc2 fn2 fc2 ln2 lc2 : Nat) (w : World) (hk : -9223372036854775808 ≤ xk ∧ xk ≤ 9223372036854775807) (hk2 : -9223372036854775808 ≤ yk ∧ yk ≤ 9223372036854775807) (hx : xk < 3 ∨ 11 < xk) (e : Order.cls xk = Order.cls yk) :
    Calls Try.prog 12 #[.agg #[Value.int .i64 xk, .int .i64 xn, .string xs, .slice ba bn bc, .slice fa fn fc, .slice la ln lc], .agg #[Value.int .i64 yk, .int .i64 yn, .string ys, .slice ba2 bn2 bc2, .slice fa2 fn2 fc2, .slice la2 ln2 lc2]] w (CmpPost 0 w) := by
  have he : Order.sgn (Order.cls xk) (Order.cls yk) = 0 := Order.sgn_zero.2 e
  have hb : (Order.sgn (Order.cls xk) (Order.cls yk) != 0) = false := by rw [he]; rfl
  obtain ⟨hk0, hk1⟩ := hk
  obtain ⟨hk20, hk21⟩ := hk2
  have HB : Hid (Below w.heap.size w ((w.alloc (.cells #[Value.int .i64 xk, .int .i64 xn, .string xs, .slice ba bn bc, .slice fa fn fc, .slice la ln lc] 26)).alloc (.cells #[Value.int .i64 yk, .int .i64 yn, .string ys, .slice ba2 bn2 bc2, .slice fa2 fn2 fc2, .slice la2 ln2 lc2] 26))) := ((Below.refl _ w).alloc (Nat.le_refl _) _).alloc (by simp) _
  clear e
  have e3 : (xk == 3) = false := by rw [beq_eq_false_iff_ne]; omega
  have e4 : (xk == 4) = false := by rw [beq_eq_false_iff_ne]; omega
  have e5 : (xk == 5) = false := by rw [beq_eq_false_iff_ne]; omega
  have e6 : (xk == 6) = false := by rw [beq_eq_false_iff_ne]; omega
  have e7 : (xk == 7) = false := by rw [beq_eq_false_iff_ne]; omega
  have e8 : (xk == 8) = false := by rw [beq_eq_false_iff_ne]; omega
  have e9 : (xk == 9) = false := by rw [beq_eq_false_iff_ne]; omega
  have e10 : (xk == 10) = false := by rw [beq_eq_false_iff_ne]; omega
  have e11 : (xk == 11) = false := by rw [beq_eq_false_iff_ne]; omega
  clear hx
  go_enter Try.func12, Try.ntmps12
  go_wp2_with fail
  go_quiet (first | (go_at_call 14; exact Calls.quiet_of_same (refClass_q _ _ (by omega))) | (go_at_call 32; exact Calls.quiet_of_same (sign_q _ _ _)))
  go_wp2_with fail
  go_ret
  exact ⟨rfl, below_dr HB.out _⟩
end Go.Proofs.Ytngdjdhfciodjaa
