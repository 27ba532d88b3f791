/- RefCmpN. -/
import Derived.Lib.QuietBelow
import Derived.Test.YtiajjgehnmkokaaGreatDoorMc5
import Derived.Test.YtiajjgehnmkokaaGreatDoorMc3
import Derived.Test.YtiajjgehnmkokaaGreatDoorMc2
set_option maxRecDepth 100000
set_option maxHeartbeats 20000000
section
namespace Go.Proofs.YtiajjgehnmkokaaGreatDoor
open Go.RowKit
open Seal
open Bson (Val)
open Go.Sort
theorem refClass_q (k : Int) (w : World) (hk : -9223372036854775808 ≤ k ∧ k ≤ 9223372036854775807) : Calls Tryz.prog 35 #[.int .i64 k] w fun e w' => e = .returned (.int .i64 (Order.cls k)) ∧ w' = w := (refClass_any k w hk).mono fun _ _ ⟨h1, h2⟩ => ⟨h1, h2.symm⟩
theorem refCmp_ne (xk xn yk yn : Int) (xs ys : ByteArray) (ba fa la ba2 fa2 la2 : Option Addr) (bn bc fn fc ln lc bn2 bc2 fn2 fc2 ln2 lc2 : Nat) (w : World) (hk : -9223372036854775808 ≤ xk ∧ xk ≤ 9223372036854775807) (hk2 : -9223372036854775808 ≤ yk ∧ yk ≤ 9223372036854775807) (e : Order.sgn (Order.cls xk) (Order.cls yk) ≠ 0) :
  Calls Tryz.prog 14 #[.agg #[Value.int .i64 xk, .int .i64 xn, .string xs, .slice ba bn bc, .slice fa fn fc, .slice la ln lc], .agg #[Value.int .i64 yk, .int .i64 yn, .string ys, .slice ba2 bn2 bc2, .slice fa2 fn2 fc2, .slice la2 ln2 lc2]] w (CmpPost (Order.sgn (Order.cls xk) (Order.cls yk)) w) := by
 have he : (Order.sgn (Order.cls xk) (Order.cls yk) != 0) = true := by rw [bne_iff_ne]; exact e
 obtain ⟨hk0, hk1⟩ := hk
 obtain ⟨hk20, hk21⟩ := hk2
 have HB : Hid (Below w.heap.size w ((w.alloc (.cells #[Value.int .i64 xk, .int .i64 xn, .string xs, .slice ba bn bc, .slice fa fn fc, .slice la ln lc] 26)).alloc (.cells #[Value.int .i64 yk, .int .i64 yn, .string ys, .slice ba2 bn2 bc2, .slice fa2 fn2 fc2, .slice la2 ln2 lc2] 26))) := ((Below.refl _ w).alloc (Nat.le_refl _) _).alloc (by simp) _
 clear e
 go_enter Tryz.func14, Tryz.ntmps14
 go_wp2_with fail
 go_quiet (first | (go_at_call 35; exact Calls.quiet_of_same (refClass_q _ _ (by omega))) | (go_at_call 34; exact Calls.quiet_of_same (sign_q _ _ _)))
 go_wp2_with fail
 go_ret
 exact ⟨rfl, below_dr HB.out _⟩
end Go.Proofs.YtiajjgehnmkokaaGreatDoor
end
