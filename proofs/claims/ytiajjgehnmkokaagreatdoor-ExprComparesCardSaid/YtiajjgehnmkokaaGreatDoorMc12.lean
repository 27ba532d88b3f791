/- RefCmpC. -/
import Derived.Test.YtiajjgehnmkokaaGreatDoorMc10
set_option maxRecDepth 100000
set_option maxHeartbeats 20000000
section
namespace Go.Proofs.YtiajjgehnmkokaaGreatDoor
open Go.RowKit
open Seal
open Bson (Val)
open Go.Sort
theorem refCmp_text (xk xn yk yn : Int) (xs ys : ByteArray) (ba fa la ba2 fa2 la2 : Option Addr) (bn bc fn fc ln lc bn2 bc2 fn2 fc2 ln2 lc2 : Nat) (w : World) (hk : -9223372036854775808 ≤ xk ∧ xk ≤ 9223372036854775807) (hk2 : -9223372036854775808 ≤ yk ∧ yk ≤ 9223372036854775807) (hx : xk = 5) (e : Order.cls xk = Order.cls yk) (hs : xs.size ≤ 140737488355328) (hs2 : ys.size ≤ 140737488355328) :
  Calls Tryz.prog 14 #[.agg #[Value.int .i64 xk, .int .i64 xn, .string xs, .slice ba bn bc, .slice fa fn fc, .slice la ln lc], .agg #[Value.int .i64 yk, .int .i64 yn, .string ys, .slice ba2 bn2 bc2, .slice fa2 fn2 fc2, .slice la2 ln2 lc2]] w (CmpPost (Order.text xs ys) w) := by
 have he : Order.sgn (Order.cls xk) (Order.cls yk) = 0 := Order.sgn_zero.2 e
 have hb : (Order.sgn (Order.cls xk) (Order.cls yk) != 0) = false := by rw [he]; rfl
 obtain ⟨hk0, hk1⟩ := hk
 obtain ⟨hk20, hk21⟩ := hk2
 have HB : Hid (Below w.heap.size w ((w.alloc (.cells #[Value.int .i64 xk, .int .i64 xn, .string xs, .slice ba bn bc, .slice fa fn fc, .slice la ln lc] 26)).alloc (.cells #[Value.int .i64 yk, .int .i64 yn, .string ys, .slice ba2 bn2 bc2, .slice fa2 fn2 fc2, .slice la2 ln2 lc2] 26))) := ((Below.refl _ w).alloc (Nat.le_refl _) _).alloc (by simp) _
 clear e
 subst hx
 go_enter Tryz.func14, Tryz.ntmps14
 go_wp2_with fail
 go_quiet (first | (go_at_call 35; exact Calls.quiet_of_same (refClass_q _ _ (by omega))) | (go_at_call 34; exact Calls.quiet_of_same (sign_q _ _ _)))
 go_wp2_with (go_at_call 36; refine (refText_any _ _ _ (by omega) (by omega)).mono ?_; rintro e w' ⟨rfl, q, rfl⟩)
 go_ret
 exact ⟨rfl, below_dr HB.out _⟩
theorem size_strB (l : List Nat) : (strB l).size = l.length := by
 show ((l.map UInt8.ofNat).toArray).size = _
 simp
theorem slice_keep {w w' : World} {a : Option Addr} {l : List Nat} (hb : Below w.heap.size w w') (h : SliceIs w a l) : SliceIs w' a l := by
 rcases h with e | ⟨g, o, e, hs⟩
 ·exact .inl e
 ·exact .inr ⟨g, o, e, fun j hj => cell_keep hb (hs j hj)⟩
theorem refCmp_blobne (xk xn yk yn : Int) (xs ys : ByteArray) (ba fa la ba2 fa2 la2 : Option Addr) (bn bc fn fc ln lc bn2 bc2 fn2 fc2 ln2 lc2 : Nat) (w : World) (hk : -9223372036854775808 ≤ xk ∧ xk ≤ 9223372036854775807) (hk2 : -9223372036854775808 ≤ yk ∧ yk ≤ 9223372036854775807) (hx : xk = 8) (e : Order.cls xk = Order.cls yk) (hn : ¬ bn = bn2) :
  Calls Tryz.prog 14 #[.agg #[Value.int .i64 xk, .int .i64 xn, .string xs, .slice ba bn bc, .slice fa fn fc, .slice la ln lc], .agg #[Value.int .i64 yk, .int .i64 yn, .string ys, .slice ba2 bn2 bc2, .slice fa2 fn2 fc2, .slice la2 ln2 lc2]] w (CmpPost (Order.sgn (bn : Int) (bn2 : Int)) w) := by
 have he : Order.sgn (Order.cls xk) (Order.cls yk) = 0 := Order.sgn_zero.2 e
 have hb : (Order.sgn (Order.cls xk) (Order.cls yk) != 0) = false := by rw [he]; rfl
 obtain ⟨hk0, hk1⟩ := hk
 obtain ⟨hk20, hk21⟩ := hk2
 have HB : Hid (Below w.heap.size w ((w.alloc (.cells #[Value.int .i64 xk, .int .i64 xn, .string xs, .slice ba bn bc, .slice fa fn fc, .slice la ln lc] 26)).alloc (.cells #[Value.int .i64 yk, .int .i64 yn, .string ys, .slice ba2 bn2 bc2, .slice fa2 fn2 fc2, .slice la2 ln2 lc2] 26))) := ((Below.refl _ w).alloc (Nat.le_refl _) _).alloc (by simp) _
 have hbn : (Order.sgn (bn : Int) (bn2 : Int) != 0) = true := by rw [bne_iff_ne]; intro x; have := Order.sgn_zero.1 x; omega
 clear e hn
 subst hx
 go_enter Tryz.func14, Tryz.ntmps14
 go_wp2_with fail
 go_quiet (first | (go_at_call 35; exact Calls.quiet_of_same (refClass_q _ _ (by omega))) | (go_at_call 34; exact Calls.quiet_of_same (sign_q _ _ _)))
 go_wp2_with (go_at_call 34; refine (sign_any _ _ _).mono ?_; rintro e w' ⟨rfl, rfl⟩)
 go_ret
 exact ⟨rfl, below_dr HB.out _⟩
theorem refCmp_blob (xk xn yk yn : Int) (xs ys : ByteArray) (ba fa la ba2 fa2 la2 : Option Addr) (bn bc fn fc ln lc bn2 bc2 fn2 fc2 ln2 lc2 : Nat) (w : World) (hk : -9223372036854775808 ≤ xk ∧ xk ≤ 9223372036854775807) (hk2 : -9223372036854775808 ≤ yk ∧ yk ≤ 9223372036854775807) (hx : xk = 8) (e : Order.cls xk = Order.cls yk) (hn : bn = bn2) (b1 b2 : List Nat) (hl1 : b1.length = bn) (hl2 : b2.length = bn2) (h1 : SliceIs w ba b1) (h2 : SliceIs w ba2 b2) (ho1 : Oct b1) (ho2 : Oct b2) (hm1 : bn ≤ 140737488355328) (hm2 : bn2 ≤ 140737488355328) :
  Calls Tryz.prog 14 #[.agg #[Value.int .i64 xk, .int .i64 xn, .string xs, .slice ba bn bc, .slice fa fn fc, .slice la ln lc], .agg #[Value.int .i64 yk, .int .i64 yn, .string ys, .slice ba2 bn2 bc2, .slice fa2 fn2 fc2, .slice la2 ln2 lc2]] w (CmpPost (Order.octs b1 b2) w) := by
 have he : Order.sgn (Order.cls xk) (Order.cls yk) = 0 := Order.sgn_zero.2 e
 have hb : (Order.sgn (Order.cls xk) (Order.cls yk) != 0) = false := by rw [he]; rfl
 obtain ⟨hk0, hk1⟩ := hk
 obtain ⟨hk20, hk21⟩ := hk2
 have HB : Hid (Below w.heap.size w ((w.alloc (.cells #[Value.int .i64 xk, .int .i64 xn, .string xs, .slice ba bn bc, .slice fa fn fc, .slice la ln lc] 26)).alloc (.cells #[Value.int .i64 yk, .int .i64 yn, .string ys, .slice ba2 bn2 bc2, .slice fa2 fn2 fc2, .slice la2 ln2 lc2] 26))) := ((Below.refl _ w).alloc (Nat.le_refl _) _).alloc (by simp) _
 have HT := Lib.hid (show Order.text (strB b1) (strB b2) = Order.octs b1 b2 by rw [Order.text, bytes_strB ho1, bytes_strB ho2])
 subst hn
 have hbn0 : Order.sgn (bn : Int) (bn : Int) = 0 := Order.sgn_self _
 have hcv1 := fun q => conv_str (((w.alloc (.cells #[Value.int .i64 xk, .int .i64 xn, .string xs, .slice ba bn bc, .slice fa fn fc, .slice la ln lc] 26)).alloc (.cells #[Value.int .i64 yk, .int .i64 yn, .string ys, .slice ba2 bn bc2, .slice fa2 fn2 fc2, .slice la2 ln2 lc2] 26)).drewN q) ba bn bc b1 hl1 (slice_keep (below_dr HB.out q) h1)
 have hcv2 := fun q => conv_str (((w.alloc (.cells #[Value.int .i64 xk, .int .i64 xn, .string xs, .slice ba bn bc, .slice fa fn fc, .slice la ln lc] 26)).alloc (.cells #[Value.int .i64 yk, .int .i64 yn, .string ys, .slice ba2 bn bc2, .slice fa2 fn2 fc2, .slice la2 ln2 lc2] 26)).drewN q) ba2 bn bc2 b2 hl2 (slice_keep (below_dr HB.out q) h2)
 have hz1 : (strB b1).size ≤ 140737488355328 := by rw [size_strB]; omega
 have hz2 : (strB b2).size ≤ 140737488355328 := by rw [size_strB]; omega
 clear e hl1 hl2 h1 h2 ho1 ho2
 generalize strB b1 = t1 at *
 generalize strB b2 = t2 at *
 subst hx
 go_enter Tryz.func14, Tryz.ntmps14
 go_wp2_with fail
 go_quiet (first | (go_at_call 35; exact Calls.quiet_of_same (refClass_q _ _ (by omega))) | (go_at_call 34; exact Calls.quiet_of_same (sign_q _ _ _)))
 go_wp2_with (first | (go_at_call 36; refine (refText_any _ _ _ (by omega) (by omega)).mono ?_; rintro e w' ⟨rfl, q, rfl⟩) | (go_at_call 34; refine (sign_any _ _ _).mono ?_; rintro e w' ⟨rfl, rfl⟩))
 go_ret
 exact ⟨ret_i HT.out, below_dr HB.out _⟩
theorem refCmp_id (xk xn yk yn : Int) (xs ys : ByteArray) (ba fa la ba2 fa2 la2 : Option Addr) (bn bc fn fc ln lc bn2 bc2 fn2 fc2 ln2 lc2 : Nat) (w : World) (hk : -9223372036854775808 ≤ xk ∧ xk ≤ 9223372036854775807) (hk2 : -9223372036854775808 ≤ yk ∧ yk ≤ 9223372036854775807) (hx : xk = 9) (e : Order.cls xk = Order.cls yk) (b1 b2 : List Nat) (hl1 : b1.length = bn) (hl2 : b2.length = bn2) (h1 : SliceIs w ba b1) (h2 : SliceIs w ba2 b2) (ho1 : Oct b1) (ho2 : Oct b2) (hm1 : bn ≤ 140737488355328) (hm2 : bn2 ≤ 140737488355328) :
  Calls Tryz.prog 14 #[.agg #[Value.int .i64 xk, .int .i64 xn, .string xs, .slice ba bn bc, .slice fa fn fc, .slice la ln lc], .agg #[Value.int .i64 yk, .int .i64 yn, .string ys, .slice ba2 bn2 bc2, .slice fa2 fn2 fc2, .slice la2 ln2 lc2]] w (CmpPost (Order.octs b1 b2) w) := by
 have he : Order.sgn (Order.cls xk) (Order.cls yk) = 0 := Order.sgn_zero.2 e
 have hb : (Order.sgn (Order.cls xk) (Order.cls yk) != 0) = false := by rw [he]; rfl
 obtain ⟨hk0, hk1⟩ := hk
 obtain ⟨hk20, hk21⟩ := hk2
 have HB : Hid (Below w.heap.size w ((w.alloc (.cells #[Value.int .i64 xk, .int .i64 xn, .string xs, .slice ba bn bc, .slice fa fn fc, .slice la ln lc] 26)).alloc (.cells #[Value.int .i64 yk, .int .i64 yn, .string ys, .slice ba2 bn2 bc2, .slice fa2 fn2 fc2, .slice la2 ln2 lc2] 26))) := ((Below.refl _ w).alloc (Nat.le_refl _) _).alloc (by simp) _
 have HT := Lib.hid (show Order.text (strB b1) (strB b2) = Order.octs b1 b2 by rw [Order.text, bytes_strB ho1, bytes_strB ho2])
 have hcv1 := fun q => conv_str (((w.alloc (.cells #[Value.int .i64 xk, .int .i64 xn, .string xs, .slice ba bn bc, .slice fa fn fc, .slice la ln lc] 26)).alloc (.cells #[Value.int .i64 yk, .int .i64 yn, .string ys, .slice ba2 bn2 bc2, .slice fa2 fn2 fc2, .slice la2 ln2 lc2] 26)).drewN q) ba bn bc b1 hl1 (slice_keep (below_dr HB.out q) h1)
 have hcv2 := fun q => conv_str (((w.alloc (.cells #[Value.int .i64 xk, .int .i64 xn, .string xs, .slice ba bn bc, .slice fa fn fc, .slice la ln lc] 26)).alloc (.cells #[Value.int .i64 yk, .int .i64 yn, .string ys, .slice ba2 bn2 bc2, .slice fa2 fn2 fc2, .slice la2 ln2 lc2] 26)).drewN q) ba2 bn2 bc2 b2 hl2 (slice_keep (below_dr HB.out q) h2)
 have hz1 : (strB b1).size ≤ 140737488355328 := by rw [size_strB]; omega
 have hz2 : (strB b2).size ≤ 140737488355328 := by rw [size_strB]; omega
 clear e hl1 hl2 h1 h2 ho1 ho2
 generalize strB b1 = t1 at *
 generalize strB b2 = t2 at *
 subst hx
 go_enter Tryz.func14, Tryz.ntmps14
 go_wp2_with fail
 go_quiet (first | (go_at_call 35; exact Calls.quiet_of_same (refClass_q _ _ (by omega))) | (go_at_call 34; exact Calls.quiet_of_same (sign_q _ _ _)))
 go_wp2_with (first | (go_at_call 36; refine (refText_any _ _ _ (by omega) (by omega)).mono ?_; rintro e w' ⟨rfl, q, rfl⟩) | (go_at_call 34; refine (sign_any _ _ _).mono ?_; rintro e w' ⟨rfl, rfl⟩))
 go_ret
 exact ⟨ret_i HT.out, below_dr HB.out _⟩
end Go.Proofs.YtiajjgehnmkokaaGreatDoor
end
