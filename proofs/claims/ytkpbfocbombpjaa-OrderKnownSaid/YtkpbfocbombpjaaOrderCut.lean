/- order.cut, Cut. -/
import Derived.Test.YtkpbfocbombpjaaOrderMin
import Derived.Test.YtkpbfocbombpjaaPathCopy
import Derived.Test.YtkpbfocbombpjaaBoxed2
namespace Go.Proofs.Ytkpbfocbombpjaa
open Go.RowKit
open Seal
open Bson (Val)
def CutPost (h : Nat) (t : Bool) (x : Val) (Q : Nat → Prop) (w : World) (e : Ending) (w' : World) : Prop := ∃ v y, e = .returned v ∧ Order.CutIs h t x y ∧ VIn w' Q (h + 1) y v ∧ Below w.heap.size w w'
set_option maxRecDepth 100000 in
set_option maxHeartbeats 4000000 in
theorem cut_any (h : Nat) (Q : Nat → Prop) (t : Bool) (x : Val) (u : Value) (w : World) (hx : VIn w Q (h + 1) x u) :
    Calls Try.prog 18 #[u, .func (.func 19) #[.bool t] #[]] w (CutPost h t x Q w) := by
  obtain ⟨xk, xn, xs, ba, fa, la, bn, bc, fn, fc, ln, lc, rfl, hxk, hxn, hxs, hbn, hfn, hln, hL, hF, hI⟩ := hx.lt.letters
  have HB0 : Hid (Below w.heap.size w ((w.alloc (.cells #[Value.int .i64 xk, .int .i64 xn, .string xs, .slice ba bn bc, .slice fa fn fc, .slice la ln lc] 27)).alloc (.cells #[.int .i64 0, .int .i64 0, .string ⟨#[]⟩, .slice none 0 0, .slice none 0 0, .slice none 0 0] 27))) := ((Below.refl _ w).alloc (Nat.le_refl _) _).alloc (by simp) _
  have HX := Lib.hid hx
  have HK := Lib.hid hxk
  have HLN := Lib.hid hln
  have hll := hL.l
  rw [← hln] at hll
  by_cases h7 : xk = 7
  case neg =>
    have hb : (xk != 7) = true := by rw [bne_iff_ne]; exact h7
    have HC : Hid (Order.CutIs h t x x) := .inl ⟨by rw [← HK.out]; exact h7, rfl⟩
    have HB1 : Hid (Below w.heap.size w ((w.alloc (.cells #[Value.int .i64 xk, .int .i64 xn, .string xs, .slice ba bn bc, .slice fa fn fc, .slice la ln lc] 27)).alloc (.cells #[Value.int .i64 xk, .int .i64 xn, .string xs, .slice ba bn bc, .slice fa fn fc, .slice la ln lc] 27))) := ((Below.refl _ w).alloc (Nat.le_refl _) _).alloc (by simp) _
    have HV1 := Lib.hid (VIn.keep HB1.out HX.out)
    clear hx hxk hxn hxs hbn hfn hln hL hF hI h7
    go_enter Try.func18, Try.ntmps18
    go_wp2_with fail
    exact bodyPost_ret (v := .agg #[.int .i64 xk, .int .i64 xn, .string xs, .slice ba bn bc, .slice fa fn fc, .slice la ln lc]) (by simp [results, Try.results18, go_sem]) rfl ⟨_, x, rfl, HC.out, HV1.out, HB1.out⟩
  subst h7
  by_cases h0 : ln = 0
  · subst h0
    have HC : Hid (Order.CutIs h t x Bson.zero) := .inr (.inl ⟨HK.out.symm, List.eq_nil_of_length_eq_zero HLN.out.symm, rfl⟩)
    clear hx hxk hxn hxs hbn hfn hln hL hF hI hll
    go_enter Try.func18, Try.ntmps18
    go_wp2_with fail
    exact bodyPost_ret (v := .agg #[.int .i64 0, .int .i64 0, .string ⟨#[]⟩, .slice none 0 0, .slice none 0 0, .slice none 0 0]) (by simp [results, Try.results18, go_sem]) rfl ⟨_, Bson.zero, rfl, HC.out, VIn.up (zero_in _ _) (by omega), HB0.out⟩
  · have hb0 : ((ln : Int) == 0) = false := by rw [beq_eq_false_iff_ne]; omega
    have HM := Lib.hid (min_any h (fun g => Q g ∧ g < w.heap.size) t la ln lc x.l _ hln.symm hll (by omega) (hI.kept (Kept.of_below HB0.out) (fun _ z => z) (fun _ _ z => VIn.keep HB0.out z)))
    have HZ0 : Hid (IsBox ((w.alloc (.cells #[Value.int .i64 7, .int .i64 xn, .string xs, .slice ba bn bc, .slice fa fn fc, .slice la ln lc] 27)).alloc (.cells #[.int .i64 0, .int .i64 0, .string ⟨#[]⟩, .slice none 0 0, .slice none 0 0, .slice none 0 0] 27)) (w.heap.size + 1) (.int .i64 0) (.int .i64 0) (.string ⟨#[]⟩) (.slice none 0 0) (.slice none 0 0) (.slice none 0 0)) := IsBox.new2 _ _ _ _ _ _ _ _
    clear hx hxk hxn hxs hbn hfn hln hL hF hI h0 HX
    go_enter Try.func18, Try.ntmps18
    go_wp2_with fail
    go_at_call 28
    refine HM.out.mono ?_
    rintro e w2 ⟨v, k, rfl, hbest, hv, hb2⟩
    have HC : Hid (Order.CutIs h t x (x.l.getD k Bson.zero)) := .inr (.inr ⟨HK.out.symm, k, by rw [← HLN.out]; exact hbest, rfl⟩)
    have HB2 := Lib.hid (HB0.out.trans (hb2.mono HB0.out.size))
    have HZ2 := Lib.hid (HZ0.out.keep hb2)
    obtain ⟨kd, nd, sd, bd, fd, ld, bm, bz, fm, fz, lm, lz, rfl⟩ := hv.shape
    have HV := Lib.hid hv
    obtain ⟨z0, z1, z2, z3, z4, z5⟩ := HZ2.out.cells
    obtain ⟨t0, t1, t2, t3, t4, t5⟩ := HZ2.out.thaw
    clear hv hb2 hbest HB0 HM HZ0
    have HB9 := fun vs => puts_below HB2.out (G := w.heap.size + 1) (by omega) vs 0
    have HV9 := fun vs => VIn.kept (Q' := Q) (puts_kept (fun g => Q g ∧ g < w.heap.size) (w := w2) (G := w.heap.size + 1) (by omega) 0 vs) (fun _ g => g.1) HV.out
    have HB9 := Lib.hid HB9
    have HV9 := Lib.hid HV9
    go_wp2_with fail
    exact bodyPost_ret (v := .agg #[.int .i64 kd, .int .i64 nd, .string sd, .slice bd bm bz, .slice fd fm fz, .slice ld lm lz]) (by simp [results, Try.results18, go_sem, z0, z1, z2, z3, z4, z5]) rfl ⟨_, _, rfl, HC.out, VIn.up (HV9.out [.int .i64 kd, .int .i64 nd, .string sd, .slice bd bm bz, .slice fd fm fz, .slice ld lm lz]) (by omega), HB9.out [.int .i64 kd, .int .i64 nd, .string sd, .slice bd bm bz, .slice fd fm fz, .slice ld lm lz]⟩
set_option maxRecDepth 100000 in
set_option maxHeartbeats 4000000 in
theorem Cut_any (h : Nat) (Q : Nat → Prop) (t : Bool) (x : Val) (u : Value) (w : World) (hx : VIn w Q (h + 1) x u) :
    Calls Try.prog 7 #[u, .bool t] w (CutPost h t x (fun g => w.heap.size ≤ g) w) := by
  obtain ⟨xk, xn, xs, ba, fa, la, bn, bc, fn, fc, ln, lc, rfl, -⟩ := hx.letters
  have HB0 : Hid (Below w.heap.size w ((w.alloc (.cells #[Value.int .i64 xk, .int .i64 xn, .string xs, .slice ba bn bc, .slice fa fn fc, .slice la ln lc] 27)).alloc (.cells #[.int .i64 0, .int .i64 0, .string ⟨#[]⟩, .slice none 0 0, .slice none 0 0, .slice none 0 0] 27))) := ((Below.refl _ w).alloc (Nat.le_refl _) _).alloc (by simp) _
  have HZ0 : Hid (IsBox ((w.alloc (.cells #[Value.int .i64 xk, .int .i64 xn, .string xs, .slice ba bn bc, .slice fa fn fc, .slice la ln lc] 27)).alloc (.cells #[.int .i64 0, .int .i64 0, .string ⟨#[]⟩, .slice none 0 0, .slice none 0 0, .slice none 0 0] 27)) (w.heap.size + 1) (.int .i64 0) (.int .i64 0) (.string ⟨#[]⟩) (.slice none 0 0) (.slice none 0 0) (.slice none 0 0)) := IsBox.new2 _ _ _ _ _ _ _ _
  have HCT := Lib.hid (cut_any h Q t x _ _ (VIn.keep (h := h + 1) HB0.out hx))
  have HSZ : Hid (w.heap.size + 2 ≤ ((w.alloc (.cells #[Value.int .i64 xk, .int .i64 xn, .string xs, .slice ba bn bc, .slice fa fn fc, .slice la ln lc] 27)).alloc (.cells #[.int .i64 0, .int .i64 0, .string ⟨#[]⟩, .slice none 0 0, .slice none 0 0, .slice none 0 0] 27)).heap.size) := by show _ ≤ _; simp
  clear hx
  go_enter Try.func7, Try.ntmps7
  go_wp2_with fail
  go_at_call 18
  refine HCT.out.mono ?_
  rintro e w2 ⟨v, y, rfl, hcut, hv, hb2⟩
  have HC := Lib.hid hcut
  have HB2 := Lib.hid (HB0.out.trans (hb2.mono HB0.out.size))
  have HZ2 := Lib.hid (HZ0.out.keep hb2)
  have HS2 : Hid (w.heap.size + 2 ≤ w2.heap.size) := Nat.le_trans HSZ.out hb2.size
  have HV := Lib.hid hv
  clear hcut hv hb2 HB0 HZ0 HCT HSZ
  go_wp2_with fail
  go_at_call 17
  refine (copy_any Q (h + 1) y v w2 HV.out).mono ?_
  rintro e w3 ⟨v3, rfl, hv3, hb3⟩
  have HB3 := Lib.hid (HB2.out.trans (hb3.mono HB2.out.size))
  have HZ3 := Lib.hid (HZ2.out.keep hb3)
  obtain ⟨kd, nd, sd, bd, fd, ld, bm, bz, fm, fz, lm, lz, rfl⟩ := hv3.shape
  have HV3 := Lib.hid hv3
  clear hv3 hb3
  obtain ⟨z0, z1, z2, z3, z4, z5⟩ := HZ3.out.cells
  obtain ⟨t0, t1, t2, t3, t4, t5⟩ := HZ3.out.thaw
  have HB9 := Lib.hid (fun vs => puts_below HB3.out (G := w.heap.size + 1) (by omega) vs 0)
  have HV9 := Lib.hid (fun vs => VIn.kept (Q' := fun g => w.heap.size ≤ g) (puts_kept (fun g => w2.heap.size ≤ g) (w := w3) (G := w.heap.size + 1) (by have := HS2.out; omega) 0 vs) (fun g hg => by have := HS2.out; omega) HV3.out)
  go_wp2_with fail
  exact bodyPost_ret (v := .agg #[.int .i64 kd, .int .i64 nd, .string sd, .slice bd bm bz, .slice fd fm fz, .slice ld lm lz]) (by simp [results, Try.results7, go_sem, z0, z1, z2, z3, z4, z5]) rfl ⟨_, y, rfl, HC.out, HV9.out [.int .i64 kd, .int .i64 nd, .string sd, .slice bd bm bz, .slice fd fm fz, .slice ld lm lz], HB9.out [.int .i64 kd, .int .i64 nd, .string sd, .slice bd bm bz, .slice fd fm fz, .slice ld lm lz]⟩
end Go.Proofs.Ytkpbfocbombpjaa
