/- slices.MinFunc of values, by a comparison that is turned or not. -/
import Derived.Test.YtkpbfocbombpjaaOrderBy
import Derived.Test.YtkpbfocbombpjaaBoxes
import Derived.Lib.QuietBelow
namespace Go.Proofs.Ytkpbfocbombpjaa
open Go.RowKit
open Seal
open Bson (Val)
open Go.Sort
/-- The box holds the best of the first k, as it stands in w. -/
def BestBox (w : World) (Q : Nat → Prop) (h : Nat) (t : Bool) (l : List Val) (k n : Nat) (W : World) : Prop :=
  ∃ kk c0 c1 c2 c3 c4 c5, Order.Best (Order.turned (Order.cmp h) t) Bson.zero l k kk ∧ VIn w Q h (l.getD kk Bson.zero) (.agg #[c0, c1, c2, c3, c4, c5]) ∧ IsBox W n c0 c1 c2 c3 c4 c5
theorem getD_at {l : List Val} {k : Nat} (hk : k < l.length) : l.getD k Bson.zero = l[k] := by simp [List.getD_eq_getElem?_getD, List.getElem?_eq_getElem hk]
set_option maxRecDepth 100000 in
set_option maxHeartbeats 4000000 in
theorem min_any (h : Nat) (Q : Nat → Prop) (t : Bool) (a : Option Addr) (n c : Nat) (l : List Val) (w : World) (hn : l.length = n) (hnb : n ≤ 1353245080339) (h1 : 1 ≤ n) (hI : ItemsIn w Q (VIn w Q h) a l) :
    Calls Try.prog 28 #[.slice a n c, .func (.func 19) #[.bool t] #[]] w fun e w' => ∃ v k, e = .returned v ∧ Order.Best (Order.turned (Order.cmp h) t) Bson.zero l n k ∧ VIn w' Q h (l.getD k Bson.zero) v ∧ Below w.heap.size w w' := by
  have HI := Lib.hid hI
  have HN := Lib.hid hn
  obtain ⟨g, o, hla, _, hall⟩ := hI.resolve_left (fun e => by rw [e] at hn; simp at hn; omega)
  obtain ⟨v0, hsix, hV⟩ := hall 0 (by omega)
  obtain rfl := hla
  obtain ⟨ka, na, sa, ba, fa, la, bl, bc, fl, fc, ll, lc, rfl⟩ := hV.shape
  obtain ⟨s0, s1, s2, s3, s4, s5⟩ := (hsix.keep ((Below.refl _ w).alloc (Nat.le_refl _) (.cells #[.int .i64 0, .int .i64 0, .string ⟨#[]⟩, .slice none 0 0, .slice none 0 0, .slice none 0 0] 27))).cells
  simp only [Nat.zero_mul, Nat.add_zero] at s0 s1 s2 s3 s4 s5
  have HV0 : Hid (VIn w Q h (l.getD 0 Bson.zero) (.agg #[.int .i64 ka, .int .i64 na, .string sa, .slice ba bl bc, .slice fa fl fc, .slice la ll lc])) := by
    show VIn w Q h _ _
    rw [getD_at (by omega)]; exact hV
  clear hall hsix hV hI hn
  go_enter Try.func28, Try.ntmps28
  go_wp2_with fail
  have HS0 : Hid (BestBox w Q h t l 1 (w.heap.size + 1) ((w.alloc (.cells #[.int .i64 0, .int .i64 0, .string ⟨#[]⟩, .slice none 0 0, .slice none 0 0, .slice none 0 0] 27)).alloc (.cells #[.int .i64 ka, .int .i64 na, .string sa, .slice ba bl bc, .slice fa fl fc, .slice la ll lc] 27))) := ⟨0, _, _, _, _, _, _, Order.Best.first, HV0.out, by have := IsBox.new (w.alloc (.cells #[.int .i64 0, .int .i64 0, .string ⟨#[]⟩, .slice none 0 0, .slice none 0 0, .slice none 0 0] 27)) (.int .i64 ka) (.int .i64 na) (.string sa) (.slice ba bl bc) (.slice fa fl fc) (.slice la ll lc); simpa using this⟩
  have HZ0 : Hid (IsBox ((w.alloc (.cells #[.int .i64 0, .int .i64 0, .string ⟨#[]⟩, .slice none 0 0, .slice none 0 0, .slice none 0 0] 27)).alloc (.cells #[.int .i64 ka, .int .i64 na, .string sa, .slice ba bl bc, .slice fa fl fc, .slice la ll lc] 27)) w.heap.size (.int .i64 0) (.int .i64 0) (.string ⟨#[]⟩) (.slice none 0 0) (.slice none 0 0) (.slice none 0 0)) := (IsBox.new w (.int .i64 0) (.int .i64 0) (.string ⟨#[]⟩) (.slice none 0 0) (.slice none 0 0) (.slice none 0 0)).keep ((Below.refl _ _).alloc (Nat.le_refl _) _)
  have HB0 : Hid (Below w.heap.size w ((w.alloc (.cells #[.int .i64 0, .int .i64 0, .string ⟨#[]⟩, .slice none 0 0, .slice none 0 0, .slice none 0 0] 27)).alloc (.cells #[.int .i64 ka, .int .i64 na, .string sa, .slice ba bl bc, .slice fa fl fc, .slice la ll lc] 27)) ∧ w.heap.size + 2 ≤ ((w.alloc (.cells #[.int .i64 0, .int .i64 0, .string ⟨#[]⟩, .slice none 0 0, .slice none 0 0, .slice none 0 0] 27)).alloc (.cells #[.int .i64 ka, .int .i64 na, .string sa, .slice ba bl bc, .slice fa fl fc, .slice la ll lc] 27)).heap.size) := ⟨((Below.refl _ w).alloc (Nat.le_refl _) _).alloc (by simp) _, by simp⟩
  clear s0 s1 s2 s3 s4 s5
  go_loopw [6] (fun i wr => ∃ k : Nat, i = .int .i64 k ∧ 1 ≤ k ∧ k ≤ n ∧ Hid (BestBox w Q h t l k (w.heap.size + 1) wr) ∧ Hid (IsBox wr w.heap.size (.int .i64 0) (.int .i64 0) (.string ⟨#[]⟩) (.slice none 0 0) (.slice none 0 0) (.slice none 0 0)) ∧ Hid (Below w.heap.size w wr ∧ w.heap.size + 2 ≤ wr.heap.size)) (fun i _ => n - (intOf i).toNat)
  case atStart => exact ⟨1, rfl, by omega, by omega, HS0, HZ0, HB0⟩
  case round =>
    clear HS0 HZ0 HB0 HV0
    obtain ⟨k, rfl, hk1, hk, HS, HZ, HB⟩ := hrel
    obtain ⟨kk, m0, m1, m2, m3, m4, m5, hbest, hVm, hbox⟩ := HS.out
    obtain ⟨kd, nd, sd, bd, fd, ld, bld, bcd, fld, fcd, lld, lcd, hm⟩ := hVm.shape
    injection hm with hm
    injection hm with hm
    injection hm with x0 hm; injection hm with x1 hm; injection hm with x2 hm; injection hm with x3 hm; injection hm with x4 hm; injection hm with x5 hm
    subst x0 x1 x2 x3 x4 x5
    clear hm
    have HBEST := Lib.hid hbest
    have HVM := Lib.hid hVm
    have HBOX := Lib.hid hbox
    clear hbest hVm hbox HS
    by_cases hlt : k < n
    case neg =>
      have HKN : Hid (Order.Best (Order.turned (Order.cmp h) t) Bson.zero l n kk) := by
        have e : k = n := by omega
        have := HBEST.out
        rw [e] at this
        exact this
      obtain ⟨b0, b1, b2, b3, b4, b5⟩ := HBOX.out.cells
      obtain ⟨z0, z1, z2, z3, z4, z5⟩ := HZ.out.cells
      obtain ⟨t0, t1, t2, t3, t4, t5⟩ := HZ.out.thaw
      have HB9 := Lib.hid (puts_below HB.out.1 (G := w.heap.size) (Nat.le_refl _) [.int .i64 kd, .int .i64 nd, .string sd, .slice bd bld bcd, .slice fd fld fcd, .slice ld lld lcd] 0)
      have HV9 := Lib.hid (VIn.keep HB9.out HVM.out)
      go_wp2_with fail
      exact bodyPost_ret (v := .agg #[.int .i64 kd, .int .i64 nd, .string sd, .slice bd bld bcd, .slice fd fld fcd, .slice ld lld lcd]) (by simp [results, Try.results28, go_sem, z0, z1, z2, z3, z4, z5]) rfl ⟨_, kk, rfl, HKN.out, HV9.out, HB9.out⟩
    obtain ⟨g1, o1, hla, _, hall⟩ := HI.out.resolve_left (fun e => by have := HN.out; rw [e] at this; simp at this; omega)
    obtain ⟨v1, hsix, hV1⟩ := hall k (by have := HN.out; omega)
    obtain ⟨ke, ne, se, be, fe, le, ble, bce, fle, fce, lle, lce, rfl⟩ := hV1.shape
    injection hla with hla
    injection hla with hx1 hx2
    subst hx1 hx2
    have HSX := Lib.hid (hsix.keep HB.out.1)
    have HV1 : Hid (VIn w Q h (l.getD k Bson.zero) (.agg #[.int .i64 ke, .int .i64 ne, .string se, .slice be ble bce, .slice fe fle fce, .slice le lle lce])) := by
      show VIn w Q h _ _
      rw [getD_at (by have := HN.out; omega)]; exact hV1
    clear hall hsix hV1
    obtain ⟨r, hr⟩ : ∃ r, r = Order.turned (Order.cmp h) t (l.getD k Bson.zero) (l.getD kk Bson.zero) := ⟨_, rfl⟩
    have HR := Lib.hid hr
    clear hr
    have HQ := fun d os => Calls.regrown_of (P := Try.prog) (d := d) (os := os) (v := .int .i64 r) ((turncmp_any h Q Q t _ _ _ _ (grow (redrawn wr d) os) (VIn.keep (HB.out.1.trans ((below_regrown wr d os).mono (by have := HB.out.2; omega))) HV1.out) (VIn.keep (HB.out.1.trans ((below_regrown wr d os).mono (by have := HB.out.2; omega))) HVM.out)).mono fun e w3 ⟨he, hb⟩ => ⟨by rw [he, HR.out], hb⟩)
    obtain ⟨s0, s1, s2, s3, s4, s5⟩ := HSX.out.cells
    obtain ⟨b0, b1, b2, b3, b4, b5⟩ := HBOX.out.cells
    have qs0 := fun d os => cell_regrown s0 d os
    have qb0 := fun d os => cell_regrown b0 d os
    have qs1 := fun d os => cell_regrown s1 d os
    have qb1 := fun d os => cell_regrown b1 d os
    have qs2 := fun d os => cell_regrown s2 d os
    have qb2 := fun d os => cell_regrown b2 d os
    have qs3 := fun d os => cell_regrown s3 d os
    have qb3 := fun d os => cell_regrown b3 d os
    have qs4 := fun d os => cell_regrown s4 d os
    have qb4 := fun d os => cell_regrown b4 d os
    have qs5 := fun d os => cell_regrown s5 d os
    have qb5 := fun d os => cell_regrown b5 d os
    go_wp2_with fail
    refine wp_region_quiet_below (by kernel_rfl) (by kernel_rfl) ?_
    repeat (go_big_quiet_step (exact HQ _ _))
    refine wpQuiet_nil ?_
    intro w7 hw'
    have H7 : Hid (Below wr.heap.size wr w7) := by
      obtain ⟨dq, hw''⟩ := hw'
      rw [hw'']
      exact below_regrown wr dq.d dq.os
    clear hw' HQ s0 s1 s2 s3 s4 s5 b0 b1 b2 b3 b4 b5 qs0 qb0 qs1 qb1 qs2 qb2 qs3 qb3 qs4 qb4 qs5 qb5
    have HZ7 := Lib.hid (HZ.out.keep H7.out)
    have HBOX7 := Lib.hid (HBOX.out.keep H7.out)
    have HB7 : Hid (Below w.heap.size w w7 ∧ w.heap.size + 2 ≤ w7.heap.size) := ⟨HB.out.1.trans (H7.out.mono (by have := HB.out.2; omega)), by have := HB.out.2; have := H7.out.size; omega⟩
    by_cases hneg : r < 0
    · have HBN := Lib.hid (Order.Best.turn (Order.turned_cmp (Order.cmp_cmp h) t) HBEST.out (by rw [← HR.out]; exact hneg))
      obtain ⟨s0, s1, s2, s3, s4, s5⟩ := (HSX.out.keep H7.out).cells
      obtain ⟨b0, b1, b2, b3, b4, b5⟩ := HBOX7.out.cells
      obtain ⟨t0, t1, t2, t3, t4, t5⟩ := HBOX7.out.thaw
      go_wp2_with fail
      go_roundw
      case rel =>
        have HS9 : Hid (BestBox w Q h t l (k + 1) (w.heap.size + 1) (puts w7 (w.heap.size + 1) 0 [.int .i64 ke, .int .i64 ne, .string se, .slice be ble bce, .slice fe fle fce, .slice le lle lce])) := ⟨k, _, _, _, _, _, _, HBN.out, HV1.out, HBOX7.out.put _ _ _ _ _ _⟩
        have HZ9 := Lib.hid (HZ7.out.other (m := w.heap.size + 1) (by omega) 0 [.int .i64 ke, .int .i64 ne, .string se, .slice be ble bce, .slice fe fle fce, .slice le lle lce])
        have HB9 : Hid (Below w.heap.size w (puts w7 (w.heap.size + 1) 0 [.int .i64 ke, .int .i64 ne, .string se, .slice be ble bce, .slice fe fle fce, .slice le lle lce]) ∧ w.heap.size + 2 ≤ (puts w7 (w.heap.size + 1) 0 [.int .i64 ke, .int .i64 ne, .string se, .slice be ble bce, .slice fe fle fce, .slice le lle lce]).heap.size) := ⟨puts_below HB7.out.1 (by omega) _ _, by rw [puts_size]; exact HB7.out.2⟩
        exact ⟨k + 1, by go_num, by omega, by omega, HS9, HZ9, HB9⟩
      case measure => simp [intOf]; omega
    · have HBN := Lib.hid (Order.Best.stay HBEST.out (by rw [← HR.out]; exact hneg))
      have HS9 : Hid (BestBox w Q h t l (k + 1) (w.heap.size + 1) w7) := ⟨kk, _, _, _, _, _, _, HBN.out, HVM.out, HBOX7.out⟩
      go_wp2_with fail
      go_roundw
      case rel => exact ⟨k + 1, by go_num, by omega, by omega, HS9, HZ7, HB7⟩
      case measure => simp [intOf]; omega
end Go.Proofs.Ytkpbfocbombpjaa
