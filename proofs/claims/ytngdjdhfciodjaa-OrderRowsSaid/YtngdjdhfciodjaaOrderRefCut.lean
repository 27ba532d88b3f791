/- aqueductref5.Cut. -/
import Derived.Test.YtngdjdhfciodjaaOrderCut
import Derived.Test.YtngdjdhfciodjaaRefCmp
namespace Go.Proofs.Ytngdjdhfciodjaa
open Go.RowKit
open Seal
open Bson (Val)
open Go.Sort
/-- The box holds Missing ahead of the first, and then the best of the first k. -/
def RefBest (w : World) (Q : Nat → Prop) (h : Nat) (t : Bool) (l : List Val) (k n : Nat) (W : World) : Prop :=
  ∃ y c0 c1 c2 c3 c4 c5, ((k = 0 ∧ y = Bson.zero) ∨ ∃ kk, Order.Best (Order.turned (Order.cmp h) t) Bson.zero l k kk ∧ y = l.getD kk Bson.zero) ∧ VIn w Q h y (.agg #[c0, c1, c2, c3, c4, c5]) ∧ IsBox W n c0 c1 c2 c3 c4 c5
theorem IsBox.new3 (w : World) (o o2 : Obj) (c0 c1 c2 c3 c4 c5 : Value) : IsBox (((w.alloc o).alloc o2).alloc (.cells #[c0, c1, c2, c3, c4, c5] 26)) (w.heap.size + 2) c0 c1 c2 c3 c4 c5 := by
  have := IsBox.new ((w.alloc o).alloc o2) c0 c1 c2 c3 c4 c5
  simpa using this
set_option maxRecDepth 100000 in
set_option maxHeartbeats 8000000 in
theorem refCut_any (h : Nat) (Q0 : Nat → Prop) (t : Bool) (x : Val) (u : Value) (w : World) (hx : VIn w Q0 (h + 2) x u) :
    Calls Try.prog 18 #[u, .bool t] w (CutPost (h + 1) t x (fun _ => True) w) := by
  obtain ⟨Q, hQ⟩ : ∃ Q : Nat → Prop, Q = fun g => Q0 g ∧ g < w.heap.size := ⟨_, rfl⟩
  have hx2 := hx.lt
  rw [← hQ] at hx2
  have HQQ := Lib.hid hQ
  clear hx hQ
  obtain ⟨xk, xn, xs, ba, fa, la, bn, bc, fn, fc, ln, lc, rfl, hxk, hxn, hxs, hbn, hfn, hln, hL, hF, hI⟩ := hx2.letters
  have HX := Lib.hid hx2.any
  have HK := Lib.hid hxk
  have HLN := Lib.hid hln
  have HI := Lib.hid hI
  have hll := hL.l
  rw [← hln] at hll
  by_cases h7 : xk = 7
  case neg =>
    have hb : (xk != 7) = true := by rw [bne_iff_ne]; exact h7
    have HC : Hid (Order.CutIs (h + 1) t x x) := .inl ⟨by rw [← HK.out]; exact h7, rfl⟩
    have HB1 : Hid (Below w.heap.size w ((w.alloc (.cells #[.int .i64 xk, .int .i64 xn, .string xs, .slice ba bn bc, .slice fa fn fc, .slice la ln lc] 26)).alloc (.cells #[.int .i64 xk, .int .i64 xn, .string xs, .slice ba bn bc, .slice fa fn fc, .slice la ln lc] 26))) := ((Below.refl _ w).alloc (Nat.le_refl _) _).alloc (by simp) _
    have HV1 := Lib.hid (VIn.keep (h := h + 2) HB1.out HX.out)
    clear hx2 hxk hxn hxs hbn hfn hln hL hF hI h7
    go_enter Try.func18, Try.ntmps18
    go_wp2_with fail
    exact bodyPost_ret (v := .agg #[.int .i64 xk, .int .i64 xn, .string xs, .slice ba bn bc, .slice fa fn fc, .slice la ln lc]) (by simp [results, Try.results18, go_sem]) rfl ⟨_, x, rfl, HC.out, HV1.out, HB1.out⟩
  subst h7
  have HS0 : Hid (RefBest w Q (h + 1) t x.l 0 (w.heap.size + 2) (((w.alloc (.cells #[.int .i64 7, .int .i64 xn, .string xs, .slice ba bn bc, .slice fa fn fc, .slice la ln lc] 26)).alloc (.cells #[.int .i64 0, .int .i64 0, .string ⟨#[]⟩, .slice none 0 0, .slice none 0 0, .slice none 0 0] 26)).alloc (.cells #[.int .i64 0, .int .i64 0, .string ⟨#[]⟩, .slice none 0 0, .slice none 0 0, .slice none 0 0] 26))) := ⟨Bson.zero, _, _, _, _, _, _, .inl ⟨rfl, rfl⟩, VIn.up (zero_in _ _) (by omega), IsBox.new3 _ _ _ _ _ _ _ _ _⟩
  have HV0 : Hid (IsBox (((w.alloc (.cells #[.int .i64 7, .int .i64 xn, .string xs, .slice ba bn bc, .slice fa fn fc, .slice la ln lc] 26)).alloc (.cells #[.int .i64 0, .int .i64 0, .string ⟨#[]⟩, .slice none 0 0, .slice none 0 0, .slice none 0 0] 26)).alloc (.cells #[.int .i64 0, .int .i64 0, .string ⟨#[]⟩, .slice none 0 0, .slice none 0 0, .slice none 0 0] 26)) w.heap.size (.int .i64 7) (.int .i64 xn) (.string xs) (.slice ba bn bc) (.slice fa fn fc) (.slice la ln lc)) := (IsBox.new w (.int .i64 7) (.int .i64 xn) (.string xs) (.slice ba bn bc) (.slice fa fn fc) (.slice la ln lc)).keep (((Below.refl _ _).alloc (Nat.le_refl _) _).alloc (by simp) _)
  have HZ0 : Hid (IsBox (((w.alloc (.cells #[.int .i64 7, .int .i64 xn, .string xs, .slice ba bn bc, .slice fa fn fc, .slice la ln lc] 26)).alloc (.cells #[.int .i64 0, .int .i64 0, .string ⟨#[]⟩, .slice none 0 0, .slice none 0 0, .slice none 0 0] 26)).alloc (.cells #[.int .i64 0, .int .i64 0, .string ⟨#[]⟩, .slice none 0 0, .slice none 0 0, .slice none 0 0] 26)) (w.heap.size + 1) (.int .i64 0) (.int .i64 0) (.string ⟨#[]⟩) (.slice none 0 0) (.slice none 0 0) (.slice none 0 0)) := (IsBox.new2 w (.cells #[.int .i64 7, .int .i64 xn, .string xs, .slice ba bn bc, .slice fa fn fc, .slice la ln lc] 26) (.int .i64 0) (.int .i64 0) (.string ⟨#[]⟩) (.slice none 0 0) (.slice none 0 0) (.slice none 0 0)).keep ((Below.refl _ _).alloc (Nat.le_refl _) _)
  have HB0 : Hid (Below w.heap.size w (((w.alloc (.cells #[.int .i64 7, .int .i64 xn, .string xs, .slice ba bn bc, .slice fa fn fc, .slice la ln lc] 26)).alloc (.cells #[.int .i64 0, .int .i64 0, .string ⟨#[]⟩, .slice none 0 0, .slice none 0 0, .slice none 0 0] 26)).alloc (.cells #[.int .i64 0, .int .i64 0, .string ⟨#[]⟩, .slice none 0 0, .slice none 0 0, .slice none 0 0] 26)) ∧ w.heap.size + 3 ≤ (((w.alloc (.cells #[.int .i64 7, .int .i64 xn, .string xs, .slice ba bn bc, .slice fa fn fc, .slice la ln lc] 26)).alloc (.cells #[.int .i64 0, .int .i64 0, .string ⟨#[]⟩, .slice none 0 0, .slice none 0 0, .slice none 0 0] 26)).alloc (.cells #[.int .i64 0, .int .i64 0, .string ⟨#[]⟩, .slice none 0 0, .slice none 0 0, .slice none 0 0] 26)).heap.size) := ⟨(((Below.refl _ w).alloc (Nat.le_refl _) _).alloc (by simp) _).alloc (by simp; omega) _, by simp⟩
  clear hx2 hxk hxn hxs hbn hfn hln hL hF hI HX
  go_enter Try.func18, Try.ntmps18
  go_wp2_with fail
  generalize hW : (((w.alloc (.cells #[.int .i64 7, .int .i64 xn, .string xs, .slice ba bn bc, .slice fa fn fc, .slice la ln lc] 26)).alloc (.cells #[.int .i64 0, .int .i64 0, .string ⟨#[]⟩, .slice none 0 0, .slice none 0 0, .slice none 0 0] 26)).alloc (.cells #[.int .i64 0, .int .i64 0, .string ⟨#[]⟩, .slice none 0 0, .slice none 0 0, .slice none 0 0] 26)) = W0 at *
  clear hW
  go_loopw [6] (fun i wr => ∃ k : Nat, i = .int .i64 k ∧ k ≤ ln ∧ Hid (RefBest w Q (h + 1) t x.l k (w.heap.size + 2) wr) ∧ Hid (IsBox wr w.heap.size (.int .i64 7) (.int .i64 xn) (.string xs) (.slice ba bn bc) (.slice fa fn fc) (.slice la ln lc)) ∧ Hid (IsBox wr (w.heap.size + 1) (.int .i64 0) (.int .i64 0) (.string ⟨#[]⟩) (.slice none 0 0) (.slice none 0 0) (.slice none 0 0)) ∧ Hid (Below w.heap.size w wr ∧ w.heap.size + 3 ≤ wr.heap.size)) (fun i _ => ln - (intOf i).toNat)
  case atStart => exact ⟨0, rfl, Nat.zero_le _, HS0, HV0, HZ0, HB0⟩
  case round =>
    clear HS0 HV0 HZ0 HB0
    obtain ⟨k, rfl, hk, HS, HVB, HZ, HB⟩ := hrel
    obtain ⟨y, m0, m1, m2, m3, m4, m5, hor, hVm, hbox⟩ := HS.out
    obtain ⟨kd, nd, sd, bd, fd, ld, bld, bcd, fld, fcd, lld, lcd, hm⟩ := hVm.shape
    injection hm with hm
    injection hm with hm
    injection hm with x0 hm; injection hm with x1 hm; injection hm with x2 hm; injection hm with x3 hm; injection hm with x4 hm; injection hm with x5 hm
    subst x0 x1 x2 x3 x4 x5
    clear hm
    have HOR := Lib.hid hor
    have HVM := Lib.hid hVm
    have HBOX := Lib.hid hbox
    clear hor hVm hbox HS
    obtain ⟨v0, v1, v2, v3, v4, v5⟩ := HVB.out.cells
    clear v0 v1 v2 v3 v4
    by_cases hlt : k < ln
    case neg =>
      have HC : Hid (Order.CutIs (h + 1) t x y) := by
        have e : k = ln := by omega
        rcases HOR.out with ⟨e0, e1⟩ | ⟨kk, hb, e1⟩
        · exact .inr (.inl ⟨HK.out.symm, List.eq_nil_of_length_eq_zero (by have := HLN.out; omega), e1⟩)
        · exact .inr (.inr ⟨HK.out.symm, kk, by rw [← HLN.out, ← e]; exact hb, e1⟩)
      obtain ⟨b0, b1, b2, b3, b4, b5⟩ := HBOX.out.cells
      obtain ⟨z0, z1, z2, z3, z4, z5⟩ := HZ.out.cells
      obtain ⟨t0, t1, t2, t3, t4, t5⟩ := HZ.out.thaw
      have HB9 := Lib.hid (fun vs => puts_below HB.out.1 (G := w.heap.size + 1) (by omega) vs 0)
      have HV9 := Lib.hid (fun vs => (VIn.keep (h := h + 1) (HB9.out vs) HVM.out).any)
      go_wp2_with fail
      exact bodyPost_ret (v := .agg #[.int .i64 kd, .int .i64 nd, .string sd, .slice bd bld bcd, .slice fd fld fcd, .slice ld lld lcd]) (by simp [results, Try.results18, go_sem, z0, z1, z2, z3, z4, z5]) rfl ⟨_, y, rfl, HC.out, VIn.up (HV9.out [.int .i64 kd, .int .i64 nd, .string sd, .slice bd bld bcd, .slice fd fld fcd, .slice ld lld lcd]) (by omega), HB9.out [.int .i64 kd, .int .i64 nd, .string sd, .slice bd bld bcd, .slice fd fld fcd, .slice ld lld lcd]⟩
    obtain ⟨g1, o1, hla, _, hall⟩ := HI.out.resolve_left (fun e => by have := HLN.out; rw [e] at this; simp at this; omega)
    obtain ⟨v1, hsix, hV1⟩ := hall k (by have := HLN.out; omega)
    obtain ⟨ke, ne, se, be, fe, le, ble, bce, fle, fce, lle, lce, rfl⟩ := VIn.shape (h := h + 1) hV1
    obtain rfl := hla
    have HSX := Lib.hid (hsix.keep HB.out.1)
    have HV1 : Hid (VIn w Q (h + 1) (x.l.getD k Bson.zero) (.agg #[.int .i64 ke, .int .i64 ne, .string se, .slice be ble bce, .slice fe fle fce, .slice le lle lce])) := by
      show VIn w Q (h + 1) _ _
      rw [getD_at (by have := HLN.out; omega)]; exact hV1
    clear hall hsix hV1
    obtain ⟨r, hr⟩ : ∃ r, r = Order.cmp (h + 1) (x.l.getD k Bson.zero) y := ⟨_, rfl⟩
    have HR := Lib.hid hr
    clear hr
    have HQ := fun d os => Calls.regrown_of (P := Try.prog) (d := d) (os := os) (v := .int .i64 r) ((refCompare_any (h + 1) Q Q _ _ _ _ (grow (redrawn wr d) os) (VIn.keep (h := h + 1) (HB.out.1.trans ((below_regrown wr d os).mono (by have := HB.out.2; omega))) HV1.out) (VIn.keep (h := h + 1) (HB.out.1.trans ((below_regrown wr d os).mono (by have := HB.out.2; omega))) HVM.out)).mono fun e w3 ⟨he, hb⟩ => ⟨by rw [he, HR.out], hb⟩)
    obtain ⟨s0, s1, s2, s3, s4, s5⟩ := HSX.out.cells
    obtain ⟨b0, b1, b2, b3, b4, b5⟩ := HBOX.out.cells
    have qv5 := fun d os => cell_regrown v5 d os
    have qs0 := fun d os => cell_regrown s0 d os
    have qb0 := fun d os => cell_regrown b0 d os
    have qs1 := fun d os => cell_regrown s1 d os
    have qb1 := fun d os => cell_regrown b1 d os
    have qs2 := fun d os => cell_regrown s2 d os
    have qb2 := fun d os => cell_regrown b2 d os
    have qs3 := fun d os => cell_regrown s3 d os
    have qb3 := fun d os => cell_regrown b3 d os
    have qs4 := fun d os => cell_regrown s4 d os
    have qb4 := fun d os => cell_regrown b4 d os
    have qs5 := fun d os => cell_regrown s5 d os
    have qb5 := fun d os => cell_regrown b5 d os
    go_wp2_with fail
    refine wp_region_quiet_below (by kernel_rfl) (by kernel_rfl) ?_
    repeat (go_big_quiet_step (exact HQ _ _))
    refine wpQuiet_nil ?_
    intro w7 hw'
    have H7 : Hid (Below wr.heap.size wr w7) := by
      obtain ⟨dq, hw''⟩ := hw'
      rw [hw'']
      exact below_regrown wr dq.d dq.os
    clear hw' HQ v5 qv5 s0 s1 s2 s3 s4 s5 b0 b1 b2 b3 b4 b5 qs0 qb0 qs1 qb1 qs2 qb2 qs3 qb3 qs4 qb4 qs5 qb5
    have HVB7 := Lib.hid (HVB.out.keep H7.out)
    have HZ7 := Lib.hid (HZ.out.keep H7.out)
    have HBOX7 := Lib.hid (HBOX.out.keep H7.out)
    have HB7 : Hid (Below w.heap.size w w7 ∧ w.heap.size + 3 ≤ w7.heap.size) := ⟨HB.out.1.trans (H7.out.mono (by have := HB.out.2; omega)), by have := HB.out.2; have := H7.out.size; omega⟩
    obtain ⟨_, _, _, _, _, v5⟩ := HVB7.out.cells
    have HST : Hid (1 ≤ k → (if t then - r else r) < 0 → ∃ kk, Order.Best (Order.turned (Order.cmp (h + 1)) t) Bson.zero x.l (k + 1) kk ∧ kk = k) := fun h1 hn => by
      rcases HOR.out with ⟨e0, _⟩ | ⟨kk, hb, e1⟩
      · omega
      · refine ⟨k, Order.Best.turn (Order.turned_cmp (Order.cmp_cmp (h + 1)) t) hb ?_, rfl⟩
        have e2 : Order.turned (Order.cmp (h + 1)) t (x.l.getD k Bson.zero) (x.l.getD kk Bson.zero) = if t then - r else r := by rw [HR.out, e1]; rfl
        rw [e2]; exact hn
    have HSN : Hid (1 ≤ k → ¬ (if t then - r else r) < 0 → RefBest w Q (h + 1) t x.l (k + 1) (w.heap.size + 2) w7) := fun h1 hn => by
      rcases HOR.out with ⟨e0, _⟩ | ⟨kk, hb, e1⟩
      · omega
      · refine ⟨y, _, _, _, _, _, _, .inr ⟨kk, Order.Best.stay hb ?_, e1⟩, HVM.out, HBOX7.out⟩
        have e2 : Order.turned (Order.cmp (h + 1)) t (x.l.getD k Bson.zero) (x.l.getD kk Bson.zero) = if t then - r else r := by rw [HR.out, e1]; rfl
        rw [e2]; exact hn
    by_cases hk0 : k = 0
    · have hkb : ((k : Int) == 0) = true := by rw [hk0]; rfl
      have HBF : Hid (Order.Best (Order.turned (Order.cmp (h + 1)) t) Bson.zero x.l (k + 1) k) := by rw [hk0]; exact Order.Best.first
      clear hk0
      obtain ⟨s0, s1, s2, s3, s4, s5⟩ := (HSX.out.keep H7.out).cells
      obtain ⟨b0, b1, b2, b3, b4, b5⟩ := HBOX7.out.cells
      obtain ⟨t0, t1, t2, t3, t4, t5⟩ := HBOX7.out.thaw
      go_wp2_with fail
      go_roundw
      case rel =>
        have HS9 : Hid (RefBest w Q (h + 1) t x.l (k + 1) (w.heap.size + 2) (puts w7 (w.heap.size + 2) 0 [.int .i64 ke, .int .i64 ne, .string se, .slice be ble bce, .slice fe fle fce, .slice le lle lce])) := ⟨_, _, _, _, _, _, _, .inr ⟨k, HBF.out, rfl⟩, HV1.out, HBOX7.out.put _ _ _ _ _ _⟩
        have HVB9 := Lib.hid (HVB7.out.other (m := w.heap.size + 2) (by omega) 0 [.int .i64 ke, .int .i64 ne, .string se, .slice be ble bce, .slice fe fle fce, .slice le lle lce])
        have HZ9 := Lib.hid (HZ7.out.other (m := w.heap.size + 2) (by omega) 0 [.int .i64 ke, .int .i64 ne, .string se, .slice be ble bce, .slice fe fle fce, .slice le lle lce])
        have HB9 : Hid (Below w.heap.size w (puts w7 (w.heap.size + 2) 0 [.int .i64 ke, .int .i64 ne, .string se, .slice be ble bce, .slice fe fle fce, .slice le lle lce]) ∧ w.heap.size + 3 ≤ (puts w7 (w.heap.size + 2) 0 [.int .i64 ke, .int .i64 ne, .string se, .slice be ble bce, .slice fe fle fce, .slice le lle lce]).heap.size) := ⟨puts_below HB7.out.1 (by omega) _ _, by rw [puts_size]; exact HB7.out.2⟩
        exact ⟨k + 1, by go_num, by omega, HS9, HVB9, HZ9, HB9⟩
      case measure => simp [intOf]; omega
    · have hkb : ((k : Int) == 0) = false := by rw [beq_eq_false_iff_ne]; omega
      have h1k : 1 ≤ k := by omega
      clear hk0
      cases t with
      | false =>
        by_cases hneg : r < 0
        · have HBF : Hid (Order.Best (Order.turned (Order.cmp (h + 1)) false) Bson.zero x.l (k + 1) k) := by
            obtain ⟨kk, hb, e⟩ := HST.out h1k (by simpa using hneg)
            rw [← e]; rw [e] at hb ⊢; exact hb
          have hd : decide (r < 0) = true := decide_eq_true hneg
          clear hneg
          obtain ⟨s0, s1, s2, s3, s4, s5⟩ := (HSX.out.keep H7.out).cells
          obtain ⟨b0, b1, b2, b3, b4, b5⟩ := HBOX7.out.cells
          obtain ⟨t0, t1, t2, t3, t4, t5⟩ := HBOX7.out.thaw
          go_wp2_with fail
          go_roundw
          case rel =>
            have HS9 : Hid (RefBest w Q (h + 1) false x.l (k + 1) (w.heap.size + 2) (puts w7 (w.heap.size + 2) 0 [.int .i64 ke, .int .i64 ne, .string se, .slice be ble bce, .slice fe fle fce, .slice le lle lce])) := ⟨_, _, _, _, _, _, _, .inr ⟨k, HBF.out, rfl⟩, HV1.out, HBOX7.out.put _ _ _ _ _ _⟩
            have HVB9 := Lib.hid (HVB7.out.other (m := w.heap.size + 2) (by omega) 0 [.int .i64 ke, .int .i64 ne, .string se, .slice be ble bce, .slice fe fle fce, .slice le lle lce])
            have HZ9 := Lib.hid (HZ7.out.other (m := w.heap.size + 2) (by omega) 0 [.int .i64 ke, .int .i64 ne, .string se, .slice be ble bce, .slice fe fle fce, .slice le lle lce])
            have HB9 : Hid (Below w.heap.size w (puts w7 (w.heap.size + 2) 0 [.int .i64 ke, .int .i64 ne, .string se, .slice be ble bce, .slice fe fle fce, .slice le lle lce]) ∧ w.heap.size + 3 ≤ (puts w7 (w.heap.size + 2) 0 [.int .i64 ke, .int .i64 ne, .string se, .slice be ble bce, .slice fe fle fce, .slice le lle lce]).heap.size) := ⟨puts_below HB7.out.1 (by omega) _ _, by rw [puts_size]; exact HB7.out.2⟩
            exact ⟨k + 1, by go_num, by omega, HS9, HVB9, HZ9, HB9⟩
          case measure => simp [intOf]; omega
        · have HBS := Lib.hid (HSN.out h1k (by simpa using hneg))
          have hd : decide (r < 0) = false := decide_eq_false hneg
          clear hneg
          go_wp2_with fail
          go_roundw
          case rel => exact ⟨k + 1, by go_num, by omega, HBS, HVB7, HZ7, HB7⟩
          case measure => simp [intOf]; omega
      | true =>
        by_cases hneg : 0 < r
        · have HBF : Hid (Order.Best (Order.turned (Order.cmp (h + 1)) true) Bson.zero x.l (k + 1) k) := by
            obtain ⟨kk, hb, e⟩ := HST.out h1k (by simp; omega)
            rw [← e]; rw [e] at hb ⊢; exact hb
          have hd : decide (0 < r) = true := decide_eq_true hneg
          clear hneg
          obtain ⟨s0, s1, s2, s3, s4, s5⟩ := (HSX.out.keep H7.out).cells
          obtain ⟨b0, b1, b2, b3, b4, b5⟩ := HBOX7.out.cells
          obtain ⟨t0, t1, t2, t3, t4, t5⟩ := HBOX7.out.thaw
          go_wp2_with fail
          go_roundw
          case rel =>
            have HS9 : Hid (RefBest w Q (h + 1) true x.l (k + 1) (w.heap.size + 2) (puts w7 (w.heap.size + 2) 0 [.int .i64 ke, .int .i64 ne, .string se, .slice be ble bce, .slice fe fle fce, .slice le lle lce])) := ⟨_, _, _, _, _, _, _, .inr ⟨k, HBF.out, rfl⟩, HV1.out, HBOX7.out.put _ _ _ _ _ _⟩
            have HVB9 := Lib.hid (HVB7.out.other (m := w.heap.size + 2) (by omega) 0 [.int .i64 ke, .int .i64 ne, .string se, .slice be ble bce, .slice fe fle fce, .slice le lle lce])
            have HZ9 := Lib.hid (HZ7.out.other (m := w.heap.size + 2) (by omega) 0 [.int .i64 ke, .int .i64 ne, .string se, .slice be ble bce, .slice fe fle fce, .slice le lle lce])
            have HB9 : Hid (Below w.heap.size w (puts w7 (w.heap.size + 2) 0 [.int .i64 ke, .int .i64 ne, .string se, .slice be ble bce, .slice fe fle fce, .slice le lle lce]) ∧ w.heap.size + 3 ≤ (puts w7 (w.heap.size + 2) 0 [.int .i64 ke, .int .i64 ne, .string se, .slice be ble bce, .slice fe fle fce, .slice le lle lce]).heap.size) := ⟨puts_below HB7.out.1 (by omega) _ _, by rw [puts_size]; exact HB7.out.2⟩
            exact ⟨k + 1, by go_num, by omega, HS9, HVB9, HZ9, HB9⟩
          case measure => simp [intOf]; omega
        · have HBS := Lib.hid (HSN.out h1k (by simp; omega))
          have hd : decide (0 < r) = false := decide_eq_false hneg
          clear hneg
          go_wp2_with fail
          go_roundw
          case rel => exact ⟨k + 1, by go_num, by omega, HBS, HVB7, HZ7, HB7⟩
          case measure => simp [intOf]; omega
end Go.Proofs.Ytngdjdhfciodjaa
