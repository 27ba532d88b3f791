/- order.compareFields; slices.CompareFunc of fields, from Compare. -/
import Derived.Test.YtkpbfocbombpjaaOrderCmpL
namespace Go.Proofs.Ytkpbfocbombpjaa
open Go.RowKit
open Seal
open Bson (Val)
theorem class_q (k : Int) (w : World) : Calls Try.prog 8 #[.int .i64 k] w fun e w' => e = .returned (.int .i64 (Order.cls k)) ∧ w' = w := (class_any k w).mono fun _ _ ⟨h1, h2⟩ => ⟨h1, h2.symm⟩
theorem cmpInt_q (a b : Int) (w : World) : Calls Try.prog 9 #[.int .i64 a, .int .i64 b] w fun e w' => e = .returned (.int .i64 (Order.sgn a b)) ∧ w' = w := (cmpInt_any a b w).mono fun _ _ ⟨h1, h2⟩ => ⟨h1, h2.symm⟩
set_option maxRecDepth 100000 in
set_option maxHeartbeats 4000000 in
theorem compareFields_any (h : Nat) (IH0 : CmpAt h) (Q Q2 : Nat → Prop) (p q : ByteArray) (x y : Val) (xn yn : Int) (xk yk : Int) (xs ys : ByteArray) (ba fa la ba2 fa2 la2 : Option Addr) (bn bc fn fc ln lc bn2 bc2 fn2 fc2 ln2 lc2 : Nat) (w : World) (hxk : xk = x.kind) (hyk : yk = y.kind)
    (hx : VIn w Q h x (.agg #[.int .i64 xk, .int .i64 xn, .string xs, .slice ba bn bc, .slice fa fn fc, .slice la ln lc])) (hy : VIn w Q2 h y (.agg #[.int .i64 yk, .int .i64 yn, .string ys, .slice ba2 bn2 bc2, .slice fa2 fn2 fc2, .slice la2 ln2 lc2])) :
    Calls Try.prog 13 #[.agg #[.string p, .int .i64 xk, .int .i64 xn, .string xs, .slice ba bn bc, .slice fa fn fc, .slice la ln lc], .agg #[.string q, .int .i64 yk, .int .i64 yn, .string ys, .slice ba2 bn2 bc2, .slice fa2 fn2 fc2, .slice la2 ln2 lc2]] w (CmpPost (Order.fld (Order.cmp h) (p, x) (q, y)) w) := by
  have IH := Lib.hid IH0
  have HB : Hid (Below w.heap.size w ((w.alloc (.cells #[.string p, .int .i64 xk, .int .i64 xn, .string xs, .slice ba bn bc, .slice fa fn fc, .slice la ln lc] 30)).alloc (.cells #[.string q, .int .i64 yk, .int .i64 yn, .string ys, .slice ba2 bn2 bc2, .slice fa2 fn2 fc2, .slice la2 ln2 lc2] 30))) := ((Below.refl _ w).alloc (Nat.le_refl _) _).alloc (by simp) _
  have HX := Lib.hid hx
  have HY := Lib.hid hy
  have HF := Lib.hid (show Order.fld (Order.cmp h) (p, x) (q, y) = if Order.sgn (Order.cls xk) (Order.cls yk) = 0 then (if Order.text p q = 0 then Order.cmp h x y else Order.text p q) else Order.sgn (Order.cls xk) (Order.cls yk) by rw [hxk, hyk]; rfl)
  clear hx hy IH0 hxk hyk
  by_cases e : Order.sgn (Order.cls xk) (Order.cls yk) = 0
  · have he : (Order.sgn (Order.cls xk) (Order.cls yk) != 0) = false := by rw [e]; rfl
    by_cases e2 : Order.text p q = 0
    · have he2 : (Order.text p q != 0) = false := by rw [e2]; rfl
      have HE := Lib.hid (show Order.fld (Order.cmp h) (p, x) (q, y) = Order.cmp h x y by rw [HF.out, if_pos e, if_pos e2])
      clear e e2
      go_enter Try.func13, Try.ntmps13
      go_wp2_with fail
      go_quiet (first | (go_at_call 8; exact Calls.quiet_of_same (class_q _ _)) | (go_at_call 9; exact Calls.quiet_of_same (cmpInt_q _ _ _)))
      have HV1 := fun n => VIn.keep (below_dr HB.out n) HX.out
      have HV2 := fun n => VIn.keep (below_dr HB.out n) HY.out
      have HC := fun n => IH.out _ _ _ _ _ _ _ (HV1 n) (HV2 n)
      have HCH := Lib.hid HC
      clear HV1 HV2 HC
      go_wp2_with (first | (go_at_call 11; refine (strCmp_any _ _ _).mono ?_; rintro e w' ⟨rfl, rfl⟩) | (go_at_call 6; refine (HCH.out _).mono ?_; rintro e w2 ⟨rfl, hb2⟩))
      go_ret
      exact ⟨ret_i HE.out.symm, (below_dr HB.out _).trans (hb2.mono (by simp; omega))⟩
    · have he2 : (Order.text p q != 0) = true := by rw [bne_iff_ne]; exact e2
      have HE := Lib.hid (show Order.fld (Order.cmp h) (p, x) (q, y) = Order.text p q by rw [HF.out, if_pos e, if_neg e2])
      clear e e2
      go_enter Try.func13, Try.ntmps13
      go_wp2_with fail
      go_quiet (first | (go_at_call 8; exact Calls.quiet_of_same (class_q _ _)) | (go_at_call 9; exact Calls.quiet_of_same (cmpInt_q _ _ _)))
      go_wp2_with (go_at_call 11; refine (strCmp_any _ _ _).mono ?_; rintro e w' ⟨rfl, rfl⟩)
      go_ret
      exact ⟨ret_i HE.out.symm, below_dr HB.out _⟩
  · have he : (Order.sgn (Order.cls xk) (Order.cls yk) != 0) = true := by rw [bne_iff_ne]; exact e
    have HE := Lib.hid (show Order.fld (Order.cmp h) (p, x) (q, y) = Order.sgn (Order.cls xk) (Order.cls yk) by rw [HF.out, if_neg e])
    clear e
    go_enter Try.func13, Try.ntmps13
    go_wp2_with fail
    go_quiet (first | (go_at_call 8; exact Calls.quiet_of_same (class_q _ _)) | (go_at_call 9; exact Calls.quiet_of_same (cmpInt_q _ _ _)))
    go_wp2_with fail
    go_ret
    exact ⟨ret_i HE.out.symm, below_dr HB.out _⟩
set_option maxRecDepth 100000 in
set_option maxHeartbeats 4000000 in
theorem cmpF_any (h : Nat) (IH0 : CmpAt h) (Q Q2 : Nat → Prop) (a b : Option Addr) (n c m d : Nat) (l l2 : List (ByteArray × Val)) (w : World) (hn : l.length = n) (hm : l2.length = m) (hnb : n ≤ 1172812402961) (hI : FieldsIn w Q (VIn w Q h) a l) (hJ : FieldsIn w Q2 (VIn w Q2 h) b l2) :
    Calls Try.prog 12 #[.slice a n c, .slice b m d, .func (.func 13) #[] #[]] w (CmpPost (Order.lex (Order.fld (Order.cmp h)) l l2) w) := by
  have IH := Lib.hid (compareFields_any h IH0)
  have HI := Lib.hid hI
  have HJ := Lib.hid hJ
  have HN := Lib.hid hn
  have HM := Lib.hid hm
  clear hI hJ IH0 hn hm
  go_enter Try.func12, Try.ntmps12
  go_wp2_with fail
  go_loopw [13] (fun i wr => ∃ k : Nat, i = .int .i64 k ∧ k ≤ n ∧ k ≤ m ∧ Hid (LexGo (Order.fld (Order.cmp h)) l l2 k) ∧ Hid (Below w.heap.size w wr)) (fun i _ => n - (intOf i).toNat)
  case atStart => exact ⟨0, rfl, Nat.zero_le _, Nat.zero_le _, rfl, Below.refl _ _⟩
  case round =>
    obtain ⟨k, rfl, hk, hk2, HT, HB⟩ := hrel
    by_cases hlt : k < n
    · obtain ⟨g, o, hla, _, hall⟩ := HI.out.resolve_left (fun e => by have := HN.out; rw [e] at this; simp at this; omega)
      obtain ⟨hnm, _, v1, hsix, hV⟩ := hall k (by have := HN.out; omega)
      obtain rfl := hla
      obtain ⟨ka, na, sa, ba, fa, la, bl, bc, fl, fc, ll, lc, rfl⟩ := hV.shape
      have HKA : Hid (ka = (l[k]'(by have := HN.out; omega)).2.kind) := hV.kind_is
      have HV := Lib.hid (VIn.keep HB.out hV)
      obtain ⟨nm, hnme⟩ : ∃ nm, nm = (l[k]'(by have := HN.out; omega)).1 := ⟨_, rfl⟩
      have HNM := Lib.hid hnme
      clear hnme
      obtain ⟨s1, s2, s3, s4, s5, s6⟩ := (hsix.keep HB.out).cells
      have s0 : wr.cell? ⟨g, o + k * 7, none⟩ = some (.string nm) := by rw [HNM.out]; exact cell_keep HB.out hnm
      clear hall hsix hV hnm
      by_cases hlt2 : k < m
      · obtain ⟨g2, o2, hlb, _, hall⟩ := HJ.out.resolve_left (fun e => by have := HM.out; rw [e] at this; simp at this; omega)
        obtain ⟨hnm, _, v2, hsix, hV2⟩ := hall k (by have := HM.out; omega)
        obtain rfl := hlb
        obtain ⟨kd, nd, sd, bd, fd, ld, bm, bz, fm, fz, lm, lz, rfl⟩ := hV2.shape
        have HKD : Hid (kd = (l2[k]'(by have := HM.out; omega)).2.kind) := hV2.kind_is
        have HV2 := Lib.hid (VIn.keep HB.out hV2)
        obtain ⟨nm2, hnme⟩ : ∃ nm, nm = (l2[k]'(by have := HM.out; omega)).1 := ⟨_, rfl⟩
        have HNM2 := Lib.hid hnme
        clear hnme
        have HBa := (Below.refl _ wr).alloc (Nat.le_refl _) (.cells #[.string nm, .int .i64 ka, .int .i64 na, .string sa, .slice ba bl bc, .slice fa fl fc, .slice la ll lc] 30)
        have hz := (hsix.keep HB.out).keep HBa
        obtain ⟨z1, z2, z3, z4, z5, z6⟩ := hz.cells
        have z0 : (wr.alloc (.cells #[.string nm, .int .i64 ka, .int .i64 na, .string sa, .slice ba bl bc, .slice fa fl fc, .slice la ll lc] 30)).cell? ⟨g2, o2 + k * 7, none⟩ = some (.string nm2) := by rw [HNM2.out]; exact cell_keep HBa (cell_keep HB.out hnm)
        clear hall hsix hV2 hz hnm HBa
        have HB2 : Hid (Below wr.heap.size wr ((wr.alloc (.cells #[.string nm, .int .i64 ka, .int .i64 na, .string sa, .slice ba bl bc, .slice fa fl fc, .slice la ll lc] 30)).alloc (.cells #[.string nm2, .int .i64 kd, .int .i64 nd, .string sd, .slice bd bm bz, .slice fd fm fz, .slice ld lm lz] 30))) := ((Below.refl _ wr).alloc (Nat.le_refl _) _).alloc (by simp) _
        have HVa := Lib.hid (VIn.keep HB2.out HV.out)
        have HVb := Lib.hid (VIn.keep HB2.out HV2.out)
        have HC := Lib.hid (IH.out _ _ nm nm2 _ _ _ _ _ _ _ _ _ _ _ _ _ _ _ _ _ _ _ _ _ _ _ _ _ _ _ HKA.out HKD.out HVa.out HVb.out)
        have HPN := Lib.hid (show Order.fld (Order.cmp h) (nm, (l[k]'(by have := HN.out; omega)).2) (nm2, (l2[k]'(by have := HM.out; omega)).2) = Order.fld (Order.cmp h) (l[k]'(by have := HN.out; omega)) (l2[k]'(by have := HM.out; omega)) by rw [HNM.out, HNM2.out])
        obtain ⟨r, hr⟩ : ∃ r, r = Order.fld (Order.cmp h) (nm, (l[k]'(by have := HN.out; omega)).2) (nm2, (l2[k]'(by have := HM.out; omega)).2) := ⟨_, rfl⟩
        have HR := Lib.hid hr
        rw [← hr] at HC HPN
        clear hr
        by_cases e : r = 0
        · have HL := Lib.hid (HT.out.next (by have := HN.out; omega) (by have := HM.out; omega) (HPN.out.symm.trans e))
          subst e
          go_wp2_with fail
          refine HC.out.mono ?_
          rintro e w2 ⟨rfl, hb2⟩
          have HB3 : Hid (Below w.heap.size w w2) := HB.out.trans ((HB2.out.trans (hb2.mono HB2.out.size)).mono HB.out.size)
          clear hb2
          go_wp2_with fail
          go_roundw
          case rel => exact ⟨k + 1, by go_num, by omega, by omega, HL, HB3⟩
          case measure => simp [intOf]; omega
        · have HL := Lib.hid (HT.out.here (by have := HN.out; omega) (by have := HM.out; omega) (fun x => e (HPN.out.trans x)))
          have hb : (r != 0) = true := by rw [bne_iff_ne]; exact e
          clear e
          go_wp2_with fail
          refine HC.out.mono ?_
          rintro e w2 ⟨rfl, hb2⟩
          have HB3 : Hid (Below w.heap.size w w2) := HB.out.trans ((HB2.out.trans (hb2.mono HB2.out.size)).mono HB.out.size)
          clear hb2
          go_wp2_with fail
          go_ret
          exact ⟨ret_i (HL.out.trans HPN.out.symm).symm, HB3.out⟩
      · have HL := Lib.hid (HT.out.last (by have := HN.out; omega) (by have := HM.out; omega) (by have := HM.out; omega))
        have HS := Lib.hid (show Order.sgn (l.length : Int) (l2.length : Int) = 1 from Order.sgn_gt (by have := HN.out; have := HM.out; omega))
        have HB2 : Hid (Below w.heap.size w (wr.alloc (.cells #[.string nm, .int .i64 ka, .int .i64 na, .string sa, .slice ba bl bc, .slice fa fl fc, .slice la ll lc] 30))) := HB.out.alloc HB.out.size _
        go_wp2_with fail
        go_ret
        exact ⟨ret_i (HL.out.trans HS.out).symm, HB2.out⟩
    · have HL := Lib.hid (HT.out.last (by have := HN.out; omega) (by have := HM.out; omega) (by have := HN.out; omega))
      by_cases e : k < m
      · have HS := Lib.hid (show Order.sgn (l.length : Int) (l2.length : Int) = -1 from Order.sgn_lt (by have := HN.out; have := HM.out; omega))
        have hd : decide (n < m) = true := by rw [decide_eq_true_eq]; omega
        go_wp2_with fail
        go_ret
        exact ⟨ret_i (HL.out.trans HS.out).symm, HB.out⟩
      · have HS := Lib.hid (show Order.sgn (l.length : Int) (l2.length : Int) = 0 from Order.sgn_zero.2 (by have := HN.out; have := HM.out; omega))
        have hd : decide (n < m) = false := by rw [decide_eq_false_iff_not]; omega
        go_wp2_with fail
        go_ret
        exact ⟨ret_i (HL.out.trans HS.out).symm, HB.out⟩
end Go.Proofs.Ytkpbfocbombpjaa
