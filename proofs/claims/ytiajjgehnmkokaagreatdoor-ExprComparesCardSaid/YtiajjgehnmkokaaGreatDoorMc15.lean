/- RefCmpD. -/
import Derived.Test.YtiajjgehnmkokaaGreatDoorMc11
import Derived.Test.YtiajjgehnmkokaaGreatDoorMc5
set_option maxRecDepth 100000
set_option maxHeartbeats 20000000
section
namespace Go.Proofs.YtiajjgehnmkokaaGreatDoor
open Go.RowKit
open Seal
open Bson (Val)
open Go.Sort
theorem refCmp_doc (h : Nat) (IH0 : RefCmpAt h) (Q Q2 : Nat → Prop) (xk xn yk yn : Int) (xs ys : ByteArray) (ba fa la ba2 fa2 la2 : Option Addr) (bn bc fn fc ln lc bn2 bc2 fn2 fc2 ln2 lc2 : Nat) (w : World) (hk : -9223372036854775808 ≤ xk ∧ xk ≤ 9223372036854775807) (hk2 : -9223372036854775808 ≤ yk ∧ yk ≤ 9223372036854775807) (hx : xk = 6) (e : Order.cls xk = Order.cls yk) (l m : List (ByteArray × Val)) (hn : l.length = fn) (hm : m.length = fn2) (hnb : fn ≤ 1172812402961) (_ : fn2 ≤ 1172812402961) (hI : FieldsIn w Q (VIn w Q h) fa l) (hJ : FieldsIn w Q2 (VIn w Q2 h) fa2 m) :
  Calls Tryz.prog 14 #[.agg #[Value.int .i64 xk, .int .i64 xn, .string xs, .slice ba bn bc, .slice fa fn fc, .slice la ln lc], .agg #[Value.int .i64 yk, .int .i64 yn, .string ys, .slice ba2 bn2 bc2, .slice fa2 fn2 fc2, .slice la2 ln2 lc2]] w (CmpPost (Order.lex (Order.fld (Order.cmp h)) l m) w) := by
 have he : Order.sgn (Order.cls xk) (Order.cls yk) = 0 := Order.sgn_zero.2 e
 have hb : (Order.sgn (Order.cls xk) (Order.cls yk) != 0) = false := by rw [he]; rfl
 obtain ⟨hk0, hk1⟩ := hk
 obtain ⟨hk20, hk21⟩ := hk2
 have HB : Hid (Below w.heap.size w ((w.alloc (.cells #[Value.int .i64 xk, .int .i64 xn, .string xs, .slice ba bn bc, .slice fa fn fc, .slice la ln lc] 26)).alloc (.cells #[Value.int .i64 yk, .int .i64 yn, .string ys, .slice ba2 bn2 bc2, .slice fa2 fn2 fc2, .slice la2 ln2 lc2] 26))) := ((Below.refl _ w).alloc (Nat.le_refl _) _).alloc (by simp) _
 clear e
 subst hx
 have IH := Lib.hid IH0
 have HI := Lib.hid hI
 have HJ := Lib.hid hJ
 have HN := Lib.hid hn
 have HM := Lib.hid hm
 clear hI hJ IH0 hn hm
 go_enter Tryz.func14, Tryz.ntmps14
 go_wp2_with fail
 go_quiet (first | (go_at_call 35; exact Calls.quiet_of_same (refClass_q _ _ (by omega))) | (go_at_call 34; exact Calls.quiet_of_same (sign_q _ _ _)))
 go_wp2_with fail
 have HX0 : Hid (Boxed2 w #[Value.int .i64 6, .int .i64 xn, .string xs, .slice ba bn bc, .slice fa fn fc, .slice la ln lc] #[Value.int .i64 yk, .int .i64 yn, .string ys, .slice ba2 bn2 bc2, .slice fa2 fn2 fc2, .slice la2 ln2 lc2] 26 (((w.alloc (.cells #[Value.int .i64 6, .int .i64 xn, .string xs, .slice ba bn bc, .slice fa fn fc, .slice la ln lc] 26)).alloc (.cells #[Value.int .i64 yk, .int .i64 yn, .string ys, .slice ba2 bn2 bc2, .slice fa2 fn2 fc2, .slice la2 ln2 lc2] 26)).drewN nq)) := (Boxed2.refl _ _ _ _).step (below_dr (Below.refl _ _) _)
 generalize hW : (((w.alloc (.cells #[Value.int .i64 6, .int .i64 xn, .string xs, .slice ba bn bc, .slice fa fn fc, .slice la ln lc] 26)).alloc (.cells #[Value.int .i64 yk, .int .i64 yn, .string ys, .slice ba2 bn2 bc2, .slice fa2 fn2 fc2, .slice la2 ln2 lc2] 26))).drewN nq = W0 at *
 clear hW he hb
 go_loopw [6] (fun i wr => ∃ k : Nat, i = .int .i64 k ∧ k ≤ fn ∧ k ≤ fn2 ∧ Hid (LexGo (Order.fld (Order.cmp h)) l m k) ∧ Hid (Boxed2 w #[Value.int .i64 6, .int .i64 xn, .string xs, .slice ba bn bc, .slice fa fn fc, .slice la ln lc] #[Value.int .i64 yk, .int .i64 yn, .string ys, .slice ba2 bn2 bc2, .slice fa2 fn2 fc2, .slice la2 ln2 lc2] 26 wr)) (fun i _ => fn - (intOf i).toNat)
 case atStart => exact ⟨0, rfl, Nat.zero_le _, Nat.zero_le _, rfl, HX0⟩
 case round =>
  obtain ⟨k, rfl, hk, hk2, HT, HX⟩ := hrel
  have a4 : wr.cell? ⟨w.heap.size, 4, none⟩ = some (.slice fa fn fc) := HX.out.one 4
  have b4 : wr.cell? ⟨w.heap.size + 1, 4, none⟩ = some (.slice fa2 fn2 fc2) := HX.out.two 4
  by_cases hlt : k < fn
  ·by_cases hlt2 : k < fn2
   ·have hk1 : k < l.length := by have := HN.out; omega
    have hk3 : k < m.length := by have := HM.out; omega
    obtain ⟨g, o, hla, _, hall⟩ := HI.out.resolve_left (fun e => by rw [e] at hk1; simp at hk1)
    obtain ⟨g2, o2, hla2, _, hall2⟩ := HJ.out.resolve_left (fun e => by rw [e] at hk3; simp at hk3)
    obtain ⟨hnm, hns, v1, hsix, hV⟩ := hall k hk1
    obtain ⟨hnm2, hns2, v2, hsix2, hV2⟩ := hall2 k hk3
    subst hla hla2
    obtain ⟨ka, na, sa, ba', fa', la', bl', bc', fl', fc', ll', lc', rfl⟩ := hV.shape
    obtain ⟨kd, nd, sd, bd, fd, ld, bm, bz, fm, fz, lm, lz, rfl⟩ := hV2.shape
    have HKA := Lib.hid hV.kind_is
    have HKD := Lib.hid hV2.kind_is
    have HLA := Lib.hid hV.kind_bd
    have HLD := Lib.hid hV2.kind_bd
    have hV := Lib.hid (VIn.keep HX.out.below hV)
    have hV2 := Lib.hid (VIn.keep HX.out.below hV2)
    obtain ⟨s0, s1, s2, s3, s4, s5⟩ := (hsix.keep HX.out.below).cells
    obtain ⟨r0, r1, r2, r3, r4, r5⟩ := (hsix2.keep HX.out.below).cells
    have hnm := cell_keep HX.out.below hnm
    have hnm2 := cell_keep HX.out.below hnm2
    obtain ⟨m1, hm1⟩ : ∃ z, z = l[k] := ⟨_, rfl⟩
    obtain ⟨m2, hm2⟩ : ∃ z, z = m[k] := ⟨_, rfl⟩
    rw [← hm1] at hnm hV hns HKA
    rw [← hm2] at hnm2 hV2 hns2 HKD
    have HM1 := Lib.hid hm1; have HM2 := Lib.hid hm2
    obtain ⟨nm, z1⟩ := m1
    obtain ⟨nm2, z2⟩ := m2
    simp only at hnm hnm2 hV hV2 hns hns2 HKA HKD
    clear hall hall2 hm1 hm2 hsix hsix2
    go_wp2_with fail
    go_region_held3 (fun W => W.cell? ⟨w.heap.size, 4, none⟩ = some (.slice (some ⟨g, o, none⟩) fn fc) ∧ W.cell? ⟨w.heap.size + 1, 4, none⟩ = some (.slice (some ⟨g2, o2, none⟩) fn2 fc2) ∧ W.cell? ⟨g, o + k * 7, none⟩ = some (.string nm) ∧ W.cell? ⟨g, o + k * 7 + 1, none⟩ = some (.int .i64 ka) ∧ W.cell? ⟨g, o + k * 7 + 1 + 1, none⟩ = some (.int .i64 na) ∧ W.cell? ⟨g, o + k * 7 + 1 + 2, none⟩ = some (.string sa) ∧ W.cell? ⟨g, o + k * 7 + 1 + 3, none⟩ = some (.slice ba' bl' bc') ∧ W.cell? ⟨g, o + k * 7 + 1 + 4, none⟩ = some (.slice fa' fl' fc') ∧ W.cell? ⟨g, o + k * 7 + 1 + 5, none⟩ = some (.slice la' ll' lc') ∧ W.cell? ⟨g2, o2 + k * 7, none⟩ = some (.string nm2) ∧ W.cell? ⟨g2, o2 + k * 7 + 1, none⟩ = some (.int .i64 kd) ∧ W.cell? ⟨g2, o2 + k * 7 + 1 + 1, none⟩ = some (.int .i64 nd) ∧ W.cell? ⟨g2, o2 + k * 7 + 1 + 2, none⟩ = some (.string sd) ∧ W.cell? ⟨g2, o2 + k * 7 + 1 + 3, none⟩ = some (.slice bd bm bz) ∧ W.cell? ⟨g2, o2 + k * 7 + 1 + 4, none⟩ = some (.slice fd fm fz) ∧ W.cell? ⟨g2, o2 + k * 7 + 1 + 5, none⟩ = some (.slice ld lm lz)) (first | go_keep | exact ⟨a4, b4, hnm, s0, s1, s2, s3, s4, s5, hnm2, r0, r1, r2, r3, r4, r5⟩) (fail)
    ·clear a4 b4 hnm s0 s1 s2 s3 s4 s5 hnm2 r0 r1 r2 r3 r4 r5
     go_wp2_with fail
     have HF1 : Hid (Boxed2 wr (#[Value.string nm, .int .i64 ka, .int .i64 na, .string sa, .slice ba' bl' bc', .slice fa' fl' fc', .slice la' ll' lc']) (#[Value.string nm2, .int .i64 kd, .int .i64 nd, .string sd, .slice bd bm bz, .slice fd fm fz, .slice ld lm lz]) 40 (((wr.alloc (.cells #[Value.string nm, .int .i64 ka, .int .i64 na, .string sa, .slice ba' bl' bc', .slice fa' fl' fc', .slice la' ll' lc'] 40)).alloc (.cells #[Value.string nm2, .int .i64 kd, .int .i64 nd, .string sd, .slice bd bm bz, .slice fd fm fz, .slice ld lm lz] 40)).drew)) := (Boxed2.refl _ _ _ _).step ((Below.refl _ _).drew)
     generalize hW1 : ((wr.alloc (.cells #[Value.string nm, .int .i64 ka, .int .i64 na, .string sa, .slice ba' bl' bc', .slice fa' fl' fc', .slice la' ll' lc'] 40)).alloc (.cells #[Value.string nm2, .int .i64 kd, .int .i64 nd, .string sd, .slice bd bm bz, .slice fd fm fz, .slice ld lm lz] 40)).drew = W1 at *
     clear hW1
     have f0 : W1.cell? ⟨wr.heap.size, 0, none⟩ = some (.string nm) := HF1.out.one 0
     have f1 : W1.cell? ⟨wr.heap.size, 1, none⟩ = some (.int .i64 ka) := HF1.out.one 1
     have f2 : W1.cell? ⟨wr.heap.size, 2, none⟩ = some (.int .i64 na) := HF1.out.one 2
     have f3 : W1.cell? ⟨wr.heap.size, 3, none⟩ = some (.string sa) := HF1.out.one 3
     have f4 : W1.cell? ⟨wr.heap.size, 4, none⟩ = some (.slice ba' bl' bc') := HF1.out.one 4
     have f5 : W1.cell? ⟨wr.heap.size, 5, none⟩ = some (.slice fa' fl' fc') := HF1.out.one 5
     have f6 : W1.cell? ⟨wr.heap.size, 6, none⟩ = some (.slice la' ll' lc') := HF1.out.one 6
     have g0 : W1.cell? ⟨wr.heap.size + 1, 0, none⟩ = some (.string nm2) := HF1.out.two 0
     have g1 : W1.cell? ⟨wr.heap.size + 1, 1, none⟩ = some (.int .i64 kd) := HF1.out.two 1
     have g2 : W1.cell? ⟨wr.heap.size + 1, 2, none⟩ = some (.int .i64 nd) := HF1.out.two 2
     have g3 : W1.cell? ⟨wr.heap.size + 1, 3, none⟩ = some (.string sd) := HF1.out.two 3
     have g4 : W1.cell? ⟨wr.heap.size + 1, 4, none⟩ = some (.slice bd bm bz) := HF1.out.two 4
     have g5 : W1.cell? ⟨wr.heap.size + 1, 5, none⟩ = some (.slice fd fm fz) := HF1.out.two 5
     have g6 : W1.cell? ⟨wr.heap.size + 1, 6, none⟩ = some (.slice ld lm lz) := HF1.out.two 6
     obtain ⟨hka0, hka1⟩ := HLA.out
     obtain ⟨hkd0, hkd1⟩ := HLD.out
     have HV1 := Lib.hid (VIn.keep HF1.out.below hV.out)
     have HV2 := Lib.hid (VIn.keep HF1.out.below hV2.out)
     have HBW : Hid (Below w.heap.size w W1) := HX.out.below.trans (HF1.out.below.mono (by have := HX.out.size; omega))
     have HS := Lib.hid (show Order.fld (Order.cmp h) (nm, z1) (nm2, z2) = if Order.sgn (Order.cls ka) (Order.cls kd) = 0 then (if Order.text nm nm2 = 0 then Order.cmp h z1 z2 else Order.text nm nm2) else Order.sgn (Order.cls ka) (Order.cls kd) by rw [HKA.out, HKD.out]; rfl)
     by_cases e1 : Order.sgn (Order.cls ka) (Order.cls kd) = 0
     ·by_cases e2 : Order.text nm nm2 = 0
      ·obtain ⟨r, hr⟩ : ∃ r, r = Order.cmp h z1 z2 := ⟨_, rfl⟩
       have HR := Lib.hid (show Order.fld (Order.cmp h) l[k] m[k] = r by rw [← HM1.out, ← HM2.out, HS.out, if_pos e1, if_pos e2, hr])
       have HC := Lib.hid (fun n => IH.out Q Q2 z1 z2 _ _ (W1.drewN n) (VIn.keep (below_dr (Below.refl _ _) n) HV1.out) (VIn.keep (below_dr (Below.refl _ _) n) HV2.out))
       rw [← hr] at HC
       clear hr
       have he1 : (Order.sgn (Order.cls ka) (Order.cls kd) == 0) = true := by rw [e1]; rfl
       have he2 : (Order.text nm nm2 == 0) = true := by rw [e2]; rfl
       clear e1 e2
       go_quiet (first | (go_at_call 35; exact Calls.quiet_of_same (refClass_q _ _ (by omega))) | (go_at_call 34; exact Calls.quiet_of_same (sign_q _ _ _)))
       by_cases e : r = 0
       ·have HL := Lib.hid (HT.out.next hk1 hk3 (HR.out.trans e))
        subst e
        go_wp2_with (first | (go_at_call 36; refine (refText_any _ _ _ (by omega) (by omega)).mono ?_; rintro e w' ⟨rfl, qn, rfl⟩) | (go_at_call 14; refine (HC.out _).mono ?_; rintro e w2 ⟨rfl, hb2⟩))
        have HX2 := Lib.hid (HX.out.step ((HF1.out.below.trans ((below_dr (Below.refl _ _) _).mono HF1.out.below.size)).trans (hb2.mono HF1.out.below.size)))
        clear hb2
        go_roundw
        case rel => exact ⟨k + 1, by go_num, by omega, by omega, HL, HX2⟩
        case measure => simp [intOf]; omega
       ·have HL := Lib.hid (HT.out.here hk1 hk3 (fun x => e (HR.out.symm.trans x)))
        have hb : (r != 0) = true := by rw [bne_iff_ne]; exact e
        clear e
        go_wp2_with (first | (go_at_call 36; refine (refText_any _ _ _ (by omega) (by omega)).mono ?_; rintro e w' ⟨rfl, qn, rfl⟩) | (go_at_call 14; refine (HC.out _).mono ?_; rintro e w2 ⟨rfl, hb2⟩))
        go_ret
        exact ⟨ret_i (HL.out.trans HR.out).symm, (below_dr HBW.out _).trans (hb2.mono (below_dr HBW.out _).size)⟩
      ·have HR := Lib.hid (show Order.fld (Order.cmp h) l[k] m[k] = Order.text nm nm2 by rw [← HM1.out, ← HM2.out, HS.out, if_pos e1, if_neg e2])
       have HL := Lib.hid (HT.out.here hk1 hk3 (fun x => e2 (HR.out.symm.trans x)))
       have he1 : (Order.sgn (Order.cls ka) (Order.cls kd) == 0) = true := by rw [e1]; rfl
       have he2 : (Order.text nm nm2 == 0) = false := by rw [beq_eq_false_iff_ne]; exact e2
       have he3 : (Order.text nm nm2 != 0) = true := by rw [bne_iff_ne]; exact e2
       clear e1 e2
       go_quiet (first | (go_at_call 35; exact Calls.quiet_of_same (refClass_q _ _ (by omega))) | (go_at_call 34; exact Calls.quiet_of_same (sign_q _ _ _)))
       go_wp2_with (go_at_call 36; refine (refText_any _ _ _ (by omega) (by omega)).mono ?_; rintro e w' ⟨rfl, qn, rfl⟩)
       go_ret
       exact ⟨ret_i (HL.out.trans HR.out).symm, below_dr HBW.out _⟩
     ·have HR := Lib.hid (show Order.fld (Order.cmp h) l[k] m[k] = Order.sgn (Order.cls ka) (Order.cls kd) by rw [← HM1.out, ← HM2.out, HS.out, if_neg e1])
      have HL := Lib.hid (HT.out.here hk1 hk3 (fun x => e1 (HR.out.symm.trans x)))
      have he1 : (Order.sgn (Order.cls ka) (Order.cls kd) == 0) = false := by rw [beq_eq_false_iff_ne]; exact e1
      have he2 : (Order.sgn (Order.cls ka) (Order.cls kd) != 0) = true := by rw [bne_iff_ne]; exact e1
      clear e1
      go_quiet (first | (go_at_call 35; exact Calls.quiet_of_same (refClass_q _ _ (by omega))) | (go_at_call 34; exact Calls.quiet_of_same (sign_q _ _ _)))
      go_wp2_with fail
      go_ret
      exact ⟨ret_i (HL.out.trans HR.out).symm, below_dr HBW.out _⟩
    ·clear a4 b4 hnm s0 s1 s2 s3 s4 s5 hnm2 r0 r1 r2 r3 r4 r5
     go_wp2_with fail
     have HF1 : Hid (Boxed2 wr (#[Value.string nm2, .int .i64 kd, .int .i64 nd, .string sd, .slice bd bm bz, .slice fd fm fz, .slice ld lm lz]) (#[Value.string nm, .int .i64 ka, .int .i64 na, .string sa, .slice ba' bl' bc', .slice fa' fl' fc', .slice la' ll' lc']) 40 (((wr.alloc (.cells #[Value.string nm2, .int .i64 kd, .int .i64 nd, .string sd, .slice bd bm bz, .slice fd fm fz, .slice ld lm lz] 40)).alloc (.cells #[Value.string nm, .int .i64 ka, .int .i64 na, .string sa, .slice ba' bl' bc', .slice fa' fl' fc', .slice la' ll' lc'] 40)).drew)) := (Boxed2.refl _ _ _ _).step ((Below.refl _ _).drew)
     generalize hW1 : ((wr.alloc (.cells #[Value.string nm2, .int .i64 kd, .int .i64 nd, .string sd, .slice bd bm bz, .slice fd fm fz, .slice ld lm lz] 40)).alloc (.cells #[Value.string nm, .int .i64 ka, .int .i64 na, .string sa, .slice ba' bl' bc', .slice fa' fl' fc', .slice la' ll' lc'] 40)).drew = W1 at *
     clear hW1
     have f0 : W1.cell? ⟨wr.heap.size + 1, 0, none⟩ = some (.string nm) := HF1.out.two 0
     have f1 : W1.cell? ⟨wr.heap.size + 1, 1, none⟩ = some (.int .i64 ka) := HF1.out.two 1
     have f2 : W1.cell? ⟨wr.heap.size + 1, 2, none⟩ = some (.int .i64 na) := HF1.out.two 2
     have f3 : W1.cell? ⟨wr.heap.size + 1, 3, none⟩ = some (.string sa) := HF1.out.two 3
     have f4 : W1.cell? ⟨wr.heap.size + 1, 4, none⟩ = some (.slice ba' bl' bc') := HF1.out.two 4
     have f5 : W1.cell? ⟨wr.heap.size + 1, 5, none⟩ = some (.slice fa' fl' fc') := HF1.out.two 5
     have f6 : W1.cell? ⟨wr.heap.size + 1, 6, none⟩ = some (.slice la' ll' lc') := HF1.out.two 6
     have g0 : W1.cell? ⟨wr.heap.size, 0, none⟩ = some (.string nm2) := HF1.out.one 0
     have g1 : W1.cell? ⟨wr.heap.size, 1, none⟩ = some (.int .i64 kd) := HF1.out.one 1
     have g2 : W1.cell? ⟨wr.heap.size, 2, none⟩ = some (.int .i64 nd) := HF1.out.one 2
     have g3 : W1.cell? ⟨wr.heap.size, 3, none⟩ = some (.string sd) := HF1.out.one 3
     have g4 : W1.cell? ⟨wr.heap.size, 4, none⟩ = some (.slice bd bm bz) := HF1.out.one 4
     have g5 : W1.cell? ⟨wr.heap.size, 5, none⟩ = some (.slice fd fm fz) := HF1.out.one 5
     have g6 : W1.cell? ⟨wr.heap.size, 6, none⟩ = some (.slice ld lm lz) := HF1.out.one 6
     obtain ⟨hka0, hka1⟩ := HLA.out
     obtain ⟨hkd0, hkd1⟩ := HLD.out
     have HV1 := Lib.hid (VIn.keep HF1.out.below hV.out)
     have HV2 := Lib.hid (VIn.keep HF1.out.below hV2.out)
     have HBW : Hid (Below w.heap.size w W1) := HX.out.below.trans (HF1.out.below.mono (by have := HX.out.size; omega))
     have HS := Lib.hid (show Order.fld (Order.cmp h) (nm, z1) (nm2, z2) = if Order.sgn (Order.cls ka) (Order.cls kd) = 0 then (if Order.text nm nm2 = 0 then Order.cmp h z1 z2 else Order.text nm nm2) else Order.sgn (Order.cls ka) (Order.cls kd) by rw [HKA.out, HKD.out]; rfl)
     by_cases e1 : Order.sgn (Order.cls ka) (Order.cls kd) = 0
     ·by_cases e2 : Order.text nm nm2 = 0
      ·obtain ⟨r, hr⟩ : ∃ r, r = Order.cmp h z1 z2 := ⟨_, rfl⟩
       have HR := Lib.hid (show Order.fld (Order.cmp h) l[k] m[k] = r by rw [← HM1.out, ← HM2.out, HS.out, if_pos e1, if_pos e2, hr])
       have HC := Lib.hid (fun n => IH.out Q Q2 z1 z2 _ _ (W1.drewN n) (VIn.keep (below_dr (Below.refl _ _) n) HV1.out) (VIn.keep (below_dr (Below.refl _ _) n) HV2.out))
       rw [← hr] at HC
       clear hr
       have he1 : (Order.sgn (Order.cls ka) (Order.cls kd) == 0) = true := by rw [e1]; rfl
       have he2 : (Order.text nm nm2 == 0) = true := by rw [e2]; rfl
       clear e1 e2
       go_quiet (first | (go_at_call 35; exact Calls.quiet_of_same (refClass_q _ _ (by omega))) | (go_at_call 34; exact Calls.quiet_of_same (sign_q _ _ _)))
       by_cases e : r = 0
       ·have HL := Lib.hid (HT.out.next hk1 hk3 (HR.out.trans e))
        subst e
        go_wp2_with (first | (go_at_call 36; refine (refText_any _ _ _ (by omega) (by omega)).mono ?_; rintro e w' ⟨rfl, qn, rfl⟩) | (go_at_call 14; refine (HC.out _).mono ?_; rintro e w2 ⟨rfl, hb2⟩))
        have HX2 := Lib.hid (HX.out.step ((HF1.out.below.trans ((below_dr (Below.refl _ _) _).mono HF1.out.below.size)).trans (hb2.mono HF1.out.below.size)))
        clear hb2
        go_roundw
        case rel => exact ⟨k + 1, by go_num, by omega, by omega, HL, HX2⟩
        case measure => simp [intOf]; omega
       ·have HL := Lib.hid (HT.out.here hk1 hk3 (fun x => e (HR.out.symm.trans x)))
        have hb : (r != 0) = true := by rw [bne_iff_ne]; exact e
        clear e
        go_wp2_with (first | (go_at_call 36; refine (refText_any _ _ _ (by omega) (by omega)).mono ?_; rintro e w' ⟨rfl, qn, rfl⟩) | (go_at_call 14; refine (HC.out _).mono ?_; rintro e w2 ⟨rfl, hb2⟩))
        go_ret
        exact ⟨ret_i (HL.out.trans HR.out).symm, (below_dr HBW.out _).trans (hb2.mono (below_dr HBW.out _).size)⟩
      ·have HR := Lib.hid (show Order.fld (Order.cmp h) l[k] m[k] = Order.text nm nm2 by rw [← HM1.out, ← HM2.out, HS.out, if_pos e1, if_neg e2])
       have HL := Lib.hid (HT.out.here hk1 hk3 (fun x => e2 (HR.out.symm.trans x)))
       have he1 : (Order.sgn (Order.cls ka) (Order.cls kd) == 0) = true := by rw [e1]; rfl
       have he2 : (Order.text nm nm2 == 0) = false := by rw [beq_eq_false_iff_ne]; exact e2
       have he3 : (Order.text nm nm2 != 0) = true := by rw [bne_iff_ne]; exact e2
       clear e1 e2
       go_quiet (first | (go_at_call 35; exact Calls.quiet_of_same (refClass_q _ _ (by omega))) | (go_at_call 34; exact Calls.quiet_of_same (sign_q _ _ _)))
       go_wp2_with (go_at_call 36; refine (refText_any _ _ _ (by omega) (by omega)).mono ?_; rintro e w' ⟨rfl, qn, rfl⟩)
       go_ret
       exact ⟨ret_i (HL.out.trans HR.out).symm, below_dr HBW.out _⟩
     ·have HR := Lib.hid (show Order.fld (Order.cmp h) l[k] m[k] = Order.sgn (Order.cls ka) (Order.cls kd) by rw [← HM1.out, ← HM2.out, HS.out, if_neg e1])
      have HL := Lib.hid (HT.out.here hk1 hk3 (fun x => e1 (HR.out.symm.trans x)))
      have he1 : (Order.sgn (Order.cls ka) (Order.cls kd) == 0) = false := by rw [beq_eq_false_iff_ne]; exact e1
      have he2 : (Order.sgn (Order.cls ka) (Order.cls kd) != 0) = true := by rw [bne_iff_ne]; exact e1
      clear e1
      go_quiet (first | (go_at_call 35; exact Calls.quiet_of_same (refClass_q _ _ (by omega))) | (go_at_call 34; exact Calls.quiet_of_same (sign_q _ _ _)))
      go_wp2_with fail
      go_ret
      exact ⟨ret_i (HL.out.trans HR.out).symm, below_dr HBW.out _⟩
   ·have HL := Lib.hid (HT.out.last (by have := HN.out; omega) (by have := HM.out; omega) (by have := HM.out; omega))
    have HE := Lib.hid (show Order.lex (Order.fld (Order.cmp h)) l m = Order.sgn (fn : Int) (fn2 : Int) by rw [HL.out, HN.out, HM.out])
    go_wp2_with (go_at_call 34; refine (sign_any _ _ _).mono ?_; rintro e w' ⟨rfl, rfl⟩)
    go_ret
    exact ⟨ret_i HE.out.symm, HX.out.below⟩
  ·have HL := Lib.hid (HT.out.last (by have := HN.out; omega) (by have := HM.out; omega) (by have := HN.out; omega))
   have HE := Lib.hid (show Order.lex (Order.fld (Order.cmp h)) l m = Order.sgn (fn : Int) (fn2 : Int) by rw [HL.out, HN.out, HM.out])
   go_wp2_with (go_at_call 34; refine (sign_any _ _ _).mono ?_; rintro e w' ⟨rfl, rfl⟩)
   go_ret
   exact ⟨ret_i HE.out.symm, HX.out.below⟩
end Go.Proofs.YtiajjgehnmkokaaGreatDoor
end
