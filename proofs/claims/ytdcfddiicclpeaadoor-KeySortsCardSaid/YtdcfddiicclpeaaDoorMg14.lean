/- RefCmpD, KeyAwake. -/
import Derived.Test.YtdcfddiicclpeaaDoorMg13
import Derived.Test.YtdcfddiicclpeaaDoorMg11
import Derived.Test.YtdcfddiicclpeaaDoorMg7
import Derived.Test.YtdcfddiicclpeaaDoorMg3
import Derived.Test.YtdcfddiicclpeaaDoorMg9
set_option maxRecDepth 100000
section
namespace Go.Proofs.YtdcfddiicclpeaaDoor
open Go.RowKit
open Seal
open Bson (Val)
open Go.Sort
set_option maxRecDepth 100000 in
set_option maxHeartbeats 20000000 in
theorem refCmp_doc (h : Nat) (IH0 : RefCmpAt h) (Q Q2 : Nat → Prop) (xk xn yk yn : Int) (xs ys : ByteArray) (ba fa la ba2 fa2 la2 : Option Addr) (bn bc fn fc ln lc bn2 bc2 fn2 fc2 ln2 lc2 : Nat) (w : World) (hk : -9223372036854775808 ≤ xk ∧ xk ≤ 9223372036854775807) (hk2 : -9223372036854775808 ≤ yk ∧ yk ≤ 9223372036854775807) (hx : xk = 6) (e : Order.cls xk = Order.cls yk) (l m : List (ByteArray × Val)) (hn : l.length = fn) (hm : m.length = fn2) (hnb : fn ≤ 1172812402961) (hmb : fn2 ≤ 1172812402961) (hI : FieldsIn w Q (VIn w Q h) fa l) (hJ : FieldsIn w Q2 (VIn w Q2 h) fa2 m) :
    Calls Tryd.prog 46 #[.agg #[Value.int .i64 xk, .int .i64 xn, .string xs, .slice ba bn bc, .slice fa fn fc, .slice la ln lc], .agg #[Value.int .i64 yk, .int .i64 yn, .string ys, .slice ba2 bn2 bc2, .slice fa2 fn2 fc2, .slice la2 ln2 lc2]] w (CmpPost (Order.lex (Order.fld (Order.cmp h)) l m) w) := by
  have he : Order.sgn (Order.cls xk) (Order.cls yk) = 0 := Order.sgn_zero.2 e
  have hb : (Order.sgn (Order.cls xk) (Order.cls yk) != 0) = false := by rw [he]; rfl
  obtain ⟨hk0, hk1⟩ := hk
  obtain ⟨hk20, hk21⟩ := hk2
  have HB : Hid (Below w.heap.size w ((w.alloc (.cells #[Value.int .i64 xk, .int .i64 xn, .string xs, .slice ba bn bc, .slice fa fn fc, .slice la ln lc] 26)).alloc (.cells #[Value.int .i64 yk, .int .i64 yn, .string ys, .slice ba2 bn2 bc2, .slice fa2 fn2 fc2, .slice la2 ln2 lc2] 26))) := ((Below.refl _ w).alloc (Nat.le_refl _) _).alloc (by simp) _
  clear e
  subst hx
  have IH := Lib.hid IH0
  have HI := Lib.hid hI
  have HJ := Lib.hid hJ
  have HN := Lib.hid hn
  have HM := Lib.hid hm
  clear hI hJ IH0 hn hm
  go_enter Tryd.func46, Tryd.ntmps46
  go_wp2_with fail
  go_quiet (first | (go_at_call 65; exact Calls.quiet_of_same (refClass_q _ _ (by omega))) | (go_at_call 64; exact Calls.quiet_of_same (sign_q _ _ _)))
  go_wp2_with fail
  have HX0 : Hid (Boxed2 w #[Value.int .i64 6, .int .i64 xn, .string xs, .slice ba bn bc, .slice fa fn fc, .slice la ln lc] #[Value.int .i64 yk, .int .i64 yn, .string ys, .slice ba2 bn2 bc2, .slice fa2 fn2 fc2, .slice la2 ln2 lc2] 26 (((w.alloc (.cells #[Value.int .i64 6, .int .i64 xn, .string xs, .slice ba bn bc, .slice fa fn fc, .slice la ln lc] 26)).alloc (.cells #[Value.int .i64 yk, .int .i64 yn, .string ys, .slice ba2 bn2 bc2, .slice fa2 fn2 fc2, .slice la2 ln2 lc2] 26)).drewN nq)) := (Boxed2.refl _ _ _ _).step (below_dr (Below.refl _ _) _)
  generalize hW : (((w.alloc (.cells #[Value.int .i64 6, .int .i64 xn, .string xs, .slice ba bn bc, .slice fa fn fc, .slice la ln lc] 26)).alloc (.cells #[Value.int .i64 yk, .int .i64 yn, .string ys, .slice ba2 bn2 bc2, .slice fa2 fn2 fc2, .slice la2 ln2 lc2] 26))).drewN nq = W0 at *
  clear hW he hb
  go_loopw [6] (fun i wr => ∃ k : Nat, i = .int .i64 k ∧ k ≤ fn ∧ k ≤ fn2 ∧ Hid (LexGo (Order.fld (Order.cmp h)) l m k) ∧ Hid (Boxed2 w #[Value.int .i64 6, .int .i64 xn, .string xs, .slice ba bn bc, .slice fa fn fc, .slice la ln lc] #[Value.int .i64 yk, .int .i64 yn, .string ys, .slice ba2 bn2 bc2, .slice fa2 fn2 fc2, .slice la2 ln2 lc2] 26 wr)) (fun i _ => fn - (intOf i).toNat)
  case atStart => exact ⟨0, rfl, Nat.zero_le _, Nat.zero_le _, rfl, HX0⟩
  case round =>
    obtain ⟨k, rfl, hk, hk2, HT, HX⟩ := hrel
    have a4 : wr.cell? ⟨w.heap.size, 4, none⟩ = some (.slice fa fn fc) := HX.out.one 4
    have b4 : wr.cell? ⟨w.heap.size + 1, 4, none⟩ = some (.slice fa2 fn2 fc2) := HX.out.two 4
    by_cases hlt : k < fn
    · by_cases hlt2 : k < fn2
      · have hk1 : k < l.length := by have := HN.out; omega
        have hk3 : k < m.length := by have := HM.out; omega
        obtain ⟨g, o, hla, _, hall⟩ := HI.out.resolve_left (fun e => by rw [e] at hk1; simp at hk1)
        obtain ⟨g2, o2, hla2, _, hall2⟩ := HJ.out.resolve_left (fun e => by rw [e] at hk3; simp at hk3)
        obtain ⟨hnm, hns, v1, hsix, hV⟩ := hall k hk1
        obtain ⟨hnm2, hns2, v2, hsix2, hV2⟩ := hall2 k hk3
        subst hla hla2
        obtain ⟨ka, na, sa, ba', fa', la', bl', bc', fl', fc', ll', lc', rfl⟩ := hV.shape
        obtain ⟨kd, nd, sd, bd, fd, ld, bm, bz, fm, fz, lm, lz, rfl⟩ := hV2.shape
        have HKA := Lib.hid hV.kind_is
        have HKD := Lib.hid hV2.kind_is
        have HLA := Lib.hid hV.kind_bd
        have HLD := Lib.hid hV2.kind_bd
        have hV := Lib.hid (VIn.keep HX.out.below hV)
        have hV2 := Lib.hid (VIn.keep HX.out.below hV2)
        obtain ⟨s0, s1, s2, s3, s4, s5⟩ := (hsix.keep HX.out.below).cells
        obtain ⟨r0, r1, r2, r3, r4, r5⟩ := (hsix2.keep HX.out.below).cells
        have hnm := cell_keep HX.out.below hnm
        have hnm2 := cell_keep HX.out.below hnm2
        obtain ⟨m1, hm1⟩ : ∃ z, z = l[k] := ⟨_, rfl⟩
        obtain ⟨m2, hm2⟩ : ∃ z, z = m[k] := ⟨_, rfl⟩
        rw [← hm1] at hnm hV hns HKA
        rw [← hm2] at hnm2 hV2 hns2 HKD
        have HM1 := Lib.hid hm1; have HM2 := Lib.hid hm2
        obtain ⟨nm, z1⟩ := m1
        obtain ⟨nm2, z2⟩ := m2
        simp only at hnm hnm2 hV hV2 hns hns2 HKA HKD
        clear hall hall2 hm1 hm2 hsix hsix2
        go_wp2_with fail
        go_region_held3 (fun W => W.cell? ⟨w.heap.size, 4, none⟩ = some (.slice (some ⟨g, o, none⟩) fn fc) ∧ W.cell? ⟨w.heap.size + 1, 4, none⟩ = some (.slice (some ⟨g2, o2, none⟩) fn2 fc2) ∧ W.cell? ⟨g, o + k * 7, none⟩ = some (.string nm) ∧ W.cell? ⟨g, o + k * 7 + 1, none⟩ = some (.int .i64 ka) ∧ W.cell? ⟨g, o + k * 7 + 1 + 1, none⟩ = some (.int .i64 na) ∧ W.cell? ⟨g, o + k * 7 + 1 + 2, none⟩ = some (.string sa) ∧ W.cell? ⟨g, o + k * 7 + 1 + 3, none⟩ = some (.slice ba' bl' bc') ∧ W.cell? ⟨g, o + k * 7 + 1 + 4, none⟩ = some (.slice fa' fl' fc') ∧ W.cell? ⟨g, o + k * 7 + 1 + 5, none⟩ = some (.slice la' ll' lc') ∧ W.cell? ⟨g2, o2 + k * 7, none⟩ = some (.string nm2) ∧ W.cell? ⟨g2, o2 + k * 7 + 1, none⟩ = some (.int .i64 kd) ∧ W.cell? ⟨g2, o2 + k * 7 + 1 + 1, none⟩ = some (.int .i64 nd) ∧ W.cell? ⟨g2, o2 + k * 7 + 1 + 2, none⟩ = some (.string sd) ∧ W.cell? ⟨g2, o2 + k * 7 + 1 + 3, none⟩ = some (.slice bd bm bz) ∧ W.cell? ⟨g2, o2 + k * 7 + 1 + 4, none⟩ = some (.slice fd fm fz) ∧ W.cell? ⟨g2, o2 + k * 7 + 1 + 5, none⟩ = some (.slice ld lm lz)) (first | go_keep | exact ⟨a4, b4, hnm, s0, s1, s2, s3, s4, s5, hnm2, r0, r1, r2, r3, r4, r5⟩) (fail)
        · clear a4 b4 hnm s0 s1 s2 s3 s4 s5 hnm2 r0 r1 r2 r3 r4 r5
          go_wp2_with fail
          have HF1 : Hid (Boxed2 wr (#[Value.string nm, .int .i64 ka, .int .i64 na, .string sa, .slice ba' bl' bc', .slice fa' fl' fc', .slice la' ll' lc']) (#[Value.string nm2, .int .i64 kd, .int .i64 nd, .string sd, .slice bd bm bz, .slice fd fm fz, .slice ld lm lz]) 40 (((wr.alloc (.cells #[Value.string nm, .int .i64 ka, .int .i64 na, .string sa, .slice ba' bl' bc', .slice fa' fl' fc', .slice la' ll' lc'] 40)).alloc (.cells #[Value.string nm2, .int .i64 kd, .int .i64 nd, .string sd, .slice bd bm bz, .slice fd fm fz, .slice ld lm lz] 40)).drew)) := (Boxed2.refl _ _ _ _).step ((Below.refl _ _).drew)
          generalize hW1 : ((wr.alloc (.cells #[Value.string nm, .int .i64 ka, .int .i64 na, .string sa, .slice ba' bl' bc', .slice fa' fl' fc', .slice la' ll' lc'] 40)).alloc (.cells #[Value.string nm2, .int .i64 kd, .int .i64 nd, .string sd, .slice bd bm bz, .slice fd fm fz, .slice ld lm lz] 40)).drew = W1 at *
          clear hW1
          have f0 : W1.cell? ⟨wr.heap.size, 0, none⟩ = some (.string nm) := HF1.out.one 0
          have f1 : W1.cell? ⟨wr.heap.size, 1, none⟩ = some (.int .i64 ka) := HF1.out.one 1
          have f2 : W1.cell? ⟨wr.heap.size, 2, none⟩ = some (.int .i64 na) := HF1.out.one 2
          have f3 : W1.cell? ⟨wr.heap.size, 3, none⟩ = some (.string sa) := HF1.out.one 3
          have f4 : W1.cell? ⟨wr.heap.size, 4, none⟩ = some (.slice ba' bl' bc') := HF1.out.one 4
          have f5 : W1.cell? ⟨wr.heap.size, 5, none⟩ = some (.slice fa' fl' fc') := HF1.out.one 5
          have f6 : W1.cell? ⟨wr.heap.size, 6, none⟩ = some (.slice la' ll' lc') := HF1.out.one 6
          have g0 : W1.cell? ⟨wr.heap.size + 1, 0, none⟩ = some (.string nm2) := HF1.out.two 0
          have g1 : W1.cell? ⟨wr.heap.size + 1, 1, none⟩ = some (.int .i64 kd) := HF1.out.two 1
          have g2 : W1.cell? ⟨wr.heap.size + 1, 2, none⟩ = some (.int .i64 nd) := HF1.out.two 2
          have g3 : W1.cell? ⟨wr.heap.size + 1, 3, none⟩ = some (.string sd) := HF1.out.two 3
          have g4 : W1.cell? ⟨wr.heap.size + 1, 4, none⟩ = some (.slice bd bm bz) := HF1.out.two 4
          have g5 : W1.cell? ⟨wr.heap.size + 1, 5, none⟩ = some (.slice fd fm fz) := HF1.out.two 5
          have g6 : W1.cell? ⟨wr.heap.size + 1, 6, none⟩ = some (.slice ld lm lz) := HF1.out.two 6
          obtain ⟨hka0, hka1⟩ := HLA.out
          obtain ⟨hkd0, hkd1⟩ := HLD.out
          have HV1 := Lib.hid (VIn.keep HF1.out.below hV.out)
          have HV2 := Lib.hid (VIn.keep HF1.out.below hV2.out)
          have HBW : Hid (Below w.heap.size w W1) := HX.out.below.trans (HF1.out.below.mono (by have := HX.out.size; omega))
          have HS := Lib.hid (show Order.fld (Order.cmp h) (nm, z1) (nm2, z2) = if Order.sgn (Order.cls ka) (Order.cls kd) = 0 then (if Order.text nm nm2 = 0 then Order.cmp h z1 z2 else Order.text nm nm2) else Order.sgn (Order.cls ka) (Order.cls kd) by rw [HKA.out, HKD.out]; rfl)
          by_cases e1 : Order.sgn (Order.cls ka) (Order.cls kd) = 0
          · by_cases e2 : Order.text nm nm2 = 0
            · obtain ⟨r, hr⟩ : ∃ r, r = Order.cmp h z1 z2 := ⟨_, rfl⟩
              have HR := Lib.hid (show Order.fld (Order.cmp h) l[k] m[k] = r by rw [← HM1.out, ← HM2.out, HS.out, if_pos e1, if_pos e2, hr])
              have HC := Lib.hid (fun n => IH.out Q Q2 z1 z2 _ _ (W1.drewN n) (VIn.keep (below_dr (Below.refl _ _) n) HV1.out) (VIn.keep (below_dr (Below.refl _ _) n) HV2.out))
              rw [← hr] at HC
              clear hr
              have he1 : (Order.sgn (Order.cls ka) (Order.cls kd) == 0) = true := by rw [e1]; rfl
              have he2 : (Order.text nm nm2 == 0) = true := by rw [e2]; rfl
              clear e1 e2
              go_quiet (first | (go_at_call 65; exact Calls.quiet_of_same (refClass_q _ _ (by omega))) | (go_at_call 64; exact Calls.quiet_of_same (sign_q _ _ _)))
              by_cases e : r = 0
              · have HL := Lib.hid (HT.out.next hk1 hk3 (HR.out.trans e))
                subst e
                go_wp2_with (first | (go_at_call 66; refine (refText_any _ _ _ (by omega) (by omega)).mono ?_; rintro e w' ⟨rfl, qn, rfl⟩) | (go_at_call 46; refine (HC.out _).mono ?_; rintro e w2 ⟨rfl, hb2⟩))
                have HX2 := Lib.hid (HX.out.step ((HF1.out.below.trans ((below_dr (Below.refl _ _) _).mono HF1.out.below.size)).trans (hb2.mono HF1.out.below.size)))
                clear hb2
                go_roundw
                case rel => exact ⟨k + 1, by go_num, by omega, by omega, HL, HX2⟩
                case measure => simp [intOf]; omega
              · have HL := Lib.hid (HT.out.here hk1 hk3 (fun x => e (HR.out.symm.trans x)))
                have hb : (r != 0) = true := by rw [bne_iff_ne]; exact e
                clear e
                go_wp2_with (first | (go_at_call 66; refine (refText_any _ _ _ (by omega) (by omega)).mono ?_; rintro e w' ⟨rfl, qn, rfl⟩) | (go_at_call 46; refine (HC.out _).mono ?_; rintro e w2 ⟨rfl, hb2⟩))
                go_ret
                exact ⟨ret_i (HL.out.trans HR.out).symm, (below_dr HBW.out _).trans (hb2.mono (below_dr HBW.out _).size)⟩
            · have HR := Lib.hid (show Order.fld (Order.cmp h) l[k] m[k] = Order.text nm nm2 by rw [← HM1.out, ← HM2.out, HS.out, if_pos e1, if_neg e2])
              have HL := Lib.hid (HT.out.here hk1 hk3 (fun x => e2 (HR.out.symm.trans x)))
              have he1 : (Order.sgn (Order.cls ka) (Order.cls kd) == 0) = true := by rw [e1]; rfl
              have he2 : (Order.text nm nm2 == 0) = false := by rw [beq_eq_false_iff_ne]; exact e2
              have he3 : (Order.text nm nm2 != 0) = true := by rw [bne_iff_ne]; exact e2
              clear e1 e2
              go_quiet (first | (go_at_call 65; exact Calls.quiet_of_same (refClass_q _ _ (by omega))) | (go_at_call 64; exact Calls.quiet_of_same (sign_q _ _ _)))
              go_wp2_with (go_at_call 66; refine (refText_any _ _ _ (by omega) (by omega)).mono ?_; rintro e w' ⟨rfl, qn, rfl⟩)
              go_ret
              exact ⟨ret_i (HL.out.trans HR.out).symm, below_dr HBW.out _⟩
          · have HR := Lib.hid (show Order.fld (Order.cmp h) l[k] m[k] = Order.sgn (Order.cls ka) (Order.cls kd) by rw [← HM1.out, ← HM2.out, HS.out, if_neg e1])
            have HL := Lib.hid (HT.out.here hk1 hk3 (fun x => e1 (HR.out.symm.trans x)))
            have he1 : (Order.sgn (Order.cls ka) (Order.cls kd) == 0) = false := by rw [beq_eq_false_iff_ne]; exact e1
            have he2 : (Order.sgn (Order.cls ka) (Order.cls kd) != 0) = true := by rw [bne_iff_ne]; exact e1
            clear e1
            go_quiet (first | (go_at_call 65; exact Calls.quiet_of_same (refClass_q _ _ (by omega))) | (go_at_call 64; exact Calls.quiet_of_same (sign_q _ _ _)))
            go_wp2_with fail
            go_ret
            exact ⟨ret_i (HL.out.trans HR.out).symm, below_dr HBW.out _⟩
        · clear a4 b4 hnm s0 s1 s2 s3 s4 s5 hnm2 r0 r1 r2 r3 r4 r5
          go_wp2_with fail
          have HF1 : Hid (Boxed2 wr (#[Value.string nm2, .int .i64 kd, .int .i64 nd, .string sd, .slice bd bm bz, .slice fd fm fz, .slice ld lm lz]) (#[Value.string nm, .int .i64 ka, .int .i64 na, .string sa, .slice ba' bl' bc', .slice fa' fl' fc', .slice la' ll' lc']) 40 (((wr.alloc (.cells #[Value.string nm2, .int .i64 kd, .int .i64 nd, .string sd, .slice bd bm bz, .slice fd fm fz, .slice ld lm lz] 40)).alloc (.cells #[Value.string nm, .int .i64 ka, .int .i64 na, .string sa, .slice ba' bl' bc', .slice fa' fl' fc', .slice la' ll' lc'] 40)).drew)) := (Boxed2.refl _ _ _ _).step ((Below.refl _ _).drew)
          generalize hW1 : ((wr.alloc (.cells #[Value.string nm2, .int .i64 kd, .int .i64 nd, .string sd, .slice bd bm bz, .slice fd fm fz, .slice ld lm lz] 40)).alloc (.cells #[Value.string nm, .int .i64 ka, .int .i64 na, .string sa, .slice ba' bl' bc', .slice fa' fl' fc', .slice la' ll' lc'] 40)).drew = W1 at *
          clear hW1
          have f0 : W1.cell? ⟨wr.heap.size + 1, 0, none⟩ = some (.string nm) := HF1.out.two 0
          have f1 : W1.cell? ⟨wr.heap.size + 1, 1, none⟩ = some (.int .i64 ka) := HF1.out.two 1
          have f2 : W1.cell? ⟨wr.heap.size + 1, 2, none⟩ = some (.int .i64 na) := HF1.out.two 2
          have f3 : W1.cell? ⟨wr.heap.size + 1, 3, none⟩ = some (.string sa) := HF1.out.two 3
          have f4 : W1.cell? ⟨wr.heap.size + 1, 4, none⟩ = some (.slice ba' bl' bc') := HF1.out.two 4
          have f5 : W1.cell? ⟨wr.heap.size + 1, 5, none⟩ = some (.slice fa' fl' fc') := HF1.out.two 5
          have f6 : W1.cell? ⟨wr.heap.size + 1, 6, none⟩ = some (.slice la' ll' lc') := HF1.out.two 6
          have g0 : W1.cell? ⟨wr.heap.size, 0, none⟩ = some (.string nm2) := HF1.out.one 0
          have g1 : W1.cell? ⟨wr.heap.size, 1, none⟩ = some (.int .i64 kd) := HF1.out.one 1
          have g2 : W1.cell? ⟨wr.heap.size, 2, none⟩ = some (.int .i64 nd) := HF1.out.one 2
          have g3 : W1.cell? ⟨wr.heap.size, 3, none⟩ = some (.string sd) := HF1.out.one 3
          have g4 : W1.cell? ⟨wr.heap.size, 4, none⟩ = some (.slice bd bm bz) := HF1.out.one 4
          have g5 : W1.cell? ⟨wr.heap.size, 5, none⟩ = some (.slice fd fm fz) := HF1.out.one 5
          have g6 : W1.cell? ⟨wr.heap.size, 6, none⟩ = some (.slice ld lm lz) := HF1.out.one 6
          obtain ⟨hka0, hka1⟩ := HLA.out
          obtain ⟨hkd0, hkd1⟩ := HLD.out
          have HV1 := Lib.hid (VIn.keep HF1.out.below hV.out)
          have HV2 := Lib.hid (VIn.keep HF1.out.below hV2.out)
          have HBW : Hid (Below w.heap.size w W1) := HX.out.below.trans (HF1.out.below.mono (by have := HX.out.size; omega))
          have HS := Lib.hid (show Order.fld (Order.cmp h) (nm, z1) (nm2, z2) = if Order.sgn (Order.cls ka) (Order.cls kd) = 0 then (if Order.text nm nm2 = 0 then Order.cmp h z1 z2 else Order.text nm nm2) else Order.sgn (Order.cls ka) (Order.cls kd) by rw [HKA.out, HKD.out]; rfl)
          by_cases e1 : Order.sgn (Order.cls ka) (Order.cls kd) = 0
          · by_cases e2 : Order.text nm nm2 = 0
            · obtain ⟨r, hr⟩ : ∃ r, r = Order.cmp h z1 z2 := ⟨_, rfl⟩
              have HR := Lib.hid (show Order.fld (Order.cmp h) l[k] m[k] = r by rw [← HM1.out, ← HM2.out, HS.out, if_pos e1, if_pos e2, hr])
              have HC := Lib.hid (fun n => IH.out Q Q2 z1 z2 _ _ (W1.drewN n) (VIn.keep (below_dr (Below.refl _ _) n) HV1.out) (VIn.keep (below_dr (Below.refl _ _) n) HV2.out))
              rw [← hr] at HC
              clear hr
              have he1 : (Order.sgn (Order.cls ka) (Order.cls kd) == 0) = true := by rw [e1]; rfl
              have he2 : (Order.text nm nm2 == 0) = true := by rw [e2]; rfl
              clear e1 e2
              go_quiet (first | (go_at_call 65; exact Calls.quiet_of_same (refClass_q _ _ (by omega))) | (go_at_call 64; exact Calls.quiet_of_same (sign_q _ _ _)))
              by_cases e : r = 0
              · have HL := Lib.hid (HT.out.next hk1 hk3 (HR.out.trans e))
                subst e
                go_wp2_with (first | (go_at_call 66; refine (refText_any _ _ _ (by omega) (by omega)).mono ?_; rintro e w' ⟨rfl, qn, rfl⟩) | (go_at_call 46; refine (HC.out _).mono ?_; rintro e w2 ⟨rfl, hb2⟩))
                have HX2 := Lib.hid (HX.out.step ((HF1.out.below.trans ((below_dr (Below.refl _ _) _).mono HF1.out.below.size)).trans (hb2.mono HF1.out.below.size)))
                clear hb2
                go_roundw
                case rel => exact ⟨k + 1, by go_num, by omega, by omega, HL, HX2⟩
                case measure => simp [intOf]; omega
              · have HL := Lib.hid (HT.out.here hk1 hk3 (fun x => e (HR.out.symm.trans x)))
                have hb : (r != 0) = true := by rw [bne_iff_ne]; exact e
                clear e
                go_wp2_with (first | (go_at_call 66; refine (refText_any _ _ _ (by omega) (by omega)).mono ?_; rintro e w' ⟨rfl, qn, rfl⟩) | (go_at_call 46; refine (HC.out _).mono ?_; rintro e w2 ⟨rfl, hb2⟩))
                go_ret
                exact ⟨ret_i (HL.out.trans HR.out).symm, (below_dr HBW.out _).trans (hb2.mono (below_dr HBW.out _).size)⟩
            · have HR := Lib.hid (show Order.fld (Order.cmp h) l[k] m[k] = Order.text nm nm2 by rw [← HM1.out, ← HM2.out, HS.out, if_pos e1, if_neg e2])
              have HL := Lib.hid (HT.out.here hk1 hk3 (fun x => e2 (HR.out.symm.trans x)))
              have he1 : (Order.sgn (Order.cls ka) (Order.cls kd) == 0) = true := by rw [e1]; rfl
              have he2 : (Order.text nm nm2 == 0) = false := by rw [beq_eq_false_iff_ne]; exact e2
              have he3 : (Order.text nm nm2 != 0) = true := by rw [bne_iff_ne]; exact e2
              clear e1 e2
              go_quiet (first | (go_at_call 65; exact Calls.quiet_of_same (refClass_q _ _ (by omega))) | (go_at_call 64; exact Calls.quiet_of_same (sign_q _ _ _)))
              go_wp2_with (go_at_call 66; refine (refText_any _ _ _ (by omega) (by omega)).mono ?_; rintro e w' ⟨rfl, qn, rfl⟩)
              go_ret
              exact ⟨ret_i (HL.out.trans HR.out).symm, below_dr HBW.out _⟩
          · have HR := Lib.hid (show Order.fld (Order.cmp h) l[k] m[k] = Order.sgn (Order.cls ka) (Order.cls kd) by rw [← HM1.out, ← HM2.out, HS.out, if_neg e1])
            have HL := Lib.hid (HT.out.here hk1 hk3 (fun x => e1 (HR.out.symm.trans x)))
            have he1 : (Order.sgn (Order.cls ka) (Order.cls kd) == 0) = false := by rw [beq_eq_false_iff_ne]; exact e1
            have he2 : (Order.sgn (Order.cls ka) (Order.cls kd) != 0) = true := by rw [bne_iff_ne]; exact e1
            clear e1
            go_quiet (first | (go_at_call 65; exact Calls.quiet_of_same (refClass_q _ _ (by omega))) | (go_at_call 64; exact Calls.quiet_of_same (sign_q _ _ _)))
            go_wp2_with fail
            go_ret
            exact ⟨ret_i (HL.out.trans HR.out).symm, below_dr HBW.out _⟩
      · have HL := Lib.hid (HT.out.last (by have := HN.out; omega) (by have := HM.out; omega) (by have := HM.out; omega))
        have HE := Lib.hid (show Order.lex (Order.fld (Order.cmp h)) l m = Order.sgn (fn : Int) (fn2 : Int) by rw [HL.out, HN.out, HM.out])
        go_wp2_with (go_at_call 64; refine (sign_any _ _ _).mono ?_; rintro e w' ⟨rfl, rfl⟩)
        go_ret
        exact ⟨ret_i HE.out.symm, HX.out.below⟩
    · have HL := Lib.hid (HT.out.last (by have := HN.out; omega) (by have := HM.out; omega) (by have := HN.out; omega))
      have HE := Lib.hid (show Order.lex (Order.fld (Order.cmp h)) l m = Order.sgn (fn : Int) (fn2 : Int) by rw [HL.out, HN.out, HM.out])
      go_wp2_with (go_at_call 64; refine (sign_any _ _ _).mono ?_; rintro e w' ⟨rfl, rfl⟩)
      go_ret
      exact ⟨ret_i HE.out.symm, HX.out.below⟩
end Go.Proofs.YtdcfddiicclpeaaDoor
end
section
namespace Go.Proofs.YtdcfddiicclpeaaDoor
open Go.RowKit
open Seal
open Bson (Val)
/-- The value is a slice that reads as the bytes r. -/
def BySl (w : World) (v : Value) (r : List Nat) : Prop := ∃ a c, v = .slice a r.length c ∧ SliceIs w a r ∧ Oct r
theorem BySl.keep {w w' : World} {v : Value} {r : List Nat} (h : BySl w v r) (hb : Below w.heap.size w w') : BySl w' v r := by
  obtain ⟨a, c, h1, h2, h3⟩ := h
  exact ⟨a, c, h1, h2.keep hb, h3⟩
/-- A number's key. -/
def numK (k n : Int) : List Nat := Key.markB k :: Key.numB n
theorem numK_enc (k n : Int) (hk : k = 3 ∨ k = 4 ∨ k = 10 ∨ k = 11) : Key.encB 34 [] [.mk k n ⟨#[]⟩ [] [] []] 0 = numK k n := by
  rw [Key.encB, Key.encB, List.append_nil]
  show Key.valB 34 (.mk k n ⟨#[]⟩ [] [] []) = _
  unfold Key.valB numK
  rw [Key.beh_num (x := .mk k n ⟨#[]⟩ [] [] []) hk]
  rfl
theorem numK_length (k n : Int) : (numK k n).length = 9 := by
  unfold numK Key.numB
  rw [List.length_cons, Key.be_length]
set_option maxRecDepth 100000 in
set_option maxHeartbeats 1000000 in
theorem awf_any (n : Int) (h0 : -9223372036854775808 ≤ n) (h1 : n ≤ 9223372036854775807) (w : World) (hX : Maxl w w.heap.size) :
    Calls Tryd.prog 42 #[.int .i64 n] w fun e w' => ∃ v, e = .returned v ∧ BySl w' v (numK 4 n) ∧ Below w.heap.size w w' := by
  have hb : Below w.heap.size w (w.alloc (.cells #[.int .i64 4, .int .i64 n, .string ⟨#[]⟩, .slice none 0 0, .slice none 0 0, .slice none 0 0] 26)) := (Below.refl _ w).alloc (Nat.le_refl _) _
  have HB := Lib.hid hb
  have HC := Lib.hid (encode_key 1 (fun g => g = w.heap.size) (some ⟨w.heap.size, 0, none⟩) 1 1 [.mk 4 n ⟨#[]⟩ [] [] []] none 0 0 [] (w.alloc (.cells #[.int .i64 4, .int .i64 n, .string ⟨#[]⟩, .slice none 0 0, .slice none 0 0, .slice none 0 0] 26)) rfl (by decide)
    (one_items (heap_alloc_new w _) rfl (leaf_in _ _ 4 n (by decide) ⟨h0, h1⟩ 0)) rfl (.inl rfl) (by decide) (fun g hg => by rw [hg]; exact (Array.getElem?_eq_some_iff.1 (heap_alloc_new w _)).1) (hX.newer hb |>.mono hb.size) (by rw [numK_enc 4 n (by decide), numK_length]; decide))
  clear hb hX
  go_enter Tryd.func42, Tryd.ntmps42
  go_wp2_with fail
  go_at_call 26
  refine HC.out.mono ?_
  rintro e w1 ⟨a', c', r, rfl, hS, hO, hf, _, hb1⟩
  have hr := hf (fun x hx => by rw [List.mem_singleton.1 hx]; exact fits_leaf' (x := .mk 4 n ⟨#[]⟩ [] [] []) (show (4 : Int) ≠ 6 by decide) (show (4 : Int) ≠ 7 by decide) 34)
  rw [numK_enc 4 n (by decide)] at hr
  have HR := Lib.hid hr
  have HS := Lib.hid hS
  have HO := Lib.hid hO
  have HB1 := Lib.hid hb1
  clear hS hO hb1 hf HC hr
  go_wp2_with fail
  go_ret
  exact ⟨_, rfl, by rw [← HR.out]; exact ⟨a', c', rfl, HS.out, HO.out⟩, HB.out.trans (HB1.out.mono HB.out.size)⟩
theorem awf_some (n : Int) (h0 : -9223372036854775808 ≤ n) (h1 : n ≤ 9223372036854775807) (w w0 : World) (hb : Below w0.heap.size w0 w) (hX : Maxl w0 w0.heap.size) :
    Calls Tryd.prog 42 #[.int .i64 n] w fun e w' => ∃ a c, e = .returned (.slice a 9 c) ∧ SliceIs w' a (numK 4 n) ∧ Below w.heap.size w w' := by
  refine (awf_any n h0 h1 w ((hX.keep hb).mono hb.size)).mono ?_
  rintro e w' ⟨v, rfl, ⟨a, c, rfl, hS, _⟩, hb'⟩
  exact ⟨a, c, by rw [numK_length], hS, hb'⟩
theorem oct_numK (k n : Int) : Oct (numK k n) := by
  intro c hc
  unfold numK at hc
  rcases List.mem_cons.1 hc with e | hc
  · rw [e]; exact Key.mark_lt k
  · unfold Key.numB at hc
    revert hc
    generalize Key.off n = m
    have g : ∀ K, ∀ x ∈ Key.be m K, x < 256 := by
      intro K
      induction K with
      | zero => intro x hx; cases hx
      | succ K ih =>
        intro x hx
        rcases List.mem_cons.1 hx with e | hx
        · rw [e]; exact Nat.mod_lt _ (by decide)
        · exact ih x hx
    exact g 8 c
set_option maxRecDepth 100000 in
set_option maxHeartbeats 4000000 in
theorem key_awake (w : World) (hX : Maxl w w.heap.size) : Calls Tryd.prog 24 #[] w fun e w' => e = .returned (.bool true) ∧ Below w.heap.size w w' := by
  have HX := Lib.hid hX
  have HB0 : Hid (Below w.heap.size w w) := Below.refl _ w
  clear hX
  go_enter Tryd.func24, Tryd.ntmps24
  go_wp2_with fail
  go_at_call 42
  refine (awf_some (-5) (by decide) (by decide) w w HB0.out HX.out).mono ?_
  rintro e w1 ⟨a1, c1, rfl, hs1, hb1⟩
  have HS1 := Lib.hid hs1
  have HB1 : Hid (Below w.heap.size w w1) := HB0.out.trans (hb1.mono HB0.out.size)
  have HK1 := Lib.hid hb1
  clear hs1 hb1
  go_wp2_with fail
  go_at_call 42
  refine (awf_some (3) (by decide) (by decide) w1 w HB1.out HX.out).mono ?_
  rintro e w2 ⟨a2, c2, rfl, hs2, hb2⟩
  have HS2 := Lib.hid hs2
  have HB2 : Hid (Below w.heap.size w w2) := HB1.out.trans (hb2.mono HB1.out.size)
  have HK2 := Lib.hid hb2
  clear hs2 hb2
  go_wp2_with fail
  go_at_call 27
  refine (sign_key w2 a1 a2 9 c1 9 c2 (numK 4 (-5)) (numK 4 (3)) (numK_length _ _) (numK_length _ _) (HS1.out.keep HK2.out) HS2.out (by decide) (by decide)).mono ?_
  rw [show Order.octs (numK 4 (-5)) (numK 4 (3)) = -1 from by decide +kernel]
  rintro e w3 ⟨rfl, q3, hq3⟩
  have HB3 : Hid (Below w.heap.size w w3) := by rw [hq3]; exact below_dr HB2.out _
  clear hq3
  go_wp2_with fail
  go_at_call 42
  refine (awf_some (3) (by decide) (by decide) w3 w HB3.out HX.out).mono ?_
  rintro e w4 ⟨a4, c4, rfl, hs4, hb4⟩
  have HS4 := Lib.hid hs4
  have HB4 : Hid (Below w.heap.size w w4) := HB3.out.trans (hb4.mono HB3.out.size)
  have HK4 := Lib.hid hb4
  clear hs4 hb4
  go_wp2_with fail
  go_at_call 42
  refine (awf_some (300) (by decide) (by decide) w4 w HB4.out HX.out).mono ?_
  rintro e w5 ⟨a5, c5, rfl, hs5, hb5⟩
  have HS5 := Lib.hid hs5
  have HB5 : Hid (Below w.heap.size w w5) := HB4.out.trans (hb5.mono HB4.out.size)
  have HK5 := Lib.hid hb5
  clear hs5 hb5
  go_wp2_with fail
  go_at_call 27
  refine (sign_key w5 a4 a5 9 c4 9 c5 (numK 4 (3)) (numK 4 (300)) (numK_length _ _) (numK_length _ _) (HS4.out.keep HK5.out) HS5.out (by decide) (by decide)).mono ?_
  rw [show Order.octs (numK 4 (3)) (numK 4 (300)) = -1 from by decide +kernel]
  rintro e w6 ⟨rfl, q6, hq6⟩
  have HB6 : Hid (Below w.heap.size w w6) := by rw [hq6]; exact below_dr HB5.out _
  clear hq6
  go_wp2_with fail
  go_at_call 42
  refine (awf_some (0) (by decide) (by decide) w6 w HB6.out HX.out).mono ?_
  rintro e w7 ⟨a7, c7, rfl, hs7, hb7⟩
  have HS7 := Lib.hid hs7
  have HB7 : Hid (Below w.heap.size w w7) := HB6.out.trans (hb7.mono HB6.out.size)
  have HK7 := Lib.hid hb7
  clear hs7 hb7
  go_wp2_with fail
  go_at_call 42
  refine (awf_some (1) (by decide) (by decide) w7 w HB7.out HX.out).mono ?_
  rintro e w8 ⟨a8, c8, rfl, hs8, hb8⟩
  have HS8 := Lib.hid hs8
  have HB8 : Hid (Below w.heap.size w w8) := HB7.out.trans (hb8.mono HB7.out.size)
  have HK8 := Lib.hid hb8
  clear hs8 hb8
  go_wp2_with fail
  go_at_call 31
  refine (part_any w8 a8 9 c8 (numK 4 1) 0 1 (numK_length _ _) HS8.out (oct_numK _ _) (by decide) (by decide)).mono ?_
  rw [show hpart (hash (numK 4 1) 0) 1 = 0 from by unfold hpart; rw [if_neg (by decide), Int.emod_one]]
  rintro e w9 ⟨rfl, hw9⟩
  obtain rfl := hw9
  go_wp2_with fail
  go_at_call 30
  refine (hash_any w9 none 0 0 [] 0 rfl (.inl rfl) nofun (by decide)).mono ?_
  have hne : (hash [] 0 != 0) = true := by decide +kernel
  rintro e w10 ⟨rfl, hw10⟩
  obtain rfl := hw10
  go_wp2_with fail
  go_ret
  exact ⟨rfl, HB8.out⟩
end Go.Proofs.YtdcfddiicclpeaaDoor
end
