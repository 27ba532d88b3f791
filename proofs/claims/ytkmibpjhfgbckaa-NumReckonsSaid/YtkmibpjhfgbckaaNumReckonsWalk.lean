/- aqueductlaw9.NumReckons answers true (a walk). -/
import Derived.Test.YtkmibpjhfgbckaaNumAwake
import Derived.Test.YtkmibpjhfgbckaaNumTwo
import Derived.Test.YtkmibpjhfgbckaaNumSame
import Derived.Test.YtkmibpjhfgbckaaPathSmall
namespace Go.Proofs.Ytkmibpjhfgbckaa
open Go.RowKit
open Seal
open Num
open Bson (Val)
set_option maxRecDepth 100000 in
set_option maxHeartbeats 8000000 in
theorem reckons_any (h : Nat) (Q Q2 : Nat → Prop) (x y : Val) (u v : Value) (n : Int) (w : World) (hx : VIn w Q (h + 1) x u) (hy : VIn w Q2 (h + 1) y v) : Calls Try.prog 3 #[u, v, .int .i64 n] w (BoolBe true w) := by
  obtain ⟨ak, an, sa, ba, fa, la, bn0, bc, fn, fc, ln, lc, rfl, -, hxn, -, -, -, -, hLx, -, -⟩ := hx.letters
  obtain ⟨bk, bn, sb, ba2, fa2, la2, bn2, bc2, fn2, fc2, ln2, lc2, rfl, -, hyn, -, -, -, -, hLy, -, -⟩ := hy.letters
  have ha : In an := by rw [hxn]; exact ⟨hLx.n0, hLx.n1⟩
  have hb0 : In bn := by rw [hyn]; exact ⟨hLy.n0, hLy.n1⟩
  clear hxn hyn hLx hLy
  have HX := Lib.hid hx
  have HY := Lib.hid hy
  clear hx hy
  have HP0 := Lib.hid (fun w => numAdd_any ak an bk bn (.string sa) (.slice ba bn0 bc) (.slice fa fn fc) (.slice la ln lc) (.string sb) (.slice ba2 bn2 bc2) (.slice fa2 fn2 fc2) (.slice la2 ln2 lc2) w ha hb0)
  have HT0 := Lib.hid (fun w => refTwo_sum ak an bk bn (.string sa) (.slice ba bn0 bc) (.slice fa fn fc) (.slice la ln lc) (.string sb) (.slice ba2 bn2 bc2) (.slice fa2 fn2 fc2) (.slice la2 ln2 lc2) w ha hb0)
  generalize reck (sumR an bn) ak bk = r0 at *
  obtain ⟨k0, n0, e0⟩ := r0
  have HP1 := Lib.hid (fun w => numSub_any ak an bk bn (.string sa) (.slice ba bn0 bc) (.slice fa fn fc) (.slice la ln lc) (.string sb) (.slice ba2 bn2 bc2) (.slice fa2 fn2 fc2) (.slice la2 ln2 lc2) w ha hb0)
  have HT1 := Lib.hid (fun w => refTwo_dif ak an bk bn (.string sa) (.slice ba bn0 bc) (.slice fa fn fc) (.slice la ln lc) (.string sb) (.slice ba2 bn2 bc2) (.slice fa2 fn2 fc2) (.slice la2 ln2 lc2) w ha hb0)
  generalize reck (difR an bn) ak bk = r1 at *
  obtain ⟨k1, n1, e1⟩ := r1
  have HP2 := Lib.hid (fun w => numMul_any ak an bk bn (.string sa) (.slice ba bn0 bc) (.slice fa fn fc) (.slice la ln lc) (.string sb) (.slice ba2 bn2 bc2) (.slice fa2 fn2 fc2) (.slice la2 ln2 lc2) w ha hb0)
  have HT2 := Lib.hid (fun w => refTwo_mul ak an bk bn (.string sa) (.slice ba bn0 bc) (.slice fa fn fc) (.slice la ln lc) (.string sb) (.slice ba2 bn2 bc2) (.slice fa2 fn2 fc2) (.slice la2 ln2 lc2) w ha hb0)
  generalize reck (mulR an bn) ak bk = r2 at *
  obtain ⟨k2, n2, e2⟩ := r2
  have HP3 := Lib.hid (fun w => numDiv_any ak an bk bn (.string sa) (.slice ba bn0 bc) (.slice fa fn fc) (.slice la ln lc) (.string sb) (.slice ba2 bn2 bc2) (.slice fa2 fn2 fc2) (.slice la2 ln2 lc2) w ha hb0)
  have HT3 := Lib.hid (fun w => refTwo_quo ak an bk bn (.string sa) (.slice ba bn0 bc) (.slice fa fn fc) (.slice la ln lc) (.string sb) (.slice ba2 bn2 bc2) (.slice fa2 fn2 fc2) (.slice la2 ln2 lc2) w ha hb0)
  generalize reck (quoR an bn) ak bk = r3 at *
  obtain ⟨k3, n3, e3⟩ := r3
  have HP4 := Lib.hid (fun w => numMod_any ak an bk bn (.string sa) (.slice ba bn0 bc) (.slice fa fn fc) (.slice la ln lc) (.string sb) (.slice ba2 bn2 bc2) (.slice fa2 fn2 fc2) (.slice la2 ln2 lc2) w ha hb0)
  have HT4 := Lib.hid (fun w => refTwo_rem ak an bk bn (.string sa) (.slice ba bn0 bc) (.slice fa fn fc) (.slice la ln lc) (.string sb) (.slice ba2 bn2 bc2) (.slice fa2 fn2 fc2) (.slice la2 ln2 lc2) w ha hb0)
  generalize reck (remR an bn) ak bk = r4 at *
  obtain ⟨k4, n4, e4⟩ := r4
  have HP5 := Lib.hid (fun w => numAbs_any ak an (.string sa) (.slice ba bn0 bc) (.slice fa fn fc) (.slice la ln lc) w ha)
  have HT5 := Lib.hid (fun w => refAbs_any ak an (.string sa) (.slice ba bn0 bc) (.slice fa fn fc) (.slice la ln lc) w ha)
  generalize reck (absR an) ak ak = r5 at *
  obtain ⟨k5, n5, e5⟩ := r5
  clear ha hb0
  have GA0 := Lib.hid (show IsBox ((w.alloc (.cells #[Value.int .i64 ak, .int .i64 an, .string sa, .slice ba bn0 bc, .slice fa fn fc, .slice la ln lc] 26)).alloc (.cells #[Value.int .i64 bk, .int .i64 bn, .string sb, .slice ba2 bn2 bc2, .slice fa2 fn2 fc2, .slice la2 ln2 lc2] 26)) w.heap.size (.int .i64 ak) (.int .i64 an) (.string sa) (.slice ba bn0 bc) (.slice fa fn fc) (.slice la ln lc) from (IsBox.new w (.int .i64 ak) (.int .i64 an) (.string sa) (.slice ba bn0 bc) (.slice fa fn fc) (.slice la ln lc)).keep ((Below.refl _ _).alloc (Nat.le_refl _) _))
  have GB0 := Lib.hid (IsBox.new2 w (.cells #[Value.int .i64 ak, .int .i64 an, .string sa, .slice ba bn0 bc, .slice fa fn fc, .slice la ln lc] 26) (.int .i64 bk) (.int .i64 bn) (.string sb) (.slice ba2 bn2 bc2) (.slice fa2 fn2 fc2) (.slice la2 ln2 lc2))
  have HB0 : Hid (Below w.heap.size w ((w.alloc (.cells #[Value.int .i64 ak, .int .i64 an, .string sa, .slice ba bn0 bc, .slice fa fn fc, .slice la ln lc] 26)).alloc (.cells #[Value.int .i64 bk, .int .i64 bn, .string sb, .slice ba2 bn2 bc2, .slice fa2 fn2 fc2, .slice la2 ln2 lc2] 26))) := ((Below.refl _ w).alloc (Nat.le_refl _) _).alloc (by simp) _
  have HX0 : Hid (VIn ((w.alloc (.cells #[Value.int .i64 ak, .int .i64 an, .string sa, .slice ba bn0 bc, .slice fa fn fc, .slice la ln lc] 26)).alloc (.cells #[Value.int .i64 bk, .int .i64 bn, .string sb, .slice ba2 bn2 bc2, .slice fa2 fn2 fc2, .slice la2 ln2 lc2] 26)) Q (h + 1) x (.agg #[.int .i64 ak, .int .i64 an, .string sa, .slice ba bn0 bc, .slice fa fn fc, .slice la ln lc])) := VIn.keep HB0.out HX.out
  have HY0 : Hid (VIn ((w.alloc (.cells #[Value.int .i64 ak, .int .i64 an, .string sa, .slice ba bn0 bc, .slice fa fn fc, .slice la ln lc] 26)).alloc (.cells #[Value.int .i64 bk, .int .i64 bn, .string sb, .slice ba2 bn2 bc2, .slice fa2 fn2 fc2, .slice la2 ln2 lc2] 26)) Q2 (h + 1) y (.agg #[.int .i64 bk, .int .i64 bn, .string sb, .slice ba2 bn2 bc2, .slice fa2 fn2 fc2, .slice la2 ln2 lc2])) := VIn.keep HB0.out HY.out
  go_enter Try.func3, Try.ntmps3
  go_wp2_with fail
  generalize hW : ((w.alloc (.cells #[Value.int .i64 ak, .int .i64 an, .string sa, .slice ba bn0 bc, .slice fa fn fc, .slice la ln lc] 26)).alloc (.cells #[Value.int .i64 bk, .int .i64 bn, .string sb, .slice ba2 bn2 bc2, .slice fa2 fn2 fc2, .slice la2 ln2 lc2] 26)) = V0 at *
  clear hW
  go_at_call 7
  refine (awake9 _).mono ?_
  rintro e w0 ⟨rfl, hb⟩
  have HB00 := Lib.hid (HB0.out.trans (hb.mono HB0.out.size))
  have GA00 := Lib.hid (GA0.out.keep hb)
  have GB00 := Lib.hid (GB0.out.keep hb)
  clear hb
  obtain ⟨A0, A1, A2, A3, A4, A5⟩ := GA00.out.cells
  obtain ⟨B0, B1, B2, B3, B4, B5⟩ := GB00.out.cells
  go_wp2_with fail
  have HSA := Lib.hid (small_any Q h x _ w0 (VIn.keep (w := w) HB00.out HX.out))
  go_at_call 8
  refine HSA.out.mono ?_
  rintro e w1 ⟨b, rfl, -, hb⟩
  clear A0 A1 A2 A3 A4 A5 B0 B1 B2 B3 B4 B5
  have HB1 := Lib.hid (HB00.out.trans (hb.mono HB00.out.size))
  have GA1 := Lib.hid (GA00.out.keep hb)
  have GB1 := Lib.hid (GB00.out.keep hb)
  clear hb HSA
  obtain ⟨A0, A1, A2, A3, A4, A5⟩ := GA1.out.cells
  obtain ⟨B0, B1, B2, B3, B4, B5⟩ := GB1.out.cells
  cases b with
  | false =>
    go_wp2_with fail
    go_ret
    exact ⟨rfl, HB1.out⟩
  | true =>
  go_wp2_with fail
  have HSB := Lib.hid (small_any Q2 h y _ w1 (VIn.keep (w := w) HB1.out HY.out))
  go_at_call 8
  refine HSB.out.mono ?_
  rintro e w2 ⟨b, rfl, -, hb⟩
  clear A0 A1 A2 A3 A4 A5 B0 B1 B2 B3 B4 B5
  have HB2 := Lib.hid (HB1.out.trans (hb.mono HB1.out.size))
  have GA2 := Lib.hid (GA1.out.keep hb)
  have GB2 := Lib.hid (GB1.out.keep hb)
  clear hb HSB
  obtain ⟨A0, A1, A2, A3, A4, A5⟩ := GA2.out.cells
  obtain ⟨B0, B1, B2, B3, B4, B5⟩ := GB2.out.cells
  cases b with
  | false =>
    go_wp2_with fail
    go_ret
    exact ⟨rfl, HB2.out⟩
  | true =>
  go_wp2_with fail
  go_at_call 9
  refine (HP0.out _).mono ?_
  rintro e w3 ⟨rfl, hb⟩
  clear A0 A1 A2 A3 A4 A5 B0 B1 B2 B3 B4 B5
  have HB3 := Lib.hid (HB2.out.trans (hb.mono HB2.out.size))
  have GA3 := Lib.hid (GA2.out.keep hb)
  have GB3 := Lib.hid (GB2.out.keep hb)
  clear hb
  obtain ⟨A0, A1, A2, A3, A4, A5⟩ := GA3.out.cells
  obtain ⟨B0, B1, B2, B3, B4, B5⟩ := GB3.out.cells
  have mA : w.heap.size < w3.heap.size := GA3.out.lt
  have nA : ¬ w.heap.size = w3.heap.size := by omega
  have mB : (w.heap.size + 1) < w3.heap.size := GB3.out.lt
  have nB : ¬ (w.heap.size + 1) = w3.heap.size := by omega
  go_wp2_with fail
  go_at_call 10
  refine (HP1.out _).mono ?_
  rintro e w4 ⟨rfl, hb⟩
  clear A0 A1 A2 A3 A4 A5 B0 B1 B2 B3 B4 B5 mA nA mB nB
  have hc : Below w3.heap.size w3 w4 := ((Below.refl _ w3).alloc (Nat.le_refl _) _).trans (hb.mono (by simp))
  have HB4 := Lib.hid (HB3.out.trans (hc.mono HB3.out.size))
  have GA4 := Lib.hid (GA3.out.keep hc)
  have GB4 := Lib.hid (GB3.out.keep hc)
  have GR04 := Lib.hid ((IsBox.new w3 (.int .i64 k0) (.int .i64 n0) (.string ⟨#[]⟩) (.slice none 0 0) (.slice none 0 0) (.slice none 0 0)).keep hb)
  clear hc
  clear hb
  obtain ⟨A0, A1, A2, A3, A4, A5⟩ := GA4.out.cells
  obtain ⟨B0, B1, B2, B3, B4, B5⟩ := GB4.out.cells
  have mA : w.heap.size < w4.heap.size := GA4.out.lt
  have nA : ¬ w.heap.size = w4.heap.size := by omega
  have mB : (w.heap.size + 1) < w4.heap.size := GB4.out.lt
  have nB : ¬ (w.heap.size + 1) = w4.heap.size := by omega
  go_wp2_with fail
  go_at_call 11
  refine (HP2.out _).mono ?_
  rintro e w5 ⟨rfl, hb⟩
  clear A0 A1 A2 A3 A4 A5 B0 B1 B2 B3 B4 B5 mA nA mB nB
  have hc : Below w4.heap.size w4 w5 := ((Below.refl _ w4).alloc (Nat.le_refl _) _).trans (hb.mono (by simp))
  have HB5 := Lib.hid (HB4.out.trans (hc.mono HB4.out.size))
  have GA5 := Lib.hid (GA4.out.keep hc)
  have GB5 := Lib.hid (GB4.out.keep hc)
  have GR05 := Lib.hid (GR04.out.keep hc)
  have GR15 := Lib.hid ((IsBox.new w4 (.int .i64 k1) (.int .i64 n1) (.string ⟨#[]⟩) (.slice none 0 0) (.slice none 0 0) (.slice none 0 0)).keep hb)
  clear hc
  clear hb
  obtain ⟨A0, A1, A2, A3, A4, A5⟩ := GA5.out.cells
  obtain ⟨B0, B1, B2, B3, B4, B5⟩ := GB5.out.cells
  have mA : w.heap.size < w5.heap.size := GA5.out.lt
  have nA : ¬ w.heap.size = w5.heap.size := by omega
  have mB : (w.heap.size + 1) < w5.heap.size := GB5.out.lt
  have nB : ¬ (w.heap.size + 1) = w5.heap.size := by omega
  go_wp2_with fail
  go_at_call 12
  refine (HP3.out _).mono ?_
  rintro e w6 ⟨rfl, hb⟩
  clear A0 A1 A2 A3 A4 A5 B0 B1 B2 B3 B4 B5 mA nA mB nB
  have hc : Below w5.heap.size w5 w6 := ((Below.refl _ w5).alloc (Nat.le_refl _) _).trans (hb.mono (by simp))
  have HB6 := Lib.hid (HB5.out.trans (hc.mono HB5.out.size))
  have GA6 := Lib.hid (GA5.out.keep hc)
  have GB6 := Lib.hid (GB5.out.keep hc)
  have GR06 := Lib.hid (GR05.out.keep hc)
  have GR16 := Lib.hid (GR15.out.keep hc)
  have GR26 := Lib.hid ((IsBox.new w5 (.int .i64 k2) (.int .i64 n2) (.string ⟨#[]⟩) (.slice none 0 0) (.slice none 0 0) (.slice none 0 0)).keep hb)
  clear hc
  clear hb
  obtain ⟨A0, A1, A2, A3, A4, A5⟩ := GA6.out.cells
  obtain ⟨B0, B1, B2, B3, B4, B5⟩ := GB6.out.cells
  have mA : w.heap.size < w6.heap.size := GA6.out.lt
  have nA : ¬ w.heap.size = w6.heap.size := by omega
  have mB : (w.heap.size + 1) < w6.heap.size := GB6.out.lt
  have nB : ¬ (w.heap.size + 1) = w6.heap.size := by omega
  go_wp2_with fail
  go_at_call 13
  refine (HP4.out _).mono ?_
  rintro e w7 ⟨rfl, hb⟩
  clear A0 A1 A2 A3 A4 A5 B0 B1 B2 B3 B4 B5 mA nA mB nB
  have hc : Below w6.heap.size w6 w7 := ((Below.refl _ w6).alloc (Nat.le_refl _) _).trans (hb.mono (by simp))
  have HB7 := Lib.hid (HB6.out.trans (hc.mono HB6.out.size))
  have GA7 := Lib.hid (GA6.out.keep hc)
  have GB7 := Lib.hid (GB6.out.keep hc)
  have GR07 := Lib.hid (GR06.out.keep hc)
  have GR17 := Lib.hid (GR16.out.keep hc)
  have GR27 := Lib.hid (GR26.out.keep hc)
  have GR37 := Lib.hid ((IsBox.new w6 (.int .i64 k3) (.int .i64 n3) (.string ⟨#[]⟩) (.slice none 0 0) (.slice none 0 0) (.slice none 0 0)).keep hb)
  clear hc
  clear hb
  obtain ⟨A0, A1, A2, A3, A4, A5⟩ := GA7.out.cells
  obtain ⟨B0, B1, B2, B3, B4, B5⟩ := GB7.out.cells
  have mA : w.heap.size < w7.heap.size := GA7.out.lt
  have nA : ¬ w.heap.size = w7.heap.size := by omega
  have mB : (w.heap.size + 1) < w7.heap.size := GB7.out.lt
  have nB : ¬ (w.heap.size + 1) = w7.heap.size := by omega
  go_wp2_with fail
  go_at_call 14
  refine (HP5.out _).mono ?_
  rintro e w8 ⟨rfl, hb⟩
  clear A0 A1 A2 A3 A4 A5 B0 B1 B2 B3 B4 B5 mA nA mB nB
  have hc : Below w7.heap.size w7 w8 := ((Below.refl _ w7).alloc (Nat.le_refl _) _).trans (hb.mono (by simp))
  have HB8 := Lib.hid (HB7.out.trans (hc.mono HB7.out.size))
  have GA8 := Lib.hid (GA7.out.keep hc)
  have GB8 := Lib.hid (GB7.out.keep hc)
  have GR08 := Lib.hid (GR07.out.keep hc)
  have GR18 := Lib.hid (GR17.out.keep hc)
  have GR28 := Lib.hid (GR27.out.keep hc)
  have GR38 := Lib.hid (GR37.out.keep hc)
  have GR48 := Lib.hid ((IsBox.new w7 (.int .i64 k4) (.int .i64 n4) (.string ⟨#[]⟩) (.slice none 0 0) (.slice none 0 0) (.slice none 0 0)).keep hb)
  clear hc
  clear hb
  obtain ⟨A0, A1, A2, A3, A4, A5⟩ := GA8.out.cells
  obtain ⟨B0, B1, B2, B3, B4, B5⟩ := GB8.out.cells
  have mA : w.heap.size < w8.heap.size := GA8.out.lt
  have nA : ¬ w.heap.size = w8.heap.size := by omega
  have mB : (w.heap.size + 1) < w8.heap.size := GB8.out.lt
  have nB : ¬ (w.heap.size + 1) = w8.heap.size := by omega
  go_wp2_with fail
  go_at_call 15
  refine (HT0.out _).mono ?_
  rintro e w9 ⟨rfl, hb⟩
  clear A0 A1 A2 A3 A4 A5 B0 B1 B2 B3 B4 B5 mA nA mB nB
  have hc : Below w8.heap.size w8 w9 := ((Below.refl _ w8).alloc (Nat.le_refl _) _).trans (hb.mono (by simp))
  have HB9 := Lib.hid (HB8.out.trans (hc.mono HB8.out.size))
  have GA9 := Lib.hid (GA8.out.keep hc)
  have GB9 := Lib.hid (GB8.out.keep hc)
  have GR09 := Lib.hid (GR08.out.keep hc)
  have GR19 := Lib.hid (GR18.out.keep hc)
  have GR29 := Lib.hid (GR28.out.keep hc)
  have GR39 := Lib.hid (GR38.out.keep hc)
  have GR49 := Lib.hid (GR48.out.keep hc)
  have GR59 := Lib.hid ((IsBox.new w8 (.int .i64 k5) (.int .i64 n5) (.string ⟨#[]⟩) (.slice none 0 0) (.slice none 0 0) (.slice none 0 0)).keep hb)
  clear hc
  clear hb
  obtain ⟨R00, R01, R02, R03, R04, R05⟩ := GR09.out.cells
  have mA : w.heap.size < w9.heap.size := GA9.out.lt
  have nA : ¬ w.heap.size = w9.heap.size := by omega
  have mB : (w.heap.size + 1) < w9.heap.size := GB9.out.lt
  have nB : ¬ (w.heap.size + 1) = w9.heap.size := by omega
  have mR0 : w3.heap.size < w9.heap.size := GR09.out.lt
  have nR0 : ¬ w3.heap.size = w9.heap.size := by omega
  have mR1 : w4.heap.size < w9.heap.size := GR19.out.lt
  have nR1 : ¬ w4.heap.size = w9.heap.size := by omega
  have mR2 : w5.heap.size < w9.heap.size := GR29.out.lt
  have nR2 : ¬ w5.heap.size = w9.heap.size := by omega
  have mR3 : w6.heap.size < w9.heap.size := GR39.out.lt
  have nR3 : ¬ w6.heap.size = w9.heap.size := by omega
  have mR4 : w7.heap.size < w9.heap.size := GR49.out.lt
  have nR4 : ¬ w7.heap.size = w9.heap.size := by omega
  have mR5 : w8.heap.size < w9.heap.size := GR59.out.lt
  have nR5 : ¬ w8.heap.size = w9.heap.size := by omega
  go_wp2_with fail
  have DA : Hid (¬ w.heap.size = w9.heap.size) := Lib.hid nA
  have DB : Hid (¬ (w.heap.size + 1) = w9.heap.size) := Lib.hid nB
  have DR0 : Hid (¬ w3.heap.size = w9.heap.size) := Lib.hid nR0
  have DR1 : Hid (¬ w4.heap.size = w9.heap.size) := Lib.hid nR1
  have DR2 : Hid (¬ w5.heap.size = w9.heap.size) := Lib.hid nR2
  have DR3 : Hid (¬ w6.heap.size = w9.heap.size) := Lib.hid nR3
  have DR4 : Hid (¬ w7.heap.size = w9.heap.size) := Lib.hid nR4
  have DR5 : Hid (¬ w8.heap.size = w9.heap.size) := Lib.hid nR5
  have LZ := Lib.hid HB9.out.size
  go_at_call 16
  refine (sameLeaf k0 n0 _).mono ?_
  rintro e w10 ⟨rfl, hb⟩
  clear R00 R01 R02 R03 R04 R05 mA nA mB nB mR0 nR0 mR1 nR1 mR2 nR2 mR3 nR3 mR4 nR4 mR5 nR5
  have hc : Below w9.heap.size w9 w10 := ((Below.refl _ w9).alloc (Nat.le_refl _) _).trans (hb.mono (by simp))
  have HB10 := Lib.hid (HB9.out.trans (hc.mono HB9.out.size))
  have GA10 := Lib.hid (GA9.out.keep hc)
  have GB10 := Lib.hid (GB9.out.keep hc)
  have GR010 := Lib.hid (GR09.out.keep hc)
  have GR110 := Lib.hid (GR19.out.keep hc)
  have GR210 := Lib.hid (GR29.out.keep hc)
  have GR310 := Lib.hid (GR39.out.keep hc)
  have GR410 := Lib.hid (GR49.out.keep hc)
  have GR510 := Lib.hid (GR59.out.keep hc)
  have GZ10 := Lib.hid ((IsBox.new w9 (.int .i64 k0) (.int .i64 n0) (.string ⟨#[]⟩) (.slice none 0 0) (.slice none 0 0) (.slice none 0 0)).keep hb)
  clear hc
  clear hb
  obtain ⟨A0, A1, A2, A3, A4, A5⟩ := GA10.out.cells
  obtain ⟨B0, B1, B2, B3, B4, B5⟩ := GB10.out.cells
  obtain ⟨Z0, Z1, Z2, Z3, Z4, Z5⟩ := GZ10.out.cells
  go_wp2_with fail
  go_at_call 15
  refine (HT1.out _).mono ?_
  rintro e w11 ⟨rfl, hb⟩
  clear A0 A1 A2 A3 A4 A5 B0 B1 B2 B3 B4 B5 Z0 Z1 Z2 Z3 Z4 Z5
  have HB11 := Lib.hid (HB10.out.trans (hb.mono HB10.out.size))
  have GA11 := Lib.hid (GA10.out.keep hb)
  have GB11 := Lib.hid (GB10.out.keep hb)
  have GR011 := Lib.hid (GR010.out.keep hb)
  have GR111 := Lib.hid (GR110.out.keep hb)
  have GR211 := Lib.hid (GR210.out.keep hb)
  have GR311 := Lib.hid (GR310.out.keep hb)
  have GR411 := Lib.hid (GR410.out.keep hb)
  have GR511 := Lib.hid (GR510.out.keep hb)
  have GZ11 := Lib.hid (GZ10.out.keep hb)
  clear hb
  obtain ⟨R10, R11, R12, R13, R14, R15⟩ := GR111.out.cells
  obtain ⟨Z0, Z1, Z2, Z3, Z4, Z5⟩ := GZ11.out.cells
  obtain ⟨tZ0, tZ1, tZ2, tZ3, tZ4, tZ5⟩ := GZ11.out.thaw
  have nR := DR1.out
  have nR2 : ¬ w9.heap.size = w4.heap.size := fun e => nR e.symm
  go_wp2_with fail
  go_at_call 16
  refine (sameLeaf k1 n1 _).mono ?_
  rintro e w12 ⟨rfl, hb⟩
  clear R10 R11 R12 R13 R14 R15 Z0 Z1 Z2 Z3 Z4 Z5 tZ0 tZ1 tZ2 tZ3 tZ4 tZ5 nR nR2
  have hc := below_six (B := w9.heap.size) HB11.out (by have := GZ11.out.lt; have := HB11.out.size; first | omega | (have := LZ.out; omega)) (.int .i64 k1) (.int .i64 n1) (.string ⟨#[]⟩) (.slice none 0 0) (.slice none 0 0) (.slice none 0 0)
  have HB12 := Lib.hid (hc.trans (hb.mono hc.size))
  clear hc
  have GA12 := Lib.hid ((GA11.out.other (by have := DA.out; omega) 0 [Value.int .i64 k1, .int .i64 n1, .string ⟨#[]⟩, .slice none 0 0, .slice none 0 0, .slice none 0 0]).keep hb)
  have GB12 := Lib.hid ((GB11.out.other (by have := DB.out; omega) 0 [Value.int .i64 k1, .int .i64 n1, .string ⟨#[]⟩, .slice none 0 0, .slice none 0 0, .slice none 0 0]).keep hb)
  have GR012 := Lib.hid ((GR011.out.other (by have := DR0.out; omega) 0 [Value.int .i64 k1, .int .i64 n1, .string ⟨#[]⟩, .slice none 0 0, .slice none 0 0, .slice none 0 0]).keep hb)
  have GR112 := Lib.hid ((GR111.out.other (by have := DR1.out; omega) 0 [Value.int .i64 k1, .int .i64 n1, .string ⟨#[]⟩, .slice none 0 0, .slice none 0 0, .slice none 0 0]).keep hb)
  have GR212 := Lib.hid ((GR211.out.other (by have := DR2.out; omega) 0 [Value.int .i64 k1, .int .i64 n1, .string ⟨#[]⟩, .slice none 0 0, .slice none 0 0, .slice none 0 0]).keep hb)
  have GR312 := Lib.hid ((GR311.out.other (by have := DR3.out; omega) 0 [Value.int .i64 k1, .int .i64 n1, .string ⟨#[]⟩, .slice none 0 0, .slice none 0 0, .slice none 0 0]).keep hb)
  have GR412 := Lib.hid ((GR411.out.other (by have := DR4.out; omega) 0 [Value.int .i64 k1, .int .i64 n1, .string ⟨#[]⟩, .slice none 0 0, .slice none 0 0, .slice none 0 0]).keep hb)
  have GR512 := Lib.hid ((GR511.out.other (by have := DR5.out; omega) 0 [Value.int .i64 k1, .int .i64 n1, .string ⟨#[]⟩, .slice none 0 0, .slice none 0 0, .slice none 0 0]).keep hb)
  have GZ12 := Lib.hid ((GZ11.out.put (.int .i64 k1) (.int .i64 n1) (.string ⟨#[]⟩) (.slice none 0 0) (.slice none 0 0) (.slice none 0 0)).keep hb)
  clear hb
  obtain ⟨A0, A1, A2, A3, A4, A5⟩ := GA12.out.cells
  obtain ⟨B0, B1, B2, B3, B4, B5⟩ := GB12.out.cells
  obtain ⟨Z0, Z1, Z2, Z3, Z4, Z5⟩ := GZ12.out.cells
  go_wp2_with fail
  go_at_call 15
  refine (HT2.out _).mono ?_
  rintro e w13 ⟨rfl, hb⟩
  clear A0 A1 A2 A3 A4 A5 B0 B1 B2 B3 B4 B5 Z0 Z1 Z2 Z3 Z4 Z5
  have HB13 := Lib.hid (HB12.out.trans (hb.mono HB12.out.size))
  have GA13 := Lib.hid (GA12.out.keep hb)
  have GB13 := Lib.hid (GB12.out.keep hb)
  have GR013 := Lib.hid (GR012.out.keep hb)
  have GR113 := Lib.hid (GR112.out.keep hb)
  have GR213 := Lib.hid (GR212.out.keep hb)
  have GR313 := Lib.hid (GR312.out.keep hb)
  have GR413 := Lib.hid (GR412.out.keep hb)
  have GR513 := Lib.hid (GR512.out.keep hb)
  have GZ13 := Lib.hid (GZ12.out.keep hb)
  clear hb
  obtain ⟨R20, R21, R22, R23, R24, R25⟩ := GR213.out.cells
  obtain ⟨Z0, Z1, Z2, Z3, Z4, Z5⟩ := GZ13.out.cells
  obtain ⟨tZ0, tZ1, tZ2, tZ3, tZ4, tZ5⟩ := GZ13.out.thaw
  have nR := DR2.out
  have nR2 : ¬ w9.heap.size = w5.heap.size := fun e => nR e.symm
  go_wp2_with fail
  go_at_call 16
  refine (sameLeaf k2 n2 _).mono ?_
  rintro e w14 ⟨rfl, hb⟩
  clear R20 R21 R22 R23 R24 R25 Z0 Z1 Z2 Z3 Z4 Z5 tZ0 tZ1 tZ2 tZ3 tZ4 tZ5 nR nR2
  have hc := below_six (B := w9.heap.size) HB13.out (by have := GZ13.out.lt; have := HB13.out.size; first | omega | (have := LZ.out; omega)) (.int .i64 k2) (.int .i64 n2) (.string ⟨#[]⟩) (.slice none 0 0) (.slice none 0 0) (.slice none 0 0)
  have HB14 := Lib.hid (hc.trans (hb.mono hc.size))
  clear hc
  have GA14 := Lib.hid ((GA13.out.other (by have := DA.out; omega) 0 [Value.int .i64 k2, .int .i64 n2, .string ⟨#[]⟩, .slice none 0 0, .slice none 0 0, .slice none 0 0]).keep hb)
  have GB14 := Lib.hid ((GB13.out.other (by have := DB.out; omega) 0 [Value.int .i64 k2, .int .i64 n2, .string ⟨#[]⟩, .slice none 0 0, .slice none 0 0, .slice none 0 0]).keep hb)
  have GR014 := Lib.hid ((GR013.out.other (by have := DR0.out; omega) 0 [Value.int .i64 k2, .int .i64 n2, .string ⟨#[]⟩, .slice none 0 0, .slice none 0 0, .slice none 0 0]).keep hb)
  have GR214 := Lib.hid ((GR213.out.other (by have := DR2.out; omega) 0 [Value.int .i64 k2, .int .i64 n2, .string ⟨#[]⟩, .slice none 0 0, .slice none 0 0, .slice none 0 0]).keep hb)
  have GR314 := Lib.hid ((GR313.out.other (by have := DR3.out; omega) 0 [Value.int .i64 k2, .int .i64 n2, .string ⟨#[]⟩, .slice none 0 0, .slice none 0 0, .slice none 0 0]).keep hb)
  have GR414 := Lib.hid ((GR413.out.other (by have := DR4.out; omega) 0 [Value.int .i64 k2, .int .i64 n2, .string ⟨#[]⟩, .slice none 0 0, .slice none 0 0, .slice none 0 0]).keep hb)
  have GR514 := Lib.hid ((GR513.out.other (by have := DR5.out; omega) 0 [Value.int .i64 k2, .int .i64 n2, .string ⟨#[]⟩, .slice none 0 0, .slice none 0 0, .slice none 0 0]).keep hb)
  have GZ14 := Lib.hid ((GZ13.out.put (.int .i64 k2) (.int .i64 n2) (.string ⟨#[]⟩) (.slice none 0 0) (.slice none 0 0) (.slice none 0 0)).keep hb)
  clear hb
  obtain ⟨A0, A1, A2, A3, A4, A5⟩ := GA14.out.cells
  obtain ⟨B0, B1, B2, B3, B4, B5⟩ := GB14.out.cells
  obtain ⟨Z0, Z1, Z2, Z3, Z4, Z5⟩ := GZ14.out.cells
  go_wp2_with fail
  go_at_call 15
  refine (HT3.out _).mono ?_
  rintro e w15 ⟨rfl, hb⟩
  clear A0 A1 A2 A3 A4 A5 B0 B1 B2 B3 B4 B5 Z0 Z1 Z2 Z3 Z4 Z5
  have HB15 := Lib.hid (HB14.out.trans (hb.mono HB14.out.size))
  have GA15 := Lib.hid (GA14.out.keep hb)
  have GB15 := Lib.hid (GB14.out.keep hb)
  have GR015 := Lib.hid (GR014.out.keep hb)
  have GR215 := Lib.hid (GR214.out.keep hb)
  have GR315 := Lib.hid (GR314.out.keep hb)
  have GR415 := Lib.hid (GR414.out.keep hb)
  have GR515 := Lib.hid (GR514.out.keep hb)
  have GZ15 := Lib.hid (GZ14.out.keep hb)
  clear hb
  obtain ⟨R30, R31, R32, R33, R34, R35⟩ := GR315.out.cells
  obtain ⟨Z0, Z1, Z2, Z3, Z4, Z5⟩ := GZ15.out.cells
  obtain ⟨tZ0, tZ1, tZ2, tZ3, tZ4, tZ5⟩ := GZ15.out.thaw
  have nR := DR3.out
  have nR2 : ¬ w9.heap.size = w6.heap.size := fun e => nR e.symm
  go_wp2_with fail
  go_at_call 16
  refine (sameLeaf k3 n3 _).mono ?_
  rintro e w16 ⟨rfl, hb⟩
  clear R30 R31 R32 R33 R34 R35 Z0 Z1 Z2 Z3 Z4 Z5 tZ0 tZ1 tZ2 tZ3 tZ4 tZ5 nR nR2
  have hc := below_six (B := w9.heap.size) HB15.out (by have := GZ15.out.lt; have := HB15.out.size; first | omega | (have := LZ.out; omega)) (.int .i64 k3) (.int .i64 n3) (.string ⟨#[]⟩) (.slice none 0 0) (.slice none 0 0) (.slice none 0 0)
  have HB16 := Lib.hid (hc.trans (hb.mono hc.size))
  clear hc
  have GA16 := Lib.hid ((GA15.out.other (by have := DA.out; omega) 0 [Value.int .i64 k3, .int .i64 n3, .string ⟨#[]⟩, .slice none 0 0, .slice none 0 0, .slice none 0 0]).keep hb)
  have GB16 := Lib.hid ((GB15.out.other (by have := DB.out; omega) 0 [Value.int .i64 k3, .int .i64 n3, .string ⟨#[]⟩, .slice none 0 0, .slice none 0 0, .slice none 0 0]).keep hb)
  have GR016 := Lib.hid ((GR015.out.other (by have := DR0.out; omega) 0 [Value.int .i64 k3, .int .i64 n3, .string ⟨#[]⟩, .slice none 0 0, .slice none 0 0, .slice none 0 0]).keep hb)
  have GR316 := Lib.hid ((GR315.out.other (by have := DR3.out; omega) 0 [Value.int .i64 k3, .int .i64 n3, .string ⟨#[]⟩, .slice none 0 0, .slice none 0 0, .slice none 0 0]).keep hb)
  have GR416 := Lib.hid ((GR415.out.other (by have := DR4.out; omega) 0 [Value.int .i64 k3, .int .i64 n3, .string ⟨#[]⟩, .slice none 0 0, .slice none 0 0, .slice none 0 0]).keep hb)
  have GR516 := Lib.hid ((GR515.out.other (by have := DR5.out; omega) 0 [Value.int .i64 k3, .int .i64 n3, .string ⟨#[]⟩, .slice none 0 0, .slice none 0 0, .slice none 0 0]).keep hb)
  have GZ16 := Lib.hid ((GZ15.out.put (.int .i64 k3) (.int .i64 n3) (.string ⟨#[]⟩) (.slice none 0 0) (.slice none 0 0) (.slice none 0 0)).keep hb)
  clear hb
  obtain ⟨A0, A1, A2, A3, A4, A5⟩ := GA16.out.cells
  obtain ⟨B0, B1, B2, B3, B4, B5⟩ := GB16.out.cells
  obtain ⟨Z0, Z1, Z2, Z3, Z4, Z5⟩ := GZ16.out.cells
  go_wp2_with fail
  go_at_call 15
  refine (HT4.out _).mono ?_
  rintro e w17 ⟨rfl, hb⟩
  clear A0 A1 A2 A3 A4 A5 B0 B1 B2 B3 B4 B5 Z0 Z1 Z2 Z3 Z4 Z5
  have HB17 := Lib.hid (HB16.out.trans (hb.mono HB16.out.size))
  have GA17 := Lib.hid (GA16.out.keep hb)
  have GB17 := Lib.hid (GB16.out.keep hb)
  have GR017 := Lib.hid (GR016.out.keep hb)
  have GR317 := Lib.hid (GR316.out.keep hb)
  have GR417 := Lib.hid (GR416.out.keep hb)
  have GR517 := Lib.hid (GR516.out.keep hb)
  have GZ17 := Lib.hid (GZ16.out.keep hb)
  clear hb
  obtain ⟨R40, R41, R42, R43, R44, R45⟩ := GR417.out.cells
  obtain ⟨Z0, Z1, Z2, Z3, Z4, Z5⟩ := GZ17.out.cells
  obtain ⟨tZ0, tZ1, tZ2, tZ3, tZ4, tZ5⟩ := GZ17.out.thaw
  have nR := DR4.out
  have nR2 : ¬ w9.heap.size = w7.heap.size := fun e => nR e.symm
  go_wp2_with fail
  go_at_call 16
  refine (sameLeaf k4 n4 _).mono ?_
  rintro e w18 ⟨rfl, hb⟩
  clear R40 R41 R42 R43 R44 R45 Z0 Z1 Z2 Z3 Z4 Z5 tZ0 tZ1 tZ2 tZ3 tZ4 tZ5 nR nR2
  have hc := below_six (B := w9.heap.size) HB17.out (by have := GZ17.out.lt; have := HB17.out.size; first | omega | (have := LZ.out; omega)) (.int .i64 k4) (.int .i64 n4) (.string ⟨#[]⟩) (.slice none 0 0) (.slice none 0 0) (.slice none 0 0)
  have HB18 := Lib.hid (hc.trans (hb.mono hc.size))
  clear hc
  have GA18 := Lib.hid ((GA17.out.other (by have := DA.out; omega) 0 [Value.int .i64 k4, .int .i64 n4, .string ⟨#[]⟩, .slice none 0 0, .slice none 0 0, .slice none 0 0]).keep hb)
  have GB18 := Lib.hid ((GB17.out.other (by have := DB.out; omega) 0 [Value.int .i64 k4, .int .i64 n4, .string ⟨#[]⟩, .slice none 0 0, .slice none 0 0, .slice none 0 0]).keep hb)
  have GR018 := Lib.hid ((GR017.out.other (by have := DR0.out; omega) 0 [Value.int .i64 k4, .int .i64 n4, .string ⟨#[]⟩, .slice none 0 0, .slice none 0 0, .slice none 0 0]).keep hb)
  have GR418 := Lib.hid ((GR417.out.other (by have := DR4.out; omega) 0 [Value.int .i64 k4, .int .i64 n4, .string ⟨#[]⟩, .slice none 0 0, .slice none 0 0, .slice none 0 0]).keep hb)
  have GR518 := Lib.hid ((GR517.out.other (by have := DR5.out; omega) 0 [Value.int .i64 k4, .int .i64 n4, .string ⟨#[]⟩, .slice none 0 0, .slice none 0 0, .slice none 0 0]).keep hb)
  have GZ18 := Lib.hid ((GZ17.out.put (.int .i64 k4) (.int .i64 n4) (.string ⟨#[]⟩) (.slice none 0 0) (.slice none 0 0) (.slice none 0 0)).keep hb)
  clear hb
  obtain ⟨A0, A1, A2, A3, A4, A5⟩ := GA18.out.cells
  obtain ⟨B0, B1, B2, B3, B4, B5⟩ := GB18.out.cells
  obtain ⟨Z0, Z1, Z2, Z3, Z4, Z5⟩ := GZ18.out.cells
  go_wp2_with fail
  go_at_call 17
  refine (HT5.out _).mono ?_
  rintro e w19 ⟨rfl, hb⟩
  clear A0 A1 A2 A3 A4 A5 B0 B1 B2 B3 B4 B5 Z0 Z1 Z2 Z3 Z4 Z5
  have HB19 := Lib.hid (HB18.out.trans (hb.mono HB18.out.size))
  have GA19 := Lib.hid (GA18.out.keep hb)
  have GB19 := Lib.hid (GB18.out.keep hb)
  have GR019 := Lib.hid (GR018.out.keep hb)
  have GR419 := Lib.hid (GR418.out.keep hb)
  have GR519 := Lib.hid (GR518.out.keep hb)
  have GZ19 := Lib.hid (GZ18.out.keep hb)
  clear hb
  obtain ⟨R50, R51, R52, R53, R54, R55⟩ := GR519.out.cells
  obtain ⟨Z0, Z1, Z2, Z3, Z4, Z5⟩ := GZ19.out.cells
  obtain ⟨tZ0, tZ1, tZ2, tZ3, tZ4, tZ5⟩ := GZ19.out.thaw
  have nR := DR5.out
  have nR2 : ¬ w9.heap.size = w8.heap.size := fun e => nR e.symm
  go_wp2_with fail
  go_at_call 16
  refine (sameLeaf k5 n5 _).mono ?_
  rintro e w20 ⟨rfl, hb⟩
  clear R50 R51 R52 R53 R54 R55 Z0 Z1 Z2 Z3 Z4 Z5 tZ0 tZ1 tZ2 tZ3 tZ4 tZ5 nR nR2
  have hc := below_six (B := w9.heap.size) HB19.out (by have := GZ19.out.lt; have := HB19.out.size; first | omega | (have := LZ.out; omega)) (.int .i64 k5) (.int .i64 n5) (.string ⟨#[]⟩) (.slice none 0 0) (.slice none 0 0) (.slice none 0 0)
  have HB20 := Lib.hid (hc.trans (hb.mono hc.size))
  clear hc
  have GA20 := Lib.hid ((GA19.out.other (by have := DA.out; omega) 0 [Value.int .i64 k5, .int .i64 n5, .string ⟨#[]⟩, .slice none 0 0, .slice none 0 0, .slice none 0 0]).keep hb)
  have GB20 := Lib.hid ((GB19.out.other (by have := DB.out; omega) 0 [Value.int .i64 k5, .int .i64 n5, .string ⟨#[]⟩, .slice none 0 0, .slice none 0 0, .slice none 0 0]).keep hb)
  have GR020 := Lib.hid ((GR019.out.other (by have := DR0.out; omega) 0 [Value.int .i64 k5, .int .i64 n5, .string ⟨#[]⟩, .slice none 0 0, .slice none 0 0, .slice none 0 0]).keep hb)
  have GR520 := Lib.hid ((GR519.out.other (by have := DR5.out; omega) 0 [Value.int .i64 k5, .int .i64 n5, .string ⟨#[]⟩, .slice none 0 0, .slice none 0 0, .slice none 0 0]).keep hb)
  have GZ20 := Lib.hid ((GZ19.out.put (.int .i64 k5) (.int .i64 n5) (.string ⟨#[]⟩) (.slice none 0 0) (.slice none 0 0) (.slice none 0 0)).keep hb)
  clear hb
  obtain ⟨A0, A1, A2, A3, A4, A5⟩ := GA20.out.cells
  obtain ⟨B0, B1, B2, B3, B4, B5⟩ := GB20.out.cells
  obtain ⟨Z0, Z1, Z2, Z3, Z4, Z5⟩ := GZ20.out.cells
  go_wp2_with fail
  go_at_call 18
  refine (of_any _ _).mono ?_
  rintro e v1 ⟨rfl, hb⟩
  clear A0 A1 A2 A3 A4 A5 B0 B1 B2 B3 B4 B5 Z0 Z1 Z2 Z3 Z4 Z5
  have HV1 := Lib.hid (HB20.out.trans (hb.mono HB20.out.size))
  clear hb
  go_wp2_with fail
  go_at_call 19
  refine (refOf_any _ _).mono ?_
  rintro e v2 ⟨rfl, hb⟩
  have HV2 := Lib.hid (HV1.out.trans (hb.mono HV1.out.size))
  clear hb
  go_wp2_with fail
  go_at_call 16
  refine (sameLeaf _ _ _).mono ?_
  rintro e v3 ⟨rfl, hb⟩
  have HV3 := Lib.hid (HV2.out.trans (hb.mono HV2.out.size))
  clear hb
  go_wp2_with fail
  go_ret
  exact ⟨rfl, HV3.out⟩
end Go.Proofs.Ytkmibpjhfgbckaa
