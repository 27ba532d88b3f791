/- aqueductlaw9.NumLaws answers true (a walk). -/
import Derived.Test.YtkmibpjhfgbckaaNumAwake
import Derived.Test.YtkmibpjhfgbckaaNumSame
import Derived.Test.YtkmibpjhfgbckaaPathSmall
import Derived.Test.YtkmibpjhfgbckaaNumSym
namespace Go.Proofs.Ytkmibpjhfgbckaa
open Go.RowKit
open Seal
open Num
open Bson (Val)
set_option maxRecDepth 100000 in
set_option maxHeartbeats 8000000 in
theorem laws_any (h : Nat) (Q Q2 : Nat → Prop) (x y : Val) (u v : Value) (w : World) (hx : VIn w Q (h + 1) x u) (hy : VIn w Q2 (h + 1) y v) : Calls Try.prog 5 #[u, v] w (BoolBe true w) := by
  obtain ⟨ak, an, sa, ba, fa, la, bn0, bc, fn, fc, ln, lc, rfl, -, hxn, -, -, -, -, hLx, -, -⟩ := hx.letters
  obtain ⟨bk, bn, sb, ba2, fa2, la2, bn2, bc2, fn2, fc2, ln2, lc2, rfl, -, hyn, -, -, -, -, hLy, -, -⟩ := hy.letters
  have ha : In an := by rw [hxn]; exact ⟨hLx.n0, hLx.n1⟩
  have hb0 : In bn := by rw [hyn]; exact ⟨hLy.n0, hLy.n1⟩
  clear hxn hyn hLx hLy
  have HX := Lib.hid hx
  have HY := Lib.hid hy
  clear hx hy
  have HP0 := Lib.hid (fun w => numAdd_any ak an bk bn (.string sa) (.slice ba bn0 bc) (.slice fa fn fc) (.slice la ln lc) (.string sb) (.slice ba2 bn2 bc2) (.slice fa2 fn2 fc2) (.slice la2 ln2 lc2) w ha hb0)
  have HQ0 := Lib.hid (fun w => numAdd_any bk bn ak an (.string sb) (.slice ba2 bn2 bc2) (.slice fa2 fn2 fc2) (.slice la2 ln2 lc2) (.string sa) (.slice ba bn0 bc) (.slice fa fn fc) (.slice la ln lc) w hb0 ha)
  have HP1 := Lib.hid (fun w => numMul_any ak an bk bn (.string sa) (.slice ba bn0 bc) (.slice fa fn fc) (.slice la ln lc) (.string sb) (.slice ba2 bn2 bc2) (.slice fa2 fn2 fc2) (.slice la2 ln2 lc2) w ha hb0)
  have HQ1 := Lib.hid (fun w => numMul_any bk bn ak an (.string sb) (.slice ba2 bn2 bc2) (.slice fa2 fn2 fc2) (.slice la2 ln2 lc2) (.string sa) (.slice ba bn0 bc) (.slice fa fn fc) (.slice la ln lc) w hb0 ha)
  rw [reck_swap (sumR bn an) bk ak, sumR_swap] at HQ0
  rw [reck_swap (mulR bn an) bk ak, mulR_swap] at HQ1
  have HF := Lib.hid (laws_facts an bn ak bk)
  have HNA := Lib.hid (fun w => lawNone_any ak (.int .i64 an) (.string sa) (.slice ba bn0 bc) (.slice fa fn fc) (.slice la ln lc) w)
  have HNB := Lib.hid (fun w => lawNone_any bk (.int .i64 bn) (.string sb) (.slice ba2 bn2 bc2) (.slice fa2 fn2 fc2) (.slice la2 ln2 lc2) w)
  have HMA := Lib.hid (fun w => lawNumber_any ak (.int .i64 an) (.string sa) (.slice ba bn0 bc) (.slice fa fn fc) (.slice la ln lc) w)
  have HMB := Lib.hid (fun w => lawNumber_any bk (.int .i64 bn) (.string sb) (.slice ba2 bn2 bc2) (.slice fa2 fn2 fc2) (.slice la2 ln2 lc2) w)
  generalize reck (sumR an bn) ak bk = r0 at *
  generalize reck (mulR an bn) ak bk = r1 at *
  obtain ⟨k0, n0, e0⟩ := r0
  obtain ⟨k1, n1, e1⟩ := r1
  have HF2 := Lib.hid (show LF ak bk k0 n0 e0 k1 n1 e1 from HF.out)
  clear ha hb0 HF
  have GA0 := Lib.hid (show IsBox ((w.alloc (.cells #[Value.int .i64 ak, .int .i64 an, .string sa, .slice ba bn0 bc, .slice fa fn fc, .slice la ln lc] 26)).alloc (.cells #[Value.int .i64 bk, .int .i64 bn, .string sb, .slice ba2 bn2 bc2, .slice fa2 fn2 fc2, .slice la2 ln2 lc2] 26)) w.heap.size (.int .i64 ak) (.int .i64 an) (.string sa) (.slice ba bn0 bc) (.slice fa fn fc) (.slice la ln lc) from (IsBox.new w (.int .i64 ak) (.int .i64 an) (.string sa) (.slice ba bn0 bc) (.slice fa fn fc) (.slice la ln lc)).keep ((Below.refl _ _).alloc (Nat.le_refl _) _))
  have GB0 := Lib.hid (IsBox.new2 w (.cells #[Value.int .i64 ak, .int .i64 an, .string sa, .slice ba bn0 bc, .slice fa fn fc, .slice la ln lc] 26) (.int .i64 bk) (.int .i64 bn) (.string sb) (.slice ba2 bn2 bc2) (.slice fa2 fn2 fc2) (.slice la2 ln2 lc2))
  have HB0 : Hid (Below w.heap.size w ((w.alloc (.cells #[Value.int .i64 ak, .int .i64 an, .string sa, .slice ba bn0 bc, .slice fa fn fc, .slice la ln lc] 26)).alloc (.cells #[Value.int .i64 bk, .int .i64 bn, .string sb, .slice ba2 bn2 bc2, .slice fa2 fn2 fc2, .slice la2 ln2 lc2] 26))) := ((Below.refl _ w).alloc (Nat.le_refl _) _).alloc (by simp) _
  have HX0 : Hid (VIn ((w.alloc (.cells #[Value.int .i64 ak, .int .i64 an, .string sa, .slice ba bn0 bc, .slice fa fn fc, .slice la ln lc] 26)).alloc (.cells #[Value.int .i64 bk, .int .i64 bn, .string sb, .slice ba2 bn2 bc2, .slice fa2 fn2 fc2, .slice la2 ln2 lc2] 26)) Q (h + 1) x (.agg #[.int .i64 ak, .int .i64 an, .string sa, .slice ba bn0 bc, .slice fa fn fc, .slice la ln lc])) := VIn.keep HB0.out HX.out
  have HY0 : Hid (VIn ((w.alloc (.cells #[Value.int .i64 ak, .int .i64 an, .string sa, .slice ba bn0 bc, .slice fa fn fc, .slice la ln lc] 26)).alloc (.cells #[Value.int .i64 bk, .int .i64 bn, .string sb, .slice ba2 bn2 bc2, .slice fa2 fn2 fc2, .slice la2 ln2 lc2] 26)) Q2 (h + 1) y (.agg #[.int .i64 bk, .int .i64 bn, .string sb, .slice ba2 bn2 bc2, .slice fa2 fn2 fc2, .slice la2 ln2 lc2])) := VIn.keep HB0.out HY.out
  go_enter Try.func5, Try.ntmps5
  go_wp2_with fail
  generalize hW : ((w.alloc (.cells #[Value.int .i64 ak, .int .i64 an, .string sa, .slice ba bn0 bc, .slice fa fn fc, .slice la ln lc] 26)).alloc (.cells #[Value.int .i64 bk, .int .i64 bn, .string sb, .slice ba2 bn2 bc2, .slice fa2 fn2 fc2, .slice la2 ln2 lc2] 26)) = V0 at *
  clear hW
  go_at_call 7
  refine (awake9 _).mono ?_
  rintro e w0 ⟨rfl, hb⟩
  have HB00 := Lib.hid (HB0.out.trans (hb.mono HB0.out.size))
  have GA00 := Lib.hid (GA0.out.keep hb)
  have GB00 := Lib.hid (GB0.out.keep hb)
  clear hb
  obtain ⟨A0, A1, A2, A3, A4, A5⟩ := GA00.out.cells
  obtain ⟨B0, B1, B2, B3, B4, B5⟩ := GB00.out.cells
  go_wp2_with fail
  have HSA := Lib.hid (small_any Q h x _ w0 (VIn.keep (w := w) HB00.out HX.out))
  go_at_call 8
  refine HSA.out.mono ?_
  rintro e w1 ⟨b, rfl, -, hb⟩
  clear A0 A1 A2 A3 A4 A5 B0 B1 B2 B3 B4 B5
  have HB1 := Lib.hid (HB00.out.trans (hb.mono HB00.out.size))
  have GA1 := Lib.hid (GA00.out.keep hb)
  have GB1 := Lib.hid (GB00.out.keep hb)
  clear hb HSA
  obtain ⟨A0, A1, A2, A3, A4, A5⟩ := GA1.out.cells
  obtain ⟨B0, B1, B2, B3, B4, B5⟩ := GB1.out.cells
  cases b with
  | false =>
    go_wp2_with fail
    go_ret
    exact ⟨rfl, HB1.out⟩
  | true =>
  go_wp2_with fail
  have HSB := Lib.hid (small_any Q2 h y _ w1 (VIn.keep (w := w) HB1.out HY.out))
  go_at_call 8
  refine HSB.out.mono ?_
  rintro e w2 ⟨b, rfl, -, hb⟩
  clear A0 A1 A2 A3 A4 A5 B0 B1 B2 B3 B4 B5
  have HB2 := Lib.hid (HB1.out.trans (hb.mono HB1.out.size))
  have GA2 := Lib.hid (GA1.out.keep hb)
  have GB2 := Lib.hid (GB1.out.keep hb)
  clear hb HSB
  obtain ⟨A0, A1, A2, A3, A4, A5⟩ := GA2.out.cells
  obtain ⟨B0, B1, B2, B3, B4, B5⟩ := GB2.out.cells
  cases b with
  | false =>
    go_wp2_with fail
    go_ret
    exact ⟨rfl, HB2.out⟩
  | true =>
  go_wp2_with fail
  go_at_call 9
  refine (HP0.out _).mono ?_
  rintro e w3 ⟨rfl, hb⟩
  clear A0 A1 A2 A3 A4 A5 B0 B1 B2 B3 B4 B5
  have HB3 := Lib.hid (HB2.out.trans (hb.mono HB2.out.size))
  have GA3 := Lib.hid (GA2.out.keep hb)
  have GB3 := Lib.hid (GB2.out.keep hb)
  clear hb
  obtain ⟨A0, A1, A2, A3, A4, A5⟩ := GA3.out.cells
  obtain ⟨B0, B1, B2, B3, B4, B5⟩ := GB3.out.cells
  have mA : w.heap.size < w3.heap.size := GA3.out.lt
  have nA : ¬ w.heap.size = w3.heap.size := by omega
  have mB : (w.heap.size + 1) < w3.heap.size := GB3.out.lt
  have nB : ¬ (w.heap.size + 1) = w3.heap.size := by omega
  go_wp2_with fail
  go_at_call 9
  refine (HQ0.out _).mono ?_
  rintro e w4 ⟨rfl, hb⟩
  clear A0 A1 A2 A3 A4 A5 B0 B1 B2 B3 B4 B5 mA nA mB nB
  have hc : Below w3.heap.size w3 w4 := ((Below.refl _ w3).alloc (Nat.le_refl _) _).trans (hb.mono (by simp))
  have HB4 := Lib.hid (HB3.out.trans (hc.mono HB3.out.size))
  have GA4 := Lib.hid (GA3.out.keep hc)
  have GB4 := Lib.hid (GB3.out.keep hc)
  have GS04 := Lib.hid ((IsBox.new w3 (.int .i64 k0) (.int .i64 n0) (.string ⟨#[]⟩) (.slice none 0 0) (.slice none 0 0) (.slice none 0 0)).keep hb)
  clear hc
  clear hb
  obtain ⟨A0, A1, A2, A3, A4, A5⟩ := GA4.out.cells
  obtain ⟨B0, B1, B2, B3, B4, B5⟩ := GB4.out.cells
  have mA : w.heap.size < w4.heap.size := GA4.out.lt
  have nA : ¬ w.heap.size = w4.heap.size := by omega
  have mB : (w.heap.size + 1) < w4.heap.size := GB4.out.lt
  have nB : ¬ (w.heap.size + 1) = w4.heap.size := by omega
  go_wp2_with fail
  go_at_call 11
  refine (HP1.out _).mono ?_
  rintro e w5 ⟨rfl, hb⟩
  clear A0 A1 A2 A3 A4 A5 B0 B1 B2 B3 B4 B5 mA nA mB nB
  have hc : Below w4.heap.size w4 w5 := ((Below.refl _ w4).alloc (Nat.le_refl _) _).trans (hb.mono (by simp))
  have HB5 := Lib.hid (HB4.out.trans (hc.mono HB4.out.size))
  have GA5 := Lib.hid (GA4.out.keep hc)
  have GB5 := Lib.hid (GB4.out.keep hc)
  have GS05 := Lib.hid (GS04.out.keep hc)
  have GT05 := Lib.hid ((IsBox.new w4 (.int .i64 k0) (.int .i64 n0) (.string ⟨#[]⟩) (.slice none 0 0) (.slice none 0 0) (.slice none 0 0)).keep hb)
  clear hc
  clear hb
  obtain ⟨A0, A1, A2, A3, A4, A5⟩ := GA5.out.cells
  obtain ⟨B0, B1, B2, B3, B4, B5⟩ := GB5.out.cells
  have mA : w.heap.size < w5.heap.size := GA5.out.lt
  have nA : ¬ w.heap.size = w5.heap.size := by omega
  have mB : (w.heap.size + 1) < w5.heap.size := GB5.out.lt
  have nB : ¬ (w.heap.size + 1) = w5.heap.size := by omega
  go_wp2_with fail
  go_at_call 11
  refine (HQ1.out _).mono ?_
  rintro e w6 ⟨rfl, hb⟩
  clear A0 A1 A2 A3 A4 A5 B0 B1 B2 B3 B4 B5 mA nA mB nB
  have hc : Below w5.heap.size w5 w6 := ((Below.refl _ w5).alloc (Nat.le_refl _) _).trans (hb.mono (by simp))
  have HB6 := Lib.hid (HB5.out.trans (hc.mono HB5.out.size))
  have GA6 := Lib.hid (GA5.out.keep hc)
  have GB6 := Lib.hid (GB5.out.keep hc)
  have GS06 := Lib.hid (GS05.out.keep hc)
  have GT06 := Lib.hid (GT05.out.keep hc)
  have GS16 := Lib.hid ((IsBox.new w5 (.int .i64 k1) (.int .i64 n1) (.string ⟨#[]⟩) (.slice none 0 0) (.slice none 0 0) (.slice none 0 0)).keep hb)
  clear hc
  clear hb
  obtain ⟨A0, A1, A2, A3, A4, A5⟩ := GA6.out.cells
  obtain ⟨B0, B1, B2, B3, B4, B5⟩ := GB6.out.cells
  have mA : w.heap.size < w6.heap.size := GA6.out.lt
  have nA : ¬ w.heap.size = w6.heap.size := by omega
  have mB : (w.heap.size + 1) < w6.heap.size := GB6.out.lt
  have nB : ¬ (w.heap.size + 1) = w6.heap.size := by omega
  obtain ⟨S00, S01, S02, S03, S04, S05⟩ := GS06.out.cells
  obtain ⟨T00, T01, T02, T03, T04, T05⟩ := GT06.out.cells
  obtain ⟨S10, S11, S12, S13, S14, S15⟩ := GS16.out.cells
  have mS0 : w3.heap.size < w6.heap.size := GS06.out.lt
  have nS0 : ¬ w3.heap.size = w6.heap.size := by omega
  have mT0 : w4.heap.size < w6.heap.size := GT06.out.lt
  have nT0 : ¬ w4.heap.size = w6.heap.size := by omega
  have mS1 : w5.heap.size < w6.heap.size := GS16.out.lt
  have nS1 : ¬ w5.heap.size = w6.heap.size := by omega
  go_wp2_with fail
  go_at_call 16
  refine (sameLeaf k0 n0 _).mono ?_
  rintro e w7 ⟨rfl, hb⟩
  clear A0 A1 A2 A3 A4 A5 B0 B1 B2 B3 B4 B5 mA nA mB nB S00 S01 S02 S03 S04 S05 T00 T01 T02 T03 T04 T05 S10 S11 S12 S13 S14 S15 mS0 nS0 mT0 nT0 mS1 nS1
  have hc : Below w6.heap.size w6 w7 := ((Below.refl _ w6).alloc (Nat.le_refl _) _).trans (hb.mono (by simp))
  have HB7 := Lib.hid (HB6.out.trans (hc.mono HB6.out.size))
  have GA7 := Lib.hid (GA6.out.keep hc)
  have GB7 := Lib.hid (GB6.out.keep hc)
  have GS07 := Lib.hid (GS06.out.keep hc)
  have GT07 := Lib.hid (GT06.out.keep hc)
  have GS17 := Lib.hid (GS16.out.keep hc)
  have GT17 := Lib.hid ((IsBox.new w6 (.int .i64 k1) (.int .i64 n1) (.string ⟨#[]⟩) (.slice none 0 0) (.slice none 0 0) (.slice none 0 0)).keep hb)
  clear hc
  clear hb
  obtain ⟨S10, S11, S12, S13, S14, S15⟩ := GS17.out.cells
  obtain ⟨T10, T11, T12, T13, T14, T15⟩ := GT17.out.cells
  go_wp2_with fail
  go_at_call 16
  refine (sameLeaf k1 n1 _).mono ?_
  rintro e w8 ⟨rfl, hb⟩
  clear S10 S11 S12 S13 S14 S15 T10 T11 T12 T13 T14 T15
  have HB8 := Lib.hid (HB7.out.trans (hb.mono HB7.out.size))
  have GA8 := Lib.hid (GA7.out.keep hb)
  have GB8 := Lib.hid (GB7.out.keep hb)
  have GS08 := Lib.hid (GS07.out.keep hb)
  have GT08 := Lib.hid (GT07.out.keep hb)
  have GS18 := Lib.hid (GS17.out.keep hb)
  have GT18 := Lib.hid (GT17.out.keep hb)
  clear hb
  obtain ⟨A0, A1, A2, A3, A4, A5⟩ := GA8.out.cells
  obtain ⟨B0, B1, B2, B3, B4, B5⟩ := GB8.out.cells
  go_wp2_with fail
  by_cases c1 : noneB ak = true
  · rw [c1] at HNA
    obtain ⟨⟨rfl, rfl, rfl⟩, rfl, rfl, rfl⟩ := HF2.out.1 (.inl c1)
    clear HF2 c1
    go_at_call 20
    refine (HNA.out _).mono ?_
    rintro e w9 ⟨rfl, hb⟩
    clear A0 A1 A2 A3 A4 A5 B0 B1 B2 B3 B4 B5
    have HB9 := Lib.hid (HB8.out.trans (hb.mono HB8.out.size))
    have GA9 := Lib.hid (GA8.out.keep hb)
    have GB9 := Lib.hid (GB8.out.keep hb)
    have GS09 := Lib.hid (GS08.out.keep hb)
    have GS19 := Lib.hid (GS18.out.keep hb)
    clear hb
    obtain ⟨A0, A1, A2, A3, A4, A5⟩ := GA9.out.cells
    obtain ⟨B0, B1, B2, B3, B4, B5⟩ := GB9.out.cells
    obtain ⟨S00, S01, S02, S03, S04, S05⟩ := GS09.out.cells
    obtain ⟨S10, S11, S12, S13, S14, S15⟩ := GS19.out.cells
    go_wp2_with fail
    go_ret
    exact ⟨rfl, HB9.out⟩
  rw [eq_false_of_ne_true c1] at HNA
  by_cases c2 : noneB bk = true
  · rw [c2] at HNB
    obtain ⟨⟨rfl, rfl, rfl⟩, rfl, rfl, rfl⟩ := HF2.out.1 (.inr c2)
    clear HF2 c1 c2
    go_at_call 20
    refine (HNA.out _).mono ?_
    rintro e w9 ⟨rfl, hb⟩
    clear A0 A1 A2 A3 A4 A5 B0 B1 B2 B3 B4 B5
    have HB9 := Lib.hid (HB8.out.trans (hb.mono HB8.out.size))
    have GA9 := Lib.hid (GA8.out.keep hb)
    have GB9 := Lib.hid (GB8.out.keep hb)
    have GS09 := Lib.hid (GS08.out.keep hb)
    have GS19 := Lib.hid (GS18.out.keep hb)
    clear hb
    obtain ⟨A0, A1, A2, A3, A4, A5⟩ := GA9.out.cells
    obtain ⟨B0, B1, B2, B3, B4, B5⟩ := GB9.out.cells
    go_wp2_with fail
    go_at_call 20
    refine (HNB.out _).mono ?_
    rintro e w10 ⟨rfl, hb⟩
    clear A0 A1 A2 A3 A4 A5 B0 B1 B2 B3 B4 B5
    have HB10 := Lib.hid (HB9.out.trans (hb.mono HB9.out.size))
    have GA10 := Lib.hid (GA9.out.keep hb)
    have GB10 := Lib.hid (GB9.out.keep hb)
    have GS010 := Lib.hid (GS09.out.keep hb)
    have GS110 := Lib.hid (GS19.out.keep hb)
    clear hb
    obtain ⟨A0, A1, A2, A3, A4, A5⟩ := GA10.out.cells
    obtain ⟨B0, B1, B2, B3, B4, B5⟩ := GB10.out.cells
    obtain ⟨S00, S01, S02, S03, S04, S05⟩ := GS010.out.cells
    obtain ⟨S10, S11, S12, S13, S14, S15⟩ := GS110.out.cells
    go_wp2_with fail
    go_ret
    exact ⟨rfl, HB10.out⟩
  rw [eq_false_of_ne_true c2] at HNB
  by_cases c3 : numB ak = false
  · rw [c3] at HMA
    obtain ⟨⟨rfl, rfl, rfl⟩, rfl, rfl, rfl⟩ := HF2.out.2.1 c1 c2 (.inl c3)
    clear HF2 c1 c2 c3
    go_at_call 20
    refine (HNA.out _).mono ?_
    rintro e w9 ⟨rfl, hb⟩
    clear A0 A1 A2 A3 A4 A5 B0 B1 B2 B3 B4 B5
    have HB9 := Lib.hid (HB8.out.trans (hb.mono HB8.out.size))
    have GA9 := Lib.hid (GA8.out.keep hb)
    have GB9 := Lib.hid (GB8.out.keep hb)
    have GS09 := Lib.hid (GS08.out.keep hb)
    have GS19 := Lib.hid (GS18.out.keep hb)
    clear hb
    obtain ⟨A0, A1, A2, A3, A4, A5⟩ := GA9.out.cells
    obtain ⟨B0, B1, B2, B3, B4, B5⟩ := GB9.out.cells
    go_wp2_with fail
    go_at_call 20
    refine (HNB.out _).mono ?_
    rintro e w10 ⟨rfl, hb⟩
    clear A0 A1 A2 A3 A4 A5 B0 B1 B2 B3 B4 B5
    have HB10 := Lib.hid (HB9.out.trans (hb.mono HB9.out.size))
    have GA10 := Lib.hid (GA9.out.keep hb)
    have GB10 := Lib.hid (GB9.out.keep hb)
    have GS010 := Lib.hid (GS09.out.keep hb)
    have GS110 := Lib.hid (GS19.out.keep hb)
    clear hb
    obtain ⟨A0, A1, A2, A3, A4, A5⟩ := GA10.out.cells
    obtain ⟨B0, B1, B2, B3, B4, B5⟩ := GB10.out.cells
    go_wp2_with fail
    go_at_call 21
    refine (HMA.out _).mono ?_
    rintro e w11 ⟨rfl, hb⟩
    clear A0 A1 A2 A3 A4 A5 B0 B1 B2 B3 B4 B5
    have HB11 := Lib.hid (HB10.out.trans (hb.mono HB10.out.size))
    have GA11 := Lib.hid (GA10.out.keep hb)
    have GB11 := Lib.hid (GB10.out.keep hb)
    have GS011 := Lib.hid (GS010.out.keep hb)
    have GS111 := Lib.hid (GS110.out.keep hb)
    clear hb
    obtain ⟨A0, A1, A2, A3, A4, A5⟩ := GA11.out.cells
    obtain ⟨B0, B1, B2, B3, B4, B5⟩ := GB11.out.cells
    go_wp2_with fail
    go_ret
    exact ⟨rfl, HB11.out⟩
  rw [eq_true_of_ne_false c3] at HMA
  by_cases c4 : numB bk = false
  · rw [c4] at HMB
    obtain ⟨⟨rfl, rfl, rfl⟩, rfl, rfl, rfl⟩ := HF2.out.2.1 c1 c2 (.inr c4)
    clear HF2 c1 c2 c3 c4
    go_at_call 20
    refine (HNA.out _).mono ?_
    rintro e w9 ⟨rfl, hb⟩
    clear A0 A1 A2 A3 A4 A5 B0 B1 B2 B3 B4 B5
    have HB9 := Lib.hid (HB8.out.trans (hb.mono HB8.out.size))
    have GA9 := Lib.hid (GA8.out.keep hb)
    have GB9 := Lib.hid (GB8.out.keep hb)
    have GS09 := Lib.hid (GS08.out.keep hb)
    have GS19 := Lib.hid (GS18.out.keep hb)
    clear hb
    obtain ⟨A0, A1, A2, A3, A4, A5⟩ := GA9.out.cells
    obtain ⟨B0, B1, B2, B3, B4, B5⟩ := GB9.out.cells
    go_wp2_with fail
    go_at_call 20
    refine (HNB.out _).mono ?_
    rintro e w10 ⟨rfl, hb⟩
    clear A0 A1 A2 A3 A4 A5 B0 B1 B2 B3 B4 B5
    have HB10 := Lib.hid (HB9.out.trans (hb.mono HB9.out.size))
    have GA10 := Lib.hid (GA9.out.keep hb)
    have GB10 := Lib.hid (GB9.out.keep hb)
    have GS010 := Lib.hid (GS09.out.keep hb)
    have GS110 := Lib.hid (GS19.out.keep hb)
    clear hb
    obtain ⟨A0, A1, A2, A3, A4, A5⟩ := GA10.out.cells
    obtain ⟨B0, B1, B2, B3, B4, B5⟩ := GB10.out.cells
    go_wp2_with fail
    go_at_call 21
    refine (HMA.out _).mono ?_
    rintro e w11 ⟨rfl, hb⟩
    clear A0 A1 A2 A3 A4 A5 B0 B1 B2 B3 B4 B5
    have HB11 := Lib.hid (HB10.out.trans (hb.mono HB10.out.size))
    have GA11 := Lib.hid (GA10.out.keep hb)
    have GB11 := Lib.hid (GB10.out.keep hb)
    have GS011 := Lib.hid (GS010.out.keep hb)
    have GS111 := Lib.hid (GS110.out.keep hb)
    clear hb
    obtain ⟨A0, A1, A2, A3, A4, A5⟩ := GA11.out.cells
    obtain ⟨B0, B1, B2, B3, B4, B5⟩ := GB11.out.cells
    go_wp2_with fail
    go_at_call 21
    refine (HMB.out _).mono ?_
    rintro e w12 ⟨rfl, hb⟩
    clear A0 A1 A2 A3 A4 A5 B0 B1 B2 B3 B4 B5
    have HB12 := Lib.hid (HB11.out.trans (hb.mono HB11.out.size))
    have GA12 := Lib.hid (GA11.out.keep hb)
    have GB12 := Lib.hid (GB11.out.keep hb)
    have GS012 := Lib.hid (GS011.out.keep hb)
    have GS112 := Lib.hid (GS111.out.keep hb)
    clear hb
    obtain ⟨A0, A1, A2, A3, A4, A5⟩ := GA12.out.cells
    obtain ⟨B0, B1, B2, B3, B4, B5⟩ := GB12.out.cells
    go_wp2_with fail
    go_ret
    exact ⟨rfl, HB12.out⟩
  rw [eq_true_of_ne_false c4] at HMB
  have HG := Lib.hid (HF2.out.2.2 c1 c2 c3 c4)
  clear HF2 c1 c2 c3 c4
  go_at_call 20
  refine (HNA.out _).mono ?_
  rintro e w9 ⟨rfl, hb⟩
  clear A0 A1 A2 A3 A4 A5 B0 B1 B2 B3 B4 B5
  have HB9 := Lib.hid (HB8.out.trans (hb.mono HB8.out.size))
  have GA9 := Lib.hid (GA8.out.keep hb)
  have GB9 := Lib.hid (GB8.out.keep hb)
  have GS09 := Lib.hid (GS08.out.keep hb)
  have GS19 := Lib.hid (GS18.out.keep hb)
  clear hb
  obtain ⟨A0, A1, A2, A3, A4, A5⟩ := GA9.out.cells
  obtain ⟨B0, B1, B2, B3, B4, B5⟩ := GB9.out.cells
  go_wp2_with fail
  go_at_call 20
  refine (HNB.out _).mono ?_
  rintro e w10 ⟨rfl, hb⟩
  clear A0 A1 A2 A3 A4 A5 B0 B1 B2 B3 B4 B5
  have HB10 := Lib.hid (HB9.out.trans (hb.mono HB9.out.size))
  have GA10 := Lib.hid (GA9.out.keep hb)
  have GB10 := Lib.hid (GB9.out.keep hb)
  have GS010 := Lib.hid (GS09.out.keep hb)
  have GS110 := Lib.hid (GS19.out.keep hb)
  clear hb
  obtain ⟨A0, A1, A2, A3, A4, A5⟩ := GA10.out.cells
  obtain ⟨B0, B1, B2, B3, B4, B5⟩ := GB10.out.cells
  go_wp2_with fail
  go_at_call 21
  refine (HMA.out _).mono ?_
  rintro e w11 ⟨rfl, hb⟩
  clear A0 A1 A2 A3 A4 A5 B0 B1 B2 B3 B4 B5
  have HB11 := Lib.hid (HB10.out.trans (hb.mono HB10.out.size))
  have GA11 := Lib.hid (GA10.out.keep hb)
  have GB11 := Lib.hid (GB10.out.keep hb)
  have GS011 := Lib.hid (GS010.out.keep hb)
  have GS111 := Lib.hid (GS110.out.keep hb)
  clear hb
  obtain ⟨A0, A1, A2, A3, A4, A5⟩ := GA11.out.cells
  obtain ⟨B0, B1, B2, B3, B4, B5⟩ := GB11.out.cells
  go_wp2_with fail
  go_at_call 21
  refine (HMB.out _).mono ?_
  rintro e w12 ⟨rfl, hb⟩
  clear A0 A1 A2 A3 A4 A5 B0 B1 B2 B3 B4 B5
  have HB12 := Lib.hid (HB11.out.trans (hb.mono HB11.out.size))
  have GA12 := Lib.hid (GA11.out.keep hb)
  have GB12 := Lib.hid (GB11.out.keep hb)
  have GS012 := Lib.hid (GS011.out.keep hb)
  have GS112 := Lib.hid (GS111.out.keep hb)
  clear hb
  obtain ⟨A0, A1, A2, A3, A4, A5⟩ := GA12.out.cells
  obtain ⟨B0, B1, B2, B3, B4, B5⟩ := GB12.out.cells
  obtain ⟨S00, S01, S02, S03, S04, S05⟩ := GS012.out.cells
  rcases HG.out with ⟨rfl, rfl⟩ | ⟨rfl, rfl, hw⟩ | ⟨rfl, rfl, c6, c7, hl⟩ | ⟨rfl, rfl, c6, c7, hl, hg⟩ | ⟨rfl, rfl, c6, c7, hl, hg⟩
  · clear HG
    by_cases c6 : ak = 4
    · have e6 : ((ak : Int) == 4) = true := by rw [beq_iff_eq]; exact c6
      go_wp2_with fail
      go_ret
      exact ⟨rfl, HB12.out⟩
    by_cases c7 : bk = 4
    · have e6 : ((ak : Int) == 4) = false := by rw [beq_eq_false_iff_ne]; exact c6
      have e7 : ((bk : Int) == 4) = true := by rw [beq_iff_eq]; exact c7
      go_wp2_with fail
      go_ret
      exact ⟨rfl, HB12.out⟩
    · have e6 : ((ak : Int) == 4) = false := by rw [beq_eq_false_iff_ne]; exact c6
      have e7 : ((bk : Int) == 4) = false := by rw [beq_eq_false_iff_ne]; exact c7
      go_wp2_with fail
      go_ret
      exact ⟨rfl, HB12.out⟩
  · clear HG
    by_cases c6 : ak = 4
    · have e6 : ((ak : Int) == 4) = true := by rw [beq_iff_eq]; exact c6
      clear hw c6
      go_wp2_with fail
      go_ret
      exact ⟨rfl, HB12.out⟩
    have c7 : bk = 4 := hw.resolve_left c6
    clear hw
    have e6 : ((ak : Int) == 4) = false := by rw [beq_eq_false_iff_ne]; exact c6
    have e7 : ((bk : Int) == 4) = true := by rw [beq_iff_eq]; exact c7
    clear c6 c7
    · go_wp2_with fail
      go_ret
      exact ⟨rfl, HB12.out⟩
  · clear HG
    have e6 : ((ak : Int) == 4) = false := by rw [beq_eq_false_iff_ne]; exact c6
    have e7 : ((bk : Int) == 4) = false := by rw [beq_eq_false_iff_ne]; exact c7
    clear c6 c7
    have d1 : decide (n0 < -2147483648) = true := decide_eq_true hl
    · go_wp2_with fail
      go_ret
      exact ⟨rfl, HB12.out⟩
  · clear HG
    have e6 : ((ak : Int) == 4) = false := by rw [beq_eq_false_iff_ne]; exact c6
    have e7 : ((bk : Int) == 4) = false := by rw [beq_eq_false_iff_ne]; exact c7
    clear c6 c7
    have d1 : decide (n0 < -2147483648) = false := by rw [decide_eq_false_iff_not]; omega
    have d2 : decide (n0 ≥ 2147483648) = true := by rw [decide_eq_true_eq]; omega
    · go_wp2_with fail
      go_ret
      exact ⟨rfl, HB12.out⟩
  · clear HG
    have e6 : ((ak : Int) == 4) = false := by rw [beq_eq_false_iff_ne]; exact c6
    have e7 : ((bk : Int) == 4) = false := by rw [beq_eq_false_iff_ne]; exact c7
    clear c6 c7
    have d1 : decide (n0 < -2147483648) = false := by rw [decide_eq_false_iff_not]; omega
    have d2 : decide (n0 ≥ 2147483648) = false := by rw [decide_eq_false_iff_not]; omega
    · go_wp2_with fail
      go_ret
      exact ⟨rfl, HB12.out⟩
end Go.Proofs.Ytkmibpjhfgbckaa
