/- aqueductref5.Two: the sum of two numbers (walks). -/
import Derived.Test.YtkmibpjhfgbckaaNumBox
import Derived.Test.YtkmibpjhfgbckaaValLets
namespace Go.Proofs.Ytkmibpjhfgbckaa
open Go.RowKit
open Seal
open Num
set_option maxRecDepth 100000 in
set_option maxHeartbeats 8000000 in
theorem refTwo_sum_up (ak an bk bn : Int) (p2 p3 p4 p5 q2 q3 q4 q5 : Value) (w : World) (_ : In an) (_ : In bn) (c1 : noneB ak = false) (c2 : noneB bk = false) (c3 : numB ak = true) (c4 : numB bk = true) (h : In (an + bn)) (h0 : 0 ≤ bn) : Calls Try.prog 15 #[.int .u8 43, .agg #[.int .i64 ak, .int .i64 an, p2, p3, p4, p5], .agg #[.int .i64 bk, .int .i64 bn, q2, q3, q4, q5]] w (ValE (reck (sumR an bn) ak bk) w) := by
  have HR0 := Lib.hid (R3.new w #[Value.int .i64 ak, .int .i64 an, p2, p3, p4, p5] #[Value.int .i64 bk, .int .i64 bn, q2, q3, q4, q5])
  have HNA := Lib.hid (fun w => refNone_any ak (.int .i64 an) p2 p3 p4 p5 w)
  have HNB := Lib.hid (fun w => refNone_any bk (.int .i64 bn) q2 q3 q4 q5 w)
  have HMA := Lib.hid (fun w => refNumber_any ak (.int .i64 an) p2 p3 p4 p5 w)
  have HMB := Lib.hid (fun w => refNumber_any bk (.int .i64 bn) q2 q3 q4 q5 w)
  rw [c1] at HNA
  rw [c2] at HNB
  rw [c3] at HMA
  rw [c4] at HMB
  obtain ⟨r, hr⟩ : ∃ r, r = reck (sumR an bn) ak bk := ⟨_, rfl⟩
  rw [← hr]
  have ho : sumR an bn = (an + bn, 0) := if_pos h
  have hw : IntKind.i64.wrap (an + bn) = an + bn := IntWalk.i64_in _ h
  have d1 : decide (bn ≥ 0) = true := decide_eq_true h0
  have d2 : decide (an + bn ≥ an) = true := by rw [decide_eq_true_eq]; omega
  clear h
  rw [ho, reck, if_neg (by simp [c1]), if_neg (by simp [c2]), if_neg (by simp [c3]), if_neg (by simp [c4])] at hr
  have HZ := Lib.hid (show r = if ak = 4 then (4, an + bn, 0) else if bk = 4 then (4, an + bn, 0) else (ofK (an + bn), an + bn, 0) by rw [hr]; exact if_neg (fun h => h rfl))
  clear hr ho c1 c2 c3 c4
  go_enter Try.func15, Try.ntmps15
  go_wp2_with fail
  generalize hW : (((w.alloc (.cells #[Value.int .i64 ak, .int .i64 an, p2, p3, p4, p5] 26)).alloc (.cells #[Value.int .i64 bk, .int .i64 bn, q2, q3, q4, q5] 26)).alloc (.cells #[Value.int .i64 0, .int .i64 0, .string ⟨#[]⟩, .slice none 0 0, .slice none 0 0, .slice none 0 0] 26)) = W0 at *
  clear hW
  obtain ⟨⟨a0, a1, a2, a3, a4, a5⟩, ⟨b0, b1, b2, b3, b4, b5⟩, ⟨z0, z1, z2, z3, z4, z5⟩, f0, f1, f2, f3, f4, f5⟩ := HR0.out.all
  go_wp2_with fail
  go_at_call 33
  refine (HNA.out _).mono ?_
  rintro e w1 ⟨rfl, hb⟩
  clear a0 a1 a2 a3 a4 a5 b0 b1 b2 b3 b4 b5 z0 z1 z2 z3 z4 z5 f0 f1 f2 f3 f4 f5
  have HR1 := Lib.hid (HR0.out.step hb)
  clear hb
  obtain ⟨⟨a0, a1, a2, a3, a4, a5⟩, ⟨b0, b1, b2, b3, b4, b5⟩, ⟨z0, z1, z2, z3, z4, z5⟩, f0, f1, f2, f3, f4, f5⟩ := HR1.out.all
  go_wp2_with fail
  go_at_call 33
  refine (HNB.out _).mono ?_
  rintro e w2 ⟨rfl, hb⟩
  clear a0 a1 a2 a3 a4 a5 b0 b1 b2 b3 b4 b5 z0 z1 z2 z3 z4 z5 f0 f1 f2 f3 f4 f5
  have HR2 := Lib.hid (HR1.out.step hb)
  clear hb
  obtain ⟨⟨a0, a1, a2, a3, a4, a5⟩, ⟨b0, b1, b2, b3, b4, b5⟩, ⟨z0, z1, z2, z3, z4, z5⟩, f0, f1, f2, f3, f4, f5⟩ := HR2.out.all
  go_wp2_with fail
  go_at_call 34
  refine (HMA.out _).mono ?_
  rintro e w3 ⟨rfl, hb⟩
  clear a0 a1 a2 a3 a4 a5 b0 b1 b2 b3 b4 b5 z0 z1 z2 z3 z4 z5 f0 f1 f2 f3 f4 f5
  have HR3 := Lib.hid (HR2.out.step hb)
  clear hb
  obtain ⟨⟨a0, a1, a2, a3, a4, a5⟩, ⟨b0, b1, b2, b3, b4, b5⟩, ⟨z0, z1, z2, z3, z4, z5⟩, f0, f1, f2, f3, f4, f5⟩ := HR3.out.all
  go_wp2_with fail
  go_at_call 34
  refine (HMB.out _).mono ?_
  rintro e w4 ⟨rfl, hb⟩
  clear a0 a1 a2 a3 a4 a5 b0 b1 b2 b3 b4 b5 z0 z1 z2 z3 z4 z5 f0 f1 f2 f3 f4 f5
  have HR4 := Lib.hid (HR3.out.step hb)
  clear hb
  obtain ⟨⟨a0, a1, a2, a3, a4, a5⟩, ⟨b0, b1, b2, b3, b4, b5⟩, ⟨z0, z1, z2, z3, z4, z5⟩, f0, f1, f2, f3, f4, f5⟩ := HR4.out.all
  go_wp2_with fail
  go_at_call 19
  refine (refOf_any _ _).mono ?_
  rintro ee w5 ⟨rfl, hb⟩
  clear a0 a1 a2 a3 a4 a5 b0 b1 b2 b3 b4 b5 z0 z1 z2 z3 z4 z5 f0 f1 f2 f3 f4 f5
  have HR5 := Lib.hid (HR4.out.step hb)
  clear hb
  obtain ⟨⟨a0, a1, a2, a3, a4, a5⟩, ⟨b0, b1, b2, b3, b4, b5⟩, ⟨z0, z1, z2, z3, z4, z5⟩, f0, f1, f2, f3, f4, f5⟩ := HR5.out.all
  have hz5 : w.heap.size + 3 ≤ w5.heap.size := by have := HR5.out.2.2.1.lt; omega
  have n0 : ¬ w.heap.size = w5.heap.size := by omega
  have n1 : ¬ w.heap.size + 1 = w5.heap.size := by omega
  have n2 : ¬ w.heap.size + 2 = w5.heap.size := by omega
  have m0 : w.heap.size < w5.heap.size := by omega
  have m1 : w.heap.size + 1 < w5.heap.size := by omega
  have m2 : w.heap.size + 2 < w5.heap.size := by omega
  by_cases c6 : ak = 4
  · have e6 : ((ak : Int) == 4) = true := by rw [beq_iff_eq]; exact c6
    have HQ := Lib.hid (show r = (4, an + bn, 0) by rw [HZ.out, if_pos c6])
    clear c6
    go_wp2_with fail
    exact bodyPost_ret (v := .tuple #[.agg #[.int .i64 4, .int .i64 (an + bn), .string ⟨#[]⟩, .slice none 0 0, .slice none 0 0, .slice none 0 0], .int .i64 0]) (by simp [results, Try.results15, go_sem, *]) rfl (val_e HQ.out (below_six_alloc HR5.out.2.2.2 (by omega) _ _ _ _ _ _ _))
  have e6 : ((ak : Int) == 4) = false := by rw [beq_eq_false_iff_ne]; exact c6
  by_cases c7 : bk = 4
  · have e7 : ((bk : Int) == 4) = true := by rw [beq_iff_eq]; exact c7
    have HQ := Lib.hid (show r = (4, an + bn, 0) by rw [HZ.out, if_neg c6, if_pos c7])
    clear c7
    go_wp2_with fail
    exact bodyPost_ret (v := .tuple #[.agg #[.int .i64 4, .int .i64 (an + bn), .string ⟨#[]⟩, .slice none 0 0, .slice none 0 0, .slice none 0 0], .int .i64 0]) (by simp [results, Try.results15, go_sem, *]) rfl (val_e HQ.out (below_six_alloc HR5.out.2.2.2 (by omega) _ _ _ _ _ _ _))
  have e7 : ((bk : Int) == 4) = false := by rw [beq_eq_false_iff_ne]; exact c7
  have HQ := Lib.hid (show r = (ofK (an + bn), an + bn, 0) by rw [HZ.out, if_neg c6, if_neg c7])
  go_wp2_with fail
  exact bodyPost_ret (v := .tuple #[.agg #[.int .i64 (ofK (an + bn)), .int .i64 (an + bn), .string ⟨#[]⟩, .slice none 0 0, .slice none 0 0, .slice none 0 0], .int .i64 0]) (by simp [results, Try.results15, go_sem, *]) rfl (val_e HQ.out (below_six_alloc HR5.out.2.2.2 (by omega) _ _ _ _ _ _ _))
set_option maxRecDepth 100000 in
set_option maxHeartbeats 8000000 in
theorem refTwo_sum_down (ak an bk bn : Int) (p2 p3 p4 p5 q2 q3 q4 q5 : Value) (w : World) (_ : In an) (_ : In bn) (c1 : noneB ak = false) (c2 : noneB bk = false) (c3 : numB ak = true) (c4 : numB bk = true) (h : In (an + bn)) (h0 : ¬ 0 ≤ bn) : Calls Try.prog 15 #[.int .u8 43, .agg #[.int .i64 ak, .int .i64 an, p2, p3, p4, p5], .agg #[.int .i64 bk, .int .i64 bn, q2, q3, q4, q5]] w (ValE (reck (sumR an bn) ak bk) w) := by
  have HR0 := Lib.hid (R3.new w #[Value.int .i64 ak, .int .i64 an, p2, p3, p4, p5] #[Value.int .i64 bk, .int .i64 bn, q2, q3, q4, q5])
  have HNA := Lib.hid (fun w => refNone_any ak (.int .i64 an) p2 p3 p4 p5 w)
  have HNB := Lib.hid (fun w => refNone_any bk (.int .i64 bn) q2 q3 q4 q5 w)
  have HMA := Lib.hid (fun w => refNumber_any ak (.int .i64 an) p2 p3 p4 p5 w)
  have HMB := Lib.hid (fun w => refNumber_any bk (.int .i64 bn) q2 q3 q4 q5 w)
  rw [c1] at HNA
  rw [c2] at HNB
  rw [c3] at HMA
  rw [c4] at HMB
  obtain ⟨r, hr⟩ : ∃ r, r = reck (sumR an bn) ak bk := ⟨_, rfl⟩
  rw [← hr]
  have ho : sumR an bn = (an + bn, 0) := if_pos h
  have hw : IntKind.i64.wrap (an + bn) = an + bn := IntWalk.i64_in _ h
  have d1 : decide (bn ≥ 0) = false := decide_eq_false h0
  have d2 : decide (an + bn ≥ an) = false := by rw [decide_eq_false_iff_not]; omega
  clear h
  rw [ho, reck, if_neg (by simp [c1]), if_neg (by simp [c2]), if_neg (by simp [c3]), if_neg (by simp [c4])] at hr
  have HZ := Lib.hid (show r = if ak = 4 then (4, an + bn, 0) else if bk = 4 then (4, an + bn, 0) else (ofK (an + bn), an + bn, 0) by rw [hr]; exact if_neg (fun h => h rfl))
  clear hr ho c1 c2 c3 c4
  go_enter Try.func15, Try.ntmps15
  go_wp2_with fail
  generalize hW : (((w.alloc (.cells #[Value.int .i64 ak, .int .i64 an, p2, p3, p4, p5] 26)).alloc (.cells #[Value.int .i64 bk, .int .i64 bn, q2, q3, q4, q5] 26)).alloc (.cells #[Value.int .i64 0, .int .i64 0, .string ⟨#[]⟩, .slice none 0 0, .slice none 0 0, .slice none 0 0] 26)) = W0 at *
  clear hW
  obtain ⟨⟨a0, a1, a2, a3, a4, a5⟩, ⟨b0, b1, b2, b3, b4, b5⟩, ⟨z0, z1, z2, z3, z4, z5⟩, f0, f1, f2, f3, f4, f5⟩ := HR0.out.all
  go_wp2_with fail
  go_at_call 33
  refine (HNA.out _).mono ?_
  rintro e w1 ⟨rfl, hb⟩
  clear a0 a1 a2 a3 a4 a5 b0 b1 b2 b3 b4 b5 z0 z1 z2 z3 z4 z5 f0 f1 f2 f3 f4 f5
  have HR1 := Lib.hid (HR0.out.step hb)
  clear hb
  obtain ⟨⟨a0, a1, a2, a3, a4, a5⟩, ⟨b0, b1, b2, b3, b4, b5⟩, ⟨z0, z1, z2, z3, z4, z5⟩, f0, f1, f2, f3, f4, f5⟩ := HR1.out.all
  go_wp2_with fail
  go_at_call 33
  refine (HNB.out _).mono ?_
  rintro e w2 ⟨rfl, hb⟩
  clear a0 a1 a2 a3 a4 a5 b0 b1 b2 b3 b4 b5 z0 z1 z2 z3 z4 z5 f0 f1 f2 f3 f4 f5
  have HR2 := Lib.hid (HR1.out.step hb)
  clear hb
  obtain ⟨⟨a0, a1, a2, a3, a4, a5⟩, ⟨b0, b1, b2, b3, b4, b5⟩, ⟨z0, z1, z2, z3, z4, z5⟩, f0, f1, f2, f3, f4, f5⟩ := HR2.out.all
  go_wp2_with fail
  go_at_call 34
  refine (HMA.out _).mono ?_
  rintro e w3 ⟨rfl, hb⟩
  clear a0 a1 a2 a3 a4 a5 b0 b1 b2 b3 b4 b5 z0 z1 z2 z3 z4 z5 f0 f1 f2 f3 f4 f5
  have HR3 := Lib.hid (HR2.out.step hb)
  clear hb
  obtain ⟨⟨a0, a1, a2, a3, a4, a5⟩, ⟨b0, b1, b2, b3, b4, b5⟩, ⟨z0, z1, z2, z3, z4, z5⟩, f0, f1, f2, f3, f4, f5⟩ := HR3.out.all
  go_wp2_with fail
  go_at_call 34
  refine (HMB.out _).mono ?_
  rintro e w4 ⟨rfl, hb⟩
  clear a0 a1 a2 a3 a4 a5 b0 b1 b2 b3 b4 b5 z0 z1 z2 z3 z4 z5 f0 f1 f2 f3 f4 f5
  have HR4 := Lib.hid (HR3.out.step hb)
  clear hb
  obtain ⟨⟨a0, a1, a2, a3, a4, a5⟩, ⟨b0, b1, b2, b3, b4, b5⟩, ⟨z0, z1, z2, z3, z4, z5⟩, f0, f1, f2, f3, f4, f5⟩ := HR4.out.all
  go_wp2_with fail
  go_at_call 19
  refine (refOf_any _ _).mono ?_
  rintro ee w5 ⟨rfl, hb⟩
  clear a0 a1 a2 a3 a4 a5 b0 b1 b2 b3 b4 b5 z0 z1 z2 z3 z4 z5 f0 f1 f2 f3 f4 f5
  have HR5 := Lib.hid (HR4.out.step hb)
  clear hb
  obtain ⟨⟨a0, a1, a2, a3, a4, a5⟩, ⟨b0, b1, b2, b3, b4, b5⟩, ⟨z0, z1, z2, z3, z4, z5⟩, f0, f1, f2, f3, f4, f5⟩ := HR5.out.all
  have hz5 : w.heap.size + 3 ≤ w5.heap.size := by have := HR5.out.2.2.1.lt; omega
  have n0 : ¬ w.heap.size = w5.heap.size := by omega
  have n1 : ¬ w.heap.size + 1 = w5.heap.size := by omega
  have n2 : ¬ w.heap.size + 2 = w5.heap.size := by omega
  have m0 : w.heap.size < w5.heap.size := by omega
  have m1 : w.heap.size + 1 < w5.heap.size := by omega
  have m2 : w.heap.size + 2 < w5.heap.size := by omega
  by_cases c6 : ak = 4
  · have e6 : ((ak : Int) == 4) = true := by rw [beq_iff_eq]; exact c6
    have HQ := Lib.hid (show r = (4, an + bn, 0) by rw [HZ.out, if_pos c6])
    clear c6
    go_wp2_with fail
    exact bodyPost_ret (v := .tuple #[.agg #[.int .i64 4, .int .i64 (an + bn), .string ⟨#[]⟩, .slice none 0 0, .slice none 0 0, .slice none 0 0], .int .i64 0]) (by simp [results, Try.results15, go_sem, *]) rfl (val_e HQ.out (below_six_alloc HR5.out.2.2.2 (by omega) _ _ _ _ _ _ _))
  have e6 : ((ak : Int) == 4) = false := by rw [beq_eq_false_iff_ne]; exact c6
  by_cases c7 : bk = 4
  · have e7 : ((bk : Int) == 4) = true := by rw [beq_iff_eq]; exact c7
    have HQ := Lib.hid (show r = (4, an + bn, 0) by rw [HZ.out, if_neg c6, if_pos c7])
    clear c7
    go_wp2_with fail
    exact bodyPost_ret (v := .tuple #[.agg #[.int .i64 4, .int .i64 (an + bn), .string ⟨#[]⟩, .slice none 0 0, .slice none 0 0, .slice none 0 0], .int .i64 0]) (by simp [results, Try.results15, go_sem, *]) rfl (val_e HQ.out (below_six_alloc HR5.out.2.2.2 (by omega) _ _ _ _ _ _ _))
  have e7 : ((bk : Int) == 4) = false := by rw [beq_eq_false_iff_ne]; exact c7
  have HQ := Lib.hid (show r = (ofK (an + bn), an + bn, 0) by rw [HZ.out, if_neg c6, if_neg c7])
  go_wp2_with fail
  exact bodyPost_ret (v := .tuple #[.agg #[.int .i64 (ofK (an + bn)), .int .i64 (an + bn), .string ⟨#[]⟩, .slice none 0 0, .slice none 0 0, .slice none 0 0], .int .i64 0]) (by simp [results, Try.results15, go_sem, *]) rfl (val_e HQ.out (below_six_alloc HR5.out.2.2.2 (by omega) _ _ _ _ _ _ _))
set_option maxRecDepth 100000 in
set_option maxHeartbeats 8000000 in
theorem refTwo_sum_above (ak an bk bn : Int) (p2 p3 p4 p5 q2 q3 q4 q5 : Value) (w : World) (_ : In an) (_ : In bn) (c1 : noneB ak = false) (c2 : noneB bk = false) (c3 : numB ak = true) (c4 : numB bk = true) (h : ¬ In (an + bn)) (h0 : 0 ≤ bn) : Calls Try.prog 15 #[.int .u8 43, .agg #[.int .i64 ak, .int .i64 an, p2, p3, p4, p5], .agg #[.int .i64 bk, .int .i64 bn, q2, q3, q4, q5]] w (ValE (reck (sumR an bn) ak bk) w) := by
  have HR0 := Lib.hid (R3.new w #[Value.int .i64 ak, .int .i64 an, p2, p3, p4, p5] #[Value.int .i64 bk, .int .i64 bn, q2, q3, q4, q5])
  have HNA := Lib.hid (fun w => refNone_any ak (.int .i64 an) p2 p3 p4 p5 w)
  have HNB := Lib.hid (fun w => refNone_any bk (.int .i64 bn) q2 q3 q4 q5 w)
  have HMA := Lib.hid (fun w => refNumber_any ak (.int .i64 an) p2 p3 p4 p5 w)
  have HMB := Lib.hid (fun w => refNumber_any bk (.int .i64 bn) q2 q3 q4 q5 w)
  rw [c1] at HNA
  rw [c2] at HNB
  rw [c3] at HMA
  rw [c4] at HMB
  obtain ⟨r, hr⟩ : ∃ r, r = reck (sumR an bn) ak bk := ⟨_, rfl⟩
  rw [← hr]
  have ho : sumR an bn = (0, 10) := if_neg h
  have d1 : decide (bn ≥ 0) = true := decide_eq_true h0
  have d2 : decide (wrap64 (an + bn) ≥ an) = false := by rw [decide_eq_false_iff_not]; unfold In at *; unfold wrap64; omega
  clear h
  rw [ho, reck, if_neg (by simp [c1]), if_neg (by simp [c2]), if_neg (by simp [c3]), if_neg (by simp [c4])] at hr
  have HQ := Lib.hid (show r = (0, 0, 10) by rw [hr]; exact if_pos (by decide))
  clear hr ho c1 c2 c3 c4
  go_enter Try.func15, Try.ntmps15
  go_wp2_with fail
  generalize hW : (((w.alloc (.cells #[Value.int .i64 ak, .int .i64 an, p2, p3, p4, p5] 26)).alloc (.cells #[Value.int .i64 bk, .int .i64 bn, q2, q3, q4, q5] 26)).alloc (.cells #[Value.int .i64 0, .int .i64 0, .string ⟨#[]⟩, .slice none 0 0, .slice none 0 0, .slice none 0 0] 26)) = W0 at *
  clear hW
  obtain ⟨⟨a0, a1, a2, a3, a4, a5⟩, ⟨b0, b1, b2, b3, b4, b5⟩, ⟨z0, z1, z2, z3, z4, z5⟩, f0, f1, f2, f3, f4, f5⟩ := HR0.out.all
  go_wp2_with fail
  go_at_call 33
  refine (HNA.out _).mono ?_
  rintro e w1 ⟨rfl, hb⟩
  clear a0 a1 a2 a3 a4 a5 b0 b1 b2 b3 b4 b5 z0 z1 z2 z3 z4 z5 f0 f1 f2 f3 f4 f5
  have HR1 := Lib.hid (HR0.out.step hb)
  clear hb
  obtain ⟨⟨a0, a1, a2, a3, a4, a5⟩, ⟨b0, b1, b2, b3, b4, b5⟩, ⟨z0, z1, z2, z3, z4, z5⟩, f0, f1, f2, f3, f4, f5⟩ := HR1.out.all
  go_wp2_with fail
  go_at_call 33
  refine (HNB.out _).mono ?_
  rintro e w2 ⟨rfl, hb⟩
  clear a0 a1 a2 a3 a4 a5 b0 b1 b2 b3 b4 b5 z0 z1 z2 z3 z4 z5 f0 f1 f2 f3 f4 f5
  have HR2 := Lib.hid (HR1.out.step hb)
  clear hb
  obtain ⟨⟨a0, a1, a2, a3, a4, a5⟩, ⟨b0, b1, b2, b3, b4, b5⟩, ⟨z0, z1, z2, z3, z4, z5⟩, f0, f1, f2, f3, f4, f5⟩ := HR2.out.all
  go_wp2_with fail
  go_at_call 34
  refine (HMA.out _).mono ?_
  rintro e w3 ⟨rfl, hb⟩
  clear a0 a1 a2 a3 a4 a5 b0 b1 b2 b3 b4 b5 z0 z1 z2 z3 z4 z5 f0 f1 f2 f3 f4 f5
  have HR3 := Lib.hid (HR2.out.step hb)
  clear hb
  obtain ⟨⟨a0, a1, a2, a3, a4, a5⟩, ⟨b0, b1, b2, b3, b4, b5⟩, ⟨z0, z1, z2, z3, z4, z5⟩, f0, f1, f2, f3, f4, f5⟩ := HR3.out.all
  go_wp2_with fail
  go_at_call 34
  refine (HMB.out _).mono ?_
  rintro e w4 ⟨rfl, hb⟩
  clear a0 a1 a2 a3 a4 a5 b0 b1 b2 b3 b4 b5 z0 z1 z2 z3 z4 z5 f0 f1 f2 f3 f4 f5
  have HR4 := Lib.hid (HR3.out.step hb)
  clear hb
  obtain ⟨⟨a0, a1, a2, a3, a4, a5⟩, ⟨b0, b1, b2, b3, b4, b5⟩, ⟨z0, z1, z2, z3, z4, z5⟩, f0, f1, f2, f3, f4, f5⟩ := HR4.out.all
  go_wp2_with fail
  exact bodyPost_ret (v := .tuple #[.agg #[.int .i64 0, .int .i64 (0), .string ⟨#[]⟩, .slice none 0 0, .slice none 0 0, .slice none 0 0], .int .i64 10]) (by simp [results, Try.results15, go_sem, *]) rfl (val_e HQ.out (below_six HR4.out.2.2.2 (by omega) _ _ _ _ _ _))
set_option maxRecDepth 100000 in
set_option maxHeartbeats 8000000 in
theorem refTwo_sum_below (ak an bk bn : Int) (p2 p3 p4 p5 q2 q3 q4 q5 : Value) (w : World) (_ : In an) (_ : In bn) (c1 : noneB ak = false) (c2 : noneB bk = false) (c3 : numB ak = true) (c4 : numB bk = true) (h : ¬ In (an + bn)) (h0 : ¬ 0 ≤ bn) : Calls Try.prog 15 #[.int .u8 43, .agg #[.int .i64 ak, .int .i64 an, p2, p3, p4, p5], .agg #[.int .i64 bk, .int .i64 bn, q2, q3, q4, q5]] w (ValE (reck (sumR an bn) ak bk) w) := by
  have HR0 := Lib.hid (R3.new w #[Value.int .i64 ak, .int .i64 an, p2, p3, p4, p5] #[Value.int .i64 bk, .int .i64 bn, q2, q3, q4, q5])
  have HNA := Lib.hid (fun w => refNone_any ak (.int .i64 an) p2 p3 p4 p5 w)
  have HNB := Lib.hid (fun w => refNone_any bk (.int .i64 bn) q2 q3 q4 q5 w)
  have HMA := Lib.hid (fun w => refNumber_any ak (.int .i64 an) p2 p3 p4 p5 w)
  have HMB := Lib.hid (fun w => refNumber_any bk (.int .i64 bn) q2 q3 q4 q5 w)
  rw [c1] at HNA
  rw [c2] at HNB
  rw [c3] at HMA
  rw [c4] at HMB
  obtain ⟨r, hr⟩ : ∃ r, r = reck (sumR an bn) ak bk := ⟨_, rfl⟩
  rw [← hr]
  have ho : sumR an bn = (0, 10) := if_neg h
  have d1 : decide (bn ≥ 0) = false := decide_eq_false h0
  have d2 : decide (wrap64 (an + bn) ≥ an) = true := by rw [decide_eq_true_eq]; unfold In at *; unfold wrap64; omega
  clear h
  rw [ho, reck, if_neg (by simp [c1]), if_neg (by simp [c2]), if_neg (by simp [c3]), if_neg (by simp [c4])] at hr
  have HQ := Lib.hid (show r = (0, 0, 10) by rw [hr]; exact if_pos (by decide))
  clear hr ho c1 c2 c3 c4
  go_enter Try.func15, Try.ntmps15
  go_wp2_with fail
  generalize hW : (((w.alloc (.cells #[Value.int .i64 ak, .int .i64 an, p2, p3, p4, p5] 26)).alloc (.cells #[Value.int .i64 bk, .int .i64 bn, q2, q3, q4, q5] 26)).alloc (.cells #[Value.int .i64 0, .int .i64 0, .string ⟨#[]⟩, .slice none 0 0, .slice none 0 0, .slice none 0 0] 26)) = W0 at *
  clear hW
  obtain ⟨⟨a0, a1, a2, a3, a4, a5⟩, ⟨b0, b1, b2, b3, b4, b5⟩, ⟨z0, z1, z2, z3, z4, z5⟩, f0, f1, f2, f3, f4, f5⟩ := HR0.out.all
  go_wp2_with fail
  go_at_call 33
  refine (HNA.out _).mono ?_
  rintro e w1 ⟨rfl, hb⟩
  clear a0 a1 a2 a3 a4 a5 b0 b1 b2 b3 b4 b5 z0 z1 z2 z3 z4 z5 f0 f1 f2 f3 f4 f5
  have HR1 := Lib.hid (HR0.out.step hb)
  clear hb
  obtain ⟨⟨a0, a1, a2, a3, a4, a5⟩, ⟨b0, b1, b2, b3, b4, b5⟩, ⟨z0, z1, z2, z3, z4, z5⟩, f0, f1, f2, f3, f4, f5⟩ := HR1.out.all
  go_wp2_with fail
  go_at_call 33
  refine (HNB.out _).mono ?_
  rintro e w2 ⟨rfl, hb⟩
  clear a0 a1 a2 a3 a4 a5 b0 b1 b2 b3 b4 b5 z0 z1 z2 z3 z4 z5 f0 f1 f2 f3 f4 f5
  have HR2 := Lib.hid (HR1.out.step hb)
  clear hb
  obtain ⟨⟨a0, a1, a2, a3, a4, a5⟩, ⟨b0, b1, b2, b3, b4, b5⟩, ⟨z0, z1, z2, z3, z4, z5⟩, f0, f1, f2, f3, f4, f5⟩ := HR2.out.all
  go_wp2_with fail
  go_at_call 34
  refine (HMA.out _).mono ?_
  rintro e w3 ⟨rfl, hb⟩
  clear a0 a1 a2 a3 a4 a5 b0 b1 b2 b3 b4 b5 z0 z1 z2 z3 z4 z5 f0 f1 f2 f3 f4 f5
  have HR3 := Lib.hid (HR2.out.step hb)
  clear hb
  obtain ⟨⟨a0, a1, a2, a3, a4, a5⟩, ⟨b0, b1, b2, b3, b4, b5⟩, ⟨z0, z1, z2, z3, z4, z5⟩, f0, f1, f2, f3, f4, f5⟩ := HR3.out.all
  go_wp2_with fail
  go_at_call 34
  refine (HMB.out _).mono ?_
  rintro e w4 ⟨rfl, hb⟩
  clear a0 a1 a2 a3 a4 a5 b0 b1 b2 b3 b4 b5 z0 z1 z2 z3 z4 z5 f0 f1 f2 f3 f4 f5
  have HR4 := Lib.hid (HR3.out.step hb)
  clear hb
  obtain ⟨⟨a0, a1, a2, a3, a4, a5⟩, ⟨b0, b1, b2, b3, b4, b5⟩, ⟨z0, z1, z2, z3, z4, z5⟩, f0, f1, f2, f3, f4, f5⟩ := HR4.out.all
  go_wp2_with fail
  exact bodyPost_ret (v := .tuple #[.agg #[.int .i64 0, .int .i64 (0), .string ⟨#[]⟩, .slice none 0 0, .slice none 0 0, .slice none 0 0], .int .i64 10]) (by simp [results, Try.results15, go_sem, *]) rfl (val_e HQ.out (below_six HR4.out.2.2.2 (by omega) _ _ _ _ _ _))
end Go.Proofs.Ytkmibpjhfgbckaa
