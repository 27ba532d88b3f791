/- num.reckon at one of its operations (a walk). -/
import Derived.Test.YtkmibpjhfgbckaaNumBox
import Derived.Test.YtkmibpjhfgbckaaValLets
namespace Go.Proofs.Ytkmibpjhfgbckaa
open Go.RowKit
open Seal
open Num
set_option maxRecDepth 100000 in
set_option maxHeartbeats 4000000 in
theorem reckon_product (ak an bk bn : Int) (p2 p3 p4 p5 q2 q3 q4 q5 : Value) (w : World) (ha : In an) (hb : In bn) : Calls Try.prog 26 #[.agg #[.int .i64 ak, .int .i64 an, p2, p3, p4, p5], .agg #[.int .i64 bk, .int .i64 bn, q2, q3, q4, q5], .func (.func 29) #[] #[]] w (ValE (reck (mulR an bn) ak bk) w) := by
  have HA := Lib.hid ha
  have HB := Lib.hid hb
  clear ha hb
  have HR0 := Lib.hid (R3.new w #[Value.int .i64 ak, .int .i64 an, p2, p3, p4, p5] #[Value.int .i64 bk, .int .i64 bn, q2, q3, q4, q5])
  have HNA := Lib.hid (fun w => nothing_any ak (.int .i64 an) p2 p3 p4 p5 w)
  have HNB := Lib.hid (fun w => nothing_any bk (.int .i64 bn) q2 q3 q4 q5 w)
  have HMA := Lib.hid (fun w => number_any ak (.int .i64 an) p2 p3 p4 p5 w)
  have HMB := Lib.hid (fun w => number_any bk (.int .i64 bn) q2 q3 q4 q5 w)
  obtain ⟨r, hr⟩ : ∃ r, r = reck (mulR an bn) ak bk := ⟨_, rfl⟩
  rw [← hr]
  by_cases c1 : noneB ak = true
  · rw [c1] at HNA
    have HQ := Lib.hid (show r = (2, 0, 0) by rw [hr, reck, if_pos c1])
    clear c1 hr
    go_enter Try.func26, Try.ntmps26
    go_wp2_with fail
    generalize hW : (((w.alloc (.cells #[Value.int .i64 ak, .int .i64 an, p2, p3, p4, p5] 26)).alloc (.cells #[Value.int .i64 bk, .int .i64 bn, q2, q3, q4, q5] 26)).alloc (.cells #[Value.int .i64 0, .int .i64 0, .string ⟨#[]⟩, .slice none 0 0, .slice none 0 0, .slice none 0 0] 26)) = W0 at *
    clear hW
    obtain ⟨⟨a0, a1, a2, a3, a4, a5⟩, ⟨b0, b1, b2, b3, b4, b5⟩, ⟨z0, z1, z2, z3, z4, z5⟩, f0, f1, f2, f3, f4, f5⟩ := HR0.out.all
    go_wp2_with fail
    go_at_call 35
    refine (HNA.out _).mono ?_
    rintro e w1 ⟨rfl, hb⟩
    clear a0 a1 a2 a3 a4 a5 b0 b1 b2 b3 b4 b5 z0 z1 z2 z3 z4 z5 f0 f1 f2 f3 f4 f5
    have HR1 := Lib.hid (HR0.out.step hb)
    clear hb
    obtain ⟨⟨a0, a1, a2, a3, a4, a5⟩, ⟨b0, b1, b2, b3, b4, b5⟩, ⟨z0, z1, z2, z3, z4, z5⟩, f0, f1, f2, f3, f4, f5⟩ := HR1.out.all
    go_wp2_with fail
    exact bodyPost_ret (v := .tuple #[.agg #[.int .i64 2, .int .i64 0, .string ⟨#[]⟩, .slice none 0 0, .slice none 0 0, .slice none 0 0], .int .i64 0]) (by simp [results, Try.results26, go_sem, *]) rfl (val_e HQ.out (below_six HR1.out.2.2.2 (by omega) _ _ _ _ _ _))
  by_cases c2 : noneB bk = true
  · rw [eq_false_of_ne_true c1] at HNA
    rw [c2] at HNB
    have HQ := Lib.hid (show r = (2, 0, 0) by rw [hr, reck, if_neg c1, if_pos c2])
    clear c1 c2 hr
    go_enter Try.func26, Try.ntmps26
    go_wp2_with fail
    generalize hW : (((w.alloc (.cells #[Value.int .i64 ak, .int .i64 an, p2, p3, p4, p5] 26)).alloc (.cells #[Value.int .i64 bk, .int .i64 bn, q2, q3, q4, q5] 26)).alloc (.cells #[Value.int .i64 0, .int .i64 0, .string ⟨#[]⟩, .slice none 0 0, .slice none 0 0, .slice none 0 0] 26)) = W0 at *
    clear hW
    obtain ⟨⟨a0, a1, a2, a3, a4, a5⟩, ⟨b0, b1, b2, b3, b4, b5⟩, ⟨z0, z1, z2, z3, z4, z5⟩, f0, f1, f2, f3, f4, f5⟩ := HR0.out.all
    go_wp2_with fail
    go_at_call 35
    refine (HNA.out _).mono ?_
    rintro e w1 ⟨rfl, hb⟩
    clear a0 a1 a2 a3 a4 a5 b0 b1 b2 b3 b4 b5 z0 z1 z2 z3 z4 z5 f0 f1 f2 f3 f4 f5
    have HR1 := Lib.hid (HR0.out.step hb)
    clear hb
    obtain ⟨⟨a0, a1, a2, a3, a4, a5⟩, ⟨b0, b1, b2, b3, b4, b5⟩, ⟨z0, z1, z2, z3, z4, z5⟩, f0, f1, f2, f3, f4, f5⟩ := HR1.out.all
    go_wp2_with fail
    go_at_call 35
    refine (HNB.out _).mono ?_
    rintro e w2 ⟨rfl, hb⟩
    clear a0 a1 a2 a3 a4 a5 b0 b1 b2 b3 b4 b5 z0 z1 z2 z3 z4 z5 f0 f1 f2 f3 f4 f5
    have HR2 := Lib.hid (HR1.out.step hb)
    clear hb
    obtain ⟨⟨a0, a1, a2, a3, a4, a5⟩, ⟨b0, b1, b2, b3, b4, b5⟩, ⟨z0, z1, z2, z3, z4, z5⟩, f0, f1, f2, f3, f4, f5⟩ := HR2.out.all
    go_wp2_with fail
    exact bodyPost_ret (v := .tuple #[.agg #[.int .i64 2, .int .i64 0, .string ⟨#[]⟩, .slice none 0 0, .slice none 0 0, .slice none 0 0], .int .i64 0]) (by simp [results, Try.results26, go_sem, *]) rfl (val_e HQ.out (below_six HR2.out.2.2.2 (by omega) _ _ _ _ _ _))
  rw [eq_false_of_ne_true c1] at HNA
  rw [eq_false_of_ne_true c2] at HNB
  by_cases c3 : numB ak = false
  · rw [c3] at HMA
    have HQ := Lib.hid (show r = (0, 0, 12) by rw [hr, reck, if_neg c1, if_neg c2, if_pos c3])
    clear c1 c2 c3 hr
    go_enter Try.func26, Try.ntmps26
    go_wp2_with fail
    generalize hW : (((w.alloc (.cells #[Value.int .i64 ak, .int .i64 an, p2, p3, p4, p5] 26)).alloc (.cells #[Value.int .i64 bk, .int .i64 bn, q2, q3, q4, q5] 26)).alloc (.cells #[Value.int .i64 0, .int .i64 0, .string ⟨#[]⟩, .slice none 0 0, .slice none 0 0, .slice none 0 0] 26)) = W0 at *
    clear hW
    obtain ⟨⟨a0, a1, a2, a3, a4, a5⟩, ⟨b0, b1, b2, b3, b4, b5⟩, ⟨z0, z1, z2, z3, z4, z5⟩, f0, f1, f2, f3, f4, f5⟩ := HR0.out.all
    go_wp2_with fail
    go_at_call 35
    refine (HNA.out _).mono ?_
    rintro e w1 ⟨rfl, hb⟩
    clear a0 a1 a2 a3 a4 a5 b0 b1 b2 b3 b4 b5 z0 z1 z2 z3 z4 z5 f0 f1 f2 f3 f4 f5
    have HR1 := Lib.hid (HR0.out.step hb)
    clear hb
    obtain ⟨⟨a0, a1, a2, a3, a4, a5⟩, ⟨b0, b1, b2, b3, b4, b5⟩, ⟨z0, z1, z2, z3, z4, z5⟩, f0, f1, f2, f3, f4, f5⟩ := HR1.out.all
    go_wp2_with fail
    go_at_call 35
    refine (HNB.out _).mono ?_
    rintro e w2 ⟨rfl, hb⟩
    clear a0 a1 a2 a3 a4 a5 b0 b1 b2 b3 b4 b5 z0 z1 z2 z3 z4 z5 f0 f1 f2 f3 f4 f5
    have HR2 := Lib.hid (HR1.out.step hb)
    clear hb
    obtain ⟨⟨a0, a1, a2, a3, a4, a5⟩, ⟨b0, b1, b2, b3, b4, b5⟩, ⟨z0, z1, z2, z3, z4, z5⟩, f0, f1, f2, f3, f4, f5⟩ := HR2.out.all
    go_wp2_with fail
    go_at_call 36
    refine (HMA.out _).mono ?_
    rintro e w3 ⟨rfl, hb⟩
    clear a0 a1 a2 a3 a4 a5 b0 b1 b2 b3 b4 b5 z0 z1 z2 z3 z4 z5 f0 f1 f2 f3 f4 f5
    have HR3 := Lib.hid (HR2.out.step hb)
    clear hb
    obtain ⟨⟨a0, a1, a2, a3, a4, a5⟩, ⟨b0, b1, b2, b3, b4, b5⟩, ⟨z0, z1, z2, z3, z4, z5⟩, f0, f1, f2, f3, f4, f5⟩ := HR3.out.all
    go_wp2_with fail
    exact bodyPost_ret (v := .tuple #[.agg #[.int .i64 0, .int .i64 0, .string ⟨#[]⟩, .slice none 0 0, .slice none 0 0, .slice none 0 0], .int .i64 12]) (by simp [results, Try.results26, go_sem, *]) rfl (val_e HQ.out (below_six HR3.out.2.2.2 (by omega) _ _ _ _ _ _))
  rw [eq_true_of_ne_false c3] at HMA
  by_cases c4 : numB bk = false
  · rw [c4] at HMB
    have HQ := Lib.hid (show r = (0, 0, 12) by rw [hr, reck, if_neg c1, if_neg c2, if_neg c3, if_pos c4])
    clear c1 c2 c3 c4 hr
    go_enter Try.func26, Try.ntmps26
    go_wp2_with fail
    generalize hW : (((w.alloc (.cells #[Value.int .i64 ak, .int .i64 an, p2, p3, p4, p5] 26)).alloc (.cells #[Value.int .i64 bk, .int .i64 bn, q2, q3, q4, q5] 26)).alloc (.cells #[Value.int .i64 0, .int .i64 0, .string ⟨#[]⟩, .slice none 0 0, .slice none 0 0, .slice none 0 0] 26)) = W0 at *
    clear hW
    obtain ⟨⟨a0, a1, a2, a3, a4, a5⟩, ⟨b0, b1, b2, b3, b4, b5⟩, ⟨z0, z1, z2, z3, z4, z5⟩, f0, f1, f2, f3, f4, f5⟩ := HR0.out.all
    go_wp2_with fail
    go_at_call 35
    refine (HNA.out _).mono ?_
    rintro e w1 ⟨rfl, hb⟩
    clear a0 a1 a2 a3 a4 a5 b0 b1 b2 b3 b4 b5 z0 z1 z2 z3 z4 z5 f0 f1 f2 f3 f4 f5
    have HR1 := Lib.hid (HR0.out.step hb)
    clear hb
    obtain ⟨⟨a0, a1, a2, a3, a4, a5⟩, ⟨b0, b1, b2, b3, b4, b5⟩, ⟨z0, z1, z2, z3, z4, z5⟩, f0, f1, f2, f3, f4, f5⟩ := HR1.out.all
    go_wp2_with fail
    go_at_call 35
    refine (HNB.out _).mono ?_
    rintro e w2 ⟨rfl, hb⟩
    clear a0 a1 a2 a3 a4 a5 b0 b1 b2 b3 b4 b5 z0 z1 z2 z3 z4 z5 f0 f1 f2 f3 f4 f5
    have HR2 := Lib.hid (HR1.out.step hb)
    clear hb
    obtain ⟨⟨a0, a1, a2, a3, a4, a5⟩, ⟨b0, b1, b2, b3, b4, b5⟩, ⟨z0, z1, z2, z3, z4, z5⟩, f0, f1, f2, f3, f4, f5⟩ := HR2.out.all
    go_wp2_with fail
    go_at_call 36
    refine (HMA.out _).mono ?_
    rintro e w3 ⟨rfl, hb⟩
    clear a0 a1 a2 a3 a4 a5 b0 b1 b2 b3 b4 b5 z0 z1 z2 z3 z4 z5 f0 f1 f2 f3 f4 f5
    have HR3 := Lib.hid (HR2.out.step hb)
    clear hb
    obtain ⟨⟨a0, a1, a2, a3, a4, a5⟩, ⟨b0, b1, b2, b3, b4, b5⟩, ⟨z0, z1, z2, z3, z4, z5⟩, f0, f1, f2, f3, f4, f5⟩ := HR3.out.all
    go_wp2_with fail
    go_at_call 36
    refine (HMB.out _).mono ?_
    rintro e w4 ⟨rfl, hb⟩
    clear a0 a1 a2 a3 a4 a5 b0 b1 b2 b3 b4 b5 z0 z1 z2 z3 z4 z5 f0 f1 f2 f3 f4 f5
    have HR4 := Lib.hid (HR3.out.step hb)
    clear hb
    obtain ⟨⟨a0, a1, a2, a3, a4, a5⟩, ⟨b0, b1, b2, b3, b4, b5⟩, ⟨z0, z1, z2, z3, z4, z5⟩, f0, f1, f2, f3, f4, f5⟩ := HR4.out.all
    go_wp2_with fail
    exact bodyPost_ret (v := .tuple #[.agg #[.int .i64 0, .int .i64 0, .string ⟨#[]⟩, .slice none 0 0, .slice none 0 0, .slice none 0 0], .int .i64 12]) (by simp [results, Try.results26, go_sem, *]) rfl (val_e HQ.out (below_six HR4.out.2.2.2 (by omega) _ _ _ _ _ _))
  rw [eq_true_of_ne_false c4] at HMB
  have HOP := Lib.hid (fun w => mul_any an bn w HA.out HB.out)
  obtain ⟨o, ho⟩ : ∃ o, o = mulR an bn := ⟨_, rfl⟩
  rw [← ho] at HOP hr
  obtain ⟨n, e⟩ := o
  clear ho
  by_cases c5 : e = 0
  · subst c5
    by_cases c6 : ak = 4
    · have e6 : ((ak : Int) == 4) = true := by rw [beq_iff_eq]; exact c6
      have HQ := Lib.hid (show r = (4, n, 0) by rw [hr, reck, if_neg c1, if_neg c2, if_neg c3, if_neg c4, if_neg (fun h => h rfl), if_pos c6])
      clear c1 c2 c3 c4 c6 hr
      go_enter Try.func26, Try.ntmps26
      go_wp2_with fail
      generalize hW : (((w.alloc (.cells #[Value.int .i64 ak, .int .i64 an, p2, p3, p4, p5] 26)).alloc (.cells #[Value.int .i64 bk, .int .i64 bn, q2, q3, q4, q5] 26)).alloc (.cells #[Value.int .i64 0, .int .i64 0, .string ⟨#[]⟩, .slice none 0 0, .slice none 0 0, .slice none 0 0] 26)) = W0 at *
      clear hW
      obtain ⟨⟨a0, a1, a2, a3, a4, a5⟩, ⟨b0, b1, b2, b3, b4, b5⟩, ⟨z0, z1, z2, z3, z4, z5⟩, f0, f1, f2, f3, f4, f5⟩ := HR0.out.all
      go_wp2_with fail
      go_at_call 35
      refine (HNA.out _).mono ?_
      rintro e w1 ⟨rfl, hb⟩
      clear a0 a1 a2 a3 a4 a5 b0 b1 b2 b3 b4 b5 z0 z1 z2 z3 z4 z5 f0 f1 f2 f3 f4 f5
      have HR1 := Lib.hid (HR0.out.step hb)
      clear hb
      obtain ⟨⟨a0, a1, a2, a3, a4, a5⟩, ⟨b0, b1, b2, b3, b4, b5⟩, ⟨z0, z1, z2, z3, z4, z5⟩, f0, f1, f2, f3, f4, f5⟩ := HR1.out.all
      go_wp2_with fail
      go_at_call 35
      refine (HNB.out _).mono ?_
      rintro e w2 ⟨rfl, hb⟩
      clear a0 a1 a2 a3 a4 a5 b0 b1 b2 b3 b4 b5 z0 z1 z2 z3 z4 z5 f0 f1 f2 f3 f4 f5
      have HR2 := Lib.hid (HR1.out.step hb)
      clear hb
      obtain ⟨⟨a0, a1, a2, a3, a4, a5⟩, ⟨b0, b1, b2, b3, b4, b5⟩, ⟨z0, z1, z2, z3, z4, z5⟩, f0, f1, f2, f3, f4, f5⟩ := HR2.out.all
      go_wp2_with fail
      go_at_call 36
      refine (HMA.out _).mono ?_
      rintro e w3 ⟨rfl, hb⟩
      clear a0 a1 a2 a3 a4 a5 b0 b1 b2 b3 b4 b5 z0 z1 z2 z3 z4 z5 f0 f1 f2 f3 f4 f5
      have HR3 := Lib.hid (HR2.out.step hb)
      clear hb
      obtain ⟨⟨a0, a1, a2, a3, a4, a5⟩, ⟨b0, b1, b2, b3, b4, b5⟩, ⟨z0, z1, z2, z3, z4, z5⟩, f0, f1, f2, f3, f4, f5⟩ := HR3.out.all
      go_wp2_with fail
      go_at_call 36
      refine (HMB.out _).mono ?_
      rintro e w4 ⟨rfl, hb⟩
      clear a0 a1 a2 a3 a4 a5 b0 b1 b2 b3 b4 b5 z0 z1 z2 z3 z4 z5 f0 f1 f2 f3 f4 f5
      have HR4 := Lib.hid (HR3.out.step hb)
      clear hb
      obtain ⟨⟨a0, a1, a2, a3, a4, a5⟩, ⟨b0, b1, b2, b3, b4, b5⟩, ⟨z0, z1, z2, z3, z4, z5⟩, f0, f1, f2, f3, f4, f5⟩ := HR4.out.all
      go_wp2_with fail
      go_at_call 29
      refine (HOP.out _).mono ?_
      rintro ee ww ⟨rfl, rfl⟩
      go_wp2_with fail
      exact bodyPost_ret (v := .tuple #[.agg #[.int .i64 4, .int .i64 n, .string ⟨#[]⟩, .slice none 0 0, .slice none 0 0, .slice none 0 0], .int .i64 0]) (by simp [results, Try.results26, go_sem, *]) rfl (val_e HQ.out (below_six HR4.out.2.2.2 (by omega) _ _ _ _ _ _))
    have e6 : ((ak : Int) == 4) = false := by rw [beq_eq_false_iff_ne]; exact c6
    by_cases c7 : bk = 4
    · have e7 : ((bk : Int) == 4) = true := by rw [beq_iff_eq]; exact c7
      have HQ := Lib.hid (show r = (4, n, 0) by rw [hr, reck, if_neg c1, if_neg c2, if_neg c3, if_neg c4, if_neg (fun h => h rfl), if_neg c6, if_pos c7])
      clear c1 c2 c3 c4 c7 hr
      go_enter Try.func26, Try.ntmps26
      go_wp2_with fail
      generalize hW : (((w.alloc (.cells #[Value.int .i64 ak, .int .i64 an, p2, p3, p4, p5] 26)).alloc (.cells #[Value.int .i64 bk, .int .i64 bn, q2, q3, q4, q5] 26)).alloc (.cells #[Value.int .i64 0, .int .i64 0, .string ⟨#[]⟩, .slice none 0 0, .slice none 0 0, .slice none 0 0] 26)) = W0 at *
      clear hW
      obtain ⟨⟨a0, a1, a2, a3, a4, a5⟩, ⟨b0, b1, b2, b3, b4, b5⟩, ⟨z0, z1, z2, z3, z4, z5⟩, f0, f1, f2, f3, f4, f5⟩ := HR0.out.all
      go_wp2_with fail
      go_at_call 35
      refine (HNA.out _).mono ?_
      rintro e w1 ⟨rfl, hb⟩
      clear a0 a1 a2 a3 a4 a5 b0 b1 b2 b3 b4 b5 z0 z1 z2 z3 z4 z5 f0 f1 f2 f3 f4 f5
      have HR1 := Lib.hid (HR0.out.step hb)
      clear hb
      obtain ⟨⟨a0, a1, a2, a3, a4, a5⟩, ⟨b0, b1, b2, b3, b4, b5⟩, ⟨z0, z1, z2, z3, z4, z5⟩, f0, f1, f2, f3, f4, f5⟩ := HR1.out.all
      go_wp2_with fail
      go_at_call 35
      refine (HNB.out _).mono ?_
      rintro e w2 ⟨rfl, hb⟩
      clear a0 a1 a2 a3 a4 a5 b0 b1 b2 b3 b4 b5 z0 z1 z2 z3 z4 z5 f0 f1 f2 f3 f4 f5
      have HR2 := Lib.hid (HR1.out.step hb)
      clear hb
      obtain ⟨⟨a0, a1, a2, a3, a4, a5⟩, ⟨b0, b1, b2, b3, b4, b5⟩, ⟨z0, z1, z2, z3, z4, z5⟩, f0, f1, f2, f3, f4, f5⟩ := HR2.out.all
      go_wp2_with fail
      go_at_call 36
      refine (HMA.out _).mono ?_
      rintro e w3 ⟨rfl, hb⟩
      clear a0 a1 a2 a3 a4 a5 b0 b1 b2 b3 b4 b5 z0 z1 z2 z3 z4 z5 f0 f1 f2 f3 f4 f5
      have HR3 := Lib.hid (HR2.out.step hb)
      clear hb
      obtain ⟨⟨a0, a1, a2, a3, a4, a5⟩, ⟨b0, b1, b2, b3, b4, b5⟩, ⟨z0, z1, z2, z3, z4, z5⟩, f0, f1, f2, f3, f4, f5⟩ := HR3.out.all
      go_wp2_with fail
      go_at_call 36
      refine (HMB.out _).mono ?_
      rintro e w4 ⟨rfl, hb⟩
      clear a0 a1 a2 a3 a4 a5 b0 b1 b2 b3 b4 b5 z0 z1 z2 z3 z4 z5 f0 f1 f2 f3 f4 f5
      have HR4 := Lib.hid (HR3.out.step hb)
      clear hb
      obtain ⟨⟨a0, a1, a2, a3, a4, a5⟩, ⟨b0, b1, b2, b3, b4, b5⟩, ⟨z0, z1, z2, z3, z4, z5⟩, f0, f1, f2, f3, f4, f5⟩ := HR4.out.all
      go_wp2_with fail
      go_at_call 29
      refine (HOP.out _).mono ?_
      rintro ee ww ⟨rfl, rfl⟩
      go_wp2_with fail
      exact bodyPost_ret (v := .tuple #[.agg #[.int .i64 4, .int .i64 n, .string ⟨#[]⟩, .slice none 0 0, .slice none 0 0, .slice none 0 0], .int .i64 0]) (by simp [results, Try.results26, go_sem, *]) rfl (val_e HQ.out (below_six HR4.out.2.2.2 (by omega) _ _ _ _ _ _))
    have e7 : ((bk : Int) == 4) = false := by rw [beq_eq_false_iff_ne]; exact c7
    have HQ := Lib.hid (show r = (ofK n, n, 0) by rw [hr, reck, if_neg c1, if_neg c2, if_neg c3, if_neg c4, if_neg (fun h => h rfl), if_neg c6, if_neg c7])
    clear c1 c2 c3 c4 hr
    go_enter Try.func26, Try.ntmps26
    go_wp2_with fail
    generalize hW : (((w.alloc (.cells #[Value.int .i64 ak, .int .i64 an, p2, p3, p4, p5] 26)).alloc (.cells #[Value.int .i64 bk, .int .i64 bn, q2, q3, q4, q5] 26)).alloc (.cells #[Value.int .i64 0, .int .i64 0, .string ⟨#[]⟩, .slice none 0 0, .slice none 0 0, .slice none 0 0] 26)) = W0 at *
    clear hW
    obtain ⟨⟨a0, a1, a2, a3, a4, a5⟩, ⟨b0, b1, b2, b3, b4, b5⟩, ⟨z0, z1, z2, z3, z4, z5⟩, f0, f1, f2, f3, f4, f5⟩ := HR0.out.all
    go_wp2_with fail
    go_at_call 35
    refine (HNA.out _).mono ?_
    rintro e w1 ⟨rfl, hb⟩
    clear a0 a1 a2 a3 a4 a5 b0 b1 b2 b3 b4 b5 z0 z1 z2 z3 z4 z5 f0 f1 f2 f3 f4 f5
    have HR1 := Lib.hid (HR0.out.step hb)
    clear hb
    obtain ⟨⟨a0, a1, a2, a3, a4, a5⟩, ⟨b0, b1, b2, b3, b4, b5⟩, ⟨z0, z1, z2, z3, z4, z5⟩, f0, f1, f2, f3, f4, f5⟩ := HR1.out.all
    go_wp2_with fail
    go_at_call 35
    refine (HNB.out _).mono ?_
    rintro e w2 ⟨rfl, hb⟩
    clear a0 a1 a2 a3 a4 a5 b0 b1 b2 b3 b4 b5 z0 z1 z2 z3 z4 z5 f0 f1 f2 f3 f4 f5
    have HR2 := Lib.hid (HR1.out.step hb)
    clear hb
    obtain ⟨⟨a0, a1, a2, a3, a4, a5⟩, ⟨b0, b1, b2, b3, b4, b5⟩, ⟨z0, z1, z2, z3, z4, z5⟩, f0, f1, f2, f3, f4, f5⟩ := HR2.out.all
    go_wp2_with fail
    go_at_call 36
    refine (HMA.out _).mono ?_
    rintro e w3 ⟨rfl, hb⟩
    clear a0 a1 a2 a3 a4 a5 b0 b1 b2 b3 b4 b5 z0 z1 z2 z3 z4 z5 f0 f1 f2 f3 f4 f5
    have HR3 := Lib.hid (HR2.out.step hb)
    clear hb
    obtain ⟨⟨a0, a1, a2, a3, a4, a5⟩, ⟨b0, b1, b2, b3, b4, b5⟩, ⟨z0, z1, z2, z3, z4, z5⟩, f0, f1, f2, f3, f4, f5⟩ := HR3.out.all
    go_wp2_with fail
    go_at_call 36
    refine (HMB.out _).mono ?_
    rintro e w4 ⟨rfl, hb⟩
    clear a0 a1 a2 a3 a4 a5 b0 b1 b2 b3 b4 b5 z0 z1 z2 z3 z4 z5 f0 f1 f2 f3 f4 f5
    have HR4 := Lib.hid (HR3.out.step hb)
    clear hb
    obtain ⟨⟨a0, a1, a2, a3, a4, a5⟩, ⟨b0, b1, b2, b3, b4, b5⟩, ⟨z0, z1, z2, z3, z4, z5⟩, f0, f1, f2, f3, f4, f5⟩ := HR4.out.all
    go_wp2_with fail
    go_at_call 29
    refine (HOP.out _).mono ?_
    rintro ee ww ⟨rfl, rfl⟩
    go_wp2_with fail
    go_at_call 18
    refine (of_any _ _).mono ?_
    rintro ee w5 ⟨rfl, hb⟩
    clear a0 a1 a2 a3 a4 a5 b0 b1 b2 b3 b4 b5 z0 z1 z2 z3 z4 z5 f0 f1 f2 f3 f4 f5
    have HR5 := Lib.hid (HR4.out.step hb)
    clear hb
    obtain ⟨⟨a0, a1, a2, a3, a4, a5⟩, ⟨b0, b1, b2, b3, b4, b5⟩, ⟨z0, z1, z2, z3, z4, z5⟩, f0, f1, f2, f3, f4, f5⟩ := HR5.out.all
    go_wp2_with fail
    exact bodyPost_ret (v := .tuple #[.agg #[.int .i64 (ofK n), .int .i64 n, .string ⟨#[]⟩, .slice none 0 0, .slice none 0 0, .slice none 0 0], .int .i64 0]) (by simp [results, Try.results26, go_sem, *]) rfl (val_e HQ.out (below_six HR5.out.2.2.2 (by omega) _ _ _ _ _ _))
  · have e5 : ((e : Int) != 0) = true := by simp [c5]
    have HQ := Lib.hid (show r = (0, 0, e) by rw [hr, reck, if_neg c1, if_neg c2, if_neg c3, if_neg c4, if_pos c5])
    clear c1 c2 c3 c4 hr
    go_enter Try.func26, Try.ntmps26
    go_wp2_with fail
    generalize hW : (((w.alloc (.cells #[Value.int .i64 ak, .int .i64 an, p2, p3, p4, p5] 26)).alloc (.cells #[Value.int .i64 bk, .int .i64 bn, q2, q3, q4, q5] 26)).alloc (.cells #[Value.int .i64 0, .int .i64 0, .string ⟨#[]⟩, .slice none 0 0, .slice none 0 0, .slice none 0 0] 26)) = W0 at *
    clear hW
    obtain ⟨⟨a0, a1, a2, a3, a4, a5⟩, ⟨b0, b1, b2, b3, b4, b5⟩, ⟨z0, z1, z2, z3, z4, z5⟩, f0, f1, f2, f3, f4, f5⟩ := HR0.out.all
    go_wp2_with fail
    go_at_call 35
    refine (HNA.out _).mono ?_
    rintro e w1 ⟨rfl, hb⟩
    clear a0 a1 a2 a3 a4 a5 b0 b1 b2 b3 b4 b5 z0 z1 z2 z3 z4 z5 f0 f1 f2 f3 f4 f5
    have HR1 := Lib.hid (HR0.out.step hb)
    clear hb
    obtain ⟨⟨a0, a1, a2, a3, a4, a5⟩, ⟨b0, b1, b2, b3, b4, b5⟩, ⟨z0, z1, z2, z3, z4, z5⟩, f0, f1, f2, f3, f4, f5⟩ := HR1.out.all
    go_wp2_with fail
    go_at_call 35
    refine (HNB.out _).mono ?_
    rintro e w2 ⟨rfl, hb⟩
    clear a0 a1 a2 a3 a4 a5 b0 b1 b2 b3 b4 b5 z0 z1 z2 z3 z4 z5 f0 f1 f2 f3 f4 f5
    have HR2 := Lib.hid (HR1.out.step hb)
    clear hb
    obtain ⟨⟨a0, a1, a2, a3, a4, a5⟩, ⟨b0, b1, b2, b3, b4, b5⟩, ⟨z0, z1, z2, z3, z4, z5⟩, f0, f1, f2, f3, f4, f5⟩ := HR2.out.all
    go_wp2_with fail
    go_at_call 36
    refine (HMA.out _).mono ?_
    rintro e w3 ⟨rfl, hb⟩
    clear a0 a1 a2 a3 a4 a5 b0 b1 b2 b3 b4 b5 z0 z1 z2 z3 z4 z5 f0 f1 f2 f3 f4 f5
    have HR3 := Lib.hid (HR2.out.step hb)
    clear hb
    obtain ⟨⟨a0, a1, a2, a3, a4, a5⟩, ⟨b0, b1, b2, b3, b4, b5⟩, ⟨z0, z1, z2, z3, z4, z5⟩, f0, f1, f2, f3, f4, f5⟩ := HR3.out.all
    go_wp2_with fail
    go_at_call 36
    refine (HMB.out _).mono ?_
    rintro e w4 ⟨rfl, hb⟩
    clear a0 a1 a2 a3 a4 a5 b0 b1 b2 b3 b4 b5 z0 z1 z2 z3 z4 z5 f0 f1 f2 f3 f4 f5
    have HR4 := Lib.hid (HR3.out.step hb)
    clear hb
    obtain ⟨⟨a0, a1, a2, a3, a4, a5⟩, ⟨b0, b1, b2, b3, b4, b5⟩, ⟨z0, z1, z2, z3, z4, z5⟩, f0, f1, f2, f3, f4, f5⟩ := HR4.out.all
    go_wp2_with fail
    go_at_call 29
    refine (HOP.out _).mono ?_
    rintro ee ww ⟨rfl, rfl⟩
    go_wp2_with fail
    exact bodyPost_ret (v := .tuple #[.agg #[.int .i64 0, .int .i64 0, .string ⟨#[]⟩, .slice none 0 0, .slice none 0 0, .slice none 0 0], .int .i64 e]) (by simp [results, Try.results26, go_sem, *]) rfl (val_e HQ.out (below_six HR4.out.2.2.2 (by omega) _ _ _ _ _ _))
end Go.Proofs.Ytkmibpjhfgbckaa
