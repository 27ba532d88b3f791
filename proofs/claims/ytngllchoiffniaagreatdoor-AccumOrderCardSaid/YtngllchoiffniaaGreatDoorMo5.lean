/- NumRkAny, OrderCmpL, NumRkSum, OrderCmpF, NumOps, OrderCmp. -/
import Derived.Test.YtngllchoiffniaaGreatDoorMo4
import Derived.Test.YtngllchoiffniaaGreatDoorMo2
import Derived.Test.YtngllchoiffniaaGreatDoorMo3
set_option maxRecDepth 100000
set_option maxHeartbeats 20000000
section
namespace Go.Proofs.YtngllchoiffniaaGreatDoor
open Go.RowKit
open Seal
open Num
theorem reckon_gen (K : FuncId) (hke : ∀ args (u : World), (callFunc K args).run Tryz.prog u = .ok (.enter K args) u) (o0 : Int × Int) (ak an bk bn : Int) (p2 p3 p4 p5 q2 q3 q4 q5 : Value) (w : World) (hop : ∀ u, Calls Tryz.prog K #[.int .i64 an, .int .i64 bn] u (PairDr o0 u)) : Calls Tryz.prog 62 #[.agg #[.int .i64 ak, .int .i64 an, p2, p3, p4, p5], .agg #[.int .i64 bk, .int .i64 bn, q2, q3, q4, q5], .func (.func K) #[] #[]] w (ValE (reck o0 ak bk) w) := by
 have HR0 := Lib.hid (R3.new w #[Value.int .i64 ak, .int .i64 an, p2, p3, p4, p5] #[Value.int .i64 bk, .int .i64 bn, q2, q3, q4, q5])
 have HNA := Lib.hid (fun w => nothing_any ak (.int .i64 an) p2 p3 p4 p5 w)
 have HNB := Lib.hid (fun w => nothing_any bk (.int .i64 bn) q2 q3 q4 q5 w)
 have HMA := Lib.hid (fun w => number_any ak (.int .i64 an) p2 p3 p4 p5 w)
 have HMB := Lib.hid (fun w => number_any bk (.int .i64 bn) q2 q3 q4 q5 w)
 obtain ⟨r, hr⟩ : ∃ r, r = reck o0 ak bk := ⟨_, rfl⟩
 rw [← hr]
 by_cases c1 : noneB ak = true
 ·rw [c1] at HNA
  have HQ := Lib.hid (show r = (2, 0, 0) by rw [hr, reck, if_pos c1])
  clear c1 hr
  go_enter Tryz.func62, Tryz.ntmps62
  go_wp2_with fail
  generalize hW : (((w.alloc (.cells #[Value.int .i64 ak, .int .i64 an, p2, p3, p4, p5] 35)).alloc (.cells #[Value.int .i64 bk, .int .i64 bn, q2, q3, q4, q5] 35)).alloc (.cells #[Value.int .i64 0, .int .i64 0, .string ⟨#[]⟩, .slice none 0 0, .slice none 0 0, .slice none 0 0] 35)) = W0 at *
  clear hW
  obtain ⟨⟨a0, a1, a2, a3, a4, a5⟩, ⟨b0, b1, b2, b3, b4, b5⟩, ⟨z0, z1, z2, z3, z4, z5⟩, f0, f1, f2, f3, f4, f5⟩ := HR0.out.all
  go_wp2_with fail
  go_at_call 74
  refine (HNA.out _).mono ?_
  rintro e w1 ⟨rfl, hb⟩
  clear a0 a1 a2 a3 a4 a5 b0 b1 b2 b3 b4 b5 z0 z1 z2 z3 z4 z5 f0 f1 f2 f3 f4 f5
  have HR1 := Lib.hid (HR0.out.step hb)
  clear hb
  obtain ⟨⟨a0, a1, a2, a3, a4, a5⟩, ⟨b0, b1, b2, b3, b4, b5⟩, ⟨z0, z1, z2, z3, z4, z5⟩, f0, f1, f2, f3, f4, f5⟩ := HR1.out.all
  go_wp2_with fail
  exact bodyPost_ret (v := .tuple #[.agg #[.int .i64 2, .int .i64 0, .string ⟨#[]⟩, .slice none 0 0, .slice none 0 0, .slice none 0 0], .int .i64 0]) (by simp [results, Tryz.results62, go_sem, *]) rfl (val_e HQ.out (below_six HR1.out.2.2.2 (by omega) _ _ _ _ _ _))
 by_cases c2 : noneB bk = true
 ·rw [eq_false_of_ne_true c1] at HNA
  rw [c2] at HNB
  have HQ := Lib.hid (show r = (2, 0, 0) by rw [hr, reck, if_neg c1, if_pos c2])
  clear c1 c2 hr
  go_enter Tryz.func62, Tryz.ntmps62
  go_wp2_with fail
  generalize hW : (((w.alloc (.cells #[Value.int .i64 ak, .int .i64 an, p2, p3, p4, p5] 35)).alloc (.cells #[Value.int .i64 bk, .int .i64 bn, q2, q3, q4, q5] 35)).alloc (.cells #[Value.int .i64 0, .int .i64 0, .string ⟨#[]⟩, .slice none 0 0, .slice none 0 0, .slice none 0 0] 35)) = W0 at *
  clear hW
  obtain ⟨⟨a0, a1, a2, a3, a4, a5⟩, ⟨b0, b1, b2, b3, b4, b5⟩, ⟨z0, z1, z2, z3, z4, z5⟩, f0, f1, f2, f3, f4, f5⟩ := HR0.out.all
  go_wp2_with fail
  go_at_call 74
  refine (HNA.out _).mono ?_
  rintro e w1 ⟨rfl, hb⟩
  clear a0 a1 a2 a3 a4 a5 b0 b1 b2 b3 b4 b5 z0 z1 z2 z3 z4 z5 f0 f1 f2 f3 f4 f5
  have HR1 := Lib.hid (HR0.out.step hb)
  clear hb
  obtain ⟨⟨a0, a1, a2, a3, a4, a5⟩, ⟨b0, b1, b2, b3, b4, b5⟩, ⟨z0, z1, z2, z3, z4, z5⟩, f0, f1, f2, f3, f4, f5⟩ := HR1.out.all
  go_wp2_with fail
  go_at_call 74
  refine (HNB.out _).mono ?_
  rintro e w2 ⟨rfl, hb⟩
  clear a0 a1 a2 a3 a4 a5 b0 b1 b2 b3 b4 b5 z0 z1 z2 z3 z4 z5 f0 f1 f2 f3 f4 f5
  have HR2 := Lib.hid (HR1.out.step hb)
  clear hb
  obtain ⟨⟨a0, a1, a2, a3, a4, a5⟩, ⟨b0, b1, b2, b3, b4, b5⟩, ⟨z0, z1, z2, z3, z4, z5⟩, f0, f1, f2, f3, f4, f5⟩ := HR2.out.all
  go_wp2_with fail
  exact bodyPost_ret (v := .tuple #[.agg #[.int .i64 2, .int .i64 0, .string ⟨#[]⟩, .slice none 0 0, .slice none 0 0, .slice none 0 0], .int .i64 0]) (by simp [results, Tryz.results62, go_sem, *]) rfl (val_e HQ.out (below_six HR2.out.2.2.2 (by omega) _ _ _ _ _ _))
 rw [eq_false_of_ne_true c1] at HNA
 rw [eq_false_of_ne_true c2] at HNB
 by_cases c3 : numB ak = false
 ·rw [c3] at HMA
  have HQ := Lib.hid (show r = (0, 0, 12) by rw [hr, reck, if_neg c1, if_neg c2, if_pos c3])
  clear c1 c2 c3 hr
  go_enter Tryz.func62, Tryz.ntmps62
  go_wp2_with fail
  generalize hW : (((w.alloc (.cells #[Value.int .i64 ak, .int .i64 an, p2, p3, p4, p5] 35)).alloc (.cells #[Value.int .i64 bk, .int .i64 bn, q2, q3, q4, q5] 35)).alloc (.cells #[Value.int .i64 0, .int .i64 0, .string ⟨#[]⟩, .slice none 0 0, .slice none 0 0, .slice none 0 0] 35)) = W0 at *
  clear hW
  obtain ⟨⟨a0, a1, a2, a3, a4, a5⟩, ⟨b0, b1, b2, b3, b4, b5⟩, ⟨z0, z1, z2, z3, z4, z5⟩, f0, f1, f2, f3, f4, f5⟩ := HR0.out.all
  go_wp2_with fail
  go_at_call 74
  refine (HNA.out _).mono ?_
  rintro e w1 ⟨rfl, hb⟩
  clear a0 a1 a2 a3 a4 a5 b0 b1 b2 b3 b4 b5 z0 z1 z2 z3 z4 z5 f0 f1 f2 f3 f4 f5
  have HR1 := Lib.hid (HR0.out.step hb)
  clear hb
  obtain ⟨⟨a0, a1, a2, a3, a4, a5⟩, ⟨b0, b1, b2, b3, b4, b5⟩, ⟨z0, z1, z2, z3, z4, z5⟩, f0, f1, f2, f3, f4, f5⟩ := HR1.out.all
  go_wp2_with fail
  go_at_call 74
  refine (HNB.out _).mono ?_
  rintro e w2 ⟨rfl, hb⟩
  clear a0 a1 a2 a3 a4 a5 b0 b1 b2 b3 b4 b5 z0 z1 z2 z3 z4 z5 f0 f1 f2 f3 f4 f5
  have HR2 := Lib.hid (HR1.out.step hb)
  clear hb
  obtain ⟨⟨a0, a1, a2, a3, a4, a5⟩, ⟨b0, b1, b2, b3, b4, b5⟩, ⟨z0, z1, z2, z3, z4, z5⟩, f0, f1, f2, f3, f4, f5⟩ := HR2.out.all
  go_wp2_with fail
  go_at_call 75
  refine (HMA.out _).mono ?_
  rintro e w3 ⟨rfl, hb⟩
  clear a0 a1 a2 a3 a4 a5 b0 b1 b2 b3 b4 b5 z0 z1 z2 z3 z4 z5 f0 f1 f2 f3 f4 f5
  have HR3 := Lib.hid (HR2.out.step hb)
  clear hb
  obtain ⟨⟨a0, a1, a2, a3, a4, a5⟩, ⟨b0, b1, b2, b3, b4, b5⟩, ⟨z0, z1, z2, z3, z4, z5⟩, f0, f1, f2, f3, f4, f5⟩ := HR3.out.all
  go_wp2_with fail
  exact bodyPost_ret (v := .tuple #[.agg #[.int .i64 0, .int .i64 0, .string ⟨#[]⟩, .slice none 0 0, .slice none 0 0, .slice none 0 0], .int .i64 12]) (by simp [results, Tryz.results62, go_sem, *]) rfl (val_e HQ.out (below_six HR3.out.2.2.2 (by omega) _ _ _ _ _ _))
 rw [eq_true_of_ne_false c3] at HMA
 by_cases c4 : numB bk = false
 ·rw [c4] at HMB
  have HQ := Lib.hid (show r = (0, 0, 12) by rw [hr, reck, if_neg c1, if_neg c2, if_neg c3, if_pos c4])
  clear c1 c2 c3 c4 hr
  go_enter Tryz.func62, Tryz.ntmps62
  go_wp2_with fail
  generalize hW : (((w.alloc (.cells #[Value.int .i64 ak, .int .i64 an, p2, p3, p4, p5] 35)).alloc (.cells #[Value.int .i64 bk, .int .i64 bn, q2, q3, q4, q5] 35)).alloc (.cells #[Value.int .i64 0, .int .i64 0, .string ⟨#[]⟩, .slice none 0 0, .slice none 0 0, .slice none 0 0] 35)) = W0 at *
  clear hW
  obtain ⟨⟨a0, a1, a2, a3, a4, a5⟩, ⟨b0, b1, b2, b3, b4, b5⟩, ⟨z0, z1, z2, z3, z4, z5⟩, f0, f1, f2, f3, f4, f5⟩ := HR0.out.all
  go_wp2_with fail
  go_at_call 74
  refine (HNA.out _).mono ?_
  rintro e w1 ⟨rfl, hb⟩
  clear a0 a1 a2 a3 a4 a5 b0 b1 b2 b3 b4 b5 z0 z1 z2 z3 z4 z5 f0 f1 f2 f3 f4 f5
  have HR1 := Lib.hid (HR0.out.step hb)
  clear hb
  obtain ⟨⟨a0, a1, a2, a3, a4, a5⟩, ⟨b0, b1, b2, b3, b4, b5⟩, ⟨z0, z1, z2, z3, z4, z5⟩, f0, f1, f2, f3, f4, f5⟩ := HR1.out.all
  go_wp2_with fail
  go_at_call 74
  refine (HNB.out _).mono ?_
  rintro e w2 ⟨rfl, hb⟩
  clear a0 a1 a2 a3 a4 a5 b0 b1 b2 b3 b4 b5 z0 z1 z2 z3 z4 z5 f0 f1 f2 f3 f4 f5
  have HR2 := Lib.hid (HR1.out.step hb)
  clear hb
  obtain ⟨⟨a0, a1, a2, a3, a4, a5⟩, ⟨b0, b1, b2, b3, b4, b5⟩, ⟨z0, z1, z2, z3, z4, z5⟩, f0, f1, f2, f3, f4, f5⟩ := HR2.out.all
  go_wp2_with fail
  go_at_call 75
  refine (HMA.out _).mono ?_
  rintro e w3 ⟨rfl, hb⟩
  clear a0 a1 a2 a3 a4 a5 b0 b1 b2 b3 b4 b5 z0 z1 z2 z3 z4 z5 f0 f1 f2 f3 f4 f5
  have HR3 := Lib.hid (HR2.out.step hb)
  clear hb
  obtain ⟨⟨a0, a1, a2, a3, a4, a5⟩, ⟨b0, b1, b2, b3, b4, b5⟩, ⟨z0, z1, z2, z3, z4, z5⟩, f0, f1, f2, f3, f4, f5⟩ := HR3.out.all
  go_wp2_with fail
  go_at_call 75
  refine (HMB.out _).mono ?_
  rintro e w4 ⟨rfl, hb⟩
  clear a0 a1 a2 a3 a4 a5 b0 b1 b2 b3 b4 b5 z0 z1 z2 z3 z4 z5 f0 f1 f2 f3 f4 f5
  have HR4 := Lib.hid (HR3.out.step hb)
  clear hb
  obtain ⟨⟨a0, a1, a2, a3, a4, a5⟩, ⟨b0, b1, b2, b3, b4, b5⟩, ⟨z0, z1, z2, z3, z4, z5⟩, f0, f1, f2, f3, f4, f5⟩ := HR4.out.all
  go_wp2_with fail
  exact bodyPost_ret (v := .tuple #[.agg #[.int .i64 0, .int .i64 0, .string ⟨#[]⟩, .slice none 0 0, .slice none 0 0, .slice none 0 0], .int .i64 12]) (by simp [results, Tryz.results62, go_sem, *]) rfl (val_e HQ.out (below_six HR4.out.2.2.2 (by omega) _ _ _ _ _ _))
 rw [eq_true_of_ne_false c4] at HMB
 have HOP := Lib.hid hop
 clear hop
 obtain ⟨o, ho⟩ : ∃ o, o = o0 := ⟨_, rfl⟩
 rw [← ho] at HOP hr
 obtain ⟨n, e⟩ := o
 clear ho
 by_cases c5 : e = 0
 ·subst c5
  by_cases c6 : ak = 4
  ·have e6 : ((ak : Int) == 4) = true := by rw [beq_iff_eq]; exact c6
   have HQ := Lib.hid (show r = (4, n, 0) by rw [hr, reck, if_neg c1, if_neg c2, if_neg c3, if_neg c4, if_neg (fun h => h rfl), if_pos c6])
   clear c1 c2 c3 c4 c6 hr
   go_enter Tryz.func62, Tryz.ntmps62
   go_wp2_with fail
   generalize hW : (((w.alloc (.cells #[Value.int .i64 ak, .int .i64 an, p2, p3, p4, p5] 35)).alloc (.cells #[Value.int .i64 bk, .int .i64 bn, q2, q3, q4, q5] 35)).alloc (.cells #[Value.int .i64 0, .int .i64 0, .string ⟨#[]⟩, .slice none 0 0, .slice none 0 0, .slice none 0 0] 35)) = W0 at *
   clear hW
   obtain ⟨⟨a0, a1, a2, a3, a4, a5⟩, ⟨b0, b1, b2, b3, b4, b5⟩, ⟨z0, z1, z2, z3, z4, z5⟩, f0, f1, f2, f3, f4, f5⟩ := HR0.out.all
   go_wp2_with fail
   go_at_call 74
   refine (HNA.out _).mono ?_
   rintro e w1 ⟨rfl, hb⟩
   clear a0 a1 a2 a3 a4 a5 b0 b1 b2 b3 b4 b5 z0 z1 z2 z3 z4 z5 f0 f1 f2 f3 f4 f5
   have HR1 := Lib.hid (HR0.out.step hb)
   clear hb
   obtain ⟨⟨a0, a1, a2, a3, a4, a5⟩, ⟨b0, b1, b2, b3, b4, b5⟩, ⟨z0, z1, z2, z3, z4, z5⟩, f0, f1, f2, f3, f4, f5⟩ := HR1.out.all
   go_wp2_with fail
   go_at_call 74
   refine (HNB.out _).mono ?_
   rintro e w2 ⟨rfl, hb⟩
   clear a0 a1 a2 a3 a4 a5 b0 b1 b2 b3 b4 b5 z0 z1 z2 z3 z4 z5 f0 f1 f2 f3 f4 f5
   have HR2 := Lib.hid (HR1.out.step hb)
   clear hb
   obtain ⟨⟨a0, a1, a2, a3, a4, a5⟩, ⟨b0, b1, b2, b3, b4, b5⟩, ⟨z0, z1, z2, z3, z4, z5⟩, f0, f1, f2, f3, f4, f5⟩ := HR2.out.all
   go_wp2_with fail
   go_at_call 75
   refine (HMA.out _).mono ?_
   rintro e w3 ⟨rfl, hb⟩
   clear a0 a1 a2 a3 a4 a5 b0 b1 b2 b3 b4 b5 z0 z1 z2 z3 z4 z5 f0 f1 f2 f3 f4 f5
   have HR3 := Lib.hid (HR2.out.step hb)
   clear hb
   obtain ⟨⟨a0, a1, a2, a3, a4, a5⟩, ⟨b0, b1, b2, b3, b4, b5⟩, ⟨z0, z1, z2, z3, z4, z5⟩, f0, f1, f2, f3, f4, f5⟩ := HR3.out.all
   go_wp2_with fail
   go_at_call 75
   refine (HMB.out _).mono ?_
   rintro e w4 ⟨rfl, hb⟩
   clear a0 a1 a2 a3 a4 a5 b0 b1 b2 b3 b4 b5 z0 z1 z2 z3 z4 z5 f0 f1 f2 f3 f4 f5
   have HR4 := Lib.hid (HR3.out.step hb)
   clear hb
   obtain ⟨⟨a0, a1, a2, a3, a4, a5⟩, ⟨b0, b1, b2, b3, b4, b5⟩, ⟨z0, z1, z2, z3, z4, z5⟩, f0, f1, f2, f3, f4, f5⟩ := HR4.out.all
   go_wp2_with fail
   refine (HOP.out _).mono ?_
   rintro ee ww ⟨rfl, nq, rfl⟩
   go_wp2_with fail
   exact bodyPost_ret (v := .tuple #[.agg #[.int .i64 4, .int .i64 n, .string ⟨#[]⟩, .slice none 0 0, .slice none 0 0, .slice none 0 0], .int .i64 0]) (by simp [results, Tryz.results62, go_sem, *]) rfl (val_e HQ.out (below_six (below_dr HR4.out.2.2.2 _) (by omega) _ _ _ _ _ _))
  have e6 : ((ak : Int) == 4) = false := by rw [beq_eq_false_iff_ne]; exact c6
  by_cases c7 : bk = 4
  ·have e7 : ((bk : Int) == 4) = true := by rw [beq_iff_eq]; exact c7
   have HQ := Lib.hid (show r = (4, n, 0) by rw [hr, reck, if_neg c1, if_neg c2, if_neg c3, if_neg c4, if_neg (fun h => h rfl), if_neg c6, if_pos c7])
   clear c1 c2 c3 c4 c7 hr
   go_enter Tryz.func62, Tryz.ntmps62
   go_wp2_with fail
   generalize hW : (((w.alloc (.cells #[Value.int .i64 ak, .int .i64 an, p2, p3, p4, p5] 35)).alloc (.cells #[Value.int .i64 bk, .int .i64 bn, q2, q3, q4, q5] 35)).alloc (.cells #[Value.int .i64 0, .int .i64 0, .string ⟨#[]⟩, .slice none 0 0, .slice none 0 0, .slice none 0 0] 35)) = W0 at *
   clear hW
   obtain ⟨⟨a0, a1, a2, a3, a4, a5⟩, ⟨b0, b1, b2, b3, b4, b5⟩, ⟨z0, z1, z2, z3, z4, z5⟩, f0, f1, f2, f3, f4, f5⟩ := HR0.out.all
   go_wp2_with fail
   go_at_call 74
   refine (HNA.out _).mono ?_
   rintro e w1 ⟨rfl, hb⟩
   clear a0 a1 a2 a3 a4 a5 b0 b1 b2 b3 b4 b5 z0 z1 z2 z3 z4 z5 f0 f1 f2 f3 f4 f5
   have HR1 := Lib.hid (HR0.out.step hb)
   clear hb
   obtain ⟨⟨a0, a1, a2, a3, a4, a5⟩, ⟨b0, b1, b2, b3, b4, b5⟩, ⟨z0, z1, z2, z3, z4, z5⟩, f0, f1, f2, f3, f4, f5⟩ := HR1.out.all
   go_wp2_with fail
   go_at_call 74
   refine (HNB.out _).mono ?_
   rintro e w2 ⟨rfl, hb⟩
   clear a0 a1 a2 a3 a4 a5 b0 b1 b2 b3 b4 b5 z0 z1 z2 z3 z4 z5 f0 f1 f2 f3 f4 f5
   have HR2 := Lib.hid (HR1.out.step hb)
   clear hb
   obtain ⟨⟨a0, a1, a2, a3, a4, a5⟩, ⟨b0, b1, b2, b3, b4, b5⟩, ⟨z0, z1, z2, z3, z4, z5⟩, f0, f1, f2, f3, f4, f5⟩ := HR2.out.all
   go_wp2_with fail
   go_at_call 75
   refine (HMA.out _).mono ?_
   rintro e w3 ⟨rfl, hb⟩
   clear a0 a1 a2 a3 a4 a5 b0 b1 b2 b3 b4 b5 z0 z1 z2 z3 z4 z5 f0 f1 f2 f3 f4 f5
   have HR3 := Lib.hid (HR2.out.step hb)
   clear hb
   obtain ⟨⟨a0, a1, a2, a3, a4, a5⟩, ⟨b0, b1, b2, b3, b4, b5⟩, ⟨z0, z1, z2, z3, z4, z5⟩, f0, f1, f2, f3, f4, f5⟩ := HR3.out.all
   go_wp2_with fail
   go_at_call 75
   refine (HMB.out _).mono ?_
   rintro e w4 ⟨rfl, hb⟩
   clear a0 a1 a2 a3 a4 a5 b0 b1 b2 b3 b4 b5 z0 z1 z2 z3 z4 z5 f0 f1 f2 f3 f4 f5
   have HR4 := Lib.hid (HR3.out.step hb)
   clear hb
   obtain ⟨⟨a0, a1, a2, a3, a4, a5⟩, ⟨b0, b1, b2, b3, b4, b5⟩, ⟨z0, z1, z2, z3, z4, z5⟩, f0, f1, f2, f3, f4, f5⟩ := HR4.out.all
   go_wp2_with fail
   refine (HOP.out _).mono ?_
   rintro ee ww ⟨rfl, nq, rfl⟩
   go_wp2_with fail
   exact bodyPost_ret (v := .tuple #[.agg #[.int .i64 4, .int .i64 n, .string ⟨#[]⟩, .slice none 0 0, .slice none 0 0, .slice none 0 0], .int .i64 0]) (by simp [results, Tryz.results62, go_sem, *]) rfl (val_e HQ.out (below_six (below_dr HR4.out.2.2.2 _) (by omega) _ _ _ _ _ _))
  have e7 : ((bk : Int) == 4) = false := by rw [beq_eq_false_iff_ne]; exact c7
  have HQ := Lib.hid (show r = (ofK n, n, 0) by rw [hr, reck, if_neg c1, if_neg c2, if_neg c3, if_neg c4, if_neg (fun h => h rfl), if_neg c6, if_neg c7])
  clear c1 c2 c3 c4 hr
  go_enter Tryz.func62, Tryz.ntmps62
  go_wp2_with fail
  generalize hW : (((w.alloc (.cells #[Value.int .i64 ak, .int .i64 an, p2, p3, p4, p5] 35)).alloc (.cells #[Value.int .i64 bk, .int .i64 bn, q2, q3, q4, q5] 35)).alloc (.cells #[Value.int .i64 0, .int .i64 0, .string ⟨#[]⟩, .slice none 0 0, .slice none 0 0, .slice none 0 0] 35)) = W0 at *
  clear hW
  obtain ⟨⟨a0, a1, a2, a3, a4, a5⟩, ⟨b0, b1, b2, b3, b4, b5⟩, ⟨z0, z1, z2, z3, z4, z5⟩, f0, f1, f2, f3, f4, f5⟩ := HR0.out.all
  go_wp2_with fail
  go_at_call 74
  refine (HNA.out _).mono ?_
  rintro e w1 ⟨rfl, hb⟩
  clear a0 a1 a2 a3 a4 a5 b0 b1 b2 b3 b4 b5 z0 z1 z2 z3 z4 z5 f0 f1 f2 f3 f4 f5
  have HR1 := Lib.hid (HR0.out.step hb)
  clear hb
  obtain ⟨⟨a0, a1, a2, a3, a4, a5⟩, ⟨b0, b1, b2, b3, b4, b5⟩, ⟨z0, z1, z2, z3, z4, z5⟩, f0, f1, f2, f3, f4, f5⟩ := HR1.out.all
  go_wp2_with fail
  go_at_call 74
  refine (HNB.out _).mono ?_
  rintro e w2 ⟨rfl, hb⟩
  clear a0 a1 a2 a3 a4 a5 b0 b1 b2 b3 b4 b5 z0 z1 z2 z3 z4 z5 f0 f1 f2 f3 f4 f5
  have HR2 := Lib.hid (HR1.out.step hb)
  clear hb
  obtain ⟨⟨a0, a1, a2, a3, a4, a5⟩, ⟨b0, b1, b2, b3, b4, b5⟩, ⟨z0, z1, z2, z3, z4, z5⟩, f0, f1, f2, f3, f4, f5⟩ := HR2.out.all
  go_wp2_with fail
  go_at_call 75
  refine (HMA.out _).mono ?_
  rintro e w3 ⟨rfl, hb⟩
  clear a0 a1 a2 a3 a4 a5 b0 b1 b2 b3 b4 b5 z0 z1 z2 z3 z4 z5 f0 f1 f2 f3 f4 f5
  have HR3 := Lib.hid (HR2.out.step hb)
  clear hb
  obtain ⟨⟨a0, a1, a2, a3, a4, a5⟩, ⟨b0, b1, b2, b3, b4, b5⟩, ⟨z0, z1, z2, z3, z4, z5⟩, f0, f1, f2, f3, f4, f5⟩ := HR3.out.all
  go_wp2_with fail
  go_at_call 75
  refine (HMB.out _).mono ?_
  rintro e w4 ⟨rfl, hb⟩
  clear a0 a1 a2 a3 a4 a5 b0 b1 b2 b3 b4 b5 z0 z1 z2 z3 z4 z5 f0 f1 f2 f3 f4 f5
  have HR4 := Lib.hid (HR3.out.step hb)
  clear hb
  obtain ⟨⟨a0, a1, a2, a3, a4, a5⟩, ⟨b0, b1, b2, b3, b4, b5⟩, ⟨z0, z1, z2, z3, z4, z5⟩, f0, f1, f2, f3, f4, f5⟩ := HR4.out.all
  go_wp2_with fail
  refine (HOP.out _).mono ?_
  rintro ee ww ⟨rfl, nq, rfl⟩
  go_wp2_with fail
  go_at_call 46
  refine (of_any _ _).mono ?_
  rintro ee w5 ⟨rfl, hb⟩
  clear a0 a1 a2 a3 a4 a5 b0 b1 b2 b3 b4 b5 z0 z1 z2 z3 z4 z5 f0 f1 f2 f3 f4 f5
  have HR5 := Lib.hid (HR4.out.step ((below_dr (Below.refl _ _) nq).trans (hb.mono (Nat.le_refl _))))
  clear hb
  obtain ⟨⟨a0, a1, a2, a3, a4, a5⟩, ⟨b0, b1, b2, b3, b4, b5⟩, ⟨z0, z1, z2, z3, z4, z5⟩, f0, f1, f2, f3, f4, f5⟩ := HR5.out.all
  go_wp2_with fail
  exact bodyPost_ret (v := .tuple #[.agg #[.int .i64 (ofK n), .int .i64 n, .string ⟨#[]⟩, .slice none 0 0, .slice none 0 0, .slice none 0 0], .int .i64 0]) (by simp [results, Tryz.results62, go_sem, *]) rfl (val_e HQ.out (below_six HR5.out.2.2.2 (by omega) _ _ _ _ _ _))
 ·have e5 : ((e : Int) != 0) = true := by simp [c5]
  have HQ := Lib.hid (show r = (0, 0, e) by rw [hr, reck, if_neg c1, if_neg c2, if_neg c3, if_neg c4, if_pos c5])
  clear c1 c2 c3 c4 hr
  go_enter Tryz.func62, Tryz.ntmps62
  go_wp2_with fail
  generalize hW : (((w.alloc (.cells #[Value.int .i64 ak, .int .i64 an, p2, p3, p4, p5] 35)).alloc (.cells #[Value.int .i64 bk, .int .i64 bn, q2, q3, q4, q5] 35)).alloc (.cells #[Value.int .i64 0, .int .i64 0, .string ⟨#[]⟩, .slice none 0 0, .slice none 0 0, .slice none 0 0] 35)) = W0 at *
  clear hW
  obtain ⟨⟨a0, a1, a2, a3, a4, a5⟩, ⟨b0, b1, b2, b3, b4, b5⟩, ⟨z0, z1, z2, z3, z4, z5⟩, f0, f1, f2, f3, f4, f5⟩ := HR0.out.all
  go_wp2_with fail
  go_at_call 74
  refine (HNA.out _).mono ?_
  rintro e w1 ⟨rfl, hb⟩
  clear a0 a1 a2 a3 a4 a5 b0 b1 b2 b3 b4 b5 z0 z1 z2 z3 z4 z5 f0 f1 f2 f3 f4 f5
  have HR1 := Lib.hid (HR0.out.step hb)
  clear hb
  obtain ⟨⟨a0, a1, a2, a3, a4, a5⟩, ⟨b0, b1, b2, b3, b4, b5⟩, ⟨z0, z1, z2, z3, z4, z5⟩, f0, f1, f2, f3, f4, f5⟩ := HR1.out.all
  go_wp2_with fail
  go_at_call 74
  refine (HNB.out _).mono ?_
  rintro e w2 ⟨rfl, hb⟩
  clear a0 a1 a2 a3 a4 a5 b0 b1 b2 b3 b4 b5 z0 z1 z2 z3 z4 z5 f0 f1 f2 f3 f4 f5
  have HR2 := Lib.hid (HR1.out.step hb)
  clear hb
  obtain ⟨⟨a0, a1, a2, a3, a4, a5⟩, ⟨b0, b1, b2, b3, b4, b5⟩, ⟨z0, z1, z2, z3, z4, z5⟩, f0, f1, f2, f3, f4, f5⟩ := HR2.out.all
  go_wp2_with fail
  go_at_call 75
  refine (HMA.out _).mono ?_
  rintro e w3 ⟨rfl, hb⟩
  clear a0 a1 a2 a3 a4 a5 b0 b1 b2 b3 b4 b5 z0 z1 z2 z3 z4 z5 f0 f1 f2 f3 f4 f5
  have HR3 := Lib.hid (HR2.out.step hb)
  clear hb
  obtain ⟨⟨a0, a1, a2, a3, a4, a5⟩, ⟨b0, b1, b2, b3, b4, b5⟩, ⟨z0, z1, z2, z3, z4, z5⟩, f0, f1, f2, f3, f4, f5⟩ := HR3.out.all
  go_wp2_with fail
  go_at_call 75
  refine (HMB.out _).mono ?_
  rintro e w4 ⟨rfl, hb⟩
  clear a0 a1 a2 a3 a4 a5 b0 b1 b2 b3 b4 b5 z0 z1 z2 z3 z4 z5 f0 f1 f2 f3 f4 f5
  have HR4 := Lib.hid (HR3.out.step hb)
  clear hb
  obtain ⟨⟨a0, a1, a2, a3, a4, a5⟩, ⟨b0, b1, b2, b3, b4, b5⟩, ⟨z0, z1, z2, z3, z4, z5⟩, f0, f1, f2, f3, f4, f5⟩ := HR4.out.all
  go_wp2_with fail
  refine (HOP.out _).mono ?_
  rintro ee ww ⟨rfl, nq, rfl⟩
  go_wp2_with fail
  exact bodyPost_ret (v := .tuple #[.agg #[.int .i64 0, .int .i64 0, .string ⟨#[]⟩, .slice none 0 0, .slice none 0 0, .slice none 0 0], .int .i64 e]) (by simp [results, Tryz.results62, go_sem, *]) rfl (val_e HQ.out (below_six (below_dr HR4.out.2.2.2 _) (by omega) _ _ _ _ _ _))
end Go.Proofs.YtngllchoiffniaaGreatDoor
end
section
namespace Go.Proofs.YtngllchoiffniaaGreatDoor
open Go.RowKit
open Seal
open Bson (Val)
theorem VIn.kind_is {w : World} {Q : Nat → Prop} : ∀ {h : Nat} {x : Val} {k n : Int} {s : ByteArray} {ba fa la : Option Addr} {bn bc fn fc ln lc : Nat}, VIn w Q h x (.agg #[.int .i64 k, .int .i64 n, .string s, .slice ba bn bc, .slice fa fn fc, .slice la ln lc]) → k = x.kind
 | 0, _, _, _, _, _, _, _, _, _, _, _, _, _, hv => hv.elim
 | h + 1, x, k, n, s, ba, fa, la, bn, bc, fn, fc, ln, lc, hv => by
  obtain ⟨ba', fa', la', bc', fc', lc', e, _⟩ := hv
  unfold agg at e
  injection e with e; injection e with e; injection e with e; injection e with e _
def CmpPost (n : Int) (w : World) (e : Ending) (w' : World) : Prop := e = .returned (.int .i64 n) ∧ Below w.heap.size w w'
def CmpAt (h : Nat) : Prop := ∀ (Q Q2 : Nat → Prop) (x y : Val) (u v : Value) (w : World), VIn w Q h x u → VIn w Q2 h y v → Calls Tryz.prog 65 #[u, v] w (CmpPost (Order.cmp h x y) w)
def LexGo {α : Type} (c : α → α → Int) (l m : List α) (k : Nat) : Prop := Order.lex c l m = Order.lex c (l.drop k) (m.drop k)
section
variable {α : Type} {c : α → α → Int} {l m : List α} {k n n2 : Nat}
theorem LexGo.next (h : LexGo c l m k) (ha : k < l.length) (hb : k < m.length) (e : c l[k] m[k] = 0) : LexGo c l m (k + 1) := by
 unfold LexGo at h ⊢; rw [h]; exact Order.lex_step ha hb e
theorem LexGo.here (h : LexGo c l m k) (ha : k < l.length) (hb : k < m.length) (e : ¬ c l[k] m[k] = 0) : Order.lex c l m = c l[k] m[k] := by
 unfold LexGo at h; rw [h]; exact Order.lex_here ha hb e
theorem LexGo.last (h : LexGo c l m k) (ha : k ≤ l.length) (hb : k ≤ m.length) (e : ¬ (k < l.length ∧ k < m.length)) : Order.lex c l m = Order.sgn (l.length : Int) (m.length : Int) := by
 unfold LexGo at h; rw [h]; exact Order.lex_end ha hb (by omega)
end
theorem cmpV_any (h : Nat) (IH0 : CmpAt h) (Q Q2 : Nat → Prop) (a b : Option Addr) (n c m d : Nat) (l l2 : List Val) (w : World) (hn : l.length = n) (hm : l2.length = m) (hnb : n ≤ 1353245080339) (hI : ItemsIn w Q (VIn w Q h) a l) (hJ : ItemsIn w Q2 (VIn w Q2 h) b l2) :
  Calls Tryz.prog 84 #[.slice a n c, .slice b m d, .func (.func 65) #[] #[]] w (CmpPost (Order.lex (Order.cmp h) l l2) w) := by
 have IH := Lib.hid IH0
 have HI := Lib.hid hI
 have HJ := Lib.hid hJ
 have HN := Lib.hid hn
 have HM := Lib.hid hm
 clear hI hJ IH0 hn hm
 go_enter Tryz.func84, Tryz.ntmps84
 go_wp2_with fail
 go_loopw [13] (fun i wr => ∃ k : Nat, i = .int .i64 k ∧ k ≤ n ∧ k ≤ m ∧ Hid (LexGo (Order.cmp h) l l2 k) ∧ Hid (Below w.heap.size w wr)) (fun i _ => n - (intOf i).toNat)
 case atStart => exact ⟨0, rfl, Nat.zero_le _, Nat.zero_le _, rfl, Below.refl _ _⟩
 case round =>
  obtain ⟨k, rfl, hk, hk2, HT, HB⟩ := hrel
  by_cases hlt : k < n
  ·obtain ⟨g, o, hla, _, hall⟩ := HI.out.resolve_left (fun e => by have := HN.out; rw [e] at this; simp at this; omega)
   obtain ⟨v1, hsix, hV⟩ := hall k (by have := HN.out; omega)
   obtain rfl := hla
   obtain ⟨ka, na, sa, ba, fa, la, bl, bc, fl, fc, ll, lc, rfl⟩ := hV.shape
   have HV := Lib.hid (VIn.keep HB.out hV)
   obtain ⟨s0, s1, s2, s3, s4, s5⟩ := (hsix.keep HB.out).cells
   clear hall hsix hV
   by_cases hlt2 : k < m
   ·obtain ⟨g2, o2, hlb, _, hall⟩ := HJ.out.resolve_left (fun e => by have := HM.out; rw [e] at this; simp at this; omega)
    obtain ⟨v2, hsix, hV2⟩ := hall k (by have := HM.out; omega)
    obtain rfl := hlb
    obtain ⟨kd, nd, sd, bd, fd, ld, bm, bz, fm, fz, lm, lz, rfl⟩ := hV2.shape
    have HV2 := Lib.hid (VIn.keep HB.out hV2)
    have hz := (hsix.keep HB.out).keep ((Below.refl _ wr).alloc (Nat.le_refl _) (.cells #[.int .i64 ka, .int .i64 na, .string sa, .slice ba bl bc, .slice fa fl fc, .slice la ll lc] 35))
    obtain ⟨z0, z1, z2, z3, z4, z5⟩ := hz.cells
    clear hall hsix hV2 hz
    have HB2 : Hid (Below wr.heap.size wr ((wr.alloc (.cells #[.int .i64 ka, .int .i64 na, .string sa, .slice ba bl bc, .slice fa fl fc, .slice la ll lc] 35)).alloc (.cells #[.int .i64 kd, .int .i64 nd, .string sd, .slice bd bm bz, .slice fd fm fz, .slice ld lm lz] 35))) := ((Below.refl _ wr).alloc (Nat.le_refl _) _).alloc (by simp) _
    have HVa := Lib.hid (VIn.keep HB2.out HV.out)
    have HVb := Lib.hid (VIn.keep HB2.out HV2.out)
    have HC := Lib.hid (IH.out _ _ _ _ _ _ _ HVa.out HVb.out)
    by_cases e : Order.cmp h (l[k]'(by have := HN.out; omega)) (l2[k]'(by have := HM.out; omega)) = 0
    ·have HL := Lib.hid (HT.out.next (by have := HN.out; omega) (by have := HM.out; omega) e)
     have hb : (Order.cmp h (l[k]'(by have := HN.out; omega)) (l2[k]'(by have := HM.out; omega)) != 0) = false := by rw [e]; rfl
     clear e
     go_wp2_with fail
     refine HC.out.mono ?_
     rintro e w2 ⟨rfl, hb2⟩
     have HB3 : Hid (Below w.heap.size w w2) := HB.out.trans ((HB2.out.trans (hb2.mono HB2.out.size)).mono HB.out.size)
     clear hb2
     go_wp2_with fail
     go_roundw
     case rel => exact ⟨k + 1, by go_num, by omega, by omega, HL, HB3⟩
     case measure => simp [intOf]; omega
    ·have HL := Lib.hid (HT.out.here (by have := HN.out; omega) (by have := HM.out; omega) e)
     have hb : (Order.cmp h (l[k]'(by have := HN.out; omega)) (l2[k]'(by have := HM.out; omega)) != 0) = true := by rw [bne_iff_ne]; exact e
     clear e
     go_wp2_with fail
     refine HC.out.mono ?_
     rintro e w2 ⟨rfl, hb2⟩
     have HB3 : Hid (Below w.heap.size w w2) := HB.out.trans ((HB2.out.trans (hb2.mono HB2.out.size)).mono HB.out.size)
     clear hb2
     go_wp2_with fail
     go_ret
     exact ⟨ret_i HL.out.symm, HB3.out⟩
   ·have HL := Lib.hid (HT.out.last (by have := HN.out; omega) (by have := HM.out; omega) (by have := HM.out; omega))
    have HS := Lib.hid (show Order.sgn (l.length : Int) (l2.length : Int) = 1 from Order.sgn_gt (by have := HN.out; have := HM.out; omega))
    have HB2 : Hid (Below w.heap.size w (wr.alloc (.cells #[.int .i64 ka, .int .i64 na, .string sa, .slice ba bl bc, .slice fa fl fc, .slice la ll lc] 35))) := HB.out.alloc HB.out.size _
    go_wp2_with fail
    go_ret
    exact ⟨ret_i (HL.out.trans HS.out).symm, HB2.out⟩
  ·have HL := Lib.hid (HT.out.last (by have := HN.out; omega) (by have := HM.out; omega) (by have := HN.out; omega))
   by_cases e : k < m
   ·have HS := Lib.hid (show Order.sgn (l.length : Int) (l2.length : Int) = -1 from Order.sgn_lt (by have := HN.out; have := HM.out; omega))
    have hd : decide (n < m) = true := by rw [decide_eq_true_eq]; omega
    go_wp2_with fail
    go_ret
    exact ⟨ret_i (HL.out.trans HS.out).symm, HB.out⟩
   ·have HS := Lib.hid (show Order.sgn (l.length : Int) (l2.length : Int) = 0 from Order.sgn_zero.2 (by have := HN.out; have := HM.out; omega))
    have hd : decide (n < m) = false := by rw [decide_eq_false_iff_not]; omega
    go_wp2_with fail
    go_ret
    exact ⟨ret_i (HL.out.trans HS.out).symm, HB.out⟩
end Go.Proofs.YtngllchoiffniaaGreatDoor
end
section
namespace Go.Proofs.YtngllchoiffniaaGreatDoor
open Go.RowKit
open Seal
open Num
theorem reckon_sum (ak an bk bn : Int) (p2 p3 p4 p5 q2 q3 q4 q5 : Value) (w : World) (ha : In an) (hb : In bn) : Calls Tryz.prog 62 #[.agg #[.int .i64 ak, .int .i64 an, p2, p3, p4, p5], .agg #[.int .i64 bk, .int .i64 bn, q2, q3, q4, q5], .func (.func 63) #[] #[]] w (ValE (reck (sumR an bn) ak bk) w) :=
 reckon_gen 63 (fun _ _ => rfl) (sumR an bn) ak an bk bn p2 p3 p4 p5 q2 q3 q4 q5 w fun u => (sum_any an bn u ha hb).mono fun _ _ h => h.dr
end Go.Proofs.YtngllchoiffniaaGreatDoor
end
section
namespace Go.Proofs.YtngllchoiffniaaGreatDoor
open Go.RowKit
open Seal
open Bson (Val)
theorem class_q (k : Int) (w : World) : Calls Tryz.prog 78 #[.int .i64 k] w fun e w' => e = .returned (.int .i64 (Order.cls k)) ∧ w' = w := (class_any k w).mono fun _ _ ⟨h1, h2⟩ => ⟨h1, h2.symm⟩
theorem cmpInt_q (a b : Int) (w : World) : Calls Tryz.prog 79 #[.int .i64 a, .int .i64 b] w fun e w' => e = .returned (.int .i64 (Order.sgn a b)) ∧ w' = w := (cmpInt_any a b w).mono fun _ _ ⟨h1, h2⟩ => ⟨h1, h2.symm⟩
theorem compareFields_any (h : Nat) (IH0 : CmpAt h) (Q Q2 : Nat → Prop) (p q : ByteArray) (x y : Val) (xn yn : Int) (xk yk : Int) (xs ys : ByteArray) (ba fa la ba2 fa2 la2 : Option Addr) (bn bc fn fc ln lc bn2 bc2 fn2 fc2 ln2 lc2 : Nat) (w : World) (hxk : xk = x.kind) (hyk : yk = y.kind)
  (hx : VIn w Q h x (.agg #[.int .i64 xk, .int .i64 xn, .string xs, .slice ba bn bc, .slice fa fn fc, .slice la ln lc])) (hy : VIn w Q2 h y (.agg #[.int .i64 yk, .int .i64 yn, .string ys, .slice ba2 bn2 bc2, .slice fa2 fn2 fc2, .slice la2 ln2 lc2])) :
  Calls Tryz.prog 83 #[.agg #[.string p, .int .i64 xk, .int .i64 xn, .string xs, .slice ba bn bc, .slice fa fn fc, .slice la ln lc], .agg #[.string q, .int .i64 yk, .int .i64 yn, .string ys, .slice ba2 bn2 bc2, .slice fa2 fn2 fc2, .slice la2 ln2 lc2]] w (CmpPost (Order.fld (Order.cmp h) (p, x) (q, y)) w) := by
 have IH := Lib.hid IH0
 have HB : Hid (Below w.heap.size w ((w.alloc (.cells #[.string p, .int .i64 xk, .int .i64 xn, .string xs, .slice ba bn bc, .slice fa fn fc, .slice la ln lc] 38)).alloc (.cells #[.string q, .int .i64 yk, .int .i64 yn, .string ys, .slice ba2 bn2 bc2, .slice fa2 fn2 fc2, .slice la2 ln2 lc2] 38))) := ((Below.refl _ w).alloc (Nat.le_refl _) _).alloc (by simp) _
 have HX := Lib.hid hx
 have HY := Lib.hid hy
 have HF := Lib.hid (show Order.fld (Order.cmp h) (p, x) (q, y) = if Order.sgn (Order.cls xk) (Order.cls yk) = 0 then (if Order.text p q = 0 then Order.cmp h x y else Order.text p q) else Order.sgn (Order.cls xk) (Order.cls yk) by rw [hxk, hyk]; rfl)
 clear hx hy IH0 hxk hyk
 by_cases e : Order.sgn (Order.cls xk) (Order.cls yk) = 0
 ·have he : (Order.sgn (Order.cls xk) (Order.cls yk) != 0) = false := by rw [e]; rfl
  by_cases e2 : Order.text p q = 0
  ·have he2 : (Order.text p q != 0) = false := by rw [e2]; rfl
   have HE := Lib.hid (show Order.fld (Order.cmp h) (p, x) (q, y) = Order.cmp h x y by rw [HF.out, if_pos e, if_pos e2])
   clear e e2
   go_enter Tryz.func83, Tryz.ntmps83
   go_wp2_with fail
   go_quiet (first | (go_at_call 78; exact Calls.quiet_of_same (class_q _ _)) | (go_at_call 79; exact Calls.quiet_of_same (cmpInt_q _ _ _)))
   have HV1 := fun n => VIn.keep (below_dr HB.out n) HX.out
   have HV2 := fun n => VIn.keep (below_dr HB.out n) HY.out
   have HC := fun n => IH.out _ _ _ _ _ _ _ (HV1 n) (HV2 n)
   have HCH := Lib.hid HC
   clear HV1 HV2 HC
   go_wp2_with (first | (go_at_call 81; refine (strCmp_any _ _ _).mono ?_; rintro e w' ⟨rfl, rfl⟩) | (go_at_call 65; refine (HCH.out _).mono ?_; rintro e w2 ⟨rfl, hb2⟩))
   go_ret
   exact ⟨ret_i HE.out.symm, (below_dr HB.out _).trans (hb2.mono (by simp; omega))⟩
  ·have he2 : (Order.text p q != 0) = true := by rw [bne_iff_ne]; exact e2
   have HE := Lib.hid (show Order.fld (Order.cmp h) (p, x) (q, y) = Order.text p q by rw [HF.out, if_pos e, if_neg e2])
   clear e e2
   go_enter Tryz.func83, Tryz.ntmps83
   go_wp2_with fail
   go_quiet (first | (go_at_call 78; exact Calls.quiet_of_same (class_q _ _)) | (go_at_call 79; exact Calls.quiet_of_same (cmpInt_q _ _ _)))
   go_wp2_with (go_at_call 81; refine (strCmp_any _ _ _).mono ?_; rintro e w' ⟨rfl, rfl⟩)
   go_ret
   exact ⟨ret_i HE.out.symm, below_dr HB.out _⟩
 ·have he : (Order.sgn (Order.cls xk) (Order.cls yk) != 0) = true := by rw [bne_iff_ne]; exact e
  have HE := Lib.hid (show Order.fld (Order.cmp h) (p, x) (q, y) = Order.sgn (Order.cls xk) (Order.cls yk) by rw [HF.out, if_neg e])
  clear e
  go_enter Tryz.func83, Tryz.ntmps83
  go_wp2_with fail
  go_quiet (first | (go_at_call 78; exact Calls.quiet_of_same (class_q _ _)) | (go_at_call 79; exact Calls.quiet_of_same (cmpInt_q _ _ _)))
  go_wp2_with fail
  go_ret
  exact ⟨ret_i HE.out.symm, below_dr HB.out _⟩
theorem cmpF_any (h : Nat) (IH0 : CmpAt h) (Q Q2 : Nat → Prop) (a b : Option Addr) (n c m d : Nat) (l l2 : List (ByteArray × Val)) (w : World) (hn : l.length = n) (hm : l2.length = m) (hnb : n ≤ 1172812402961) (hI : FieldsIn w Q (VIn w Q h) a l) (hJ : FieldsIn w Q2 (VIn w Q2 h) b l2) :
  Calls Tryz.prog 82 #[.slice a n c, .slice b m d, .func (.func 83) #[] #[]] w (CmpPost (Order.lex (Order.fld (Order.cmp h)) l l2) w) := by
 have IH := Lib.hid (compareFields_any h IH0)
 have HI := Lib.hid hI
 have HJ := Lib.hid hJ
 have HN := Lib.hid hn
 have HM := Lib.hid hm
 clear hI hJ IH0 hn hm
 go_enter Tryz.func82, Tryz.ntmps82
 go_wp2_with fail
 go_loopw [13] (fun i wr => ∃ k : Nat, i = .int .i64 k ∧ k ≤ n ∧ k ≤ m ∧ Hid (LexGo (Order.fld (Order.cmp h)) l l2 k) ∧ Hid (Below w.heap.size w wr)) (fun i _ => n - (intOf i).toNat)
 case atStart => exact ⟨0, rfl, Nat.zero_le _, Nat.zero_le _, rfl, Below.refl _ _⟩
 case round =>
  obtain ⟨k, rfl, hk, hk2, HT, HB⟩ := hrel
  by_cases hlt : k < n
  ·obtain ⟨g, o, hla, _, hall⟩ := HI.out.resolve_left (fun e => by have := HN.out; rw [e] at this; simp at this; omega)
   obtain ⟨hnm, _, v1, hsix, hV⟩ := hall k (by have := HN.out; omega)
   obtain rfl := hla
   obtain ⟨ka, na, sa, ba, fa, la, bl, bc, fl, fc, ll, lc, rfl⟩ := hV.shape
   have HKA : Hid (ka = (l[k]'(by have := HN.out; omega)).2.kind) := hV.kind_is
   have HV := Lib.hid (VIn.keep HB.out hV)
   obtain ⟨nm, hnme⟩ : ∃ nm, nm = (l[k]'(by have := HN.out; omega)).1 := ⟨_, rfl⟩
   have HNM := Lib.hid hnme
   clear hnme
   obtain ⟨s1, s2, s3, s4, s5, s6⟩ := (hsix.keep HB.out).cells
   have s0 : wr.cell? ⟨g, o + k * 7, none⟩ = some (.string nm) := by rw [HNM.out]; exact cell_keep HB.out hnm
   clear hall hsix hV hnm
   by_cases hlt2 : k < m
   ·obtain ⟨g2, o2, hlb, _, hall⟩ := HJ.out.resolve_left (fun e => by have := HM.out; rw [e] at this; simp at this; omega)
    obtain ⟨hnm, _, v2, hsix, hV2⟩ := hall k (by have := HM.out; omega)
    obtain rfl := hlb
    obtain ⟨kd, nd, sd, bd, fd, ld, bm, bz, fm, fz, lm, lz, rfl⟩ := hV2.shape
    have HKD : Hid (kd = (l2[k]'(by have := HM.out; omega)).2.kind) := hV2.kind_is
    have HV2 := Lib.hid (VIn.keep HB.out hV2)
    obtain ⟨nm2, hnme⟩ : ∃ nm, nm = (l2[k]'(by have := HM.out; omega)).1 := ⟨_, rfl⟩
    have HNM2 := Lib.hid hnme
    clear hnme
    have HBa := (Below.refl _ wr).alloc (Nat.le_refl _) (.cells #[.string nm, .int .i64 ka, .int .i64 na, .string sa, .slice ba bl bc, .slice fa fl fc, .slice la ll lc] 38)
    have hz := (hsix.keep HB.out).keep HBa
    obtain ⟨z1, z2, z3, z4, z5, z6⟩ := hz.cells
    have z0 : (wr.alloc (.cells #[.string nm, .int .i64 ka, .int .i64 na, .string sa, .slice ba bl bc, .slice fa fl fc, .slice la ll lc] 38)).cell? ⟨g2, o2 + k * 7, none⟩ = some (.string nm2) := by rw [HNM2.out]; exact cell_keep HBa (cell_keep HB.out hnm)
    clear hall hsix hV2 hz hnm HBa
    have HB2 : Hid (Below wr.heap.size wr ((wr.alloc (.cells #[.string nm, .int .i64 ka, .int .i64 na, .string sa, .slice ba bl bc, .slice fa fl fc, .slice la ll lc] 38)).alloc (.cells #[.string nm2, .int .i64 kd, .int .i64 nd, .string sd, .slice bd bm bz, .slice fd fm fz, .slice ld lm lz] 38))) := ((Below.refl _ wr).alloc (Nat.le_refl _) _).alloc (by simp) _
    have HVa := Lib.hid (VIn.keep HB2.out HV.out)
    have HVb := Lib.hid (VIn.keep HB2.out HV2.out)
    have HC := Lib.hid (IH.out _ _ nm nm2 _ _ _ _ _ _ _ _ _ _ _ _ _ _ _ _ _ _ _ _ _ _ _ _ _ _ _ HKA.out HKD.out HVa.out HVb.out)
    have HPN := Lib.hid (show Order.fld (Order.cmp h) (nm, (l[k]'(by have := HN.out; omega)).2) (nm2, (l2[k]'(by have := HM.out; omega)).2) = Order.fld (Order.cmp h) (l[k]'(by have := HN.out; omega)) (l2[k]'(by have := HM.out; omega)) by rw [HNM.out, HNM2.out])
    obtain ⟨r, hr⟩ : ∃ r, r = Order.fld (Order.cmp h) (nm, (l[k]'(by have := HN.out; omega)).2) (nm2, (l2[k]'(by have := HM.out; omega)).2) := ⟨_, rfl⟩
    have HR := Lib.hid hr
    rw [← hr] at HC HPN
    clear hr
    by_cases e : r = 0
    ·have HL := Lib.hid (HT.out.next (by have := HN.out; omega) (by have := HM.out; omega) (HPN.out.symm.trans e))
     subst e
     go_wp2_with fail
     refine HC.out.mono ?_
     rintro e w2 ⟨rfl, hb2⟩
     have HB3 : Hid (Below w.heap.size w w2) := HB.out.trans ((HB2.out.trans (hb2.mono HB2.out.size)).mono HB.out.size)
     clear hb2
     go_wp2_with fail
     go_roundw
     case rel => exact ⟨k + 1, by go_num, by omega, by omega, HL, HB3⟩
     case measure => simp [intOf]; omega
    ·have HL := Lib.hid (HT.out.here (by have := HN.out; omega) (by have := HM.out; omega) (fun x => e (HPN.out.trans x)))
     have hb : (r != 0) = true := by rw [bne_iff_ne]; exact e
     clear e
     go_wp2_with fail
     refine HC.out.mono ?_
     rintro e w2 ⟨rfl, hb2⟩
     have HB3 : Hid (Below w.heap.size w w2) := HB.out.trans ((HB2.out.trans (hb2.mono HB2.out.size)).mono HB.out.size)
     clear hb2
     go_wp2_with fail
     go_ret
     exact ⟨ret_i (HL.out.trans HPN.out.symm).symm, HB3.out⟩
   ·have HL := Lib.hid (HT.out.last (by have := HN.out; omega) (by have := HM.out; omega) (by have := HM.out; omega))
    have HS := Lib.hid (show Order.sgn (l.length : Int) (l2.length : Int) = 1 from Order.sgn_gt (by have := HN.out; have := HM.out; omega))
    have HB2 : Hid (Below w.heap.size w (wr.alloc (.cells #[.string nm, .int .i64 ka, .int .i64 na, .string sa, .slice ba bl bc, .slice fa fl fc, .slice la ll lc] 38))) := HB.out.alloc HB.out.size _
    go_wp2_with fail
    go_ret
    exact ⟨ret_i (HL.out.trans HS.out).symm, HB2.out⟩
  ·have HL := Lib.hid (HT.out.last (by have := HN.out; omega) (by have := HM.out; omega) (by have := HN.out; omega))
   by_cases e : k < m
   ·have HS := Lib.hid (show Order.sgn (l.length : Int) (l2.length : Int) = -1 from Order.sgn_lt (by have := HN.out; have := HM.out; omega))
    have hd : decide (n < m) = true := by rw [decide_eq_true_eq]; omega
    go_wp2_with fail
    go_ret
    exact ⟨ret_i (HL.out.trans HS.out).symm, HB.out⟩
   ·have HS := Lib.hid (show Order.sgn (l.length : Int) (l2.length : Int) = 0 from Order.sgn_zero.2 (by have := HN.out; have := HM.out; omega))
    have hd : decide (n < m) = false := by rw [decide_eq_false_iff_not]; omega
    go_wp2_with fail
    go_ret
    exact ⟨ret_i (HL.out.trans HS.out).symm, HB.out⟩
end Go.Proofs.YtngllchoiffniaaGreatDoor
end
section
namespace Go.Proofs.YtngllchoiffniaaGreatDoor
open Go.RowKit
open Seal
open Num
theorem numAdd_any (ak an bk bn : Int) (p2 p3 p4 p5 q2 q3 q4 q5 : Value) (w : World) (ha : In an) (hb : In bn) : Calls Tryz.prog 44 #[.agg #[.int .i64 ak, .int .i64 an, p2, p3, p4, p5], .agg #[.int .i64 bk, .int .i64 bn, q2, q3, q4, q5]] w (ValE (reck (sumR an bn) ak bk) w) := by
 have HR0 := Lib.hid (R3.new w #[Value.int .i64 ak, .int .i64 an, p2, p3, p4, p5] #[Value.int .i64 bk, .int .i64 bn, q2, q3, q4, q5])
 have HC := Lib.hid (fun w => reckon_sum ak an bk bn p2 p3 p4 p5 q2 q3 q4 q5 w ha hb)
 clear ha hb
 generalize reck (sumR an bn) ak bk = r at *
 obtain ⟨k, n, e⟩ := r
 go_enter Tryz.func44, Tryz.ntmps44
 go_wp2_with fail
 generalize hW : (((w.alloc (.cells #[Value.int .i64 ak, .int .i64 an, p2, p3, p4, p5] 35)).alloc (.cells #[Value.int .i64 bk, .int .i64 bn, q2, q3, q4, q5] 35)).alloc (.cells #[Value.int .i64 0, .int .i64 0, .string ⟨#[]⟩, .slice none 0 0, .slice none 0 0, .slice none 0 0] 35)) = W0 at *
 clear hW
 obtain ⟨⟨a0, a1, a2, a3, a4, a5⟩, ⟨b0, b1, b2, b3, b4, b5⟩, ⟨z0, z1, z2, z3, z4, z5⟩, f0, f1, f2, f3, f4, f5⟩ := HR0.out.all
 go_wp2_with fail
 go_at_call 62
 refine (HC.out _).mono ?_
 rintro ee w1 ⟨rfl, hb⟩
 clear a0 a1 a2 a3 a4 a5 b0 b1 b2 b3 b4 b5 z0 z1 z2 z3 z4 z5 f0 f1 f2 f3 f4 f5
 have HR1 := Lib.hid (HR0.out.step hb)
 clear hb
 obtain ⟨⟨a0, a1, a2, a3, a4, a5⟩, ⟨b0, b1, b2, b3, b4, b5⟩, ⟨z0, z1, z2, z3, z4, z5⟩, f0, f1, f2, f3, f4, f5⟩ := HR1.out.all
 go_wp2_with fail
 exact bodyPost_ret (v := .tuple #[.agg #[.int .i64 k, .int .i64 n, .string ⟨#[]⟩, .slice none 0 0, .slice none 0 0, .slice none 0 0], .int .i64 e]) (by simp [results, Tryz.results44, go_sem, *]) rfl (val_e rfl (below_six HR1.out.2.2.2 (by omega) _ _ _ _ _ _))
end Go.Proofs.YtngllchoiffniaaGreatDoor
end
section
namespace Go.Proofs.YtngllchoiffniaaGreatDoor
open Go.RowKit
open Seal
open Bson (Val)
theorem cls_range (k : Int) : Order.cls k = -1 ∨ Order.cls k = 0 ∨ Order.cls k = 1 ∨ Order.cls k = 2 ∨ Order.cls k = 3 ∨ Order.cls k = 4 ∨ Order.cls k = 5 ∨ Order.cls k = 6 ∨ Order.cls k = 7 ∨ Order.cls k = 8 ∨ Order.cls k = 9 ∨ Order.cls k = 10 ∨ Order.cls k = 11 := by
 unfold Order.cls
 split
 ·omega
 ·split <;> omega
theorem cmp_same {h : Nat} {x y : Val} {k : Int} (hx : Order.cls x.kind = k) (hy : Order.cls y.kind = k) : Order.cmp (h + 1) x y = Order.inner (Order.cmp h) k x y := by
 rw [Order.cmp, hx, hy, if_pos (Order.sgn_self k)]
theorem cmp_other {h : Nat} {x y : Val} (e : Order.sgn (Order.cls x.kind) (Order.cls y.kind) ≠ 0) : Order.cmp (h + 1) x y = Order.sgn (Order.cls x.kind) (Order.cls y.kind) := by
 rw [Order.cmp, if_neg e]
theorem compare_any : ∀ (h : Nat), CmpAt h
 | 0 => fun _ _ _ _ _ _ _ hx _ => hx.elim
 | h + 1 => fun Q Q2 x y u v w hx hy => by
  have IH := Lib.hid (compare_any h)
  obtain ⟨xk, xn, xs, ba, fa, la, bn, bc, fn, fc, ln, lc, rfl, hxk, hxn, hxs, hbn, hfn, hln, hL, hF, hI⟩ := hx.letters
  obtain ⟨yk, yn, ys, ba2, fa2, la2, bn2, bc2, fn2, fc2, ln2, lc2, rfl, hyk, hyn, hys, hbn2, hfn2, hln2, hL2, hF2, hI2⟩ := hy.letters
  obtain ⟨ho, hsl⟩ := hx.byt
  obtain ⟨ho2, hsl2⟩ := hy.byt
  have HB : Hid (Below w.heap.size w ((w.alloc (.cells #[Value.int .i64 xk, .int .i64 xn, .string xs, .slice ba bn bc, .slice fa fn fc, .slice la ln lc] 35)).alloc (.cells #[Value.int .i64 yk, .int .i64 yn, .string ys, .slice ba2 bn2 bc2, .slice fa2 fn2 fc2, .slice la2 ln2 lc2] 35))) := ((Below.refl _ w).alloc (Nat.le_refl _) _).alloc (by simp) _
  have hfl := hL.f; have hll := hL.l
  rw [← hfn] at hfl; rw [← hln] at hll
  have HCF := Lib.hid (cmpF_any h IH.out Q Q2 fa fa2 fn fc fn2 fc2 x.f y.f ((w.alloc (.cells #[Value.int .i64 xk, .int .i64 xn, .string xs, .slice ba bn bc, .slice fa fn fc, .slice la ln lc] 35)).alloc (.cells #[Value.int .i64 yk, .int .i64 yn, .string ys, .slice ba2 bn2 bc2, .slice fa2 fn2 fc2, .slice la2 ln2 lc2] 35)) hfn.symm hfn2.symm hfl (hF.kept (Kept.of_below HB.out) (fun _ g => g) (fun _ _ g => VIn.keep HB.out g)) (hF2.kept (Kept.of_below HB.out) (fun _ g => g) (fun _ _ g => VIn.keep HB.out g)))
  have HCL := Lib.hid (cmpV_any h IH.out Q Q2 la la2 ln lc ln2 lc2 x.l y.l ((w.alloc (.cells #[Value.int .i64 xk, .int .i64 xn, .string xs, .slice ba bn bc, .slice fa fn fc, .slice la ln lc] 35)).alloc (.cells #[Value.int .i64 yk, .int .i64 yn, .string ys, .slice ba2 bn2 bc2, .slice fa2 fn2 fc2, .slice la2 ln2 lc2] 35)) hln.symm hln2.symm hll (hI.kept (Kept.of_below HB.out) (fun _ g => g) (fun _ _ g => VIn.keep HB.out g)) (hI2.kept (Kept.of_below HB.out) (fun _ g => g) (fun _ _ g => VIn.keep HB.out g)))
  have hs1 : SliceIs ((w.alloc (.cells #[Value.int .i64 xk, .int .i64 xn, .string xs, .slice ba bn bc, .slice fa fn fc, .slice la ln lc] 35)).alloc (.cells #[Value.int .i64 yk, .int .i64 yn, .string ys, .slice ba2 bn2 bc2, .slice fa2 fn2 fc2, .slice la2 ln2 lc2] 35)) ba x.b := by
   rcases hsl with e | ⟨g, o, e, hs⟩
   ·exact .inl e
   ·exact .inr ⟨g, o, e, fun j hj => cell_keep HB.out (hs j hj)⟩
  have hs2 : SliceIs ((w.alloc (.cells #[Value.int .i64 xk, .int .i64 xn, .string xs, .slice ba bn bc, .slice fa fn fc, .slice la ln lc] 35)).alloc (.cells #[Value.int .i64 yk, .int .i64 yn, .string ys, .slice ba2 bn2 bc2, .slice fa2 fn2 fc2, .slice la2 ln2 lc2] 35)) ba2 y.b := by
   rcases hsl2 with e | ⟨g, o, e, hs⟩
   ·exact .inl e
   ·exact .inr ⟨g, o, e, fun j hj => cell_keep HB.out (hs j hj)⟩
  have HCB := Lib.hid (cmpBytes_any ((w.alloc (.cells #[Value.int .i64 xk, .int .i64 xn, .string xs, .slice ba bn bc, .slice fa fn fc, .slice la ln lc] 35)).alloc (.cells #[Value.int .i64 yk, .int .i64 yn, .string ys, .slice ba2 bn2 bc2, .slice fa2 fn2 fc2, .slice la2 ln2 lc2] 35)) ba ba2 x.b y.b bn bc bn2 bc2 hbn.symm hbn2.symm hs1 hs2 ho ho2)
  have HCI := Lib.hid (bytesCmp_any ((w.alloc (.cells #[Value.int .i64 xk, .int .i64 xn, .string xs, .slice ba bn bc, .slice fa fn fc, .slice la ln lc] 35)).alloc (.cells #[Value.int .i64 yk, .int .i64 yn, .string ys, .slice ba2 bn2 bc2, .slice fa2 fn2 fc2, .slice la2 ln2 lc2] 35)) ba ba2 x.b y.b bn bc bn2 bc2 hbn.symm hbn2.symm hs1 hs2 ho ho2)
  have HE := Lib.hid (And.intro hxk (And.intro hyk (And.intro (And.intro hxn hyn) (And.intro hxs hys))))
  clear hx hy hxk hxn hxs hbn hfn hln hL hF hI hyk hyn hys hbn2 hfn2 hln2 hL2 hF2 hI2 ho ho2 hsl hsl2 hfl hll hs1 hs2
  by_cases e : Order.sgn (Order.cls xk) (Order.cls yk) = 0
  case neg =>
   have he : (Order.sgn (Order.cls xk) (Order.cls yk) != 0) = true := by rw [bne_iff_ne]; exact e
   have HR := Lib.hid (show Order.cmp (h + 1) x y = Order.sgn (Order.cls xk) (Order.cls yk) by rw [HE.out.1, HE.out.2.1] at e ⊢; exact cmp_other e)
   clear e
   go_enter Tryz.func65, Tryz.ntmps65
   go_wp2_with (first | (go_at_call 78; refine (class_any _ _).mono ?_; rintro e w' ⟨rfl, rfl⟩) | (go_at_call 79; refine (cmpInt_any _ _ _).mono ?_; rintro e w' ⟨rfl, rfl⟩))
   go_ret
   exact ⟨ret_i HR.out.symm, HB.out⟩
  have he := Order.sgn_zero.1 e
  have hs0 : Order.sgn (Order.cls yk) (Order.cls yk) = 0 := Order.sgn_self _
  clear e
  rcases cls_range yk with hk | hk | hk | hk | hk | hk | hk | hk | hk | hk | hk | hk | hk
  ·have hk2 : Order.cls xk = -1 := he.trans hk
   have HR := Lib.hid (show Order.cmp (h + 1) x y = 0 from (cmp_same (k := -1) (by rw [← HE.out.1]; exact hk2) (by rw [← HE.out.2.1]; exact hk)).trans (by rfl))
   have hsz : Order.sgn (-1) (-1) = 0 := rfl
   clear he hs0
   go_enter Tryz.func65, Tryz.ntmps65
   go_wp2_with (first | (go_at_call 78; refine (class_any _ _).mono ?_; rintro e w' ⟨rfl, rfl⟩) | (go_at_call 79; refine (cmpInt_any _ _ _).mono ?_; rintro e w' ⟨rfl, rfl⟩))
   go_ret
   exact ⟨ret_i HR.out.symm, HB.out⟩
  ·have hk2 : Order.cls xk = 0 := he.trans hk
   have HR := Lib.hid (show Order.cmp (h + 1) x y = 0 from (cmp_same (k := 0) (by rw [← HE.out.1]; exact hk2) (by rw [← HE.out.2.1]; exact hk)).trans (by rfl))
   have hsz : Order.sgn 0 0 = 0 := rfl
   clear he hs0
   go_enter Tryz.func65, Tryz.ntmps65
   go_wp2_with (first | (go_at_call 78; refine (class_any _ _).mono ?_; rintro e w' ⟨rfl, rfl⟩) | (go_at_call 79; refine (cmpInt_any _ _ _).mono ?_; rintro e w' ⟨rfl, rfl⟩))
   go_ret
   exact ⟨ret_i HR.out.symm, HB.out⟩
  ·have hk2 : Order.cls xk = 1 := he.trans hk
   have HR := Lib.hid (show Order.cmp (h + 1) x y = 0 from (cmp_same (k := 1) (by rw [← HE.out.1]; exact hk2) (by rw [← HE.out.2.1]; exact hk)).trans (by rfl))
   have hsz : Order.sgn 1 1 = 0 := rfl
   clear he hs0
   go_enter Tryz.func65, Tryz.ntmps65
   go_wp2_with (first | (go_at_call 78; refine (class_any _ _).mono ?_; rintro e w' ⟨rfl, rfl⟩) | (go_at_call 79; refine (cmpInt_any _ _ _).mono ?_; rintro e w' ⟨rfl, rfl⟩))
   go_ret
   exact ⟨ret_i HR.out.symm, HB.out⟩
  ·have hk2 : Order.cls xk = 2 := he.trans hk
   have HR := Lib.hid (show Order.cmp (h + 1) x y = 0 from (cmp_same (k := 2) (by rw [← HE.out.1]; exact hk2) (by rw [← HE.out.2.1]; exact hk)).trans (by rfl))
   have hsz : Order.sgn 2 2 = 0 := rfl
   clear he hs0
   go_enter Tryz.func65, Tryz.ntmps65
   go_wp2_with (first | (go_at_call 78; refine (class_any _ _).mono ?_; rintro e w' ⟨rfl, rfl⟩) | (go_at_call 79; refine (cmpInt_any _ _ _).mono ?_; rintro e w' ⟨rfl, rfl⟩))
   go_ret
   exact ⟨ret_i HR.out.symm, HB.out⟩
  ·have hk2 : Order.cls xk = 3 := he.trans hk
   have HR := Lib.hid (show Order.cmp (h + 1) x y = Order.sgn xn yn from (cmp_same (k := 3) (by rw [← HE.out.1]; exact hk2) (by rw [← HE.out.2.1]; exact hk)).trans (by rw [HE.out.2.2.1.1, HE.out.2.2.1.2]; rfl))
   have hsz : Order.sgn 3 3 = 0 := rfl
   clear he hs0
   go_enter Tryz.func65, Tryz.ntmps65
   go_wp2_with (first | (go_at_call 78; refine (class_any _ _).mono ?_; rintro e w' ⟨rfl, rfl⟩) | (go_at_call 79; refine (cmpInt_any _ _ _).mono ?_; rintro e w' ⟨rfl, rfl⟩) | (go_at_call 80; refine (cmpI64_any _ _ _).mono ?_; rintro e w' ⟨rfl, rfl⟩))
   go_ret
   exact ⟨ret_i HR.out.symm, HB.out⟩
  ·have hk2 : Order.cls xk = 4 := he.trans hk
   have HR := Lib.hid (show Order.cmp (h + 1) x y = Order.text xs ys from (cmp_same (k := 4) (by rw [← HE.out.1]; exact hk2) (by rw [← HE.out.2.1]; exact hk)).trans (by rw [HE.out.2.2.2.1, HE.out.2.2.2.2]; rfl))
   have hsz : Order.sgn 4 4 = 0 := rfl
   clear he hs0
   go_enter Tryz.func65, Tryz.ntmps65
   go_wp2_with (first | (go_at_call 78; refine (class_any _ _).mono ?_; rintro e w' ⟨rfl, rfl⟩) | (go_at_call 79; refine (cmpInt_any _ _ _).mono ?_; rintro e w' ⟨rfl, rfl⟩) | (go_at_call 81; refine (strCmp_any _ _ _).mono ?_; rintro e w' ⟨rfl, rfl⟩))
   go_ret
   exact ⟨ret_i HR.out.symm, HB.out⟩
  ·have hk2 : Order.cls xk = 5 := he.trans hk
   have HR := Lib.hid (show Order.cmp (h + 1) x y = Order.lex (Order.fld (Order.cmp h)) x.f y.f from (cmp_same (k := 5) (by rw [← HE.out.1]; exact hk2) (by rw [← HE.out.2.1]; exact hk)).trans (by rfl))
   have hsz : Order.sgn 5 5 = 0 := rfl
   clear he hs0
   go_enter Tryz.func65, Tryz.ntmps65
   go_wp2_with (first | (go_at_call 78; refine (class_any _ _).mono ?_; rintro e w' ⟨rfl, rfl⟩) | (go_at_call 79; refine (cmpInt_any _ _ _).mono ?_; rintro e w' ⟨rfl, rfl⟩) | (go_at_call 82; refine HCF.out.mono ?_; rintro e w2 ⟨rfl, hb2⟩))
   go_ret
   exact ⟨ret_i HR.out.symm, HB.out.trans (hb2.mono HB.out.size)⟩
  ·have hk2 : Order.cls xk = 6 := he.trans hk
   have HR := Lib.hid (show Order.cmp (h + 1) x y = Order.lex (Order.cmp h) x.l y.l from (cmp_same (k := 6) (by rw [← HE.out.1]; exact hk2) (by rw [← HE.out.2.1]; exact hk)).trans (by rfl))
   have hsz : Order.sgn 6 6 = 0 := rfl
   clear he hs0
   go_enter Tryz.func65, Tryz.ntmps65
   go_wp2_with (first | (go_at_call 78; refine (class_any _ _).mono ?_; rintro e w' ⟨rfl, rfl⟩) | (go_at_call 79; refine (cmpInt_any _ _ _).mono ?_; rintro e w' ⟨rfl, rfl⟩) | (go_at_call 84; refine HCL.out.mono ?_; rintro e w2 ⟨rfl, hb2⟩))
   go_ret
   exact ⟨ret_i HR.out.symm, HB.out.trans (hb2.mono HB.out.size)⟩
  ·have hk2 : Order.cls xk = 7 := he.trans hk
   have HR := Lib.hid (show Order.cmp (h + 1) x y = Order.blob x.b y.b from (cmp_same (k := 7) (by rw [← HE.out.1]; exact hk2) (by rw [← HE.out.2.1]; exact hk)).trans (by rfl))
   have hsz : Order.sgn 7 7 = 0 := rfl
   clear he hs0
   go_enter Tryz.func65, Tryz.ntmps65
   go_wp2_with (first | (go_at_call 78; refine (class_any _ _).mono ?_; rintro e w' ⟨rfl, rfl⟩) | (go_at_call 79; refine (cmpInt_any _ _ _).mono ?_; rintro e w' ⟨rfl, rfl⟩) | (go_at_call 85; refine HCB.out.mono ?_; rintro e w' ⟨rfl, rfl⟩))
   go_ret
   exact ⟨ret_i HR.out.symm, HB.out⟩
  ·have hk2 : Order.cls xk = 8 := he.trans hk
   have HR := Lib.hid (show Order.cmp (h + 1) x y = Order.octs x.b y.b from (cmp_same (k := 8) (by rw [← HE.out.1]; exact hk2) (by rw [← HE.out.2.1]; exact hk)).trans (by rfl))
   have hsz : Order.sgn 8 8 = 0 := rfl
   clear he hs0
   go_enter Tryz.func65, Tryz.ntmps65
   go_wp2_with (first | (go_at_call 78; refine (class_any _ _).mono ?_; rintro e w' ⟨rfl, rfl⟩) | (go_at_call 79; refine (cmpInt_any _ _ _).mono ?_; rintro e w' ⟨rfl, rfl⟩) | (go_at_call 86; refine HCI.out.mono ?_; rintro e w' ⟨rfl, rfl⟩))
   go_ret
   exact ⟨ret_i HR.out.symm, HB.out⟩
  ·have hk2 : Order.cls xk = 9 := he.trans hk
   have HR := Lib.hid (show Order.cmp (h + 1) x y = Order.sgn xn yn from (cmp_same (k := 9) (by rw [← HE.out.1]; exact hk2) (by rw [← HE.out.2.1]; exact hk)).trans (by rw [HE.out.2.2.1.1, HE.out.2.2.1.2]; rfl))
   have hsz : Order.sgn 9 9 = 0 := rfl
   clear he hs0
   go_enter Tryz.func65, Tryz.ntmps65
   go_wp2_with (first | (go_at_call 78; refine (class_any _ _).mono ?_; rintro e w' ⟨rfl, rfl⟩) | (go_at_call 79; refine (cmpInt_any _ _ _).mono ?_; rintro e w' ⟨rfl, rfl⟩) | (go_at_call 80; refine (cmpI64_any _ _ _).mono ?_; rintro e w' ⟨rfl, rfl⟩))
   go_ret
   exact ⟨ret_i HR.out.symm, HB.out⟩
  ·have hk2 : Order.cls xk = 10 := he.trans hk
   have HR := Lib.hid (show Order.cmp (h + 1) x y = Order.sgn xn yn from (cmp_same (k := 10) (by rw [← HE.out.1]; exact hk2) (by rw [← HE.out.2.1]; exact hk)).trans (by rw [HE.out.2.2.1.1, HE.out.2.2.1.2]; rfl))
   have hsz : Order.sgn 10 10 = 0 := rfl
   clear he hs0
   go_enter Tryz.func65, Tryz.ntmps65
   go_wp2_with (first | (go_at_call 78; refine (class_any _ _).mono ?_; rintro e w' ⟨rfl, rfl⟩) | (go_at_call 79; refine (cmpInt_any _ _ _).mono ?_; rintro e w' ⟨rfl, rfl⟩) | (go_at_call 80; refine (cmpI64_any _ _ _).mono ?_; rintro e w' ⟨rfl, rfl⟩))
   go_ret
   exact ⟨ret_i HR.out.symm, HB.out⟩
  ·have hk2 : Order.cls xk = 11 := he.trans hk
   have HR := Lib.hid (show Order.cmp (h + 1) x y = 0 from (cmp_same (k := 11) (by rw [← HE.out.1]; exact hk2) (by rw [← HE.out.2.1]; exact hk)).trans (by rfl))
   have hsz : Order.sgn 11 11 = 0 := rfl
   clear he hs0
   go_enter Tryz.func65, Tryz.ntmps65
   go_wp2_with (first | (go_at_call 78; refine (class_any _ _).mono ?_; rintro e w' ⟨rfl, rfl⟩) | (go_at_call 79; refine (cmpInt_any _ _ _).mono ?_; rintro e w' ⟨rfl, rfl⟩))
   go_ret
   exact ⟨ret_i HR.out.symm, HB.out⟩
end Go.Proofs.YtngllchoiffniaaGreatDoor
end
