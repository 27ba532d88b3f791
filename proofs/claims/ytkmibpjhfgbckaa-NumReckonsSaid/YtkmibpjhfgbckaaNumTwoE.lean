/- aqueductref5.Two where one is nothing, or no number (a walk). -/
import Derived.Test.YtkmibpjhfgbckaaNumBox
import Derived.Test.YtkmibpjhfgbckaaValLets
namespace Go.Proofs.Ytkmibpjhfgbckaa
open Go.RowKit
open Seal
open Num
set_option maxRecDepth 100000 in
set_option maxHeartbeats 8000000 in
theorem refTwo_early (op : Int) (o : Int × Int) (ak an bk bn : Int) (p2 p3 p4 p5 q2 q3 q4 q5 : Value) (w : World) (hn : noneB ak = true ∨ noneB bk = true ∨ numB ak = false ∨ numB bk = false) : Calls Try.prog 15 #[.int .u8 op, .agg #[.int .i64 ak, .int .i64 an, p2, p3, p4, p5], .agg #[.int .i64 bk, .int .i64 bn, q2, q3, q4, q5]] w (ValE (reck o ak bk) w) := by
  have HR0 := Lib.hid (R3.new w #[Value.int .i64 ak, .int .i64 an, p2, p3, p4, p5] #[Value.int .i64 bk, .int .i64 bn, q2, q3, q4, q5])
  have HNA := Lib.hid (fun w => refNone_any ak (.int .i64 an) p2 p3 p4 p5 w)
  have HNB := Lib.hid (fun w => refNone_any bk (.int .i64 bn) q2 q3 q4 q5 w)
  have HMA := Lib.hid (fun w => refNumber_any ak (.int .i64 an) p2 p3 p4 p5 w)
  have HMB := Lib.hid (fun w => refNumber_any bk (.int .i64 bn) q2 q3 q4 q5 w)
  obtain ⟨r, hr⟩ : ∃ r, r = reck o ak bk := ⟨_, rfl⟩
  rw [← hr]
  by_cases c1 : noneB ak = true
  · rw [c1] at HNA
    have HQ := Lib.hid (show r = (2, 0, 0) by rw [hr, reck, if_pos c1])
    clear c1 hr hn
    go_enter Try.func15, Try.ntmps15
    go_wp2_with fail
    generalize hW : (((w.alloc (.cells #[Value.int .i64 ak, .int .i64 an, p2, p3, p4, p5] 26)).alloc (.cells #[Value.int .i64 bk, .int .i64 bn, q2, q3, q4, q5] 26)).alloc (.cells #[Value.int .i64 0, .int .i64 0, .string ⟨#[]⟩, .slice none 0 0, .slice none 0 0, .slice none 0 0] 26)) = W0 at *
    clear hW
    obtain ⟨⟨a0, a1, a2, a3, a4, a5⟩, ⟨b0, b1, b2, b3, b4, b5⟩, ⟨z0, z1, z2, z3, z4, z5⟩, f0, f1, f2, f3, f4, f5⟩ := HR0.out.all
    go_wp2_with fail
    go_at_call 33
    refine (HNA.out _).mono ?_
    rintro e w1 ⟨rfl, hb⟩
    clear a0 a1 a2 a3 a4 a5 b0 b1 b2 b3 b4 b5 z0 z1 z2 z3 z4 z5 f0 f1 f2 f3 f4 f5
    have HR1 := Lib.hid (HR0.out.step hb)
    clear hb
    obtain ⟨⟨a0, a1, a2, a3, a4, a5⟩, ⟨b0, b1, b2, b3, b4, b5⟩, ⟨z0, z1, z2, z3, z4, z5⟩, f0, f1, f2, f3, f4, f5⟩ := HR1.out.all
    go_wp2_with fail
    exact bodyPost_ret (v := .tuple #[.agg #[.int .i64 2, .int .i64 (0), .string ⟨#[]⟩, .slice none 0 0, .slice none 0 0, .slice none 0 0], .int .i64 0]) (by simp [results, Try.results15, go_sem, *]) rfl (val_e HQ.out (below_six HR1.out.2.2.2 (by omega) _ _ _ _ _ _))
  rw [eq_false_of_ne_true c1] at HNA
  by_cases c2 : noneB bk = true
  · rw [c2] at HNB
    have HQ := Lib.hid (show r = (2, 0, 0) by rw [hr, reck, if_neg c1, if_pos c2])
    clear c1 c2 hr hn
    go_enter Try.func15, Try.ntmps15
    go_wp2_with fail
    generalize hW : (((w.alloc (.cells #[Value.int .i64 ak, .int .i64 an, p2, p3, p4, p5] 26)).alloc (.cells #[Value.int .i64 bk, .int .i64 bn, q2, q3, q4, q5] 26)).alloc (.cells #[Value.int .i64 0, .int .i64 0, .string ⟨#[]⟩, .slice none 0 0, .slice none 0 0, .slice none 0 0] 26)) = W0 at *
    clear hW
    obtain ⟨⟨a0, a1, a2, a3, a4, a5⟩, ⟨b0, b1, b2, b3, b4, b5⟩, ⟨z0, z1, z2, z3, z4, z5⟩, f0, f1, f2, f3, f4, f5⟩ := HR0.out.all
    go_wp2_with fail
    go_at_call 33
    refine (HNA.out _).mono ?_
    rintro e w1 ⟨rfl, hb⟩
    clear a0 a1 a2 a3 a4 a5 b0 b1 b2 b3 b4 b5 z0 z1 z2 z3 z4 z5 f0 f1 f2 f3 f4 f5
    have HR1 := Lib.hid (HR0.out.step hb)
    clear hb
    obtain ⟨⟨a0, a1, a2, a3, a4, a5⟩, ⟨b0, b1, b2, b3, b4, b5⟩, ⟨z0, z1, z2, z3, z4, z5⟩, f0, f1, f2, f3, f4, f5⟩ := HR1.out.all
    go_wp2_with fail
    go_at_call 33
    refine (HNB.out _).mono ?_
    rintro e w2 ⟨rfl, hb⟩
    clear a0 a1 a2 a3 a4 a5 b0 b1 b2 b3 b4 b5 z0 z1 z2 z3 z4 z5 f0 f1 f2 f3 f4 f5
    have HR2 := Lib.hid (HR1.out.step hb)
    clear hb
    obtain ⟨⟨a0, a1, a2, a3, a4, a5⟩, ⟨b0, b1, b2, b3, b4, b5⟩, ⟨z0, z1, z2, z3, z4, z5⟩, f0, f1, f2, f3, f4, f5⟩ := HR2.out.all
    go_wp2_with fail
    exact bodyPost_ret (v := .tuple #[.agg #[.int .i64 2, .int .i64 (0), .string ⟨#[]⟩, .slice none 0 0, .slice none 0 0, .slice none 0 0], .int .i64 0]) (by simp [results, Try.results15, go_sem, *]) rfl (val_e HQ.out (below_six HR2.out.2.2.2 (by omega) _ _ _ _ _ _))
  rw [eq_false_of_ne_true c2] at HNB
  by_cases c3 : numB ak = false
  · rw [c3] at HMA
    have HQ := Lib.hid (show r = (0, 0, 12) by rw [hr, reck, if_neg c1, if_neg c2, if_pos c3])
    clear c1 c2 c3 hr hn
    go_enter Try.func15, Try.ntmps15
    go_wp2_with fail
    generalize hW : (((w.alloc (.cells #[Value.int .i64 ak, .int .i64 an, p2, p3, p4, p5] 26)).alloc (.cells #[Value.int .i64 bk, .int .i64 bn, q2, q3, q4, q5] 26)).alloc (.cells #[Value.int .i64 0, .int .i64 0, .string ⟨#[]⟩, .slice none 0 0, .slice none 0 0, .slice none 0 0] 26)) = W0 at *
    clear hW
    obtain ⟨⟨a0, a1, a2, a3, a4, a5⟩, ⟨b0, b1, b2, b3, b4, b5⟩, ⟨z0, z1, z2, z3, z4, z5⟩, f0, f1, f2, f3, f4, f5⟩ := HR0.out.all
    go_wp2_with fail
    go_at_call 33
    refine (HNA.out _).mono ?_
    rintro e w1 ⟨rfl, hb⟩
    clear a0 a1 a2 a3 a4 a5 b0 b1 b2 b3 b4 b5 z0 z1 z2 z3 z4 z5 f0 f1 f2 f3 f4 f5
    have HR1 := Lib.hid (HR0.out.step hb)
    clear hb
    obtain ⟨⟨a0, a1, a2, a3, a4, a5⟩, ⟨b0, b1, b2, b3, b4, b5⟩, ⟨z0, z1, z2, z3, z4, z5⟩, f0, f1, f2, f3, f4, f5⟩ := HR1.out.all
    go_wp2_with fail
    go_at_call 33
    refine (HNB.out _).mono ?_
    rintro e w2 ⟨rfl, hb⟩
    clear a0 a1 a2 a3 a4 a5 b0 b1 b2 b3 b4 b5 z0 z1 z2 z3 z4 z5 f0 f1 f2 f3 f4 f5
    have HR2 := Lib.hid (HR1.out.step hb)
    clear hb
    obtain ⟨⟨a0, a1, a2, a3, a4, a5⟩, ⟨b0, b1, b2, b3, b4, b5⟩, ⟨z0, z1, z2, z3, z4, z5⟩, f0, f1, f2, f3, f4, f5⟩ := HR2.out.all
    go_wp2_with fail
    go_at_call 34
    refine (HMA.out _).mono ?_
    rintro e w3 ⟨rfl, hb⟩
    clear a0 a1 a2 a3 a4 a5 b0 b1 b2 b3 b4 b5 z0 z1 z2 z3 z4 z5 f0 f1 f2 f3 f4 f5
    have HR3 := Lib.hid (HR2.out.step hb)
    clear hb
    obtain ⟨⟨a0, a1, a2, a3, a4, a5⟩, ⟨b0, b1, b2, b3, b4, b5⟩, ⟨z0, z1, z2, z3, z4, z5⟩, f0, f1, f2, f3, f4, f5⟩ := HR3.out.all
    go_wp2_with fail
    exact bodyPost_ret (v := .tuple #[.agg #[.int .i64 0, .int .i64 (0), .string ⟨#[]⟩, .slice none 0 0, .slice none 0 0, .slice none 0 0], .int .i64 12]) (by simp [results, Try.results15, go_sem, *]) rfl (val_e HQ.out (below_six HR3.out.2.2.2 (by omega) _ _ _ _ _ _))
  rw [eq_true_of_ne_false c3] at HMA
  have c4 : numB bk = false := hn.elim (fun h => absurd h c1) (fun hn => hn.elim (fun h => absurd h c2) (fun hn => hn.elim (fun h => absurd h c3) (fun h => h)))
  rw [c4] at HMB
  have HQ := Lib.hid (show r = (0, 0, 12) by rw [hr, reck, if_neg c1, if_neg c2, if_neg c3, if_pos c4])
  clear c1 c2 c3 c4 hr hn
  go_enter Try.func15, Try.ntmps15
  go_wp2_with fail
  generalize hW : (((w.alloc (.cells #[Value.int .i64 ak, .int .i64 an, p2, p3, p4, p5] 26)).alloc (.cells #[Value.int .i64 bk, .int .i64 bn, q2, q3, q4, q5] 26)).alloc (.cells #[Value.int .i64 0, .int .i64 0, .string ⟨#[]⟩, .slice none 0 0, .slice none 0 0, .slice none 0 0] 26)) = W0 at *
  clear hW
  obtain ⟨⟨a0, a1, a2, a3, a4, a5⟩, ⟨b0, b1, b2, b3, b4, b5⟩, ⟨z0, z1, z2, z3, z4, z5⟩, f0, f1, f2, f3, f4, f5⟩ := HR0.out.all
  go_wp2_with fail
  go_at_call 33
  refine (HNA.out _).mono ?_
  rintro e w1 ⟨rfl, hb⟩
  clear a0 a1 a2 a3 a4 a5 b0 b1 b2 b3 b4 b5 z0 z1 z2 z3 z4 z5 f0 f1 f2 f3 f4 f5
  have HR1 := Lib.hid (HR0.out.step hb)
  clear hb
  obtain ⟨⟨a0, a1, a2, a3, a4, a5⟩, ⟨b0, b1, b2, b3, b4, b5⟩, ⟨z0, z1, z2, z3, z4, z5⟩, f0, f1, f2, f3, f4, f5⟩ := HR1.out.all
  go_wp2_with fail
  go_at_call 33
  refine (HNB.out _).mono ?_
  rintro e w2 ⟨rfl, hb⟩
  clear a0 a1 a2 a3 a4 a5 b0 b1 b2 b3 b4 b5 z0 z1 z2 z3 z4 z5 f0 f1 f2 f3 f4 f5
  have HR2 := Lib.hid (HR1.out.step hb)
  clear hb
  obtain ⟨⟨a0, a1, a2, a3, a4, a5⟩, ⟨b0, b1, b2, b3, b4, b5⟩, ⟨z0, z1, z2, z3, z4, z5⟩, f0, f1, f2, f3, f4, f5⟩ := HR2.out.all
  go_wp2_with fail
  go_at_call 34
  refine (HMA.out _).mono ?_
  rintro e w3 ⟨rfl, hb⟩
  clear a0 a1 a2 a3 a4 a5 b0 b1 b2 b3 b4 b5 z0 z1 z2 z3 z4 z5 f0 f1 f2 f3 f4 f5
  have HR3 := Lib.hid (HR2.out.step hb)
  clear hb
  obtain ⟨⟨a0, a1, a2, a3, a4, a5⟩, ⟨b0, b1, b2, b3, b4, b5⟩, ⟨z0, z1, z2, z3, z4, z5⟩, f0, f1, f2, f3, f4, f5⟩ := HR3.out.all
  go_wp2_with fail
  go_at_call 34
  refine (HMB.out _).mono ?_
  rintro e w4 ⟨rfl, hb⟩
  clear a0 a1 a2 a3 a4 a5 b0 b1 b2 b3 b4 b5 z0 z1 z2 z3 z4 z5 f0 f1 f2 f3 f4 f5
  have HR4 := Lib.hid (HR3.out.step hb)
  clear hb
  obtain ⟨⟨a0, a1, a2, a3, a4, a5⟩, ⟨b0, b1, b2, b3, b4, b5⟩, ⟨z0, z1, z2, z3, z4, z5⟩, f0, f1, f2, f3, f4, f5⟩ := HR4.out.all
  go_wp2_with fail
  exact bodyPost_ret (v := .tuple #[.agg #[.int .i64 0, .int .i64 (0), .string ⟨#[]⟩, .slice none 0 0, .slice none 0 0, .slice none 0 0], .int .i64 12]) (by simp [results, Try.results15, go_sem, *]) rfl (val_e HQ.out (below_six HR4.out.2.2.2 (by omega) _ _ _ _ _ _))
end Go.Proofs.Ytkmibpjhfgbckaa
