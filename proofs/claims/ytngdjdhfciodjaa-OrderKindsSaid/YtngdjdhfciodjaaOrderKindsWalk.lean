/- aqueductlaw7.OrderKinds. -/
import Derived.Test.YtngdjdhfciodjaaOrderAwake
import Derived.Test.YtngdjdhfciodjaaOrderFew
import Derived.Test.YtngdjdhfciodjaaOrderRowsIn
namespace Go.Proofs.Ytngdjdhfciodjaa
open Go.RowKit
open Seal
open Bson (Val)
theorem cmp_missing (h : Nat) (x : Val) : (Order.cls x.kind < 0) ∨ (Order.cls x.kind = 0 ∧ x.kind = 0 ∧ Order.cmp (h + 1) Bson.zero x = 0) ∨ (0 < Order.cls x.kind ∧ Order.cmp (h + 1) Bson.zero x = -1) := by
  have e : Order.cmp (h + 1) Bson.zero x = if Order.sgn 0 (Order.cls x.kind) = 0 then Order.inner (Order.cmp h) 0 Bson.zero x else Order.sgn 0 (Order.cls x.kind) := rfl
  rcases Int.lt_trichotomy (Order.cls x.kind) 0 with hh | hh | hh
  · exact .inl hh
  · refine .inr (.inl ⟨hh, ?_, ?_⟩)
    · unfold Order.cls at hh
      split at hh
      · omega
      · split at hh <;> omega
    · rw [e, hh, if_pos (Order.sgn_self 0)]; rfl
  · refine .inr (.inr ⟨hh, ?_⟩)
    have := Order.sgn_lt hh
    rw [e, this, if_neg (by decide)]
set_option maxRecDepth 100000 in
set_option maxHeartbeats 8000000 in
theorem kinds_any (h : Nat) (Q Q2 : Nat → Prop) (x y : Val) (u v : Value) (w : World) (hx : VIn w Q (h + 1) x u) (hy : VIn w Q2 (h + 1) y v) :
    Calls Try.prog 6 #[u, v] w fun e w' => e = .returned (.bool true) ∧ Below w.heap.size w w' := by
  obtain ⟨xk, xn, xs, ba, fa, la, bn, bc, fn, fc, ln, lc, rfl, hxk, -⟩ := hx.letters
  obtain ⟨yk, yn, ys, ba2, fa2, la2, bn2, bc2, fn2, fc2, ln2, lc2, rfl, hyk, -⟩ := hy.letters
  have HX := Lib.hid hx.any
  have HY := Lib.hid hy.any
  have HK := Lib.hid (And.intro hxk hyk)
  have HB0 : Hid (Boxed2 w #[Value.int .i64 xk, .int .i64 xn, .string xs, .slice ba bn bc, .slice fa fn fc, .slice la ln lc] #[Value.int .i64 yk, .int .i64 yn, .string ys, .slice ba2 bn2 bc2, .slice fa2 fn2 fc2, .slice la2 ln2 lc2] 26 ((w.alloc (.cells #[Value.int .i64 xk, .int .i64 xn, .string xs, .slice ba bn bc, .slice fa fn fc, .slice la ln lc] 26)).alloc (.cells #[Value.int .i64 yk, .int .i64 yn, .string ys, .slice ba2 bn2 bc2, .slice fa2 fn2 fc2, .slice la2 ln2 lc2] 26))) := Boxed2.refl _ _ _ _
  clear hx hy hxk hyk
  go_enter Try.func6, Try.ntmps6
  go_wp2_with fail
  go_at_call 9
  refine (awake_any _).mono ?_
  rintro e w1 ⟨rfl, hb1⟩
  have HB1 := Lib.hid (HB0.out.step hb1)
  clear hb1
  have a0 : w1.cell? ⟨w.heap.size, 0, none⟩ = some (.int .i64 xk) := HB1.out.one 0
  have a1 : w1.cell? ⟨w.heap.size, 1, none⟩ = some (.int .i64 xn) := HB1.out.one 1
  have a2 : w1.cell? ⟨w.heap.size, 2, none⟩ = some (.string xs) := HB1.out.one 2
  have a3 : w1.cell? ⟨w.heap.size, 3, none⟩ = some (.slice ba bn bc) := HB1.out.one 3
  have a4 : w1.cell? ⟨w.heap.size, 4, none⟩ = some (.slice fa fn fc) := HB1.out.one 4
  have a5 : w1.cell? ⟨w.heap.size, 5, none⟩ = some (.slice la ln lc) := HB1.out.one 5
  have b0 : w1.cell? ⟨w.heap.size + 1, 0, none⟩ = some (.int .i64 yk) := HB1.out.two 0
  have b1 : w1.cell? ⟨w.heap.size + 1, 1, none⟩ = some (.int .i64 yn) := HB1.out.two 1
  have b2 : w1.cell? ⟨w.heap.size + 1, 2, none⟩ = some (.string ys) := HB1.out.two 2
  have b3 : w1.cell? ⟨w.heap.size + 1, 3, none⟩ = some (.slice ba2 bn2 bc2) := HB1.out.two 3
  have b4 : w1.cell? ⟨w.heap.size + 1, 4, none⟩ = some (.slice fa2 fn2 fc2) := HB1.out.two 4
  have b5 : w1.cell? ⟨w.heap.size + 1, 5, none⟩ = some (.slice la2 ln2 lc2) := HB1.out.two 5
  go_wp2_with fail
  go_at_call 10
  have HBN : Hid (Below w1.heap.size w1 (w1.alloc (.cells #[Value.int .i64 xk, .int .i64 xn, .string xs, .slice ba bn bc, .slice fa fn fc, .slice la ln lc, .int .i64 yk, .int .i64 yn, .string ys, .slice ba2 bn2 bc2, .slice fa2 fn2 fc2, .slice la2 ln2 lc2] 26))) := (Below.refl _ w1).alloc (Nat.le_refl _) _
  have HR := Lib.hid (heap_alloc_new w1 (.cells #[Value.int .i64 xk, .int .i64 xn, .string xs, .slice ba bn bc, .slice fa fn fc, .slice la ln lc, .int .i64 yk, .int .i64 yn, .string ys, .slice ba2 bn2 bc2, .slice fa2 fn2 fc2, .slice la2 ln2 lc2] 26))
  have HBX := Lib.hid (HB1.out.below.trans (HBN.out.mono (by have := HB1.out.size; omega)))
  refine (few_any (fun _ => True) h (some ⟨w1.heap.size, 0, none⟩) 2 2 [x, y] _ rfl (by decide) (two_items HR.out trivial (VIn.keep HBX.out HX.out) (VIn.keep HBX.out HY.out))).mono ?_
  rintro e w2 ⟨b, rfl, hb2⟩
  have HB2 := Lib.hid ((HB1.out.step HBN.out).step hb2)
  clear a0 a1 a2 a3 a4 a5 b0 b1 b2 b3 b4 b5
  clear hb2
  have a0 : w2.cell? ⟨w.heap.size, 0, none⟩ = some (.int .i64 xk) := HB2.out.one 0
  have a1 : w2.cell? ⟨w.heap.size, 1, none⟩ = some (.int .i64 xn) := HB2.out.one 1
  have a2 : w2.cell? ⟨w.heap.size, 2, none⟩ = some (.string xs) := HB2.out.one 2
  have a3 : w2.cell? ⟨w.heap.size, 3, none⟩ = some (.slice ba bn bc) := HB2.out.one 3
  have a4 : w2.cell? ⟨w.heap.size, 4, none⟩ = some (.slice fa fn fc) := HB2.out.one 4
  have a5 : w2.cell? ⟨w.heap.size, 5, none⟩ = some (.slice la ln lc) := HB2.out.one 5
  have b0 : w2.cell? ⟨w.heap.size + 1, 0, none⟩ = some (.int .i64 yk) := HB2.out.two 0
  have b1 : w2.cell? ⟨w.heap.size + 1, 1, none⟩ = some (.int .i64 yn) := HB2.out.two 1
  have b2 : w2.cell? ⟨w.heap.size + 1, 2, none⟩ = some (.string ys) := HB2.out.two 2
  have b3 : w2.cell? ⟨w.heap.size + 1, 3, none⟩ = some (.slice ba2 bn2 bc2) := HB2.out.two 3
  have b4 : w2.cell? ⟨w.heap.size + 1, 4, none⟩ = some (.slice fa2 fn2 fc2) := HB2.out.two 4
  have b5 : w2.cell? ⟨w.heap.size + 1, 5, none⟩ = some (.slice la2 ln2 lc2) := HB2.out.two 5
  cases b with
  | false =>
    go_wp2_with fail
    go_ret
    exact ⟨rfl, HB2.out.below⟩
  | true =>
  go_wp2_with fail
  go_quiet ((go_at_call 13; exact Calls.quiet_of_same (class_q _ _)))
  have HB3 := fun n => (HB2.out.step (below_dr (Below.refl _ _) n))
  have HV1 := fun n => VIn.keep (HB3 n).below HX.out
  have HV2 := fun n => VIn.keep (HB3 n).below HY.out
  have HCC := Lib.hid (fun n => compare_any (h + 1) _ _ x y _ _ (w2.drewN n) (HV1 n) (HV2 n))
  have HB3 := Lib.hid HB3
  clear HV1 HV2
  obtain ⟨r, hr⟩ : ∃ r, r = Order.cmp (h + 1) x y := ⟨_, rfl⟩
  rw [← hr] at HCC
  have HRL : Hid (Order.cls xk < Order.cls yk → r = -1) := fun t => by
    rw [hr, Order.cmp]
    rw [HK.out.1, HK.out.2] at t
    rw [Order.sgn_lt t, if_neg (by decide)]
  have HRG : Hid (Order.cls yk < Order.cls xk → r = 1) := fun t => by
    rw [hr, Order.cmp]
    rw [HK.out.1, HK.out.2] at t
    rw [Order.sgn_gt t, if_neg (by decide)]
  clear hr
  have HM : Hid (Order.cls xk < 0 ∨ (Order.cls xk = 0 ∧ xk = 0 ∧ Order.cmp (h + 1) Bson.zero x = 0) ∨ (0 < Order.cls xk ∧ Order.cmp (h + 1) Bson.zero x = -1)) := by rw [HK.out.1]; exact cmp_missing h x
  go_wp2_with fail
  go_at_call 11
  refine (HCC.out _).mono ?_
  rintro e w3 ⟨rfl, hb3⟩
  have HB4 := Lib.hid ((HB3.out _).step hb3)
  clear a0 a1 a2 a3 a4 a5 b0 b1 b2 b3 b4 b5
  clear hb3 HB3
  have a0 : w3.cell? ⟨w.heap.size, 0, none⟩ = some (.int .i64 xk) := HB4.out.one 0
  have a1 : w3.cell? ⟨w.heap.size, 1, none⟩ = some (.int .i64 xn) := HB4.out.one 1
  have a2 : w3.cell? ⟨w.heap.size, 2, none⟩ = some (.string xs) := HB4.out.one 2
  have a3 : w3.cell? ⟨w.heap.size, 3, none⟩ = some (.slice ba bn bc) := HB4.out.one 3
  have a4 : w3.cell? ⟨w.heap.size, 4, none⟩ = some (.slice fa fn fc) := HB4.out.one 4
  have a5 : w3.cell? ⟨w.heap.size, 5, none⟩ = some (.slice la ln lc) := HB4.out.one 5
  have b0 : w3.cell? ⟨w.heap.size + 1, 0, none⟩ = some (.int .i64 yk) := HB4.out.two 0
  have b1 : w3.cell? ⟨w.heap.size + 1, 1, none⟩ = some (.int .i64 yn) := HB4.out.two 1
  have b2 : w3.cell? ⟨w.heap.size + 1, 2, none⟩ = some (.string ys) := HB4.out.two 2
  have b3 : w3.cell? ⟨w.heap.size + 1, 3, none⟩ = some (.slice ba2 bn2 bc2) := HB4.out.two 3
  have b4 : w3.cell? ⟨w.heap.size + 1, 4, none⟩ = some (.slice fa2 fn2 fc2) := HB4.out.two 4
  have b5 : w3.cell? ⟨w.heap.size + 1, 5, none⟩ = some (.slice la2 ln2 lc2) := HB4.out.two 5
  have HMC := Lib.hid (compare_any (h + 1) (fun _ => True) (fun _ => True) Bson.zero x _ _ w3 (VIn.up (zero_in w3 _) (by omega)) (VIn.keep HB4.out.below HX.out))
  rcases Int.lt_trichotomy (Order.cls xk) (Order.cls yk) with t | t | t
  · obtain rfl := HRL.out t
    have t2 : ¬ Order.cls yk < Order.cls xk := by omega
    rcases HM.out with z | ⟨z, z2, z3⟩ | ⟨z, z3⟩
    · go_wp2_with (go_at_call 11; refine HMC.out.mono ?_; rintro e w4 ⟨rfl, hb4⟩)
      go_ret
      exact ⟨rfl, (HB4.out.step hb4).below⟩
    · subst z2
      rw [z3] at HMC
      have nz : ¬ Order.cls 0 < 0 := by decide
      clear z z3
      go_wp2_with fail
      go_at_call 11
      refine HMC.out.mono ?_
      rintro e w4 ⟨rfl, hb4⟩
      have HB5 := Lib.hid (HB4.out.step hb4)
      clear hb4
      have y0 : w4.cell? ⟨w.heap.size, 0, none⟩ = some (.int .i64 0) := HB5.out.one 0
      go_wp2_with fail
      go_ret
      exact ⟨rfl, HB5.out.below⟩
    · rw [z3] at HMC
      have nz : ¬ Order.cls xk < 0 := by omega
      clear z3
      go_wp2_with (go_at_call 11; refine HMC.out.mono ?_; rintro e w4 ⟨rfl, hb4⟩)
      go_ret
      exact ⟨rfl, (HB4.out.step hb4).below⟩
  · have t1 : ¬ Order.cls xk < Order.cls yk := by omega
    have t2 : ¬ Order.cls yk < Order.cls xk := by omega
    clear t
    rcases HM.out with z | ⟨z, z2, z3⟩ | ⟨z, z3⟩
    · go_wp2_with (go_at_call 11; refine HMC.out.mono ?_; rintro e w4 ⟨rfl, hb4⟩)
      go_ret
      exact ⟨rfl, (HB4.out.step hb4).below⟩
    · subst z2
      rw [z3] at HMC
      have nz : ¬ Order.cls 0 < 0 := by decide
      clear z z3
      go_wp2_with fail
      go_at_call 11
      refine HMC.out.mono ?_
      rintro e w4 ⟨rfl, hb4⟩
      have HB5 := Lib.hid (HB4.out.step hb4)
      clear hb4
      have y0 : w4.cell? ⟨w.heap.size, 0, none⟩ = some (.int .i64 0) := HB5.out.one 0
      go_wp2_with fail
      go_ret
      exact ⟨rfl, HB5.out.below⟩
    · rw [z3] at HMC
      have nz : ¬ Order.cls xk < 0 := by omega
      clear z3
      go_wp2_with (go_at_call 11; refine HMC.out.mono ?_; rintro e w4 ⟨rfl, hb4⟩)
      go_ret
      exact ⟨rfl, (HB4.out.step hb4).below⟩
  · obtain rfl := HRG.out t
    have t1 : ¬ Order.cls xk < Order.cls yk := by omega
    rcases HM.out with z | ⟨z, z2, z3⟩ | ⟨z, z3⟩
    · go_wp2_with (go_at_call 11; refine HMC.out.mono ?_; rintro e w4 ⟨rfl, hb4⟩)
      go_ret
      exact ⟨rfl, (HB4.out.step hb4).below⟩
    · subst z2
      rw [z3] at HMC
      have nz : ¬ Order.cls 0 < 0 := by decide
      clear z z3
      go_wp2_with fail
      go_at_call 11
      refine HMC.out.mono ?_
      rintro e w4 ⟨rfl, hb4⟩
      have HB5 := Lib.hid (HB4.out.step hb4)
      clear hb4
      have y0 : w4.cell? ⟨w.heap.size, 0, none⟩ = some (.int .i64 0) := HB5.out.one 0
      go_wp2_with fail
      go_ret
      exact ⟨rfl, HB5.out.below⟩
    · rw [z3] at HMC
      have nz : ¬ Order.cls xk < 0 := by omega
      clear z3
      go_wp2_with (go_at_call 11; refine HMC.out.mono ?_; rintro e w4 ⟨rfl, hb4⟩)
      go_ret
      exact ⟨rfl, (HB4.out.step hb4).below⟩
end Go.Proofs.Ytngdjdhfciodjaa
