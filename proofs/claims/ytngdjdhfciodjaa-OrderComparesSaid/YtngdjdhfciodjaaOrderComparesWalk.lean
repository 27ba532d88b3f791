/- aqueductlaw7.OrderCompares. -/
import Derived.Test.YtngdjdhfciodjaaOrderAwake
import Derived.Test.YtngdjdhfciodjaaOrderFew
import Derived.Test.YtngdjdhfciodjaaOrderRowsIn
import Derived.Test.YtngdjdhfciodjaaRefCmp
namespace Go.Proofs.Ytngdjdhfciodjaa
open Go.RowKit
open Seal
open Bson (Val)
open Go.Sort
theorem three_items {w : World} {Q : Nat → Prop} {h g : Nat} {x y z : Val} {a0 a1 a2 a3 a4 a5 b0 b1 b2 b3 b4 b5 c0 c1 c2 c3 c4 c5 : Value} {t : TypeId}
    (hr : w.heap[g]? = some (.cells #[a0, a1, a2, a3, a4, a5, b0, b1, b2, b3, b4, b5, c0, c1, c2, c3, c4, c5] t (0, 0))) (hq : Q g) (hx : VIn w Q h x (.agg #[a0, a1, a2, a3, a4, a5])) (hy : VIn w Q h y (.agg #[b0, b1, b2, b3, b4, b5])) (hz : VIn w Q h z (.agg #[c0, c1, c2, c3, c4, c5])) :
    ItemsIn w Q (VIn w Q h) (some ⟨g, 0, none⟩) [x, y, z] := by
  have e : ∀ j c, (#[a0, a1, a2, a3, a4, a5, b0, b1, b2, b3, b4, b5, c0, c1, c2, c3, c4, c5] : Array Value)[j]? = some c → w.cell? ⟨g, j, none⟩ = some c := fun j c hc => (cell_of_row _ _ j _ _ _ hr).trans hc
  refine .inr ⟨g, 0, rfl, hq, fun i hi => ?_⟩
  match i, hi with
  | 0, _ => exact ⟨_, ⟨a0, a1, a2, a3, a4, a5, rfl, e _ _ rfl, e _ _ rfl, e _ _ rfl, e _ _ rfl, e _ _ rfl, e _ _ rfl⟩, hx⟩
  | 1, _ => exact ⟨_, ⟨b0, b1, b2, b3, b4, b5, rfl, e _ _ rfl, e _ _ rfl, e _ _ rfl, e _ _ rfl, e _ _ rfl, e _ _ rfl⟩, hy⟩
  | 2, _ => exact ⟨_, ⟨c0, c1, c2, c3, c4, c5, rfl, e _ _ rfl, e _ _ rfl, e _ _ rfl, e _ _ rfl, e _ _ rfl, e _ _ rfl⟩, hz⟩
/-- An item's six cells. -/
theorem item_at {W : World} {Q : Nat → Prop} {h g : Nat} {l : List Val} (hI : ItemsIn W Q (VIn W Q h) (some ⟨g, 0, none⟩) l) (i : Nat) (hi : i < l.length) :
    ∃ c0 c1 c2 c3 c4 c5, VIn W Q h l[i] (.agg #[c0, c1, c2, c3, c4, c5]) ∧ W.cell? ⟨g, i * 6, none⟩ = some c0 ∧ W.cell? ⟨g, i * 6 + 1, none⟩ = some c1 ∧ W.cell? ⟨g, i * 6 + 2, none⟩ = some c2 ∧ W.cell? ⟨g, i * 6 + 3, none⟩ = some c3 ∧ W.cell? ⟨g, i * 6 + 4, none⟩ = some c4 ∧ W.cell? ⟨g, i * 6 + 5, none⟩ = some c5 := by
  obtain ⟨g', o, e, _, hall⟩ := hI.resolve_left (fun e => by rw [e] at hi; simp at hi)
  obtain ⟨v, ⟨c0, c1, c2, c3, c4, c5, rfl, e0, e1, e2, e3, e4, e5⟩, hV⟩ := hall i hi
  injection e with e
  injection e with e1' e2'
  subst e1' e2'
  simp only [Nat.zero_add] at e0 e1 e2 e3 e4 e5
  exact ⟨c0, c1, c2, c3, c4, c5, hV, e0, e1, e2, e3, e4, e5⟩
set_option maxRecDepth 100000 in
set_option maxHeartbeats 8000000 in
theorem compares_any (h : Nat) (Q : Nat → Prop) (X Y Z : Val) (a0 a1 a2 a3 a4 a5 b0 b1 b2 b3 b4 b5 c0 c1 c2 c3 c4 c5 : Value) (kind : Int) (w : World) (hkind : -9223372036854775808 ≤ kind ∧ kind ≤ 9223372036854775807)
    (hx : VIn w Q (h + 1) X (.agg #[a0, a1, a2, a3, a4, a5])) (hy : VIn w Q (h + 1) Y (.agg #[b0, b1, b2, b3, b4, b5])) (hz : VIn w Q (h + 1) Z (.agg #[c0, c1, c2, c3, c4, c5])) :
    Calls Try.prog 3 #[.agg #[a0, a1, a2, a3, a4, a5, b0, b1, b2, b3, b4, b5, c0, c1, c2, c3, c4, c5], .int .i64 kind] w fun e w' => e = .returned (.bool true) ∧ Below w.heap.size w w' := by
  obtain ⟨hk0, hk1⟩ := hkind
  have HW0 : Hid (Below w.heap.size w (w.alloc (.cells #[a0, a1, a2, a3, a4, a5, b0, b1, b2, b3, b4, b5, c0, c1, c2, c3, c4, c5] 27))) := (Below.refl _ w).alloc (Nat.le_refl _) _
  have HI0 := Lib.hid (three_items (h := h + 1) (Q := fun _ => True) (heap_alloc_new w (.cells #[a0, a1, a2, a3, a4, a5, b0, b1, b2, b3, b4, b5, c0, c1, c2, c3, c4, c5] 27)) trivial (VIn.keep HW0.out hx.any) (VIn.keep HW0.out hy.any) (VIn.keep HW0.out hz.any))
  clear hx hy hz
  go_enter Try.func3, Try.ntmps3
  go_wp2_with fail
  generalize hW : (w.alloc (.cells #[a0, a1, a2, a3, a4, a5, b0, b1, b2, b3, b4, b5, c0, c1, c2, c3, c4, c5] 27)) = W0 at *
  clear hW
  have HI := fun (W : World) (hb : Below W0.heap.size W0 W) => (HI0.out.kept (Kept.of_below hb) (fun _ z => z) (fun _ _ z => VIn.keep hb z) : ItemsIn W (fun _ => True) (VIn W (fun _ => True) (h + 1)) (some ⟨w.heap.size, 0, none⟩) [X, Y, Z])
  have HI := Lib.hid HI
  clear HI0
  have HWS := Lib.hid HW0.out.size
  go_at_call 9
  refine (awake_any _).mono ?_
  rintro e w1 ⟨rfl, hb1⟩
  have HB1 : Hid (Below W0.heap.size W0 w1) := hb1
  clear hb1
  go_wp2_with fail
  go_at_call 10
  refine (few_any (fun _ => True) h (some ⟨w.heap.size, 0, none⟩) 3 3 [X, Y, Z] w1 rfl (by decide) (HI.out w1 HB1.out)).mono ?_
  rintro e w2 ⟨b, rfl, hb2⟩
  have HB2 : Hid (Below W0.heap.size W0 w2) := HB1.out.trans (hb2.mono HB1.out.size)
  clear hb2
  cases b with
  | false =>
    go_wp2_with fail
    go_ret
    exact ⟨rfl, HW0.out.trans (HB2.out.mono HWS.out)⟩
  | true =>
  go_wp2_with fail
  go_loopw [5] (fun i wr => ∃ k : Nat, i = .int .i64 k ∧ k ≤ 3 ∧ Hid (Below W0.heap.size W0 wr)) (fun i _ => 3 - (intOf i).toNat)
  case atStart => exact ⟨0, rfl, by omega, HB2⟩
  case round =>
    obtain ⟨i, rfl, hi, HB⟩ := hrel
    by_cases hlt : i < 3
    case neg =>
      go_wp2_with (first | (go_at_call 13; refine (class_any _ _).mono ?_; rintro e w' ⟨rfl, rfl⟩) | (go_at_call 14; refine (refClass_any _ _ (by omega)).mono ?_; rintro e w' ⟨rfl, rfl⟩))
      go_ret
      exact ⟨rfl, HW0.out.trans (HB.out.mono HWS.out)⟩
    have hdi : decide ((i : Int) < 3) = true := by rw [decide_eq_true_eq]; omega
    have hdi : decide ((i : Int) < 3) = true := by rw [decide_eq_true_eq]; omega
    have hdi : decide ((i : Int) < 3) = true := by rw [decide_eq_true_eq]; omega
    have hdi : decide ((i : Int) < 3) = true := by rw [decide_eq_true_eq]; omega
    have hdi : decide ((i : Int) < 3) = true := by rw [decide_eq_true_eq]; omega
    have hdi : decide ((i : Int) < 3) = true := by rw [decide_eq_true_eq]; omega
    have hdi : decide ((i : Int) < 3) = true := by rw [decide_eq_true_eq]; omega
    have hdi : decide ((i : Int) < 3) = true := by rw [decide_eq_true_eq]; omega
    have hdi : decide ((i : Int) < 3) = true := by rw [decide_eq_true_eq]; omega
    go_wp2_with fail
    go_loopw [6] (fun j wr => ∃ k : Nat, j = .int .i64 k ∧ k ≤ 3 ∧ Hid (Below W0.heap.size W0 wr)) (fun j _ => 3 - (intOf j).toNat)
    case atStart => exact ⟨0, rfl, by omega, HB⟩
    case round =>
      obtain ⟨j, rfl, hj, HBJ⟩ := hrel
      by_cases hltj : j < 3
      case neg =>
        go_wp2_with fail
        go_roundw
        case rel => exact ⟨i + 1, by go_num, by omega, HBJ⟩
        case measure => simp [intOf]; omega
      have hdj : decide ((j : Int) < 3) = true := by rw [decide_eq_true_eq]; omega
      have hil : i < ([X, Y, Z] : List Val).length := by simpa using hlt
      obtain ⟨d0, d1, d2, d3, d4, d5, hVi, dc0, dc1, dc2, dc3, dc4, dc5⟩ := item_at (HI.out wr HBJ.out) i hil
      have HVi := Lib.hid hVi
      clear hVi
      have hjl : j < ([X, Y, Z] : List Val).length := by simpa using hltj
      obtain ⟨q0, q1, q2, q3, q4, q5, hVj, qc0, qc1, qc2, qc3, qc4, qc5⟩ := item_at (HI.out wr HBJ.out) j hjl
      have HVj := Lib.hid hVj
      clear hVj
      obtain ⟨r, hr⟩ : ∃ r, r = Order.cmp (h + 1) ([X, Y, Z] : List Val)[i] ([X, Y, Z] : List Val)[j] := ⟨_, rfl⟩
      have HR := Lib.hid hr
      clear hr
      have HQ := fun d os => Calls.regrown_of (P := Try.prog) (d := d) (os := os) (v := .int .i64 (r)) ((compare_any (h + 1) _ _ ([X, Y, Z] : List Val)[i] ([X, Y, Z] : List Val)[j] _ _ (grow (redrawn wr d) os) (VIn.keep (below_regrown wr d os) HVi.out) (VIn.keep (below_regrown wr d os) HVj.out)).mono fun e w3 ⟨he, hb⟩ => ⟨by rw [he, HR.out], hb⟩)
      have qdc0 := fun d os => cell_regrown dc0 d os
      have qdc1 := fun d os => cell_regrown dc1 d os
      have qdc2 := fun d os => cell_regrown dc2 d os
      have qdc3 := fun d os => cell_regrown dc3 d os
      have qdc4 := fun d os => cell_regrown dc4 d os
      have qdc5 := fun d os => cell_regrown dc5 d os
      have qqc0 := fun d os => cell_regrown qc0 d os
      have qqc1 := fun d os => cell_regrown qc1 d os
      have qqc2 := fun d os => cell_regrown qc2 d os
      have qqc3 := fun d os => cell_regrown qc3 d os
      have qqc4 := fun d os => cell_regrown qc4 d os
      have qqc5 := fun d os => cell_regrown qc5 d os
      go_wp2_with fail
      refine wp_region_quiet_below (by kernel_rfl) (by kernel_rfl) ?_
      repeat (go_big_quiet_step (exact HQ _ _))
      refine wpQuiet_nil ?_
      intro wa hw'
      have HBA : Hid (Below W0.heap.size W0 wa) := by
        obtain ⟨dq, hw''⟩ := hw'
        rw [hw'']
        exact HBJ.out.trans ((below_regrown wr dq.d dq.os).mono HBJ.out.size)
      clear hw'
      clear HQ HVi HVj dc0 dc1 dc2 dc3 dc4 dc5 qc0 qc1 qc2 qc3 qc4 qc5 qdc0 qdc1 qdc2 qdc3 qdc4 qdc5 qqc0 qqc1 qqc2 qqc3 qqc4 qqc5
      obtain ⟨d0, d1, d2, d3, d4, d5, hVi, dc0, dc1, dc2, dc3, dc4, dc5⟩ := item_at (HI.out wa HBA.out) i hil
      have HVi := Lib.hid hVi
      clear hVi
      obtain ⟨q0, q1, q2, q3, q4, q5, hVj, qc0, qc1, qc2, qc3, qc4, qc5⟩ := item_at (HI.out wa HBA.out) j hjl
      have HVj := Lib.hid hVj
      clear hVj
      have HR2 := Lib.hid ((Order.cmp_cmpH (h + 1) ([X, Y, Z] : List Val)[j] ([X, Y, Z] : List Val)[i]).trans (by rw [← HR.out]) : Order.cmp (h + 1) ([X, Y, Z] : List Val)[j] ([X, Y, Z] : List Val)[i] = - r)
      have h3 : r = -1 ∨ r = 0 ∨ r = 1 := by rw [HR.out]; exact (Order.cmp_cmp (h + 1)).one _ _
      rcases h3 with rfl | rfl | rfl
      · have HR3 : Hid (Order.cmp (h + 1) ([X, Y, Z] : List Val)[j] ([X, Y, Z] : List Val)[i] = 1) := HR2.out.trans (by rfl)
        have HQ := fun d os => Calls.regrown_of (P := Try.prog) (d := d) (os := os) (v := .int .i64 (-1)) ((refCompare_any (h + 1) _ _ ([X, Y, Z] : List Val)[i] ([X, Y, Z] : List Val)[j] _ _ (grow (redrawn wa d) os) (VIn.keep (below_regrown wa d os) HVi.out) (VIn.keep (below_regrown wa d os) HVj.out)).mono fun e w3 ⟨he, hb⟩ => ⟨by rw [he, ← HR.out], hb⟩)
        have HQ2 := fun d os => Calls.regrown_of (P := Try.prog) (d := d) (os := os) (v := .int .i64 (1)) ((compare_any (h + 1) _ _ ([X, Y, Z] : List Val)[j] ([X, Y, Z] : List Val)[i] _ _ (grow (redrawn wa d) os) (VIn.keep (below_regrown wa d os) HVj.out) (VIn.keep (below_regrown wa d os) HVi.out)).mono fun e w3 ⟨he, hb⟩ => ⟨by rw [he, HR3.out], hb⟩)
        have qdc0 := fun d os => cell_regrown dc0 d os
        have qdc1 := fun d os => cell_regrown dc1 d os
        have qdc2 := fun d os => cell_regrown dc2 d os
        have qdc3 := fun d os => cell_regrown dc3 d os
        have qdc4 := fun d os => cell_regrown dc4 d os
        have qdc5 := fun d os => cell_regrown dc5 d os
        have qqc0 := fun d os => cell_regrown qc0 d os
        have qqc1 := fun d os => cell_regrown qc1 d os
        have qqc2 := fun d os => cell_regrown qc2 d os
        have qqc3 := fun d os => cell_regrown qc3 d os
        have qqc4 := fun d os => cell_regrown qc4 d os
        have qqc5 := fun d os => cell_regrown qc5 d os
        go_wp2_with fail
        refine wp_region_quiet_below (by kernel_rfl) (by kernel_rfl) ?_
        repeat (go_big_quiet_step (first | (go_at_call 12; exact HQ _ _) | (go_at_call 11; exact HQ2 _ _)))
        refine wpQuiet_nil ?_
        intro wb hw'
        have HBB : Hid (Below W0.heap.size W0 wb) := by
          obtain ⟨dq, hw''⟩ := hw'
          rw [hw'']
          exact HBA.out.trans ((below_regrown wa dq.d dq.os).mono HBA.out.size)
        clear hw'
        clear HQ HQ2 HVi HVj dc0 dc1 dc2 dc3 dc4 dc5 qc0 qc1 qc2 qc3 qc4 qc5 qdc0 qdc1 qdc2 qdc3 qdc4 qdc5 qqc0 qqc1 qqc2 qqc3 qqc4 qqc5
        go_wp2_with fail
        go_loopw [8] (fun k wr => ∃ n : Nat, k = .int .i64 n ∧ n ≤ 3 ∧ Hid (Below W0.heap.size W0 wr)) (fun k _ => 3 - (intOf k).toNat)
        case atStart => exact ⟨0, rfl, by omega, HBB⟩
        case round =>
          obtain ⟨k, rfl, hk, HBK⟩ := hrel
          by_cases hltk : k < 3
          case neg =>
            go_wp2_with fail
            go_roundw
            case rel => exact ⟨j + 1, by go_num, by omega, HBK⟩
            case measure => simp [intOf]; omega
          have hdk : decide ((k : Int) < 3) = true := by rw [decide_eq_true_eq]; omega
          obtain ⟨d0, d1, d2, d3, d4, d5, hVi, dc0, dc1, dc2, dc3, dc4, dc5⟩ := item_at (HI.out wr HBK.out) i hil
          have HVi := Lib.hid hVi
          clear hVi
          obtain ⟨q0, q1, q2, q3, q4, q5, hVj, qc0, qc1, qc2, qc3, qc4, qc5⟩ := item_at (HI.out wr HBK.out) j hjl
          have HVj := Lib.hid hVj
          clear hVj
          have hkl : k < ([X, Y, Z] : List Val).length := by simpa using hltk
          obtain ⟨p0, p1, p2, p3, p4, p5, hVk, pc0, pc1, pc2, pc3, pc4, pc5⟩ := item_at (HI.out wr HBK.out) k hkl
          have HVk := Lib.hid hVk
          clear hVk
          obtain ⟨r3, hr3⟩ : ∃ r, r = Order.cmp (h + 1) ([X, Y, Z] : List Val)[j] ([X, Y, Z] : List Val)[k] := ⟨_, rfl⟩
          obtain ⟨r4, hr4⟩ : ∃ r, r = Order.cmp (h + 1) ([X, Y, Z] : List Val)[i] ([X, Y, Z] : List Val)[k] := ⟨_, rfl⟩
          have HT : Hid (r3 ≤ 0 → r4 ≤ 0) := fun z => by
            rw [hr4]; rw [hr3] at z
            exact (Order.cmp_cmp (h + 1)).trans _ _ _ (by rw [← HR.out]; decide) z
          have HR3' := Lib.hid hr3; have HR4' := Lib.hid hr4
          clear hr3 hr4
          by_cases h3 : r3 ≤ 0
          · have h4 : r4 ≤ 0 := HT.out h3
            have h5 : ¬ 0 < r4 := by omega
            have HQ := fun d os => Calls.regrown_of (P := Try.prog) (d := d) (os := os) (v := .int .i64 (r3)) ((compare_any (h + 1) _ _ ([X, Y, Z] : List Val)[j] ([X, Y, Z] : List Val)[k] _ _ (grow (redrawn wr d) os) (VIn.keep (below_regrown wr d os) HVj.out) (VIn.keep (below_regrown wr d os) HVk.out)).mono fun e w3 ⟨he, hb⟩ => ⟨by rw [he, HR3'.out], hb⟩)
            have HQ2 := fun d os => Calls.regrown_of (P := Try.prog) (d := d) (os := os) (v := .int .i64 (r4)) ((compare_any (h + 1) _ _ ([X, Y, Z] : List Val)[i] ([X, Y, Z] : List Val)[k] _ _ (grow (redrawn wr d) os) (VIn.keep (below_regrown wr d os) HVi.out) (VIn.keep (below_regrown wr d os) HVk.out)).mono fun e w3 ⟨he, hb⟩ => ⟨by rw [he, HR4'.out], hb⟩)
            have qdc0 := fun d os => cell_regrown dc0 d os
            have qdc1 := fun d os => cell_regrown dc1 d os
            have qdc2 := fun d os => cell_regrown dc2 d os
            have qdc3 := fun d os => cell_regrown dc3 d os
            have qdc4 := fun d os => cell_regrown dc4 d os
            have qdc5 := fun d os => cell_regrown dc5 d os
            have qqc0 := fun d os => cell_regrown qc0 d os
            have qqc1 := fun d os => cell_regrown qc1 d os
            have qqc2 := fun d os => cell_regrown qc2 d os
            have qqc3 := fun d os => cell_regrown qc3 d os
            have qqc4 := fun d os => cell_regrown qc4 d os
            have qqc5 := fun d os => cell_regrown qc5 d os
            have qpc0 := fun d os => cell_regrown pc0 d os
            have qpc1 := fun d os => cell_regrown pc1 d os
            have qpc2 := fun d os => cell_regrown pc2 d os
            have qpc3 := fun d os => cell_regrown pc3 d os
            have qpc4 := fun d os => cell_regrown pc4 d os
            have qpc5 := fun d os => cell_regrown pc5 d os
            go_wp2_with fail
            refine wp_region_quiet_below (by kernel_rfl) (by kernel_rfl) ?_
            repeat (go_big_quiet_step ((go_at_call 11; first | (with_reducible exact HQ _ _) | (with_reducible exact HQ2 _ _))))
            refine wpQuiet_nil ?_
            intro wk hw'
            have HBE : Hid (Below W0.heap.size W0 wk) := by
              obtain ⟨dq, hw''⟩ := hw'
              rw [hw'']
              exact HBK.out.trans ((below_regrown wr dq.d dq.os).mono HBK.out.size)
            clear hw'
            go_wp2_with fail
            go_roundw
            case rel => exact ⟨k + 1, by go_num, by omega, HBE⟩
            case measure => simp [intOf]; omega
          · have h4 : decide (r3 ≤ 0) = false := decide_eq_false h3
            have HQ := fun d os => Calls.regrown_of (P := Try.prog) (d := d) (os := os) (v := .int .i64 (r3)) ((compare_any (h + 1) _ _ ([X, Y, Z] : List Val)[j] ([X, Y, Z] : List Val)[k] _ _ (grow (redrawn wr d) os) (VIn.keep (below_regrown wr d os) HVj.out) (VIn.keep (below_regrown wr d os) HVk.out)).mono fun e w3 ⟨he, hb⟩ => ⟨by rw [he, HR3'.out], hb⟩)
            have qdc0 := fun d os => cell_regrown dc0 d os
            have qdc1 := fun d os => cell_regrown dc1 d os
            have qdc2 := fun d os => cell_regrown dc2 d os
            have qdc3 := fun d os => cell_regrown dc3 d os
            have qdc4 := fun d os => cell_regrown dc4 d os
            have qdc5 := fun d os => cell_regrown dc5 d os
            have qqc0 := fun d os => cell_regrown qc0 d os
            have qqc1 := fun d os => cell_regrown qc1 d os
            have qqc2 := fun d os => cell_regrown qc2 d os
            have qqc3 := fun d os => cell_regrown qc3 d os
            have qqc4 := fun d os => cell_regrown qc4 d os
            have qqc5 := fun d os => cell_regrown qc5 d os
            have qpc0 := fun d os => cell_regrown pc0 d os
            have qpc1 := fun d os => cell_regrown pc1 d os
            have qpc2 := fun d os => cell_regrown pc2 d os
            have qpc3 := fun d os => cell_regrown pc3 d os
            have qpc4 := fun d os => cell_regrown pc4 d os
            have qpc5 := fun d os => cell_regrown pc5 d os
            go_wp2_with fail
            refine wp_region_quiet_below (by kernel_rfl) (by kernel_rfl) ?_
            repeat (go_big_quiet_step ((go_at_call 11; with_reducible exact HQ _ _)))
            refine wpQuiet_nil ?_
            intro wk hw'
            have HBE : Hid (Below W0.heap.size W0 wk) := by
              obtain ⟨dq, hw''⟩ := hw'
              rw [hw'']
              exact HBK.out.trans ((below_regrown wr dq.d dq.os).mono HBK.out.size)
            clear hw'
            go_wp2_with fail
            go_roundw
            case rel => exact ⟨k + 1, by go_num, by omega, HBE⟩
            case measure => simp [intOf]; omega
      · have HR3 : Hid (Order.cmp (h + 1) ([X, Y, Z] : List Val)[j] ([X, Y, Z] : List Val)[i] = 0) := HR2.out.trans (by rfl)
        have HQ := fun d os => Calls.regrown_of (P := Try.prog) (d := d) (os := os) (v := .int .i64 (0)) ((refCompare_any (h + 1) _ _ ([X, Y, Z] : List Val)[i] ([X, Y, Z] : List Val)[j] _ _ (grow (redrawn wa d) os) (VIn.keep (below_regrown wa d os) HVi.out) (VIn.keep (below_regrown wa d os) HVj.out)).mono fun e w3 ⟨he, hb⟩ => ⟨by rw [he, ← HR.out], hb⟩)
        have HQ2 := fun d os => Calls.regrown_of (P := Try.prog) (d := d) (os := os) (v := .int .i64 (0)) ((compare_any (h + 1) _ _ ([X, Y, Z] : List Val)[j] ([X, Y, Z] : List Val)[i] _ _ (grow (redrawn wa d) os) (VIn.keep (below_regrown wa d os) HVj.out) (VIn.keep (below_regrown wa d os) HVi.out)).mono fun e w3 ⟨he, hb⟩ => ⟨by rw [he, HR3.out], hb⟩)
        have qdc0 := fun d os => cell_regrown dc0 d os
        have qdc1 := fun d os => cell_regrown dc1 d os
        have qdc2 := fun d os => cell_regrown dc2 d os
        have qdc3 := fun d os => cell_regrown dc3 d os
        have qdc4 := fun d os => cell_regrown dc4 d os
        have qdc5 := fun d os => cell_regrown dc5 d os
        have qqc0 := fun d os => cell_regrown qc0 d os
        have qqc1 := fun d os => cell_regrown qc1 d os
        have qqc2 := fun d os => cell_regrown qc2 d os
        have qqc3 := fun d os => cell_regrown qc3 d os
        have qqc4 := fun d os => cell_regrown qc4 d os
        have qqc5 := fun d os => cell_regrown qc5 d os
        go_wp2_with fail
        refine wp_region_quiet_below (by kernel_rfl) (by kernel_rfl) ?_
        repeat (go_big_quiet_step (first | (go_at_call 12; exact HQ _ _) | (go_at_call 11; exact HQ2 _ _)))
        refine wpQuiet_nil ?_
        intro wb hw'
        have HBB : Hid (Below W0.heap.size W0 wb) := by
          obtain ⟨dq, hw''⟩ := hw'
          rw [hw'']
          exact HBA.out.trans ((below_regrown wa dq.d dq.os).mono HBA.out.size)
        clear hw'
        clear HQ HQ2 HVi HVj dc0 dc1 dc2 dc3 dc4 dc5 qc0 qc1 qc2 qc3 qc4 qc5 qdc0 qdc1 qdc2 qdc3 qdc4 qdc5 qqc0 qqc1 qqc2 qqc3 qqc4 qqc5
        go_wp2_with fail
        go_loopw [8] (fun k wr => ∃ n : Nat, k = .int .i64 n ∧ n ≤ 3 ∧ Hid (Below W0.heap.size W0 wr)) (fun k _ => 3 - (intOf k).toNat)
        case atStart => exact ⟨0, rfl, by omega, HBB⟩
        case round =>
          obtain ⟨k, rfl, hk, HBK⟩ := hrel
          by_cases hltk : k < 3
          case neg =>
            go_wp2_with fail
            go_roundw
            case rel => exact ⟨j + 1, by go_num, by omega, HBK⟩
            case measure => simp [intOf]; omega
          have hdk : decide ((k : Int) < 3) = true := by rw [decide_eq_true_eq]; omega
          obtain ⟨d0, d1, d2, d3, d4, d5, hVi, dc0, dc1, dc2, dc3, dc4, dc5⟩ := item_at (HI.out wr HBK.out) i hil
          have HVi := Lib.hid hVi
          clear hVi
          obtain ⟨q0, q1, q2, q3, q4, q5, hVj, qc0, qc1, qc2, qc3, qc4, qc5⟩ := item_at (HI.out wr HBK.out) j hjl
          have HVj := Lib.hid hVj
          clear hVj
          have hkl : k < ([X, Y, Z] : List Val).length := by simpa using hltk
          obtain ⟨p0, p1, p2, p3, p4, p5, hVk, pc0, pc1, pc2, pc3, pc4, pc5⟩ := item_at (HI.out wr HBK.out) k hkl
          have HVk := Lib.hid hVk
          clear hVk
          obtain ⟨r3, hr3⟩ : ∃ r, r = Order.cmp (h + 1) ([X, Y, Z] : List Val)[j] ([X, Y, Z] : List Val)[k] := ⟨_, rfl⟩
          obtain ⟨r4, hr4⟩ : ∃ r, r = Order.cmp (h + 1) ([X, Y, Z] : List Val)[i] ([X, Y, Z] : List Val)[k] := ⟨_, rfl⟩
          have HT : Hid (r3 ≤ 0 → r4 ≤ 0) := fun z => by
            rw [hr4]; rw [hr3] at z
            exact (Order.cmp_cmp (h + 1)).trans _ _ _ (by rw [← HR.out]; decide) z
          have HR3' := Lib.hid hr3; have HR4' := Lib.hid hr4
          clear hr3 hr4
          by_cases h3 : r3 ≤ 0
          · have h4 : r4 ≤ 0 := HT.out h3
            have h5 : ¬ 0 < r4 := by omega
            have HQ := fun d os => Calls.regrown_of (P := Try.prog) (d := d) (os := os) (v := .int .i64 (r3)) ((compare_any (h + 1) _ _ ([X, Y, Z] : List Val)[j] ([X, Y, Z] : List Val)[k] _ _ (grow (redrawn wr d) os) (VIn.keep (below_regrown wr d os) HVj.out) (VIn.keep (below_regrown wr d os) HVk.out)).mono fun e w3 ⟨he, hb⟩ => ⟨by rw [he, HR3'.out], hb⟩)
            have HQ2 := fun d os => Calls.regrown_of (P := Try.prog) (d := d) (os := os) (v := .int .i64 (r4)) ((compare_any (h + 1) _ _ ([X, Y, Z] : List Val)[i] ([X, Y, Z] : List Val)[k] _ _ (grow (redrawn wr d) os) (VIn.keep (below_regrown wr d os) HVi.out) (VIn.keep (below_regrown wr d os) HVk.out)).mono fun e w3 ⟨he, hb⟩ => ⟨by rw [he, HR4'.out], hb⟩)
            have qdc0 := fun d os => cell_regrown dc0 d os
            have qdc1 := fun d os => cell_regrown dc1 d os
            have qdc2 := fun d os => cell_regrown dc2 d os
            have qdc3 := fun d os => cell_regrown dc3 d os
            have qdc4 := fun d os => cell_regrown dc4 d os
            have qdc5 := fun d os => cell_regrown dc5 d os
            have qqc0 := fun d os => cell_regrown qc0 d os
            have qqc1 := fun d os => cell_regrown qc1 d os
            have qqc2 := fun d os => cell_regrown qc2 d os
            have qqc3 := fun d os => cell_regrown qc3 d os
            have qqc4 := fun d os => cell_regrown qc4 d os
            have qqc5 := fun d os => cell_regrown qc5 d os
            have qpc0 := fun d os => cell_regrown pc0 d os
            have qpc1 := fun d os => cell_regrown pc1 d os
            have qpc2 := fun d os => cell_regrown pc2 d os
            have qpc3 := fun d os => cell_regrown pc3 d os
            have qpc4 := fun d os => cell_regrown pc4 d os
            have qpc5 := fun d os => cell_regrown pc5 d os
            go_wp2_with fail
            refine wp_region_quiet_below (by kernel_rfl) (by kernel_rfl) ?_
            repeat (go_big_quiet_step ((go_at_call 11; first | (with_reducible exact HQ _ _) | (with_reducible exact HQ2 _ _))))
            refine wpQuiet_nil ?_
            intro wk hw'
            have HBE : Hid (Below W0.heap.size W0 wk) := by
              obtain ⟨dq, hw''⟩ := hw'
              rw [hw'']
              exact HBK.out.trans ((below_regrown wr dq.d dq.os).mono HBK.out.size)
            clear hw'
            go_wp2_with fail
            go_roundw
            case rel => exact ⟨k + 1, by go_num, by omega, HBE⟩
            case measure => simp [intOf]; omega
          · have h4 : decide (r3 ≤ 0) = false := decide_eq_false h3
            have HQ := fun d os => Calls.regrown_of (P := Try.prog) (d := d) (os := os) (v := .int .i64 (r3)) ((compare_any (h + 1) _ _ ([X, Y, Z] : List Val)[j] ([X, Y, Z] : List Val)[k] _ _ (grow (redrawn wr d) os) (VIn.keep (below_regrown wr d os) HVj.out) (VIn.keep (below_regrown wr d os) HVk.out)).mono fun e w3 ⟨he, hb⟩ => ⟨by rw [he, HR3'.out], hb⟩)
            have qdc0 := fun d os => cell_regrown dc0 d os
            have qdc1 := fun d os => cell_regrown dc1 d os
            have qdc2 := fun d os => cell_regrown dc2 d os
            have qdc3 := fun d os => cell_regrown dc3 d os
            have qdc4 := fun d os => cell_regrown dc4 d os
            have qdc5 := fun d os => cell_regrown dc5 d os
            have qqc0 := fun d os => cell_regrown qc0 d os
            have qqc1 := fun d os => cell_regrown qc1 d os
            have qqc2 := fun d os => cell_regrown qc2 d os
            have qqc3 := fun d os => cell_regrown qc3 d os
            have qqc4 := fun d os => cell_regrown qc4 d os
            have qqc5 := fun d os => cell_regrown qc5 d os
            have qpc0 := fun d os => cell_regrown pc0 d os
            have qpc1 := fun d os => cell_regrown pc1 d os
            have qpc2 := fun d os => cell_regrown pc2 d os
            have qpc3 := fun d os => cell_regrown pc3 d os
            have qpc4 := fun d os => cell_regrown pc4 d os
            have qpc5 := fun d os => cell_regrown pc5 d os
            go_wp2_with fail
            refine wp_region_quiet_below (by kernel_rfl) (by kernel_rfl) ?_
            repeat (go_big_quiet_step ((go_at_call 11; with_reducible exact HQ _ _)))
            refine wpQuiet_nil ?_
            intro wk hw'
            have HBE : Hid (Below W0.heap.size W0 wk) := by
              obtain ⟨dq, hw''⟩ := hw'
              rw [hw'']
              exact HBK.out.trans ((below_regrown wr dq.d dq.os).mono HBK.out.size)
            clear hw'
            go_wp2_with fail
            go_roundw
            case rel => exact ⟨k + 1, by go_num, by omega, HBE⟩
            case measure => simp [intOf]; omega
      · have HR3 : Hid (Order.cmp (h + 1) ([X, Y, Z] : List Val)[j] ([X, Y, Z] : List Val)[i] = -1) := HR2.out.trans (by rfl)
        have HQ := fun d os => Calls.regrown_of (P := Try.prog) (d := d) (os := os) (v := .int .i64 (1)) ((refCompare_any (h + 1) _ _ ([X, Y, Z] : List Val)[i] ([X, Y, Z] : List Val)[j] _ _ (grow (redrawn wa d) os) (VIn.keep (below_regrown wa d os) HVi.out) (VIn.keep (below_regrown wa d os) HVj.out)).mono fun e w3 ⟨he, hb⟩ => ⟨by rw [he, ← HR.out], hb⟩)
        have HQ2 := fun d os => Calls.regrown_of (P := Try.prog) (d := d) (os := os) (v := .int .i64 (-1)) ((compare_any (h + 1) _ _ ([X, Y, Z] : List Val)[j] ([X, Y, Z] : List Val)[i] _ _ (grow (redrawn wa d) os) (VIn.keep (below_regrown wa d os) HVj.out) (VIn.keep (below_regrown wa d os) HVi.out)).mono fun e w3 ⟨he, hb⟩ => ⟨by rw [he, HR3.out], hb⟩)
        have qdc0 := fun d os => cell_regrown dc0 d os
        have qdc1 := fun d os => cell_regrown dc1 d os
        have qdc2 := fun d os => cell_regrown dc2 d os
        have qdc3 := fun d os => cell_regrown dc3 d os
        have qdc4 := fun d os => cell_regrown dc4 d os
        have qdc5 := fun d os => cell_regrown dc5 d os
        have qqc0 := fun d os => cell_regrown qc0 d os
        have qqc1 := fun d os => cell_regrown qc1 d os
        have qqc2 := fun d os => cell_regrown qc2 d os
        have qqc3 := fun d os => cell_regrown qc3 d os
        have qqc4 := fun d os => cell_regrown qc4 d os
        have qqc5 := fun d os => cell_regrown qc5 d os
        go_wp2_with fail
        refine wp_region_quiet_below (by kernel_rfl) (by kernel_rfl) ?_
        repeat (go_big_quiet_step (first | (go_at_call 12; exact HQ _ _) | (go_at_call 11; exact HQ2 _ _)))
        refine wpQuiet_nil ?_
        intro wb hw'
        have HBB : Hid (Below W0.heap.size W0 wb) := by
          obtain ⟨dq, hw''⟩ := hw'
          rw [hw'']
          exact HBA.out.trans ((below_regrown wa dq.d dq.os).mono HBA.out.size)
        clear hw'
        clear HQ HQ2 HVi HVj dc0 dc1 dc2 dc3 dc4 dc5 qc0 qc1 qc2 qc3 qc4 qc5 qdc0 qdc1 qdc2 qdc3 qdc4 qdc5 qqc0 qqc1 qqc2 qqc3 qqc4 qqc5
        go_wp2_with fail
        go_loopw [8] (fun k wr => ∃ n : Nat, k = .int .i64 n ∧ n ≤ 3 ∧ Hid (Below W0.heap.size W0 wr)) (fun k _ => 3 - (intOf k).toNat)
        case atStart => exact ⟨0, rfl, by omega, HBB⟩
        case round =>
          obtain ⟨k, rfl, hk, HBK⟩ := hrel
          by_cases hltk : k < 3
          case neg =>
            go_wp2_with fail
            go_roundw
            case rel => exact ⟨j + 1, by go_num, by omega, HBK⟩
            case measure => simp [intOf]; omega
          have hdk : decide ((k : Int) < 3) = true := by rw [decide_eq_true_eq]; omega
          go_wp2_with fail
          refine wp_region_quiet_below (by kernel_rfl) (by kernel_rfl) ?_
          repeat (go_big_quiet_step (fail))
          refine wpQuiet_nil ?_
          intro wk hw'
          have HBE : Hid (Below W0.heap.size W0 wk) := by
            obtain ⟨dq, hw''⟩ := hw'
            rw [hw'']
            exact HBK.out.trans ((below_regrown wr dq.d dq.os).mono HBK.out.size)
          clear hw'
          go_wp2_with fail
          go_roundw
          case rel => exact ⟨k + 1, by go_num, by omega, HBE⟩
          case measure => simp [intOf]; omega
end Go.Proofs.Ytngdjdhfciodjaa
