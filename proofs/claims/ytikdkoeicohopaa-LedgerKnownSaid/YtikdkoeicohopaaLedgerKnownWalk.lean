/- THE WALK OF LedgerKnown. -/
import Derived.Test.YtikdkoeicohopaaLedgerPlaysWalk
namespace Go.Proofs.Ytikdkoeicohopaa
open Go.RowKit
set_option maxRecDepth 100000 in
set_option maxHeartbeats 2000000 in
theorem known_any (w : World) : Calls Try.prog 5 #[] w fun e w' => e = .returned (.bool true) ∧ Below w.heap.size w w' := by
  go_enter Try.func5, Try.ntmps5
  go_wp2_with fail
  refine (awake_any w).mono ?_
  rintro e w1 ⟨rfl, hB1⟩
  have HB1 := Lib.hid hB1
  clear hB1
  go_wp2_with fail
  refine (New_all (-5) _).mono ?_
  rw [show near (-5) = 0 by decide]
  rintro e w2 ⟨rfl, hw2⟩
  have hL := new_led w1 0 TL
  have hBl := (Below.refl w1.heap.size w1).alloc (Nat.le_refl _) (.cells #[.int .i64 0, .int .i64 0, .int .i64 0] TL)
  rw [show 39 = TL from rfl] at hw2
  rw [← hw2] at hL hBl
  have hz2 : w2.heap.size = w1.heap.size + 1 := by rw [hw2]; simp
  clear hw2
  have HL := Lib.hid hL
  have HBl := Lib.hid hBl
  have HZ2 := Lib.hid hz2
  clear hL hBl hz2
  go_wp2_with fail
  refine (New_all 16777217 _).mono ?_
  rw [show near 16777217 = 16777216 by decide]
  rintro e w3 ⟨rfl, hw3⟩
  have hb := new_led w2 16777216 TL
  have hBr := (Below.refl w2.heap.size w2).alloc (Nat.le_refl _) (.cells #[.int .i64 16777216, .int .i64 0, .int .i64 0] TL)
  rw [show 39 = TL from rfl] at hw3
  rw [← hw3] at hb hBr
  clear hw3
  have ha := HL.out.below hBr (by rw [HZ2.out]; omega)
  have hB0 : Below w.heap.size w w3 := HB1.out.trans ((HBl.out.mono HB1.out.size).trans (hBr.mono (by have := HB1.out.size; rw [HZ2.out]; omega)))
  obtain ⟨g1, hg1⟩ : ∃ g, g = w1.heap.size := ⟨_, rfl⟩
  obtain ⟨g2, hg2⟩ : ∃ g, g = w2.heap.size := ⟨_, rfl⟩
  have q1 : w.heap.size ≤ g1 := by rw [hg1]; exact HB1.out.size
  have q2 : g1 < g2 := by rw [hg2, HZ2.out, hg1]; omega
  rw [← hg1] at ha ⊢
  rw [← hg2] at hb ⊢
  have HA := Lib.hid ha
  have HB := Lib.hid hb
  have H0 := Lib.hid hB0
  clear hBr hg1 hg2 HL HBl HZ2 ha hb hB0 HB1
  go_wp2_with fail
  refine (Budget_all g1 TL 0 0 0 _ HA.out).mono ?_
  rintro e w' ⟨rfl, rfl⟩
  go_wp2_with fail
  refine (Budget_all g2 TL 16777216 0 0 _ HB.out).mono ?_
  rintro e w' ⟨rfl, rfl⟩
  go_wp2_with fail
  refine (Fits_all g1 TL 0 0 0 0 _ HA.out (by unfold Fair; omega)).mono ?_
  rw [show ftB 0 0 0 = true by decide]
  rintro e w4 ⟨rfl, m, hw⟩
  have ha := HA.out.drewN m
  have hb := HB.out.drewN m
  have h0 := below_drewN H0.out m
  rw [← hw] at ha hb h0
  clear hw HA HB H0
  have HA := Lib.hid ha
  have HB := Lib.hid hb
  have H0 := Lib.hid h0
  clear ha hb h0
  go_wp2_with fail
  refine (Fits_all g1 TL 0 0 0 1 _ HA.out (by unfold Fair; omega)).mono ?_
  rw [show ftB 0 0 1 = false by decide]
  rintro e w5 ⟨rfl, m, hw⟩
  have ha := HA.out.drewN m
  have hb := HB.out.drewN m
  have h0 := below_drewN H0.out m
  rw [← hw] at ha hb h0
  clear hw HA HB H0
  have HA := Lib.hid ha
  have HB := Lib.hid hb
  have H0 := Lib.hid h0
  clear ha hb h0
  go_wp2_with fail
  refine (Fits_all g2 TL 16777216 0 0 16777216 _ HB.out (by unfold Fair; omega)).mono ?_
  rw [show ftB 16777216 0 16777216 = true by decide]
  rintro e w6 ⟨rfl, m, hw⟩
  have ha := HA.out.drewN m
  have hb := HB.out.drewN m
  have h0 := below_drewN H0.out m
  rw [← hw] at ha hb h0
  clear hw HA HB H0
  have HA := Lib.hid ha
  have HB := Lib.hid hb
  have H0 := Lib.hid h0
  clear ha hb h0
  go_wp2_with fail
  refine (Fits_all g2 TL 16777216 0 0 16777217 _ HB.out (by unfold Fair; omega)).mono ?_
  rw [show ftB 16777216 0 16777217 = false by decide]
  rintro e w7 ⟨rfl, m, hw⟩
  have ha := HA.out.drewN m
  have hb := HB.out.drewN m
  have h0 := below_drewN H0.out m
  rw [← hw] at ha hb h0
  clear hw HA HB H0
  have HA := Lib.hid ha
  have HB := Lib.hid hb
  have H0 := Lib.hid h0
  clear ha hb h0
  go_wp2_with fail
  refine (Take_all g1 TL 0 0 0 16777217 _ HA.out (by unfold Fair; omega)).mono ?_
  rw [show tkB 0 16777217 = false by decide, show tkH 0 16777217 = 0 by decide, show tkM 0 0 16777217 = 0 by decide]
  rintro e w8 ⟨rfl, ha, hG⟩
  have hb := HB.out.grown hG (by omega)
  have h0 := below_grown H0.out hG (by omega) H0.out.size
  clear hG HA HB H0
  have HA := Lib.hid ha
  have HB := Lib.hid hb
  have H0 := Lib.hid h0
  clear ha hb h0
  go_wp2_with fail
  refine (Take_all g1 TL 0 0 0 16777216 _ HA.out (by unfold Fair; omega)).mono ?_
  rw [show tkB 0 16777216 = true by decide, show tkH 0 16777216 = 16777216 by decide, show tkM 0 0 16777216 = 16777216 by decide]
  rintro e w9 ⟨rfl, ha, hG⟩
  have hb := HB.out.grown hG (by omega)
  have h0 := below_grown H0.out hG (by omega) H0.out.size
  clear hG HA HB H0
  have HA := Lib.hid ha
  have HB := Lib.hid hb
  have H0 := Lib.hid h0
  clear ha hb h0
  go_wp2_with fail
  refine (Held_all g1 TL 0 16777216 16777216 _ HA.out).mono ?_
  rintro e w' ⟨rfl, rfl⟩
  go_wp2_with fail
  refine (Most_all g1 TL 0 16777216 16777216 _ HA.out).mono ?_
  rintro e w' ⟨rfl, rfl⟩
  go_wp2_with fail
  refine (Fits_all g1 TL 0 16777216 16777216 0 _ HA.out (by unfold Fair; omega)).mono ?_
  rw [show ftB 0 16777216 0 = false by decide]
  rintro e w10 ⟨rfl, m, hw⟩
  have ha := HA.out.drewN m
  have hb := HB.out.drewN m
  have h0 := below_drewN H0.out m
  rw [← hw] at ha hb h0
  clear hw HA HB H0
  have HA := Lib.hid ha
  have HB := Lib.hid hb
  have H0 := Lib.hid h0
  clear ha hb h0
  go_wp2_with fail
  refine (Give_all g1 TL 0 16777216 16777216 16777216 _ HA.out (by unfold Fair; omega)).mono ?_
  rw [show gvB 16777216 16777216 = true by decide, show gvH 16777216 16777216 = 0 by decide]
  rintro e w11 ⟨rfl, ha, hG⟩
  have hb := HB.out.grown hG (by omega)
  have h0 := below_grown H0.out hG (by omega) H0.out.size
  clear hG HA HB H0
  have HA := Lib.hid ha
  have HB := Lib.hid hb
  have H0 := Lib.hid h0
  clear ha hb h0
  go_wp2_with fail
  refine (Held_all g1 TL 0 0 16777216 _ HA.out).mono ?_
  rintro e w' ⟨rfl, rfl⟩
  go_wp2_with fail
  refine (Most_all g1 TL 0 0 16777216 _ HA.out).mono ?_
  rintro e w' ⟨rfl, rfl⟩
  go_wp2_with fail
  refine (Fits_all g1 TL 0 0 16777216 0 _ HA.out (by unfold Fair; omega)).mono ?_
  rw [show ftB 0 0 0 = true by decide]
  rintro e w12 ⟨rfl, m, hw⟩
  have ha := HA.out.drewN m
  have hb := HB.out.drewN m
  have h0 := below_drewN H0.out m
  rw [← hw] at ha hb h0
  clear hw HA HB H0
  have HA := Lib.hid ha
  have HB := Lib.hid hb
  have H0 := Lib.hid h0
  clear ha hb h0
  go_wp2_with fail
  go_ret
  exact ⟨rfl, H0.out⟩
end Go.Proofs.Ytikdkoeicohopaa
