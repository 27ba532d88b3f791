/- RefSameAll. -/
import Derived.Test.YtdgncpoephdboaaDoorMg12
set_option maxRecDepth 100000
section
namespace Go.Proofs.YtdgncpoephdboaaDoor
open Go.RowKit
open Seal
open Bson (Val)
open Go.Sort
set_option maxRecDepth 100000 in
set_option maxHeartbeats 2000000 in
theorem sameAll_any (H H2 : Nat) (Q Q2 : Nat → Prop) (l l2 : List Val) (a a2 : Option Addr) (n c n2 c2 : Nat) (w : World) (hn : l.length = n) (hn2 : l2.length = n2) (hb : n ≤ 9223372036854775807) (hb2 : n2 ≤ 9223372036854775807)
    (hI : ItemsIn w Q (VIn w Q H) a l) (hI2 : ItemsIn w Q2 (VIn w Q2 H2) a2 l2) :
    Calls Tryd.prog 12 #[.slice a n c, .slice a2 n2 c2] w (SamePost l l2 w) := by
  have HN := Lib.hid hn; have HN2 := Lib.hid hn2; have HI := Lib.hid hI; have HI2 := Lib.hid hI2
  clear hI hI2
  by_cases en : n = n2
  case neg =>
    have hbn : ((n : Int) != (n2 : Int)) = true := by rw [bne_iff_ne]; omega
    have HNE : Hid (l ≠ l2) := fun e => en (by rw [← hn, ← hn2, e])
    clear hn hn2
    go_enter Tryd.func12, Tryd.ntmps12
    go_wp2_with fail
    go_ret
    exact ⟨false, rfl, by simp [HNE.out], Below.refl _ _⟩
  subst en
  clear hn hn2
  go_enter Tryd.func12, Tryd.ntmps12
  go_wp2_with fail
  go_loopw [5] (fun i wr => ∃ k : Nat, i = .int .i64 k ∧ k ≤ n ∧ Hid (l.take k = l2.take k) ∧ Hid (Below w.heap.size w wr)) (fun i _ => n - (intOf i).toNat)
  case atStart => exact ⟨0, rfl, Nat.zero_le _, rfl, Below.refl _ _⟩
  case round =>
    obtain ⟨k, rfl, hk, HT, HB⟩ := hrel
    by_cases hlt : k < n
    · have hk1 : k < l.length := by have := HN.out; omega
      have hk2 : k < l2.length := by have := HN2.out; omega
      obtain ⟨g, o, rfl, _, hall⟩ := HI.out.resolve_left (fun e => by rw [e] at hk1; simp at hk1)
      obtain ⟨g2, o2, rfl, _, hall2⟩ := HI2.out.resolve_left (fun e => by rw [e] at hk2; simp at hk2)
      obtain ⟨v1, hsix, hV⟩ := hall k hk1
      obtain ⟨v2, hsix2, hV2⟩ := hall2 k hk2
      have hV := Lib.hid (VIn.keep HB.out hV)
      have hV2 := Lib.hid (VIn.keep HB.out hV2)
      obtain ⟨d0, d1, d2, d3, d4, d5, rfl, s0, s1, s2, s3, s4, s5⟩ := hsix.keep HB.out
      obtain ⟨q0, q1, q2, q3, q4, q5, rfl, r0, r1, r2, r3, r4, r5⟩ := hsix2.keep HB.out
      obtain ⟨z1, hz1⟩ : ∃ m, m = l[k] := ⟨_, rfl⟩
      obtain ⟨z2, hz2⟩ : ∃ m, m = l2[k] := ⟨_, rfl⟩
      rw [← hz1] at hV
      rw [← hz2] at hV2
      have HM1 := Lib.hid hz1; have HM2 := Lib.hid hz2
      clear hall hall2 hz1 hz2
      obtain ⟨r, hr⟩ : ∃ r : Bool, (r = true ↔ z1 = z2) := by
        by_cases e : z1 = z2
        · exact ⟨true, by simp [e]⟩
        · exact ⟨false, by simp [e]⟩
      have HQ := fun d os => Calls.regrown_of (P := Tryd.prog) (d := d) (os := os) (v := .bool r) ((same_any H H2 Q Q2 z1 z2 _ _ (grow (redrawn wr d) os) (VIn.keep (below_regrown wr d os) hV.out) (VIn.keep (below_regrown wr d os) hV2.out)).mono fun e w3 ⟨r2, he, hr2, hb⟩ => ⟨by rw [he]; congr 2; rw [Bool.eq_iff_iff]; exact hr2.trans hr.symm, hb⟩)
      have qs0 := fun d os => cell_regrown s0 d os
      have qs1 := fun d os => cell_regrown s1 d os
      have qs2 := fun d os => cell_regrown s2 d os
      have qs3 := fun d os => cell_regrown s3 d os
      have qs4 := fun d os => cell_regrown s4 d os
      have qs5 := fun d os => cell_regrown s5 d os
      have qr0 := fun d os => cell_regrown r0 d os
      have qr1 := fun d os => cell_regrown r1 d os
      have qr2 := fun d os => cell_regrown r2 d os
      have qr3 := fun d os => cell_regrown r3 d os
      have qr4 := fun d os => cell_regrown r4 d os
      have qr5 := fun d os => cell_regrown r5 d os
      go_wp2_with fail
      refine wp_region_quiet_below (by kernel_rfl) (by kernel_rfl) ?_
      repeat (go_big_quiet_step (exact HQ _ _))
      refine wpQuiet_nil ?_
      intro _ hw'
      obtain ⟨⟨dq, osq⟩, hw''⟩ := hw'
      subst hw''
      have HB5 : Hid (Below w.heap.size w (grow (redrawn wr dq) osq)) := HB.out.trans ((below_regrown wr dq osq).mono HB.out.size)
      have HR := Lib.hid hr
      clear HQ qs0 qs1 qs2 qs3 qs4 qs5 qr0 qr1 qr2 qr3 qr4 qr5 hr
      cases r with
      | true =>
        have HT2 : Hid (l.take (k + 1) = l2.take (k + 1)) := take_next hk1 hk2 HT.out (by rw [← HM1.out, ← HM2.out, HR.out.1 rfl])
        go_wp2_with fail
        go_roundw
        case rel => exact ⟨k + 1, by go_num, by omega, HT2, HB5⟩
        case measure => simp [intOf]; omega
      | false =>
        have HNE : Hid (l ≠ l2) := take_ne hk1 hk2 (by rw [← HM1.out, ← HM2.out]; intro e2; exact absurd (HR.out.2 e2) (by simp))
        go_wp2_with fail
        go_ret
        exact ⟨false, rfl, by simp [HNE.out], HB5.out⟩
    · have hkk : k = n := by omega
      subst hkk
      have HEQ : Hid (l = l2) := by
        have := HT.out
        rw [List.take_of_length_le (by rw [HN.out]; exact Nat.le_refl _), List.take_of_length_le (by rw [HN2.out]; exact Nat.le_refl _)] at this
        exact this
      go_wp2_with fail
      go_ret
      exact ⟨true, rfl, by simp [HEQ.out], HB.out⟩
end Go.Proofs.YtdgncpoephdboaaDoor
end
