/- PathReachesWalk. -/
import Derived.Test.YtdcfddiicclpeaaDoorMg24
import Derived.Test.YtdcfddiicclpeaaDoorMg25
import Derived.Test.YtdcfddiicclpeaaDoorMg36
import Derived.Test.YtdcfddiicclpeaaDoorMg15
import Derived.Test.YtdcfddiicclpeaaDoorMg21
import Derived.Test.YtdcfddiicclpeaaDoorMg17
import Derived.Test.YtdcfddiicclpeaaDoorMg20
import Derived.Test.YtdcfddiicclpeaaDoorMg10
import Derived.Test.YtdcfddiicclpeaaDoorMg8
set_option maxRecDepth 100000
section
namespace Go.Proofs.YtdcfddiicclpeaaDoor
open Go.RowKit
open Seal
open Bson (Val)
open Path
set_option maxRecDepth 100000 in
set_option maxHeartbeats 8000000 in
theorem reaches_any (Q : Nat → Prop) (h : Nat) (x : Val) (u : Value) (p : List ByteArray) (q : Value) (w : World) (hv : VIn w Q (h + 1) x u) (hp : NamesAt w q p) (hs : Short p) (hG : Ground w) :
    Calls Tryd.prog 3 #[u, q] w fun e w' => e = .returned (.bool true) ∧ Below w.heap.size w w' := by
  obtain ⟨ka, na, sa, ba, fa, la, bl, bc, fl, fc, ll, lc, rfl⟩ := hv.shape
  obtain ⟨pa, pc, rfl, hpc, hpc2, hst⟩ := hp
  obtain ⟨pn, hpn⟩ : ∃ n, n = p.length := ⟨_, rfl⟩
  rw [← hpn] at hpc ⊢
  have hb0 : Below w.heap.size w (w.alloc (.cells #[.int .i64 ka, .int .i64 na, .string sa, .slice ba bl bc, .slice fa fl fc, .slice la ll lc] 26)) := (Below.refl _ w).alloc (Nat.le_refl _) _
  have HB0 := Lib.hid hb0
  have HV0 := Lib.hid (VIn.keep hb0 hv)
  have HS0 := Lib.hid (SixIs.new w (.int .i64 ka) (.int .i64 na) (.string sa) (.slice ba bl bc) (.slice fa fl fc) (.slice la ll lc) 26)
  have HP0 := Lib.hid (StrsIn.keep hst hb0)
  have HG0 := Lib.hid (hG.keep hb0)
  have HPN := Lib.hid (And.intro hpn.symm (And.intro hpc hs))
  clear hb0 hv hst hG hpn hpc hs
  go_enter Tryd.func3, Tryd.ntmps3
  go_wp2_with fail
  generalize w.alloc (.cells #[.int .i64 ka, .int .i64 na, .string sa, .slice ba bl bc, .slice fa fl fc, .slice la ll lc] 26) = w0 at *
  go_at_call 11
  refine (awake_any _ HG0.out).mono ?_
  rintro e w1 ⟨rfl, hb1⟩
  have HB1 := Lib.hid hb1
  obtain ⟨s0, s1, s2, s3, s4, s5⟩ := HS0.out.keep hb1
  clear hb1
  go_wp2_with fail
  go_at_call 12
  refine (valid_does Q h x _ w1 (VIn.keep HB1.out HV0.out)).mono ?_
  rintro e w2 ⟨b, rfl, hwt, hb2⟩
  have HB2 : Hid (Below w0.heap.size w0 w2) := HB1.out.trans (hb2.mono HB1.out.size)
  clear hb2 s0 s1 s2 s3 s4 s5 HB1
  cases b with
  | false =>
    go_wp2_with fail
    go_ret
    exact ⟨rfl, HB0.out.trans (HB2.out.mono HB0.out.size)⟩
  | true =>
  have HWT := Lib.hid (hwt rfl)
  clear hwt
  go_wp2_with fail
  go_at_call 13
  refine (few_any _ p w2 ⟨pa, pn, pc, rfl, HPN.out.1.symm, Nat.le_trans HPN.out.2.1 hpc2, StrsIn.keep HP0.out HB2.out⟩ HPN.out.2.2).mono ?_
  rintro e w3 ⟨rfl, hb3⟩
  have HB3 : Hid (Below w0.heap.size w0 w3) := HB2.out.trans (hb3.mono HB2.out.size)
  clear hb3 HB2
  obtain ⟨bf, hbf⟩ : ∃ bf, bf = few p := ⟨_, rfl⟩
  rw [← hbf]
  clear hbf
  cases bf with
  | false =>
    go_wp2_with fail
    go_ret
    exact ⟨rfl, HB0.out.trans (HB3.out.mono HB0.out.size)⟩
  | true =>
  have HSK : Hid (∀ W, Below w0.heap.size w0 W → (W.cell? ⟨w.heap.size, 0, none⟩ = some (.int .i64 ka) ∧ W.cell? ⟨w.heap.size, 1, none⟩ = some (.int .i64 na) ∧ W.cell? ⟨w.heap.size, 2, none⟩ = some (.string sa) ∧ W.cell? ⟨w.heap.size, 3, none⟩ = some (.slice ba bl bc) ∧ W.cell? ⟨w.heap.size, 4, none⟩ = some (.slice fa fl fc) ∧ W.cell? ⟨w.heap.size, 5, none⟩ = some (.slice la ll lc))) := fun W hb => HS0.out.keep hb
  have HVK : Hid (∀ W, Below w0.heap.size w0 W → VIn W Q (h + 1) x (.agg #[.int .i64 ka, .int .i64 na, .string sa, .slice ba bl bc, .slice fa fl fc, .slice la ll lc])) := fun W hb => VIn.keep hb HV0.out
  have HPK : Hid (∀ W, Below w0.heap.size w0 W → StrsIn W pa p) := fun W hb => StrsIn.keep HP0.out hb
  have HGO : Hid (∀ W, Below w0.heap.size w0 W → Below w.heap.size w W) := fun W hb => HB0.out.trans (hb.mono HB0.out.size)
  have HAL : Hid ((Bson.all (p.length + h) x p).length ≤ 3000) := Nat.le_trans (all_le _ _ _ _ HV0.out.hgt) HWT.out
  clear HS0 HP0 HG0 HV0 HB0 HWT
  go_wp2_with fail
  have HD : Hid (Below w0.heap.size w0 w3.drew) := HB3.out.drew
  have hkeep := HSK.out _ HD.out
  refine wp_region_held_drew (S := fun W => W.cell? ⟨w.heap.size, 0, none⟩ = some (.int .i64 ka) ∧ W.cell? ⟨w.heap.size, 1, none⟩ = some (.int .i64 na) ∧ W.cell? ⟨w.heap.size, 2, none⟩ = some (.string sa) ∧ W.cell? ⟨w.heap.size, 3, none⟩ = some (.slice ba bl bc) ∧ W.cell? ⟨w.heap.size, 4, none⟩ = some (.slice fa fl fc) ∧ W.cell? ⟨w.heap.size, 5, none⟩ = some (.slice la ll lc)) (by kernel_rfl) (by exact hkeep) (fun hHeld => ?_)
  clear hkeep HB3
  generalize w3.drew = w4 at *
  refine wpAnyH_take (i := 0) (v := ?_) rfl (by kernel_rfl) (by kernel_rfl) (by kernel_rfl) (fun _ _ _ h => h) (Or.inl ⟨by kernel_rfl, ?_⟩) (by assumption) ?_
  rotate_left
  · intro wS hSw
    (try dsimp only at hSw)
    go_simp
    try (with_reducible rfl)
  try simp only [List.getElem_toArray, List.getElem_cons_succ, List.getElem_cons_zero, Act.put, List.setIfInBounds_toArray, List.set_cons_zero, List.set_cons_succ]
  refine wpAnyH_take (i := 1) (v := ?_) rfl (by kernel_rfl) (by kernel_rfl) (by kernel_rfl) (fun _ _ _ h => h) (Or.inl ⟨by kernel_rfl, ?_⟩) (by assumption) ?_
  rotate_left
  · intro wS hSw
    (try dsimp only at hSw)
    go_simp
    try (with_reducible rfl)
  try simp only [List.getElem_toArray, List.getElem_cons_succ, List.getElem_cons_zero, Act.put, List.setIfInBounds_toArray, List.set_cons_zero, List.set_cons_succ]
  refine wpAnyH_take (i := 3) (v := ?_) rfl (by kernel_rfl) (by kernel_rfl) (by kernel_rfl) (fun _ _ _ h => h) (Or.inl ⟨by kernel_rfl, ?_⟩) (by assumption) ?_
  rotate_left
  · intro wS hSw
    (try dsimp only at hSw)
    go_simp
    try (with_reducible rfl)
  try simp only [List.getElem_toArray, List.getElem_cons_succ, List.getElem_cons_zero, Act.put, List.setIfInBounds_toArray, List.set_cons_zero, List.set_cons_succ]
  refine wpAnyH_take (i := 4) (v := ?_) rfl (by kernel_rfl) (by kernel_rfl) (by kernel_rfl) (fun _ _ _ h => h) (Or.inl ⟨by kernel_rfl, ?_⟩) (by assumption) ?_
  rotate_left
  · intro wS hSw
    (try dsimp only at hSw)
    go_simp
    try (with_reducible rfl)
  try simp only [List.getElem_toArray, List.getElem_cons_succ, List.getElem_cons_zero, Act.put, List.setIfInBounds_toArray, List.set_cons_zero, List.set_cons_succ]
  refine wpAnyH_ready (rs := [2]) (by kernel_rfl) (by simp) ?_
  refine AllReadyH.cons rfl (fun K hK => ?_) AllReadyH.nil
  go_simp
  go_at_call 15
  refine (Reach_any (p.length + h) h p pa pn pc (Nat.le_refl _) HPN.out.1 HPN.out.2.1 Q x _ w4 (HVK.out _ HD.out) (HPK.out _ HD.out)).mono ?_
  rintro e w5 ⟨r1, rfl, hr1, hb5⟩
  have HD5 : Hid (Below w0.heap.size w0 w5) := HD.out.trans (hb5.mono HD.out.size)
  have HR1 := Lib.hid hr1
  clear hb5 hr1 HD
  refine hK.out _ _ (by exact HSK.out _ HD5.out) (fun hHeld => ?_)
  clear hK K
  try simp only [List.getElem_toArray, List.getElem_cons_succ, List.getElem_cons_zero, Act.put, List.setIfInBounds_toArray, List.set_cons_zero, List.set_cons_succ]
  refine wpAnyH_ready (rs := [5]) (by kernel_rfl) (by simp) ?_
  refine AllReadyH.cons rfl (fun K hK => ?_) AllReadyH.nil
  go_simp
  go_at_call 16
  refine (rreach_any (p.length + h) h p pa pn pc (Nat.le_refl _) HPN.out.1 HPN.out.2.1 Q x _ w5 (HVK.out _ HD5.out) (HPK.out _ HD5.out)).mono ?_
  rintro e w6 ⟨r2, rfl, hr2, hb6⟩
  have HD6 : Hid (Below w0.heap.size w0 w6) := HD5.out.trans (hb6.mono HD5.out.size)
  have HR2 := Lib.hid hr2
  have HR1b := Lib.hid (VIn.keep hb6 HR1.out)
  clear hb6 hr2 HD5 HR1
  refine hK.out _ _ (by exact HSK.out _ HD6.out) (fun hHeld => ?_)
  clear hK K
  try simp only [List.getElem_toArray, List.getElem_cons_succ, List.getElem_cons_zero, Act.put, List.setIfInBounds_toArray, List.set_cons_zero, List.set_cons_succ]
  refine wpAnyH_ready (rs := [6]) (by kernel_rfl) (by simp) ?_
  refine AllReadyH.cons rfl (fun K hK => ?_) AllReadyH.nil
  go_simp
  go_at_call 14
  refine (same_any _ _ _ _ _ _ _ _ w6 HR1b.out HR2.out).mono ?_
  rintro e w7 ⟨b7, rfl, hb7, hw7⟩
  obtain rfl := hb7.2 rfl
  have HD7 : Hid (Below w0.heap.size w0 w7) := HD6.out.trans (hw7.mono HD6.out.size)
  clear hb7 hw7 HD6 HR1b HR2
  refine hK.out _ _ (by exact HSK.out _ HD7.out) (fun hHeld => ?_)
  clear hK K
  try simp only [List.getElem_toArray, List.getElem_cons_succ, List.getElem_cons_zero, Act.put, List.setIfInBounds_toArray, List.set_cons_zero, List.set_cons_succ]
  refine wpAnyH_take (i := 7) (v := ?_) rfl (by kernel_rfl) (by kernel_rfl) (by kernel_rfl) (fun _ _ _ h => h) (Or.inl ⟨by kernel_rfl, ?_⟩) (by assumption) ?_
  rotate_left
  · intro wS hSw
    (try dsimp only at hSw)
    go_simp
    try (with_reducible rfl)
  try simp only [List.getElem_toArray, List.getElem_cons_succ, List.getElem_cons_zero, Act.put, List.setIfInBounds_toArray, List.set_cons_zero, List.set_cons_succ]
  refine wpAnyH_take (i := 8) (v := ?_) rfl (by kernel_rfl) (by kernel_rfl) (by kernel_rfl) (fun _ _ _ h => h) (Or.inl ⟨by kernel_rfl, ?_⟩) (by assumption) ?_
  rotate_left
  · intro wS hSw
    (try dsimp only at hSw)
    go_simp
    try (with_reducible rfl)
  try simp only [List.getElem_toArray, List.getElem_cons_succ, List.getElem_cons_zero, Act.put, List.setIfInBounds_toArray, List.set_cons_zero, List.set_cons_succ]
  refine wpAnyH_take (i := 9) (v := ?_) rfl (by kernel_rfl) (by kernel_rfl) (by kernel_rfl) (fun _ _ _ h => h) (Or.inl ⟨by kernel_rfl, ?_⟩) (by assumption) ?_
  rotate_left
  · intro wS hSw
    (try dsimp only at hSw)
    go_simp
    try (with_reducible rfl)
  try simp only [List.getElem_toArray, List.getElem_cons_succ, List.getElem_cons_zero, Act.put, List.setIfInBounds_toArray, List.set_cons_zero, List.set_cons_succ]
  refine wpAnyH_take (i := 11) (v := ?_) rfl (by kernel_rfl) (by kernel_rfl) (by kernel_rfl) (fun _ _ _ h => h) (Or.inl ⟨by kernel_rfl, ?_⟩) (by assumption) ?_
  rotate_left
  · intro wS hSw
    (try dsimp only at hSw)
    go_simp
    try (with_reducible rfl)
  try simp only [List.getElem_toArray, List.getElem_cons_succ, List.getElem_cons_zero, Act.put, List.setIfInBounds_toArray, List.set_cons_zero, List.set_cons_succ]
  refine wpAnyH_take (i := 12) (v := ?_) rfl (by kernel_rfl) (by kernel_rfl) (by kernel_rfl) (fun _ _ _ h => h) (Or.inl ⟨by kernel_rfl, ?_⟩) (by assumption) ?_
  rotate_left
  · intro wS hSw
    (try dsimp only at hSw)
    go_simp
    try (with_reducible rfl)
  try simp only [List.getElem_toArray, List.getElem_cons_succ, List.getElem_cons_zero, Act.put, List.setIfInBounds_toArray, List.set_cons_zero, List.set_cons_succ]
  refine wpAnyH_ready (rs := [10]) (by kernel_rfl) (by simp) ?_
  refine AllReadyH.cons rfl (fun K hK => ?_) AllReadyH.nil
  go_simp
  go_at_call 18
  refine (All_any (p.length + h) h p pa pn pc (Nat.le_refl _) HPN.out.1 HPN.out.2.1 Q x _ w7 (HVK.out _ HD7.out) (HPK.out _ HD7.out) (Nat.le_trans HAL.out (by decide))).mono ?_
  rintro e w8 ⟨a8, c8, rfl, _, hi8, hw8⟩
  have HD8 : Hid (Below w0.heap.size w0 w8) := HD7.out.trans (hw8.mono HD7.out.size)
  have HI8 := Lib.hid hi8
  clear hw8 hi8 HD7
  refine hK.out _ _ (by exact HSK.out _ HD8.out) (fun hHeld => ?_)
  clear hK K
  try simp only [List.getElem_toArray, List.getElem_cons_succ, List.getElem_cons_zero, Act.put, List.setIfInBounds_toArray, List.set_cons_zero, List.set_cons_succ]
  refine wpAnyH_ready (rs := [13]) (by kernel_rfl) (by simp) ?_
  refine AllReadyH.cons rfl (fun K hK => ?_) AllReadyH.nil
  go_simp
  go_at_call 19
  refine (rall_any (h + 1) (p.length + h) h p pa pn pc (Nat.le_refl _) (Nat.le_refl _) HPN.out.1 HPN.out.2.1 Q x _ w8 (HVK.out _ HD8.out) (HPK.out _ HD8.out) (Nat.le_trans HAL.out (by decide))).mono ?_
  rintro e w9 ⟨v9, x9, rfl, hacc, hw9⟩
  have HD9 : Hid (Below w0.heap.size w0 w9) := HD8.out.trans (hw9.mono HD8.out.size)
  have HI8b := Lib.hid (HI8.out.kept (Kept.of_below hw9) (fun _ z => z) (fun _ _ z => VIn.keep (h := h + 1) hw9 z))
  obtain ⟨a9, c9, rfl, _, hi9⟩ := hacc.items (Q' := fun _ => True) (fun _ _ => trivial) (fun _ _ _ => trivial)
  have HI9 := Lib.hid hi9
  clear hw9 hi9 hacc HD8 HI8
  refine hK.out _ _ (by exact HSK.out _ HD9.out) (fun hHeld => ?_)
  clear hK K
  try simp only [List.getElem_toArray, List.getElem_cons_succ, List.getElem_cons_zero, Act.put, List.setIfInBounds_toArray, List.set_cons_zero, List.set_cons_succ]
  refine wpAnyH_ready (rs := [14]) (by kernel_rfl) (by simp) ?_
  refine AllReadyH.cons rfl (fun K hK => ?_) AllReadyH.nil
  go_simp
  go_at_call 17
  refine (sameAll_any (h + 1) (h + 1) _ _ _ _ a8 a9 _ c8 _ c9 w9 rfl rfl (by have := HAL.out; omega) (by have := HAL.out; omega) HI8b.out HI9.out).mono ?_
  rintro e w10 ⟨b10, rfl, hb10, hw10⟩
  obtain rfl := hb10.2 rfl
  have HDA : Hid (Below w0.heap.size w0 w10) := HD9.out.trans (hw10.mono HD9.out.size)
  clear hb10 hw10 HD9 HI8b HI9
  refine hK.out _ _ (by exact HSK.out _ HDA.out) (fun hHeld => ?_)
  clear hK K
  try simp only [List.getElem_toArray, List.getElem_cons_succ, List.getElem_cons_zero, Act.put, List.setIfInBounds_toArray, List.set_cons_zero, List.set_cons_succ]
  refine wpAnyH_take (i := 15) (v := ?_) rfl (by kernel_rfl) (by kernel_rfl) (by kernel_rfl) (fun _ _ _ h => h) (Or.inl ⟨by kernel_rfl, ?_⟩) (by assumption) ?_
  rotate_left
  · intro wS hSw
    (try dsimp only at hSw)
    go_simp
    try (with_reducible rfl)
  try simp only [List.getElem_toArray, List.getElem_cons_succ, List.getElem_cons_zero, Act.put, List.setIfInBounds_toArray, List.set_cons_zero, List.set_cons_succ]
  refine wpAnyH_take (i := 16) (v := ?_) rfl (by kernel_rfl) (by kernel_rfl) (by kernel_rfl) (fun _ _ _ h => h) (Or.inl ⟨by kernel_rfl, ?_⟩) (by assumption) ?_
  rotate_left
  · intro wS hSw
    (try dsimp only at hSw)
    go_simp
    try (with_reducible rfl)
  try simp only [List.getElem_toArray, List.getElem_cons_succ, List.getElem_cons_zero, Act.put, List.setIfInBounds_toArray, List.set_cons_zero, List.set_cons_succ]
  refine wpAnyH_done (by kernel_rfl) ?_ _
  go_wp2_with fail
  go_ret
  exact ⟨rfl, HGO.out _ HDA.out⟩
end Go.Proofs.YtdcfddiicclpeaaDoor
end
