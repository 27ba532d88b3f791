/- THE WALK OF DiskFails. -/
import Derived.Test.YtbkiahnljklhpaaDoorDiskAwake
import Derived.Test.YtbkiahnljklhpaaDoorDiskPlan
import Derived.RegionTactic
import Derived.BigRegion
import Derived.BigGuard
import Derived.Deep.RegionHeld3
import Derived.Deep.QuietTactic
import Derived.BigQuiet
namespace Go.Proofs.YtbkiahnljklhpaaDoor
open Go.RowKit
open Seal
def fiveSix : List Nat := ((noughts 64).set 0 5).set 63 6
theorem five_len : fiveSix.length = 64 := by decide
theorem five_oct : Oct fiveSix := by intro c hc; revert c; decide
theorem five_cells : ((madeCells #[Value.int .u8 0] 64).setIfInBounds 0 (Value.int .u8 5)).setIfInBounds 63 (Value.int .u8 6) = (u8s fiveSix).toArray := by kernel_rfl
/-- What DiskFails keeps from round to round: i rounds are to come from i on. -/
structure FailInv (w0 w : World) (g bb i a k : Nat) (s : Disk.St) (own : Nat → Nat) : Prop where
  disk : DiskAt w g s own
  page : s.page = 64
  most : s.most = 40
  ops : s.ops = 1 + i
  begun : s.begun = 2
  plan : ∀ j, 0 < j → s.plan j = if j = a then [k] else []
  zero : s.pages.getD 0 none = some fiveSix
  few : Disk.live s.pages ≤ i
  row : Row w bb fiveSix
  free : own bb = 0
  below : Below w0.heap.size w0 w
  low : ∀ i, i < w0.heap.size → own i = 0
theorem FailInv.step {w0 w w' : World} {g bb i a k : Nat} {s s' : Disk.St} {own own' : Nat → Nat} (h : FailInv w0 w g bb i a k s own) (hD : DiskAt w' g s' own') (hO : Only own w w') (hs : ∀ b, b < w.heap.size → own' b = own b)
    (hp : s'.page = s.page) (hm : s'.most = s.most) (ho : s'.ops = s.ops + 1) (hb : s'.begun = s.begun) (hpl : s'.plan = s.plan) (hz : s'.pages.getD 0 none = some fiveSix) (hf : Disk.live s'.pages ≤ i + 1) : FailInv w0 w' g bb (i + 1) a k s' own' := by
  have hbl := heap_lt h.row
  refine ⟨hD, hp.trans h.page, hm.trans h.most, by rw [ho, h.ops]; omega, hb.trans h.begun, fun j hj => by rw [hpl]; exact h.plan j hj, hz, hf, ?_, (hs bb hbl).trans h.free, h.below.trans (hO.below h.below.size h.low), fun i hi => by rw [hs i (Nat.lt_of_lt_of_le hi h.below.size)]; exact h.low i hi⟩
  exact (hO.block bb hbl h.free).trans h.row
theorem FailInv.tick {w0 w w' : World} {g bb i a k : Nat} {s : Disk.St} {own : Nat → Nat} (h : FailInv w0 w g bb i a k s own) (hD : DiskAt w' g (tick s) own) (hO : Only own w w') : FailInv w0 w' g bb (i + 1) a k (Go.Proofs.YtbkiahnljklhpaaDoor.tick s) own :=
  h.step hD hO (fun _ _ => rfl) rfl rfl rfl rfl rfl h.zero (Nat.le_succ_of_le h.few)
theorem FailInv.hit {w0 w : World} {g bb i a k : Nat} {s : Disk.St} {own : Nat → Nat} (h : FailInv w0 w g bb i a k s own) (h1 : 1 ≤ i) (sort : Nat) : Disk.hit sort (s.plan (s.ops + 1 - s.begun)) = if i = a then Disk.app sort (0, 0) k else (0, 0) := by
  rw [h.ops, h.begun, show 1 + i + 1 - 2 = i by omega, h.plan i h1]
  split <;> rfl
theorem FailInv.world {w0 w w' : World} {g bb i a k : Nat} {s : Disk.St} {own : Nat → Nat} (h : FailInv w0 w g bb i a k s own) (hB : Below w.heap.size w w') : FailInv w0 w' g bb i a k s own :=
  ⟨h.disk.below hB, h.page, h.most, h.ops, h.begun, h.plan, h.zero, h.few, h.row.below hB (heap_lt h.row), h.free, h.below.trans (hB.mono h.below.size), h.low⟩
theorem planOf_one (a k j : Nat) (hk : 1 ≤ k ∧ k ≤ 4) : planOf [((a : Int), (k : Int))] j = if j = a then [k] else [] := by
  unfold planOf
  by_cases h : j = a
  · subst h
    rw [List.filter_cons_of_pos (by unfold strikes; simp; omega)]; simp
  · rw [List.filter_cons_of_neg (by unfold strikes; simp; omega), if_neg h]; simp
theorem getD_put' {l : Disk.Pages} {n : Nat} (p : Option (List Nat)) (hn : n ≤ l.length) : (Disk.put l n p).getD n none = p := by
  unfold Disk.put
  split
  · rename_i h; subst h; simp [List.getD_eq_getElem?_getD]
  · simp [List.getD_eq_getElem?_getD, show n < l.length by omega]
theorem getD_put_zero {l : Disk.Pages} {n : Nat} (p : Option (List Nat)) (hn : n ≠ 0) (hl : 0 < l.length) : (Disk.put l n p).getD 0 none = l.getD 0 none := by
  unfold Disk.put
  split
  · rw [List.getD_eq_getElem?_getD, List.getD_eq_getElem?_getD, List.getElem?_append_left hl]
  · simp [List.getD_eq_getElem?_getD, hn]
theorem tails (m : Nat) (hm : m < 2) : ((fiveSix.set 0 (fiveSix.getD 0 0 ^^^ m)).drop 1).take 63 = (fiveSix.drop 1).take 63 := by
  have : m = 0 ∨ m = 1 := by omega
  rcases this with rfl | rfl <;> decide
set_option maxRecDepth 100000 in
set_option maxHeartbeats 20000000 in
theorem fails_law (wh kk : Nat) (w : World) (hwh : wh < 256) (hkk : kk < 256) (hT : Bruijn w) (h0 : 0 < w.heap.size) :
    Calls Tryd.prog 3 #[.int .u8 (wh : Int), .int .u8 (kk : Int)] w fun e w' => e = .returned (.bool true) ∧ Below w.heap.size w w' := by
  have CA := Lib.hid (awake_any w hT h0)
  have HT := Lib.hid hT
  obtain ⟨a, ha⟩ : ∃ a, a = 1 + wh % 12 := ⟨_, rfl⟩
  obtain ⟨k, hk⟩ : ∃ k, k = 1 + kk % 4 := ⟨_, rfl⟩
  have ha1 : 1 ≤ a ∧ a ≤ 12 := by omega
  have hk1 : 1 ≤ k ∧ k ≤ 4 := by omega
  have haa : 1 + (wh : Int) % 12 = (a : Int) := by omega
  have hkq : 1 + (kk : Int) % 4 = (k : Int) := by omega
  clear hT ha hk
  have hmk := run_makeBytes 64 (by decide)
  rw [show ((64 : Nat) : Int) = 64 from rfl] at hmk
  go_enter Tryd.func3, Tryd.ntmps3
  go_wp2_with fail
  refine CA.out.mono ?_
  rintro e w1 ⟨rfl, hB1⟩
  have C1 := new_ok 64 40 w1 (by decide) (by decide)
  rw [show ((64 : Nat) : Int) = 64 from rfl, show ((40 : Nat) : Int) = 40 from rfl] at C1
  have HC1 := Lib.hid C1
  have HB1 := Lib.hid hB1
  clear hB1 C1
  go_wp2_with fail
  refine HC1.out.mono ?_
  rintro e w2 ⟨rfl, hD2, hB2, hz2⟩
  obtain ⟨g, hg⟩ : ∃ g, g = w1.heap.size + 1 := ⟨_, rfl⟩
  rw [← hg] at hD2 ⊢
  generalize newOwn w1.heap.size = own0 at hD2 hz2
  have hB02 : Below w.heap.size w w2 := HB1.out.trans (hB2.mono HB1.out.size)
  have hT2 : Bruijn w2 := HT.out.below hB02 h0
  have C2 := alloc_ok g (new 64 40) own0 w2 hD2 (by decide) hT2 (hz2 _ (Nat.lt_of_lt_of_le h0 HB1.out.size)) 0 rfl (by decide)
  rw [show Disk.leastFree (new 64 40).pages = 0 from rfl] at C2
  have HC2 := Lib.hid C2
  have HB02 := Lib.hid hB02
  have HZ2 := Lib.hid hz2
  clear C2 hD2 hB2 hz2 hT2 hB02 hg
  go_wp2_with fail
  refine HC2.out.mono ?_
  rintro e w3 ⟨rfl, own3, hD3, hO3, hs3⟩
  obtain ⟨s3, hs3e⟩ : ∃ s3 : Disk.St, s3 = { tick (new 64 40) with pages := Disk.put (new 64 40).pages 0 (some (List.replicate (new 64 40).page 0)) } := ⟨_, rfl⟩
  rw [← hs3e] at hD3
  have HB03 : Hid (Below w.heap.size w w3) := HB02.out.trans (hO3.below HB02.out.size (fun i hi => HZ2.out i (Nat.lt_of_lt_of_le hi HB1.out.size)))
  have HZ3 : Hid (∀ i, i < w.heap.size → own3 i = 0) := fun i hi => (hs3 i (Nat.lt_of_lt_of_le hi HB02.out.size)).trans (HZ2.out i (Nat.lt_of_lt_of_le hi HB1.out.size))
  have HD3 := Lib.hid hD3
  have HS3E := Lib.hid hs3e
  clear hD3 hs3e hO3 hs3
  have hm0 : (madeCells #[Value.int .u8 0] 64)[0]? = some (.int .u8 0) := by kernel_rfl
  have hm63 : (madeCells #[Value.int .u8 0] 64)[63]? = some (.int .u8 0) := by kernel_rfl
  go_wp2_with fail
  rw [five_cells]
  obtain ⟨w4, hw4⟩ : ∃ w4, w4 = w3.alloc (.cells (u8s fiveSix).toArray 5) := ⟨_, rfl⟩
  obtain ⟨bb, hbb⟩ : ∃ bb, bb = w3.heap.size := ⟨_, rfl⟩
  have hR4 : Row w4 bb fiveSix := by rw [hw4, hbb]; exact heap_alloc_new w3 _
  have hb4 : Below w3.heap.size w3 w4 := by rw [hw4]; exact below_alloc _ _
  have hfree : own3 bb = 0 := by rw [hbb]; exact HD3.out.fresh _ (Nat.le_refl _)
  rw [← hw4, ← hbb]
  have hpg3 : s3.page = 64 := by rw [HS3E.out]; rfl
  have hrd4 := hR4.reads 0 64 (by decide)
  rw [List.drop_zero, List.take_of_length_le (by decide)] at hrd4
  have C4 := write_ok g s3 own3 0 (some ⟨bb, 0, none⟩) 64 fiveSix w4 (HD3.out.below hb4) (by rw [HS3E.out]; decide) 0 (by rw [HS3E.out]; rfl) (by rw [HS3E.out]; rfl) (by rw [hpg3]; rfl) ⟨.inr ⟨bb, 0, rfl, hrd4⟩, five_oct, fun p hp => by cases hp; exact hfree⟩
  rw [hpg3, show ((0 : Nat) : Int) = 0 from rfl] at C4
  have HC4 := Lib.hid C4
  have HR4 := Lib.hid hR4
  have HF4 := Lib.hid hfree
  have HB04 : Hid (Below w.heap.size w w4) := HB03.out.trans (hb4.mono HB03.out.size)
  clear C4 hrd4 hpg3 hR4 hb4 hw4 hbb hfree hm0 hm63
  refine HC4.out.mono ?_
  rintro e w5 ⟨rfl, hD5, hO5⟩
  obtain ⟨s5, hs5⟩ : ∃ s5 : Disk.St, s5 = { tick s3 with pages := Disk.put s3.pages 0 (some fiveSix), writes := s3.writes + 1 } := ⟨_, rfl⟩
  rw [← hs5] at hD5
  have HS5 := Lib.hid hs5
  have HD5 := Lib.hid hD5
  have HO5 := Lib.hid hO5
  clear hs5 hD5 hO5
  go_wp2_with fail
  have hb6 := below_alloc w5 (.cells #[.int .i64 (a : Int), .int .i64 (k : Int)] 33)
  have hfr := heap_alloc_new w5 (.cells #[.int .i64 (a : Int), .int .i64 (k : Int)] 33)
  obtain ⟨w6, hw6⟩ : ∃ w6, w6 = w5.alloc (.cells #[.int .i64 (a : Int), .int .i64 (k : Int)] 33) := ⟨_, rfl⟩
  obtain ⟨fb, hfb⟩ : ∃ fb, fb = w5.heap.size := ⟨_, rfl⟩
  have hff : own3 fb = 0 := by rw [hfb]; exact HD5.out.fresh _ (Nat.le_refl _)
  rw [← hw6] at hb6 hfr
  rw [← hfb] at hfr
  rw [← hw6, ← hfb]
  have hst5 : s5.page = 64 ∧ s5.most = 40 ∧ s5.ops = 2 ∧ s5.pages.getD 0 none = some fiveSix ∧ Disk.live s5.pages ≤ 1 := by
    rw [HS5.out, HS3E.out]
    exact ⟨rfl, rfl, rfl, rfl, by decide⟩
  have C6 := plan_any g s5 own3 (some ⟨fb, 0, none⟩) 1 1 [((a : Int), (k : Int))] w6 (HD5.out.below hb6) (by rw [hst5.2.2.1]; decide) rfl (by decide)
    (.inr ⟨fb, 0, rfl, fun j hj => by
      have : j = 0 := by simpa using hj
      subst this
      exact ⟨by rw [cell_of_row _ _ _ _ _ _ hfr]; rfl, by rw [cell_of_row _ _ _ _ _ _ hfr]; rfl⟩⟩)
    (fun p hp => by cases hp; exact hff)
    (fun j => by
      cases j with
      | zero => show (a : Int) ≤ _; omega
      | succ j => simp)
  have HC6 := Lib.hid C6
  have HST5 := Lib.hid hst5
  have HB6 := Lib.hid hb6
  have HBL : Hid (bb < w4.heap.size) := heap_lt HR4.out
  clear C6 hst5 hb6 hfr hff hw6 hfb
  refine HC6.out.mono ?_
  rintro e w7 ⟨rfl, own7, hD7, hO7, hs7⟩
  obtain ⟨s7, hs7e⟩ : ∃ s7 : Disk.St, s7 = { s5 with begun := s5.ops, plan := planOf [((a : Int), (k : Int))] } := ⟨_, rfl⟩
  rw [← hs7e] at hD7
  have hO47 : Only own3 w4 w7 := (HO5.out.trans (Only.of_below (HB6.out.mono (Nat.le_refl _)))).trans (hO7.trans' (Only.refl own3 w7) (fun _ _ h => h))
  have hsz : w4.heap.size ≤ w6.heap.size := Nat.le_trans HO5.out.size HB6.out.size
  have hI : FailInv w w7 g bb 1 a k s7 own7 := by
    refine ⟨hD7, by rw [hs7e]; exact HST5.out.1, by rw [hs7e]; exact HST5.out.2.1, by rw [hs7e]; exact HST5.out.2.2.1, by rw [hs7e]; exact HST5.out.2.2.1, fun j _ => by rw [hs7e]; exact planOf_one a k j hk1, by rw [hs7e]; exact HST5.out.2.2.2.1, by rw [hs7e]; exact HST5.out.2.2.2.2, (hO47.block bb HBL.out HF4.out).trans HR4.out, (hs7 bb (Nat.lt_of_lt_of_le HBL.out hsz)).trans HF4.out, HB04.out.trans (hO47.below HB04.out.size HZ3.out), fun i hi => ?_⟩
    rw [hs7 i (Nat.lt_of_lt_of_le hi (Nat.le_trans HB04.out.size hsz))]
    exact HZ3.out i hi
  have HI := Lib.hid hI
  clear hI hD7 hO7 hs7 hs7e hO47 hsz
  clear HC1 HB1 HC2 HB02 HZ2 HB03 HZ3 HD3 HS3E HC4 HR4 HF4 HB04 HS5 HD5 HO5 HC6 HST5 HB6 HBL haa hkq hmk CA
  go_wp2_with fail
  go_loopw [12] (fun v wr => ∃ (i : Nat) (s : Disk.St) (own : Nat → Nat), (1 ≤ i ∧ i ≤ 15) ∧ v = .int .i64 (i : Int) ∧ Hid (FailInv w wr g bb i a k s own)) (fun v _ => 15 - (intOf v).toNat)
  case atStart => exact ⟨1, s7, own7, by decide, rfl, HI⟩
  case round =>
    obtain ⟨i, s, own, hi1, rfl, hI⟩ := hrel
    clear HI
    by_cases hlt : i ≤ 14
    · have hops : s.ops < 4611686018427387904 := by rw [hI.out.ops]; omega
      have HOPS := Lib.hid hops
      have HHIT := fun sort => Lib.hid (hI.out.hit hi1.1 sort)
      have hq14 : (i : Int) ≤ 14 := by omega
      clear hops
      have hm3 : i % 3 = 0 ∨ i % 3 = 1 ∨ i % 3 = 2 := by omega
      by_cases hd : i = a
      · have dq : ((i : Int) == (a : Int)) = true := by rw [beq_iff_eq]; omega
        rcases hm3 with hm | hm | hm
        · have e3 : (i : Int).tmod 3 = 0 := by rw [Int.tmod_eq_emod_of_nonneg (by omega)]; omega
          have e3b : (i : Int) % 3 = 0 := by omega
          clear hm
          rcases (by omega : k = 1 ∨ k = 4 ∨ (k ≠ 1 ∧ k ≠ 4)) with hkc | hkc | hkc
          · have kq1 : ((k : Int) == 1) = true := by rw [beq_iff_eq]; omega
            have kq4 : ((k : Int) == 4) = false := by rw [beq_eq_false_iff_ne]; omega

            have C7 := read_err g s own 0 wr hI.out.disk HOPS.out 16 0 (by rw [(HHIT 3).out, if_pos hd]; simp [Disk.app, hkc]) (by decide)
            rw [show ((16 : Nat) : Int) = 16 from rfl] at C7
            have HC7 := Lib.hid C7
            clear hd hkc
            clear C7
            go_wp2_with fail
            refine HC7.out.mono ?_
            rintro e w8 ⟨rfl, hD8, hO8⟩
            obtain ⟨s2, hs2⟩ : ∃ s2, s2 = tick s := ⟨_, rfl⟩
            obtain ⟨own2, hown2⟩ : ∃ own2, own2 = own := ⟨_, rfl⟩
            have hI2 := hI.out.tick hD8 hO8
            rw [← hs2, ← hown2] at hI2
            have HI2 := Lib.hid hI2
            clear hI2 hD8 hO8 hs2 hown2

            go_wp2_with fail
            go_roundw
            case rel => exact ⟨i + 1, _, _, by omega, by go_num, HI2⟩
            case measure => simp [intOf]; omega
          · have kq1 : ((k : Int) == 1) = false := by rw [beq_eq_false_iff_ne]; omega
            have kq4 : ((k : Int) == 4) = true := by rw [beq_iff_eq]; omega

            have C7 := read_ok g s own 0 fiveSix wr hI.out.disk HOPS.out 1 (by rw [(HHIT 3).out, if_pos hd]; simp [Disk.app, hkc]) hI.out.zero
            rw [hI.out.page, show ((0 : Nat) : Int) = 0 from rfl] at C7
            have HC7 := Lib.hid C7
            clear hd hkc
            clear C7
            go_wp2_with fail
            refine HC7.out.mono ?_
            rintro e w8 ⟨v8, rfl, hv8, hD8, hO8⟩
            obtain ⟨hl8, a8, c8, rfl, hS8, hA8, hn8, hc8⟩ := slice_of_row hv8
            obtain ⟨b8, o8, rfl, hr8⟩ := hS8.resolve_left (fun e => by rw [e] at hl8; cases hl8)
            have p8 := hr8.part 1 63
            rw [tails 1 (by decide)] at p8
            have k8 := hr8 0 (by rw [hl8]; decide)
            rw [show (((fiveSix.set 0 (fiveSix.getD 0 0 ^^^ 1)).getD 0 0 : Nat) : Int) = 4 by decide] at k8
            have hI2' := hI.out.tick hD8 hO8
            have pb := hI2'.row.reads 1 63 (by decide)
            have hlt63 : ((fiveSix.drop 1).take 63).length = 63 := by decide
            have v1 := fun c : Nat => run_conv (w := w8) (c := c) hlt63 (.inr ⟨b8, o8 + 1, rfl, p8⟩)
            have v2 := fun c : Nat => run_conv (w := w8.drew) (c := c) hlt63 (.inr ⟨b8, o8 + 1, rfl, p8⟩)
            have v3 := fun c : Nat => run_conv (w := w8) (c := c) hlt63 (.inr ⟨bb, 1, rfl, pb⟩)
            have v4 := fun c : Nat => run_conv (w := w8.drew) (c := c) hlt63 (.inr ⟨bb, 1, rfl, pb⟩)
            obtain ⟨s2, hs2⟩ : ∃ s2, s2 = tick s := ⟨_, rfl⟩
            obtain ⟨own2, hown2⟩ : ∃ own2, own2 = own := ⟨_, rfl⟩
            have hI2 := hI2'.world ((Below.refl w8.heap.size w8).drew)
            rw [← hs2, ← hown2] at hI2
            have HI2 := Lib.hid hI2
            clear hI2 hI2' hD8 hO8 hs2 hown2 hv8 hl8 hA8 hr8 p8 pb hlt63 hc8 hS8
            generalize strB ((fiveSix.drop 1).take 63) = tx at v1 v2 v3 v4
            have hc81 : ¬ c8 = 1 := by omega
            go_wp2_with fail
            first | go_region_held3 (fun w' => w'.cell? ⟨b8, o8, none⟩ = some (.int .u8 4) ∧ (∀ c : Nat, (convert 29 9 (.slice (some ⟨b8, o8 + 1, none⟩) 63 c)).run Tryd.prog w' = .ok (.string tx) w') ∧ (∀ c : Nat, (convert 29 9 (.slice (some ⟨bb, 1, none⟩) 63 c)).run Tryd.prog w' = .ok (.string tx) w')) (first | exact ⟨k8, v2, v4⟩ | go_keep) (fail) | fail
            obtain ⟨w8, hw8⟩ : ∃ w, w = w8.drew := ⟨_, rfl⟩
            rw [← hw8] at HI2 ⊢
            clear v1 v2 v3 v4 k8 hn8 hw8 hc81

            have C8 := look_yes g s2 own2 0 fiveSix w8 HI2.out.disk HI2.out.zero
            rw [HI2.out.page, show ((0 : Nat) : Int) = 0 from rfl] at C8
            have HC8 := Lib.hid C8
            clear C8
            go_wp2_with fail
            refine HC8.out.mono ?_
            rintro e w9 ⟨v9, rfl, hv9, hB9⟩
            obtain ⟨hl9, a9, c9, rfl, hS9, hA9, _, _⟩ := slice_of_row hv9
            have hrb9 := (HI2.out.row.below hB9 (heap_lt HI2.out.row)).reads 0 64 (by decide)
            rw [List.drop_zero, List.take_of_length_le (by decide)] at hrb9
            have v1 := run_conv (c := c9) hl9 hS9
            have v2 := run_conv (c := 64) five_len (.inr ⟨bb, 0, rfl, hrb9⟩ : SliceIs w9 (some ⟨bb, 0, none⟩) fiveSix)
            have HI9 := Lib.hid (HI2.out.world hB9)
            clear hv9 hl9 hS9 hA9 hrb9 hB9
            generalize strB fiveSix = txt at v1 v2
            go_wp2_with fail
            go_roundw
            case rel => exact ⟨i + 1, _, _, by omega, by go_num, HI9⟩
            case measure => simp [intOf]; omega
          · have kq1 : ((k : Int) == 1) = false := by rw [beq_eq_false_iff_ne]; omega
            have kq4 : ((k : Int) == 4) = false := by rw [beq_eq_false_iff_ne]; omega

            have C7 := read_ok g s own 0 fiveSix wr hI.out.disk HOPS.out 0 (by rw [(HHIT 3).out, if_pos hd]; simp [Disk.app, hkc]) hI.out.zero
            rw [hI.out.page, show ((0 : Nat) : Int) = 0 from rfl] at C7
            have HC7 := Lib.hid C7
            clear hd hkc
            clear C7
            go_wp2_with fail
            refine HC7.out.mono ?_
            rintro e w8 ⟨v8, rfl, hv8, hD8, hO8⟩
            obtain ⟨hl8, a8, c8, rfl, hS8, hA8, hn8, hc8⟩ := slice_of_row hv8
            obtain ⟨b8, o8, rfl, hr8⟩ := hS8.resolve_left (fun e => by rw [e] at hl8; cases hl8)
            have p8 := hr8.part 1 63
            rw [tails 0 (by decide)] at p8
            have k8 := hr8 0 (by rw [hl8]; decide)
            rw [show (((fiveSix.set 0 (fiveSix.getD 0 0 ^^^ 0)).getD 0 0 : Nat) : Int) = 5 by decide] at k8
            have hI2' := hI.out.tick hD8 hO8
            have pb := hI2'.row.reads 1 63 (by decide)
            have hlt63 : ((fiveSix.drop 1).take 63).length = 63 := by decide
            have v1 := fun c : Nat => run_conv (w := w8) (c := c) hlt63 (.inr ⟨b8, o8 + 1, rfl, p8⟩)
            have v2 := fun c : Nat => run_conv (w := w8.drew) (c := c) hlt63 (.inr ⟨b8, o8 + 1, rfl, p8⟩)
            have v3 := fun c : Nat => run_conv (w := w8) (c := c) hlt63 (.inr ⟨bb, 1, rfl, pb⟩)
            have v4 := fun c : Nat => run_conv (w := w8.drew) (c := c) hlt63 (.inr ⟨bb, 1, rfl, pb⟩)
            obtain ⟨s2, hs2⟩ : ∃ s2, s2 = tick s := ⟨_, rfl⟩
            obtain ⟨own2, hown2⟩ : ∃ own2, own2 = own := ⟨_, rfl⟩
            have hI2 := hI2'.world ((Below.refl w8.heap.size w8).drew)
            rw [← hs2, ← hown2] at hI2
            have HI2 := Lib.hid hI2
            clear hI2 hI2' hD8 hO8 hs2 hown2 hv8 hl8 hA8 hr8 p8 pb hlt63 hc8 hS8
            generalize strB ((fiveSix.drop 1).take 63) = tx at v1 v2 v3 v4
            have hc81 : ¬ c8 = 1 := by omega
            go_wp2_with fail
            first | go_region_held3 (fun w' => w'.cell? ⟨b8, o8, none⟩ = some (.int .u8 5) ∧ (∀ c : Nat, (convert 29 9 (.slice (some ⟨b8, o8 + 1, none⟩) 63 c)).run Tryd.prog w' = .ok (.string tx) w') ∧ (∀ c : Nat, (convert 29 9 (.slice (some ⟨bb, 1, none⟩) 63 c)).run Tryd.prog w' = .ok (.string tx) w')) (first | exact ⟨k8, v2, v4⟩ | go_keep) (fail) | fail
            obtain ⟨w8, hw8⟩ : ∃ w, w = w8.drew := ⟨_, rfl⟩
            rw [← hw8] at HI2 ⊢
            clear v1 v2 v3 v4 k8 hn8 hw8 hc81

            have C8 := look_yes g s2 own2 0 fiveSix w8 HI2.out.disk HI2.out.zero
            rw [HI2.out.page, show ((0 : Nat) : Int) = 0 from rfl] at C8
            have HC8 := Lib.hid C8
            clear C8
            go_wp2_with fail
            refine HC8.out.mono ?_
            rintro e w9 ⟨v9, rfl, hv9, hB9⟩
            obtain ⟨hl9, a9, c9, rfl, hS9, hA9, _, _⟩ := slice_of_row hv9
            have hrb9 := (HI2.out.row.below hB9 (heap_lt HI2.out.row)).reads 0 64 (by decide)
            rw [List.drop_zero, List.take_of_length_le (by decide)] at hrb9
            have v1 := run_conv (c := c9) hl9 hS9
            have v2 := run_conv (c := 64) five_len (.inr ⟨bb, 0, rfl, hrb9⟩ : SliceIs w9 (some ⟨bb, 0, none⟩) fiveSix)
            have HI9 := Lib.hid (HI2.out.world hB9)
            clear hv9 hl9 hS9 hA9 hrb9 hB9
            generalize strB fiveSix = txt at v1 v2
            go_wp2_with fail
            go_roundw
            case rel => exact ⟨i + 1, _, _, by omega, by go_num, HI9⟩
            case measure => simp [intOf]; omega
        · have e3 : (i : Int).tmod 3 = 1 := by rw [Int.tmod_eq_emod_of_nonneg (by omega)]; omega
          have e3b : (i : Int) % 3 = 1 := by omega
          clear hm
          by_cases hkc : k = 2
          · have kq2 : ((k : Int) == 2) = true := by rw [beq_iff_eq]; omega
            have C7 := write_err g s own 0 (.slice (some ⟨bb, 0, none⟩) 64 64) wr hI.out.disk HOPS.out 16 0 (by rw [(HHIT 4).out, if_pos hd]; simp [Disk.app, hkc]) (by decide)
            rw [show ((16 : Nat) : Int) = 16 from rfl] at C7
            have HC7 := Lib.hid C7
            clear hd hkc
            clear C7
            go_wp2_with fail
            refine HC7.out.mono ?_
            rintro e w8 ⟨rfl, hD8, hO8⟩
            obtain ⟨s2, hs2⟩ : ∃ s2, s2 = tick s := ⟨_, rfl⟩
            obtain ⟨own2, hown2⟩ : ∃ own2, own2 = own := ⟨_, rfl⟩
            have hI2 := hI.out.tick hD8 hO8
            rw [← hs2, ← hown2] at hI2
            have HI2 := Lib.hid hI2
            clear hI2 hD8 hO8 hs2 hown2

            have C8 := look_yes g s2 own2 0 fiveSix w8 HI2.out.disk HI2.out.zero
            rw [HI2.out.page, show ((0 : Nat) : Int) = 0 from rfl] at C8
            have HC8 := Lib.hid C8
            clear C8
            go_wp2_with fail
            refine HC8.out.mono ?_
            rintro e w9 ⟨v9, rfl, hv9, hB9⟩
            obtain ⟨hl9, a9, c9, rfl, hS9, hA9, _, _⟩ := slice_of_row hv9
            have hrb9 := (HI2.out.row.below hB9 (heap_lt HI2.out.row)).reads 0 64 (by decide)
            rw [List.drop_zero, List.take_of_length_le (by decide)] at hrb9
            have v1 := run_conv (c := c9) hl9 hS9
            have v2 := run_conv (c := 64) five_len (.inr ⟨bb, 0, rfl, hrb9⟩ : SliceIs w9 (some ⟨bb, 0, none⟩) fiveSix)
            have HI9 := Lib.hid (HI2.out.world hB9)
            clear hv9 hl9 hS9 hA9 hrb9 hB9
            generalize strB fiveSix = txt at v1 v2
            go_wp2_with fail
            go_roundw
            case rel => exact ⟨i + 1, _, _, by omega, by go_num, HI9⟩
            case measure => simp [intOf]; omega
          · have kq2 : ((k : Int) == 2) = false := by rw [beq_eq_false_iff_ne]; omega
            have hrd7 := hI.out.row.reads 0 64 (by decide)
            rw [List.drop_zero, List.take_of_length_le (by decide)] at hrd7
            have hu7 : Disk.used s.pages 0 = true := by unfold Disk.used; rw [hI.out.zero]; rfl
            have C7 := write_ok g s own 0 (some ⟨bb, 0, none⟩) 64 fiveSix wr hI.out.disk HOPS.out 0 (by rw [(HHIT 4).out, if_pos hd]; simp [Disk.app, hkc]) hu7 (by rw [hI.out.page]; decide) ⟨.inr ⟨bb, 0, rfl, hrd7⟩, five_oct, fun p hp => by cases hp; exact hI.out.free⟩
            rw [hI.out.page, show ((0 : Nat) : Int) = 0 from rfl] at C7
            have HC7 := Lib.hid C7
            clear hd hkc
            have HU7 := Lib.hid hu7
            clear C7 hrd7 hu7
            go_wp2_with fail
            refine HC7.out.mono ?_
            rintro e w8 ⟨rfl, hD8, hO8⟩
            obtain ⟨s2, hs2⟩ : ∃ s2 : Disk.St, s2 = { tick s with pages := Disk.put s.pages 0 (some fiveSix), writes := s.writes + 1 } := ⟨_, rfl⟩
            obtain ⟨own2, hown2⟩ : ∃ own2, own2 = own := ⟨_, rfl⟩
            have hI2 : FailInv w w8 g bb (i + 1) a k s2 own := by
              rw [hs2]
              exact hI.out.step hD8 hO8 (fun _ _ => rfl) rfl rfl rfl rfl rfl (getD_put' _ (Nat.zero_le _)) (by show Disk.live (Disk.put s.pages 0 (some fiveSix)) ≤ i + 1; rw [Disk.live_put_same HU7.out]; exact Nat.le_succ_of_le hI.out.few)
            rw [← hown2] at hI2
            have HI2 := Lib.hid hI2
            clear hI2 hD8 hO8 hs2 hown2

            have C8 := look_yes g s2 own2 0 fiveSix w8 HI2.out.disk HI2.out.zero
            rw [HI2.out.page, show ((0 : Nat) : Int) = 0 from rfl] at C8
            have HC8 := Lib.hid C8
            clear C8
            go_wp2_with fail
            refine HC8.out.mono ?_
            rintro e w9 ⟨v9, rfl, hv9, hB9⟩
            obtain ⟨hl9, a9, c9, rfl, hS9, hA9, _, _⟩ := slice_of_row hv9
            have hrb9 := (HI2.out.row.below hB9 (heap_lt HI2.out.row)).reads 0 64 (by decide)
            rw [List.drop_zero, List.take_of_length_le (by decide)] at hrb9
            have v1 := run_conv (c := c9) hl9 hS9
            have v2 := run_conv (c := 64) five_len (.inr ⟨bb, 0, rfl, hrb9⟩ : SliceIs w9 (some ⟨bb, 0, none⟩) fiveSix)
            have HI9 := Lib.hid (HI2.out.world hB9)
            clear hv9 hl9 hS9 hA9 hrb9 hB9
            generalize strB fiveSix = txt at v1 v2
            go_wp2_with fail
            go_roundw
            case rel => exact ⟨i + 1, _, _, by omega, by go_num, HI9⟩
            case measure => simp [intOf]; omega
        · have e3 : (i : Int).tmod 3 = 2 := by rw [Int.tmod_eq_emod_of_nonneg (by omega)]; omega
          have e3b : (i : Int) % 3 = 2 := by omega
          clear hm
          by_cases hkc : k = 3
          · have kq3 : ((k : Int) == 3) = true := by rw [beq_iff_eq]; omega
            have C7 := alloc_err g s own wr hI.out.disk HOPS.out 17 0 (by rw [(HHIT 1).out, if_pos hd]; simp [Disk.app, hkc]) (by decide)
            rw [show ((17 : Nat) : Int) = 17 from rfl] at C7
            have HC7 := Lib.hid C7
            clear hd hkc
            clear C7
            go_wp2_with fail
            refine HC7.out.mono ?_
            rintro e w8 ⟨rfl, hD8, hO8⟩
            obtain ⟨s2, hs2⟩ : ∃ s2, s2 = tick s := ⟨_, rfl⟩
            obtain ⟨own2, hown2⟩ : ∃ own2, own2 = own := ⟨_, rfl⟩
            have hI2 := hI.out.tick hD8 hO8
            rw [← hs2, ← hown2] at hI2
            have HI2 := Lib.hid hI2
            clear hI2 hD8 hO8 hs2 hown2

            have C8 := look_yes g s2 own2 0 fiveSix w8 HI2.out.disk HI2.out.zero
            rw [HI2.out.page, show ((0 : Nat) : Int) = 0 from rfl] at C8
            have HC8 := Lib.hid C8
            clear C8
            go_wp2_with fail
            refine HC8.out.mono ?_
            rintro e w9 ⟨v9, rfl, hv9, hB9⟩
            obtain ⟨hl9, a9, c9, rfl, hS9, hA9, _, _⟩ := slice_of_row hv9
            have hrb9 := (HI2.out.row.below hB9 (heap_lt HI2.out.row)).reads 0 64 (by decide)
            rw [List.drop_zero, List.take_of_length_le (by decide)] at hrb9
            have v1 := run_conv (c := c9) hl9 hS9
            have v2 := run_conv (c := 64) five_len (.inr ⟨bb, 0, rfl, hrb9⟩ : SliceIs w9 (some ⟨bb, 0, none⟩) fiveSix)
            have HI9 := Lib.hid (HI2.out.world hB9)
            clear hv9 hl9 hS9 hA9 hrb9 hB9
            generalize strB fiveSix = txt at v1 v2
            go_wp2_with fail
            go_roundw
            case rel => exact ⟨i + 1, _, _, by omega, by go_num, HI9⟩
            case measure => simp [intOf]; omega
          · have kq3 : ((k : Int) == 3) = false := by rw [beq_eq_false_iff_ne]; omega
            have hu7 : Disk.used s.pages 0 = true := by unfold Disk.used; rw [hI.out.zero]; rfl
            have hn7 : Disk.leastFree s.pages ≠ 0 := fun e => by
              have := Disk.leastFree_not s.pages
              rw [e, hu7] at this
              cases this
            have C7 := alloc_ok g s own wr hI.out.disk HOPS.out (HT.out.below hI.out.below h0) (hI.out.low _ h0) 0 (by rw [(HHIT 1).out, if_pos hd]; simp [Disk.app, hkc]) (by rw [hI.out.most]; have := hI.out.few; omega)
            have HC7 := Lib.hid C7
            clear hd hkc
            have HU7 := Lib.hid hu7
            have HN7 := Lib.hid hn7
            clear C7 hu7 hn7
            go_wp2_with fail
            refine HC7.out.mono ?_
            rintro e w8 ⟨rfl, own2, hD8, hO8, hs8⟩
            obtain ⟨s2, hs2⟩ : ∃ s2 : Disk.St, s2 = { tick s with pages := Disk.put s.pages (Disk.leastFree s.pages) (some (List.replicate s.page 0)) } := ⟨_, rfl⟩
            have hI2 : FailInv w w8 g bb (i + 1) a k s2 own2 := by
              rw [hs2]
              refine hI.out.step hD8 hO8 hs8 rfl rfl rfl rfl rfl ?_ ?_
              · show (Disk.put s.pages (Disk.leastFree s.pages) (some (List.replicate s.page 0))).getD 0 none = _
                rw [getD_put_zero _ HN7.out (Nat.lt_of_le_of_lt (Nat.zero_le _) (Disk.used_lt HU7.out))]; exact hI.out.zero
              · show Disk.live (Disk.put s.pages (Disk.leastFree s.pages) (some (List.replicate s.page 0))) ≤ i + 1
                rw [Disk.live_put_new (Disk.leastFree_le _) (Disk.leastFree_not _)]; exact Nat.succ_le_succ hI.out.few
            have HI2 := Lib.hid hI2
            clear hI2 hD8 hO8 hs8 hs2
            generalize Disk.leastFree s.pages = nn

            have C8 := look_yes g s2 own2 0 fiveSix w8 HI2.out.disk HI2.out.zero
            rw [HI2.out.page, show ((0 : Nat) : Int) = 0 from rfl] at C8
            have HC8 := Lib.hid C8
            clear C8
            go_wp2_with fail
            refine HC8.out.mono ?_
            rintro e w9 ⟨v9, rfl, hv9, hB9⟩
            obtain ⟨hl9, a9, c9, rfl, hS9, hA9, _, _⟩ := slice_of_row hv9
            have hrb9 := (HI2.out.row.below hB9 (heap_lt HI2.out.row)).reads 0 64 (by decide)
            rw [List.drop_zero, List.take_of_length_le (by decide)] at hrb9
            have v1 := run_conv (c := c9) hl9 hS9
            have v2 := run_conv (c := 64) five_len (.inr ⟨bb, 0, rfl, hrb9⟩ : SliceIs w9 (some ⟨bb, 0, none⟩) fiveSix)
            have HI9 := Lib.hid (HI2.out.world hB9)
            clear hv9 hl9 hS9 hA9 hrb9 hB9
            generalize strB fiveSix = txt at v1 v2
            go_wp2_with fail
            go_roundw
            case rel => exact ⟨i + 1, _, _, by omega, by go_num, HI9⟩
            case measure => simp [intOf]; omega
      · have dq : ((i : Int) == (a : Int)) = false := by rw [beq_eq_false_iff_ne]; omega
        rcases hm3 with hm | hm | hm
        · have e3 : (i : Int).tmod 3 = 0 := by rw [Int.tmod_eq_emod_of_nonneg (by omega)]; omega
          have e3b : (i : Int) % 3 = 0 := by omega
          clear hm

          have C7 := read_ok g s own 0 fiveSix wr hI.out.disk HOPS.out 0 (by rw [(HHIT 3).out, if_neg hd]) hI.out.zero
          rw [hI.out.page, show ((0 : Nat) : Int) = 0 from rfl] at C7
          have HC7 := Lib.hid C7
          clear hd
          clear C7
          go_wp2_with fail
          refine HC7.out.mono ?_
          rintro e w8 ⟨v8, rfl, hv8, hD8, hO8⟩
          obtain ⟨hl8, a8, c8, rfl, hS8, hA8, hn8, hc8⟩ := slice_of_row hv8
          obtain ⟨b8, o8, rfl, hr8⟩ := hS8.resolve_left (fun e => by rw [e] at hl8; cases hl8)
          have p8 := hr8.part 1 63
          rw [tails 0 (by decide)] at p8
          have k8 := hr8 0 (by rw [hl8]; decide)
          rw [show (((fiveSix.set 0 (fiveSix.getD 0 0 ^^^ 0)).getD 0 0 : Nat) : Int) = 5 by decide] at k8
          have hI2' := hI.out.tick hD8 hO8
          have pb := hI2'.row.reads 1 63 (by decide)
          have hlt63 : ((fiveSix.drop 1).take 63).length = 63 := by decide
          have v5 := fun (n c : Nat) => run_conv (w := w8.drewN n) (c := c) hlt63 (.inr ⟨b8, o8 + 1, rfl, p8.drewN n⟩)
          have v6 := fun (n c : Nat) => run_conv (w := w8.drewN n) (c := c) hlt63 (.inr ⟨bb, 1, rfl, pb.drewN n⟩)


          obtain ⟨s2, hs2⟩ : ∃ s2, s2 = tick s := ⟨_, rfl⟩
          obtain ⟨own2, hown2⟩ : ∃ own2, own2 = own := ⟨_, rfl⟩
          have hI2 := hI2'
          rw [← hs2, ← hown2] at hI2
          have HI2 := Lib.hid hI2
          clear hI2 hI2' hD8 hO8 hs2 hown2 hv8 hl8 hA8 hr8 p8 pb hlt63 hc8 hS8
          generalize strB ((fiveSix.drop 1).take 63) = tx at v5 v6
          have hc81 : ¬ c8 = 1 := by omega
          go_wp2_with fail
          have k8 : w8.cell? ⟨b8, o8, none⟩ = some (.int .u8 5) := k8
          go_quiet (fail)
          rename_i nq
          have HI2 := Lib.hid (HI2.out.world (⟨rfl, rfl, rfl, Nat.le_refl _, fun _ _ => rfl⟩ : Below w8.heap.size w8 (w8.drewN nq)))
          obtain ⟨w8, hw8⟩ : ∃ w, w = w8.drewN nq := ⟨_, rfl⟩
          rw [← hw8] at HI2 ⊢
          clear v5 v6 k8 hn8 hw8 hc81

          have C8 := look_yes g s2 own2 0 fiveSix w8 HI2.out.disk HI2.out.zero
          rw [HI2.out.page, show ((0 : Nat) : Int) = 0 from rfl] at C8
          have HC8 := Lib.hid C8
          clear C8
          go_wp2_with fail
          refine HC8.out.mono ?_
          rintro e w9 ⟨v9, rfl, hv9, hB9⟩
          obtain ⟨hl9, a9, c9, rfl, hS9, hA9, _, _⟩ := slice_of_row hv9
          have hrb9 := (HI2.out.row.below hB9 (heap_lt HI2.out.row)).reads 0 64 (by decide)
          rw [List.drop_zero, List.take_of_length_le (by decide)] at hrb9
          have v1 := run_conv (c := c9) hl9 hS9
          have v2 := run_conv (c := 64) five_len (.inr ⟨bb, 0, rfl, hrb9⟩ : SliceIs w9 (some ⟨bb, 0, none⟩) fiveSix)
          have HI9 := Lib.hid (HI2.out.world hB9)
          clear hv9 hl9 hS9 hA9 hrb9 hB9
          generalize strB fiveSix = txt at v1 v2
          go_wp2_with fail
          go_roundw
          case rel => exact ⟨i + 1, _, _, by omega, by go_num, HI9⟩
          case measure => simp [intOf]; omega
        · have e3 : (i : Int).tmod 3 = 1 := by rw [Int.tmod_eq_emod_of_nonneg (by omega)]; omega
          have e3b : (i : Int) % 3 = 1 := by omega
          clear hm

          have hrd7 := hI.out.row.reads 0 64 (by decide)
          rw [List.drop_zero, List.take_of_length_le (by decide)] at hrd7
          have hu7 : Disk.used s.pages 0 = true := by unfold Disk.used; rw [hI.out.zero]; rfl
          have C7 := write_ok g s own 0 (some ⟨bb, 0, none⟩) 64 fiveSix wr hI.out.disk HOPS.out 0 (by rw [(HHIT 4).out, if_neg hd]) hu7 (by rw [hI.out.page]; decide) ⟨.inr ⟨bb, 0, rfl, hrd7⟩, five_oct, fun p hp => by cases hp; exact hI.out.free⟩
          rw [hI.out.page, show ((0 : Nat) : Int) = 0 from rfl] at C7
          have HC7 := Lib.hid C7
          clear hd
          have HU7 := Lib.hid hu7
          clear C7 hrd7 hu7
          go_wp2_with fail
          refine HC7.out.mono ?_
          rintro e w8 ⟨rfl, hD8, hO8⟩
          obtain ⟨s2, hs2⟩ : ∃ s2 : Disk.St, s2 = { tick s with pages := Disk.put s.pages 0 (some fiveSix), writes := s.writes + 1 } := ⟨_, rfl⟩
          obtain ⟨own2, hown2⟩ : ∃ own2, own2 = own := ⟨_, rfl⟩
          have hI2 : FailInv w w8 g bb (i + 1) a k s2 own := by
            rw [hs2]
            exact hI.out.step hD8 hO8 (fun _ _ => rfl) rfl rfl rfl rfl rfl (getD_put' _ (Nat.zero_le _)) (by show Disk.live (Disk.put s.pages 0 (some fiveSix)) ≤ i + 1; rw [Disk.live_put_same HU7.out]; exact Nat.le_succ_of_le hI.out.few)
          rw [← hown2] at hI2
          have HI2 := Lib.hid hI2
          clear hI2 hD8 hO8 hs2 hown2

          have C8 := look_yes g s2 own2 0 fiveSix w8 HI2.out.disk HI2.out.zero
          rw [HI2.out.page, show ((0 : Nat) : Int) = 0 from rfl] at C8
          have HC8 := Lib.hid C8
          clear C8
          go_wp2_with fail
          refine HC8.out.mono ?_
          rintro e w9 ⟨v9, rfl, hv9, hB9⟩
          obtain ⟨hl9, a9, c9, rfl, hS9, hA9, _, _⟩ := slice_of_row hv9
          have hrb9 := (HI2.out.row.below hB9 (heap_lt HI2.out.row)).reads 0 64 (by decide)
          rw [List.drop_zero, List.take_of_length_le (by decide)] at hrb9
          have v1 := run_conv (c := c9) hl9 hS9
          have v2 := run_conv (c := 64) five_len (.inr ⟨bb, 0, rfl, hrb9⟩ : SliceIs w9 (some ⟨bb, 0, none⟩) fiveSix)
          have HI9 := Lib.hid (HI2.out.world hB9)
          clear hv9 hl9 hS9 hA9 hrb9 hB9
          generalize strB fiveSix = txt at v1 v2
          go_wp2_with fail
          go_roundw
          case rel => exact ⟨i + 1, _, _, by omega, by go_num, HI9⟩
          case measure => simp [intOf]; omega
        · have e3 : (i : Int).tmod 3 = 2 := by rw [Int.tmod_eq_emod_of_nonneg (by omega)]; omega
          have e3b : (i : Int) % 3 = 2 := by omega
          clear hm

          have hu7 : Disk.used s.pages 0 = true := by unfold Disk.used; rw [hI.out.zero]; rfl
          have hn7 : Disk.leastFree s.pages ≠ 0 := fun e => by
            have := Disk.leastFree_not s.pages
            rw [e, hu7] at this
            cases this
          have C7 := alloc_ok g s own wr hI.out.disk HOPS.out (HT.out.below hI.out.below h0) (hI.out.low _ h0) 0 (by rw [(HHIT 1).out, if_neg hd]) (by rw [hI.out.most]; have := hI.out.few; omega)
          have HC7 := Lib.hid C7
          clear hd
          have HU7 := Lib.hid hu7
          have HN7 := Lib.hid hn7
          clear C7 hu7 hn7
          go_wp2_with fail
          refine HC7.out.mono ?_
          rintro e w8 ⟨rfl, own2, hD8, hO8, hs8⟩
          obtain ⟨s2, hs2⟩ : ∃ s2 : Disk.St, s2 = { tick s with pages := Disk.put s.pages (Disk.leastFree s.pages) (some (List.replicate s.page 0)) } := ⟨_, rfl⟩
          have hI2 : FailInv w w8 g bb (i + 1) a k s2 own2 := by
            rw [hs2]
            refine hI.out.step hD8 hO8 hs8 rfl rfl rfl rfl rfl ?_ ?_
            · show (Disk.put s.pages (Disk.leastFree s.pages) (some (List.replicate s.page 0))).getD 0 none = _
              rw [getD_put_zero _ HN7.out (Nat.lt_of_le_of_lt (Nat.zero_le _) (Disk.used_lt HU7.out))]; exact hI.out.zero
            · show Disk.live (Disk.put s.pages (Disk.leastFree s.pages) (some (List.replicate s.page 0))) ≤ i + 1
              rw [Disk.live_put_new (Disk.leastFree_le _) (Disk.leastFree_not _)]; exact Nat.succ_le_succ hI.out.few
          have HI2 := Lib.hid hI2
          clear hI2 hD8 hO8 hs8 hs2
          generalize Disk.leastFree s.pages = nn

          have C8 := look_yes g s2 own2 0 fiveSix w8 HI2.out.disk HI2.out.zero
          rw [HI2.out.page, show ((0 : Nat) : Int) = 0 from rfl] at C8
          have HC8 := Lib.hid C8
          clear C8
          go_wp2_with fail
          refine HC8.out.mono ?_
          rintro e w9 ⟨v9, rfl, hv9, hB9⟩
          obtain ⟨hl9, a9, c9, rfl, hS9, hA9, _, _⟩ := slice_of_row hv9
          have hrb9 := (HI2.out.row.below hB9 (heap_lt HI2.out.row)).reads 0 64 (by decide)
          rw [List.drop_zero, List.take_of_length_le (by decide)] at hrb9
          have v1 := run_conv (c := c9) hl9 hS9
          have v2 := run_conv (c := 64) five_len (.inr ⟨bb, 0, rfl, hrb9⟩ : SliceIs w9 (some ⟨bb, 0, none⟩) fiveSix)
          have HI9 := Lib.hid (HI2.out.world hB9)
          clear hv9 hl9 hS9 hA9 hrb9 hB9
          generalize strB fiveSix = txt at v1 v2
          go_wp2_with fail
          go_roundw
          case rel => exact ⟨i + 1, _, _, by omega, by go_num, HI9⟩
          case measure => simp [intOf]; omega
    · have hie : i = 15 := by omega
      subst hie
      have C9 := ops_any g s own wr hI.out.disk
      rw [hI.out.ops] at C9
      have HC9 := Lib.hid C9
      clear C9
      go_wp2_with fail
      refine HC9.out.mono ?_
      rintro e w9 ⟨rfl, rfl⟩
      go_wp2_with fail
      go_ret
      exact ⟨rfl, hI.out.below⟩
end Go.Proofs.YtbkiahnljklhpaaDoor
