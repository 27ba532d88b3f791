/- THE WALKS OF Free AND Write; Alloc as a whole. -/
import Derived.Test.YtbkiahnljklhpaaDoorDiskAlloc
import Derived.Laws.CopyOwn
namespace Go.Proofs.YtbkiahnljklhpaaDoor
open Go.RowKit
open Seal
theorem alloc_ok (g : Nat) (s : Disk.St) (own : Nat → Nat) (w : World) (h : DiskAt w g s own) (ho : s.ops < 4611686018427387904) (hT : Bruijn w) (hT0 : own 0 = 0) (M : Nat) (hEM : Disk.hit 1 (s.plan (s.ops + 1 - s.begun)) = (0, M)) (hf : Disk.live s.pages < s.most) :
    Calls Tryd.prog 7 #[.pointer (some ⟨g, 0, none⟩)] w fun e w' => e = .returned (.tuple #[.int .i64 (Disk.leastFree s.pages : Nat), .int .i64 0]) ∧ ∃ own', DiskAt w' g { tick s with pages := Disk.put s.pages (Disk.leastFree s.pages) (some (List.replicate s.page 0)) } own' ∧ Only own w w' ∧ ∀ b, b < w.heap.size → own' b = own b := by
  rcases Nat.lt_or_ge (Disk.leastFree s.pages) s.pages.length with h1 | h1
  · exact alloc_fill g s own w h ho hT hT0 M hEM hf _ rfl h1
  · exact alloc_grow g s own w h ho hT hT0 M hEM hf _ rfl (Nat.le_antisymm (Disk.leastFree_le _) h1)
/-- A Free never fails by a fault. -/
theorem hit_free (l : List Nat) : Disk.hit 2 l = (0, 0) := by
  unfold Disk.hit
  have : ∀ (l : List Nat) (r : Nat × Nat), l.foldl (Disk.app 2) r = r := by
    intro l
    induction l with
    | nil => intro r; rfl
    | cons k t ih =>
      intro r
      rw [List.foldl_cons, ih]
      unfold Disk.app
      repeat' split
      all_goals first | rfl | (rename_i h; cases h) | omega
  exact this l _
set_option maxRecDepth 100000 in
set_option maxHeartbeats 1000000 in
theorem free_none (g : Nat) (s : Disk.St) (own : Nat → Nat) (n : Int) (w : World) (h : DiskAt w g s own) (ho : s.ops < 4611686018427387904) (hu : hasB s.pages n = false) :
    Calls Tryd.prog 52 #[.pointer (some ⟨g, 0, none⟩), .int .i64 n] w fun e w' => e = .returned (.int .i64 20) ∧ DiskAt w' g (tick s) own ∧ Only own w w' := by
  have C := begin_core g s own 2 w h ho _ rfl 0 0 (hit_free _)
  rw [show ((2 : Nat) : Int) = 2 from rfl, show ((0 : Nat) : Int) = 0 from rfl] at C
  have HC := Lib.hid C
  have HU := Lib.hid hu
  clear C h hu
  go_enter Tryd.func52, Tryd.ntmps52
  go_wp2_with fail
  refine HC.out.mono ?_
  rintro e w1 ⟨rfl, hD, hO⟩
  have C2 := has_any g (tick s) own n _ hD
  rw [show hasB (tick s).pages n = false from HU.out] at C2
  have HC2 := Lib.hid C2
  have HD := Lib.hid hD
  have HO := Lib.hid hO
  clear hD hO C2
  go_wp2_with fail
  refine HC2.out.mono ?_
  rintro e w3 ⟨rfl, rfl⟩
  go_wp2_with fail
  go_ret
  exact ⟨rfl, HD.out, HO.out⟩
/-- What a Free leaves. -/
theorem DiskRep.freed {w : World} {g : Nat} {s : Disk.St} {own : Nat → Nat} {gp cap : Nat} {gu : Nat} {mv : Value} {xs : List Value} {ws : List Nat} (R : DiskRep w g s own (.slice (some ⟨gp, 0, none⟩) s.pages.length cap) gu mv xs ws) {n : Nat} (hu : Disk.used s.pages n = true) :
    DiskAt ((((w.setCell ⟨gp, n, none⟩ (.slice none 0 0)).setCell ⟨gu, n / 64, none⟩ (.int .u64 ((ws.getD (n / 64) 0 &&& (18446744073709551615 - 2 ^ (n % 64)) : Nat) : Int))).setCell ⟨g, 4, none⟩ (.int .i64 ((Disk.live s.pages - 1 : Nat) : Int))).drew) g { s with pages := Disk.put s.pages n none } own
    ∧ Only own w ((((w.setCell ⟨gp, n, none⟩ (.slice none 0 0)).setCell ⟨gu, n / 64, none⟩ (.int .u64 ((ws.getD (n / 64) 0 &&& (18446744073709551615 - 2 ^ (n % 64)) : Nat) : Int))).setCell ⟨g, 4, none⟩ (.int .i64 ((Disk.live s.pages - 1 : Nat) : Int))).drew) := by
  have hn := Disk.used_lt hu
  have hgp : own gp = 2 := R.pages.mark gp rfl
  have hgu := R.used.mark
  have hg := R.mark
  have hxl := R.pages.length
  have n1 : g ≠ gu := fun e => by rw [e, hgu] at hg; cases hg
  have n2 : g ≠ gp := fun e => by rw [e, hgp] at hg; cases hg
  have n3 : gu ≠ gp := fun e => by rw [e, hgp] at hgu; cases hgu
  obtain ⟨hst, hgr⟩ := R.pages.row.stored n (.slice none 0 0)
  obtain ⟨wf, hwf⟩ : ∃ wf, wf = ((((w.setCell ⟨gp, n, none⟩ (.slice none 0 0)).setCell ⟨gu, n / 64, none⟩ (.int .u64 ((ws.getD (n / 64) 0 &&& (18446744073709551615 - 2 ^ (n % 64)) : Nat) : Int))).setCell ⟨g, 4, none⟩ (.int .i64 ((Disk.live s.pages - 1 : Nat) : Int))).drew) := ⟨_, rfl⟩
  have hk : ∀ b, own b ≠ 1 → own b ≠ 2 → own b ≠ 3 → wf.heap[b]? = w.heap[b]? := by
    intro b b1 b2 b3
    rw [hwf]
    show (((w.setCell ⟨gp, n, none⟩ _).setCell ⟨gu, n / 64, none⟩ _).setCell ⟨g, 4, none⟩ _).heap[b]? = _
    rw [Below.heap_setCell _ _ _ _ (fun e => b1 (by rw [e]; exact hg)), Below.heap_setCell _ _ _ _ (fun e => b3 (by rw [e]; exact hgu)), Below.heap_setCell _ _ _ _ (fun e => b2 (by rw [e]; exact hgp))]
  have hz : wf.heap.size = w.heap.size := by
    rw [hwf]
    show (((w.setCell ⟨gp, n, none⟩ _).setCell ⟨gu, n / 64, none⟩ _).setCell ⟨g, 4, none⟩ _).heap.size = _
    simp [World.setCell]
  have hgph : wf.heap[gp]? = (w.setCell ⟨gp, n, none⟩ (.slice none 0 0)).heap[gp]? := by
    rw [hwf]
    show (((w.setCell ⟨gp, n, none⟩ _).setCell ⟨gu, n / 64, none⟩ _).setCell ⟨g, 4, none⟩ _).heap[gp]? = _
    rw [Below.heap_setCell _ _ _ _ (fun e => n2 e.symm), Below.heap_setCell _ _ _ _ (fun e => n3 e.symm)]
  have hlen : (Disk.put s.pages n none).length = s.pages.length := by unfold Disk.put; rw [if_neg (by omega)]; simp
  have hput : Disk.put s.pages n none = s.pages.set n none := by unfold Disk.put; rw [if_neg (by omega)]
  rw [← hwf]
  refine ⟨⟨_, gu, mv, xs.set n (.slice none 0 0), ws.set (n / 64) (ws.getD (n / 64) 0 &&& (18446744073709551615 - 2 ^ (n % 64))), ?_, hg, ⟨?_, R.pages.mark, ?_⟩, ⟨hgu, ?_, ?_⟩, R.plan.keep fun b hb hr => ⟨hk b (by unfold isPlan at hr; omega) (by unfold isPlan at hr; omega) (by unfold isPlan at hr; omega), rfl⟩, R.page, ?_, R.top, R.since, R.few, fun b hb => R.fresh b (by omega)⟩, ?_⟩
  · have h0 : ((w.setCell ⟨gp, n, none⟩ (.slice none 0 0)).setCell ⟨gu, n / 64, none⟩ (.int .u64 ((ws.getD (n / 64) 0 &&& (18446744073709551615 - 2 ^ (n % 64)) : Nat) : Int))).heap[g]? = w.heap[g]? := by
      rw [Below.heap_setCell _ _ _ _ n1, Below.heap_setCell _ _ _ _ n2]
    have hb := (R.blk.same h0).s4 (Disk.live s.pages - 1)
    rw [show Disk.live (Disk.put s.pages n none) = Disk.live s.pages - 1 by have := Disk.live_put_none hu; omega, hwf]
    exact hb
  · show World.ownsRow _ 0 _ 1 _ (Disk.put s.pages n none).length _
    rw [hlen]
    exact ownsRow_keep hst fun b hb => by
      have : b = gp := by simpa [Value.ownBlock] using hb.symm
      subst this; exact hgph
  · intro i hi
    have hi' : i < s.pages.length := by have : i < (Disk.put s.pages n none).length := hi; omega
    show PageAt _ own s.page i ((xs.set n (.slice none 0 0)).getD i undef) ((Disk.put s.pages n none).getD i none)
    rw [hput]
    simp only [List.getD_eq_getElem?_getD, List.getElem?_set, hxl]
    by_cases hin : n = i
    · subst hin
      simp [hn, PageAt]
    · rw [if_neg hin, if_neg hin]
      have := R.pages.at_ i hi'
      simp only [List.getD_eq_getElem?_getD] at this
      exact this.keep fun b hb hr => ⟨hk b (by omega) (by omega) (by omega), rfl⟩
  · rw [hwf]
    show (((w.setCell ⟨gp, n, none⟩ _).setCell ⟨gu, n / 64, none⟩ _).setCell ⟨g, 4, none⟩ _).heap[gu]? = _
    rw [Below.heap_setCell _ _ _ _ (fun e => n1 e.symm)]
    exact words_set (by rw [Below.heap_setCell _ _ _ _ n3]; exact R.used.row) _ _
  · exact R.used.words.clear n hn (by have := R.most; omega)
  · show (Disk.put s.pages n none).length ≤ s.most
    rw [hlen]; exact R.most
  · rw [hwf]
    exact (((((Only.refl _ _).setCell (.inl (by show own gp ≠ 0; rw [hgp]; decide)) _).setCell (.inl (by show own gu ≠ 0; rw [hgu]; decide)) _).setCell (.inl (by show own g ≠ 0; rw [hg]; decide)) _).drew)
set_option maxRecDepth 100000 in
set_option maxHeartbeats 2000000 in
theorem free_ok (g : Nat) (s : Disk.St) (own : Nat → Nat) (n : Nat) (w : World) (h : DiskAt w g s own) (ho : s.ops < 4611686018427387904) (hu : Disk.used s.pages n = true) :
    Calls Tryd.prog 52 #[.pointer (some ⟨g, 0, none⟩), .int .i64 (n : Int)] w fun e w' => e = .returned (.int .i64 0) ∧ DiskAt w' g { tick s with pages := Disk.put s.pages n none } own ∧ Only own w w' := by
  have C := begin_core g s own 2 w h ho _ rfl 0 0 (hit_free _)
  rw [show ((2 : Nat) : Int) = 2 from rfl, show ((0 : Nat) : Int) = 0 from rfl] at C
  have HC := Lib.hid C
  have HU := Lib.hid hu
  clear C h hu
  go_enter Tryd.func52, Tryd.ntmps52
  go_wp2_with fail
  refine HC.out.mono ?_
  rintro e w1 ⟨rfl, hD, hO⟩
  have C2 := has_any g (tick s) own (n : Int) _ hD
  rw [show hasB (tick s).pages (n : Int) = true from (hasB_nat _ _).trans HU.out] at C2
  have HC2 := Lib.hid C2
  have HO := Lib.hid hO
  obtain ⟨pv, gu, mv, xs, ws, R⟩ := hD
  have hn : n < s.pages.length := Disk.used_lt HU.out
  obtain ⟨a, cap, hpv, hnc, hcm, hxl, hrow⟩ := row_form R.pages.row
  obtain ⟨gp, ha, hob, hcells, hfr⟩ := hrow (Nat.lt_of_le_of_lt (Nat.zero_le _) hn)
  subst ha
  subst hpv
  have c2 : w1.cell? ⟨g, 2, none⟩ = some (.slice (some ⟨gp, 0, none⟩) s.pages.length cap) := R.blk.c2
  have hcn := hcells n hn
  have hfn := hfr n
  have hgp : own gp = 2 := R.pages.mark gp rfl
  have hgu := R.used.mark
  have hg := R.mark
  have n1 : g ≠ gu := fun e => by rw [e, hgu] at hg; cases hg
  have n2 : g ≠ gp := fun e => by rw [e, hgp] at hg; cases hg
  have n3 : gu ≠ gp := fun e => by rw [e, hgp] at hgu; cases hgu
  have hlv1 : 1 ≤ Disk.live s.pages := by have := Disk.live_put_none HU.out; omega
  have hlv2 : Disk.live s.pages ≤ 16384 := by
    have h1 := Disk.live_le s.pages
    have h2 : s.pages.length ≤ s.most := R.most
    have h3 : s.most ≤ 16384 := R.top
    omega
  obtain ⟨nw, hnw⟩ : ∃ nw, nw = (s.most + 63) / 64 := ⟨_, rfl⟩
  obtain ⟨q, hq⟩ : ∃ q, q = n / 64 := ⟨_, rfl⟩
  obtain ⟨r, hr⟩ : ∃ r, r = n % 64 := ⟨_, rfl⟩
  have hnm : n < s.most := Nat.lt_of_lt_of_le hn R.most
  have htop : s.most ≤ 16384 := R.top
  have hnw2 : q < nw := by omega
  have hw1 : IntKind.i64.wrap ((n : Int) / 64) = (q : Int) := by rw [IntKind.wrap_i64]; omega
  have hw2 : ((n : Int)).tmod 64 = (r : Int) := by rw [Int.tmod_eq_emod_of_nonneg (by omega)]; omega
  have hd1 : (0 : Int) ≤ (q : Int) := by omega
  have hd2 : (q : Int) < (nw : Int) := by omega
  have hd3 : (0 : Int) ≤ (r : Int) := by omega
  have hr64 : r < 64 := by omega
  have hU : UsedAt w1 own gu nw s.pages ws := by rw [hnw]; exact R.used
  have hwlt := hU.words.lt q
  obtain ⟨nv, hnv⟩ : ∃ nv, nv = ws.getD q 0 &&& (18446744073709551615 - 2 ^ r) := ⟨_, rfl⟩
  have hand : bits .andNot .u64 ((ws.getD q 0 : Nat) : Int) (IntKind.u64.wrap (2 ^ r)) = (nv : Int) := by
    rw [wrap_pow r hr64, u64_andNot_nat _ _ hwlt (pow_lt64 r hr64), hnv]
  obtain ⟨wA, hwA⟩ : ∃ wA, wA = w1.setCell ⟨gp, n, none⟩ (.slice none 0 0) := ⟨_, rfl⟩
  have k3 : wA.cell? ⟨g, 3, none⟩ = some (.slice (some ⟨gu, 0, none⟩) nw nw) := by rw [hwA, World.cell?_of_block (Below.heap_setCell _ _ _ _ n2), hnw]; exact R.blk.c3
  have hwc : wA.cell? ⟨gu, q, none⟩ = some (.int .u64 ((ws.getD q 0 : Nat) : Int)) := by rw [hwA, World.cell?_of_block (Below.heap_setCell _ _ _ _ n3)]; exact hU.cell hnw2
  have hwf : wA.frozen? ⟨gu, q, none⟩ = false := by rw [hwA, World.frozen?_of_block (Below.heap_setCell _ _ _ _ n3)]; exact hU.frozen q
  have e4 : (wA.setCell ⟨gu, q, none⟩ (.int .u64 (nv : Int))).cell? ⟨g, 4, none⟩ = some (.int .i64 (Disk.live s.pages : Nat)) := by
    rw [World.cell?_of_block (Below.heap_setCell _ _ _ _ n1), hwA, World.cell?_of_block (Below.heap_setCell _ _ _ _ n2)]; exact R.blk.c4
  have z4 : (wA.setCell ⟨gu, q, none⟩ (.int .u64 (nv : Int))).frozen? ⟨g, 4, none⟩ = false := by
    rw [World.frozen?_of_block (Below.heap_setCell _ _ _ _ n1), hwA, World.frozen?_of_block (Below.heap_setCell _ _ _ _ n2)]; exact R.blk.fr 4
  have HFin := R.freed (show Disk.used (tick s).pages n = true from HU.out)
  rw [show Disk.live (tick s).pages = Disk.live s.pages from rfl, ← hr, ← hq, ← hnv, ← hwA, show ((Disk.live s.pages - 1 : Nat) : Int) = (Disk.live s.pages : Int) - 1 by omega] at HFin
  have HFIN := Lib.hid HFin
  have dn2 : (n : Int) < (s.pages.length : Int) := by omega
  have HWA := Lib.hid hwA
  clear R HFin hrow hcells hfr hxl hob hU hnv hwA C2 hO hq hr hnw n1 n2 n3 hgp hgu hg hnm htop
  generalize Disk.live s.pages = lv at *
  generalize ws.getD q 0 = wd at *
  generalize s.pages.length = m at *
  go_wp2_with fail
  refine HC2.out.mono ?_
  rintro e w3 ⟨rfl, rfl⟩
  go_wp2_with fail
  rw [← HWA.out]
  refine wp_region_still_tail 13 (by kernel_rfl) (by kernel_rfl) ?_
  simp only [List.take_succ_cons, List.take_zero, List.drop_succ_cons, List.drop_zero]
  iterate 13 still_step
  refine wpStill_nil ?_
  change wpList _ _ _ _ _ wA.drew
  go_wp2_with fail
  go_ret
  exact ⟨rfl, HFIN.out.1, HO.out.trans HFIN.out.2⟩
end Go.Proofs.YtbkiahnljklhpaaDoor
