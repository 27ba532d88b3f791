/- THE WALK OF Read. -/
import Derived.Test.YtbkiahnljklhpaaDoorDiskRead
namespace Go.Proofs.YtbkiahnljklhpaaDoor
open Go.RowKit
open Seal
def opRow (s e m : Nat) : Obj := .cells #[.int .i64 (s : Int), .int .i64 (e : Int), .int .u8 (m : Int)] 60
theorem opn_new (w : World) (s e m : Nat) : Opn (w.alloc (opRow s e m)) w.heap.size s e m := by unfold Opn opRow; exact heap_alloc_new _ _
theorem below_alloc (w : World) (o : Obj) : Below w.heap.size w (w.alloc o) := (Below.refl _ _).alloc (Nat.le_refl _) o
theorem ownsRow_base {w : World} {B B' : Nat} {e : TypeId} {size : Nat} {v : Value} {n : Nat} {xs : List Value} (hB : B' ≤ B) (h : w.ownsRow B e size v n xs) : w.ownsRow B' e size v n xs := by
  obtain ⟨h1, h2⟩ := h
  refine ⟨h1, ?_⟩
  rcases h2 with h2 | ⟨g, cap, cur, rfl, hb, r⟩
  · exact .inl h2
  · exact .inr ⟨g, cap, cur, rfl, Nat.le_trans hB hb, r⟩
set_option maxRecDepth 100000 in
set_option maxHeartbeats 1000000 in
theorem read_err (g : Nat) (s : Disk.St) (own : Nat → Nat) (n : Int) (w : World) (h : DiskAt w g s own) (ho : s.ops < 4611686018427387904) (E M : Nat) (hEM : Disk.hit 3 (s.plan (s.ops + 1 - s.begun)) = (E, M)) (hE : E ≠ 0) :
    Calls Tryd.prog 10 #[.pointer (some ⟨g, 0, none⟩), .int .i64 n] w fun e w' => e = .returned (.tuple #[.slice none 0 0, .int .i64 (E : Int)]) ∧ DiskAt w' g (tick s) own ∧ Only own w w' := by
  have C := begin_core g s own 3 w h ho _ rfl E M hEM
  rw [show ((3 : Nat) : Int) = 3 from rfl] at C
  have HC := Lib.hid C
  have d : ((E : Int) != 0) = true := by rw [bne_iff_ne]; omega
  clear C h hE hEM
  go_enter Tryd.func10, Tryd.ntmps10
  go_wp2_with fail
  refine HC.out.mono ?_
  rintro e w1 ⟨rfl, hD, hO⟩
  have HD := Lib.hid hD
  have HO := Lib.hid hO
  clear hD hO
  go_wp2_with fail
  have hop := opn_new w1 3 E M
  have hD2 := HD.out.below (below_alloc w1 (opRow 3 E M))
  have hO2 := HO.out.alloc (opRow 3 E M)
  unfold opRow at hop hD2 hO2
  rw [show ((3 : Nat) : Int) = 3 from rfl] at hop hD2 hO2
  obtain ⟨O, hOe⟩ : ∃ O, O = w1.heap.size := ⟨_, rfl⟩
  obtain ⟨w2, hw2⟩ : ∃ w2, w2 = w1.alloc (.cells #[.int .i64 3, .int .i64 (E : Int), .int .u8 (M : Int)] 60) := ⟨_, rfl⟩
  rw [← hw2] at hop hD2 hO2 ⊢
  rw [← hOe] at hop ⊢
  have c1 := hop.c1
  have HD2 := Lib.hid hD2
  have HO2 := Lib.hid hO2
  clear hop hD2 hO2 hw2 hOe
  go_quiet (fail)
  go_wp2_with fail
  go_ret2
  exact ⟨rfl, HD2.out.drewN _, HO2.out.drewN _⟩
set_option maxRecDepth 100000 in
set_option maxHeartbeats 1000000 in
theorem read_none (g : Nat) (s : Disk.St) (own : Nat → Nat) (n : Int) (w : World) (h : DiskAt w g s own) (ho : s.ops < 4611686018427387904) (M : Nat) (hEM : Disk.hit 3 (s.plan (s.ops + 1 - s.begun)) = (0, M)) (hu : hasB s.pages n = false) :
    Calls Tryd.prog 10 #[.pointer (some ⟨g, 0, none⟩), .int .i64 n] w fun e w' => e = .returned (.tuple #[.slice none 0 0, .int .i64 20]) ∧ DiskAt w' g (tick s) own ∧ Only own w w' := by
  have C := begin_core g s own 3 w h ho _ rfl 0 M hEM
  rw [show ((3 : Nat) : Int) = 3 from rfl, show ((0 : Nat) : Int) = 0 from rfl] at C
  have HC := Lib.hid C
  have HU := Lib.hid hu
  clear C h hEM hu
  go_enter Tryd.func10, Tryd.ntmps10
  go_wp2_with fail
  refine HC.out.mono ?_
  rintro e w1 ⟨rfl, hD, hO⟩
  have HD := Lib.hid hD
  have HO := Lib.hid hO
  clear hD hO
  go_wp2_with fail
  have hop := opn_new w1 3 0 M
  have hD2 := HD.out.below (below_alloc w1 (opRow 3 0 M))
  have hO2 := HO.out.alloc (opRow 3 0 M)
  unfold opRow at hop hD2 hO2
  rw [show ((3 : Nat) : Int) = 3 from rfl, show ((0 : Nat) : Int) = 0 from rfl] at hop hD2 hO2
  have C2 := has_any g (tick s) own n _ hD2
  rw [show hasB (tick s).pages n = false from HU.out] at C2
  have HC2 := Lib.hid C2
  have HD2 := Lib.hid hD2
  have HO2 := Lib.hid hO2
  clear hop hD2 hO2 C2
  refine HC2.out.mono ?_
  rintro e w3 ⟨rfl, rfl⟩
  go_wp2_with fail
  go_ret2
  exact ⟨rfl, HD2.out, HO2.out⟩
set_option maxRecDepth 100000 in
set_option maxHeartbeats 1000000 in
theorem read_ok (g : Nat) (s : Disk.St) (own : Nat → Nat) (k : Nat) (bs : List Nat) (w : World) (h : DiskAt w g s own) (ho : s.ops < 4611686018427387904) (M : Nat) (hEM : Disk.hit 3 (s.plan (s.ops + 1 - s.begun)) = (0, M)) (hp : s.pages.getD k none = some bs) :
    Calls Tryd.prog 10 #[.pointer (some ⟨g, 0, none⟩), .int .i64 (k : Int)] w fun e w' => ∃ v, e = .returned (.tuple #[v, .int .i64 0]) ∧ w'.ownsRow w.heap.size 5 1 v s.page (u8s (bs.set 0 (bs.getD 0 0 ^^^ M))) ∧ DiskAt w' g (tick s) own ∧ Only own w w' := by
  have C := begin_core g s own 3 w h ho _ rfl 0 M hEM
  rw [show ((3 : Nat) : Int) = 3 from rfl, show ((0 : Nat) : Int) = 0 from rfl] at C
  have HC := Lib.hid C
  have hM2 : M < 2 := by have := (Disk.hit_small 3 (s.plan (s.ops + 1 - s.begun))).2; rw [hEM] at this; exact this
  have HP := Lib.hid hp
  clear C h hEM hp
  go_enter Tryd.func10, Tryd.ntmps10
  go_wp2_with fail
  refine HC.out.mono ?_
  rintro e w1 ⟨rfl, hD, hO⟩
  have HD := Lib.hid hD
  have HO := Lib.hid hO
  clear hD hO
  go_wp2_with fail
  have hop := opn_new w1 3 0 M
  have hD2 := HD.out.below (below_alloc w1 (opRow 3 0 M))
  have hO2 := HO.out.alloc (opRow 3 0 M)
  unfold opRow at hop hD2 hO2
  rw [show ((3 : Nat) : Int) = 3 from rfl, show ((0 : Nat) : Int) = 0 from rfl] at hop hD2 hO2
  obtain ⟨O, hOe⟩ : ∃ O, O = w1.heap.size := ⟨_, rfl⟩
  obtain ⟨w2, hw2⟩ : ∃ w2, w2 = w1.alloc (.cells #[.int .i64 3, .int .i64 0, .int .u8 (M : Int)] 60) := ⟨_, rfl⟩
  have hz2 : w2.heap.size = w1.heap.size + 1 := by rw [hw2]; simp
  rw [← hw2] at hop hD2 hO2 ⊢
  rw [← hOe] at hop ⊢
  have C2 := has_any g (tick s) own (k : Int) _ hD2
  rw [show hasB (tick s).pages (k : Int) = true by rw [hasB_nat]; unfold Disk.used; rw [show (tick s).pages = s.pages from rfl, HP.out]; rfl] at C2
  have HC2 := Lib.hid C2
  have HD2 := Lib.hid hD2
  have HO2 := Lib.hid hO2
  have HOP := Lib.hid hop
  have HOE := Lib.hid hOe
  have HZ2 := Lib.hid hz2
  clear hop hD2 hO2 C2 hw2 hOe hz2
  refine HC2.out.mono ?_
  rintro e w3 ⟨rfl, rfl⟩
  obtain ⟨pv, gu, mv, xs, ws, R⟩ := HD2.out
  obtain ⟨a, cap, b, hk, rfl, hnc, hcell, _, hr, hl, hoct⟩ := page_at R (show (tick s).pages.getD k none = some bs from HP.out)
  have c2 := R.blk.c2
  have hpg := pageOk_bounds R.page
  have hrd := hr.reads 0 bs.length (by omega)
  rw [List.drop_zero, List.take_length] at hrd
  have C3 := clone_any b s.page bs w2 (by rw [hl]; exact Nat.lt_of_lt_of_le (by decide) hpg.1) (by rw [hl]; exact Nat.le_trans hpg.2 (by decide)) hrd
  have hl' : bs.length = s.page := hl
  rw [hl'] at C3
  have HC3 := Lib.hid C3
  have hpg' : 64 ≤ s.page ∧ s.page ≤ 4096 := hpg
  have hcell' : w2.cell? ⟨a, k, none⟩ = some (.slice (some ⟨b, 0, none⟩) s.page s.page) := hcell
  have c2' : w2.cell? ⟨g, 2, none⟩ = some (.slice (some ⟨a, 0, none⟩) s.pages.length cap) := c2
  have hnc' : s.pages.length ≤ cap := hnc
  have d1 : (k : Int) < (s.pages.length : Int) := by have : k < s.pages.length := hk; omega
  clear C3 R hr hrd hl hpg hcell c2 hnc hk
  generalize s.pages.length = m at *
  go_wp2_with fail
  refine HC3.out.mono ?_
  rintro e w4 ⟨v, rfl, hO4, hB4⟩
  have hw24 : w2.heap.size ≤ w4.heap.size := hB4.size
  obtain ⟨gv, cv, cur, rfl, hBg, hgv, htake, hlc, hcm, hcs⟩ := newBytes_of_row (l := bs) (by omega) (by rw [hl']; exact hO4)
  rw [hl'] at hO4 hlc ⊢
  obtain ⟨c0, hc0e⟩ : ∃ c0, bs.getD 0 0 = c0 := ⟨_, rfl⟩
  have hfirst : w4.cell? ⟨gv, 0, none⟩ = some (.int .u8 ((c0 : Nat) : Int)) := by
    rw [hO4.cellAt 0 (by omega)]
    rw [← hc0e]
    simp [u8s, u8, List.getD_eq_getElem?_getD, List.getElem?_eq_getElem (show 0 < bs.length by omega)]
  have hfz := hO4.frozenAt 0
  have hst := (hO4.stored 0 (.int .u8 ((c0 ^^^ M : Nat) : Int)))
  have hc0 : c0 < 256 := hoct _ (by rw [← hc0e, List.getD_eq_getElem?_getD, List.getElem?_eq_getElem (show 0 < bs.length by omega)]; exact List.getElem_mem _)
  have hxor := u8_xor_nat (c0) M hc0 (by omega)
  have hop4 : Opn w4 O 3 0 M := HOP.out.same (hB4.block O (by rw [HZ2.out, HOE.out]; omega))
  have p2 := hop4.c2
  have hset : (u8s bs).set 0 (.int .u8 ((c0 ^^^ M : Nat) : Int)) = u8s (bs.set 0 (c0 ^^^ M)) := by simp [u8s, u8, List.map_set]
  rw [hset] at hst
  have HST := Lib.hid hst
  have HX := Lib.hid hxor
  have HB4 := Lib.hid hB4
  have hbg2 : w2.heap.size ≤ gv := hBg
  have HC0 := Lib.hid hc0e
  clear hO4 hgv htake hst hset hxor hB4 hop4 hoct hc0e
  go_wp2_with fail
  have q1 : (0 : Int) < (s.page : Int) := by omega
  have q2 : 0 < s.page := by omega
  refine wp_region_still_tail 7 (by kernel_rfl) (by kernel_rfl) ?_
  simp only [List.take_succ_cons, List.take_zero, List.drop_succ_cons, List.drop_zero]
  iterate 7 still_step
  refine wpStill_nil ?_
  change wpList _ _ _ _ _ w4.drew
  rw [HX.out]
  go_wp2_with fail
  go_ret2
  obtain ⟨hs1, hs2⟩ := HST.out
  have hww : w.heap.size ≤ w2.heap.size := HO2.out.size
  have hg0 : own gv = 0 := HD2.out.fresh gv hbg2
  refine ⟨_, rfl, (by rw [HC0.out]; exact ownsRow_base hww hs1), ?_, ?_⟩
  · exact ((HD2.out.below HB4.out).grown hs2 hg0).drewN 1
  · exact ((HO2.out.trans (Only.of_below HB4.out)).grown hs2 (.inr (Nat.le_trans hww hbg2))).drewN 1
end Go.Proofs.YtbkiahnljklhpaaDoor
