/- THE WALK OF DiskLeast. -/
import Derived.Test.YtfgamdpjcfbcbaaDoorDiskAwake
import Derived.RegionTactic
import Derived.BigRegion
import Derived.BigGuard
namespace Go.Proofs.YtfgamdpjcfbcbaaDoor
open Go.RowKit
open Seal
def bv (b : Bool) : Value := .bool b
def RowB (w : World) (g : Nat) (u : List Bool) : Prop := w.heap[g]? = some (.cells (u.map bv).toArray 4 (0, 0))
theorem RowB.cell {w : World} {g : Nat} {u : List Bool} (h : RowB w g u) {j : Nat} (hj : j < u.length) : w.cell? ⟨g, j, none⟩ = some (.bool (u.getD j false)) := by
  rw [cell_of_row w g j _ _ _ h]
  simp [bv, List.getElem?_eq_getElem hj, List.getD_eq_getElem?_getD]
theorem RowB.frozen {w : World} {g : Nat} {u : List Bool} (h : RowB w g u) (j : Nat) : w.frozen? ⟨g, j, none⟩ = false := frozen_of_row w g j _ _ h
theorem RowB.set {w : World} {g : Nat} {u : List Bool} (h : RowB w g u) (j : Nat) (v : Bool) : RowB (w.setCell ⟨g, j, none⟩ (.bool v)) g (u.set j v) := by
  unfold RowB
  rw [heap_setCell_same w g j _ _ _ h]
  simp [bv, List.map_set]
theorem infoBool : (Tryd.prog.info? 4).map (fun i => (i.zero, i.size, i.bytes)) = some (some (.bool false), 1, 1) := by kernel_rfl
theorem run_makeBools (n : Nat) (hn : n ≤ 4096) (u : World) : (Instr.makeSlice 28 (.int .i64 (n : Int)) (.int .i64 (n : Int))).run Tryd.prog u = .ok (.slice (some ⟨u.heap.size, 0, none⟩) n n) (u.alloc (.cells (madeCells #[.bool false] n) 4)) := by
  obtain ⟨i0, hi, hz0, hz1, hz2⟩ := info_parts infoBool
  have h := run_make (P := Tryd.prog) u 28 4 i0 (.bool false) Tryd.underlying28 hi hz0 .i64 .i64 (n : Int) (n : Int) (by omega) (Int.le_refl _) (by rw [hz2]; omega) (by omega)
  rw [Int.toNat_natCast] at h
  simpa [hz1, Value.cells] using h
theorem RowB.made {w : World} (n : Nat) : RowB (w.alloc (.cells (madeCells #[.bool false] n) 4)) w.heap.size (List.replicate n false) := by
  unfold RowB
  rw [heap_alloc_new w _]
  congr 3
  apply Array.toList_inj.1
  rw [toList_madeCells_one]; simp [bv]
/-- What DiskLeast keeps from round to round. -/
structure LeastInv (w0 w : World) (g bu n k : Nat) (s : Disk.St) (own : Nat → Nat) (u : List Bool) : Prop where
  disk : DiskAt w g s own
  page : s.page = 64
  most : s.most = n
  ops : s.ops ≤ 3 * k
  plan : ∀ j, s.plan j = []
  row : RowB w bu u
  len : u.length = n
  same : ∀ j, j < n → u.getD j false = Disk.used s.pages j
  free : own bu = 0
  below : Below w0.heap.size w0 w
  low : ∀ i, i < w0.heap.size → own i = 0
  bul : w0.heap.size ≤ bu
theorem LeastInv.step {w0 w w' : World} {g bu n k k' : Nat} {s s' : Disk.St} {own own' : Nat → Nat} {u : List Bool} (h : LeastInv w0 w g bu n k s own u) (hD : DiskAt w' g s' own') (hO : Only own w w') (hs : ∀ b, b < w.heap.size → own' b = own b)
    (hp : s'.page = s.page) (hm : s'.most = s.most) (ho : s'.ops ≤ 3 * k') (hpl : s'.plan = s.plan) (hu : ∀ j, j < n → u.getD j false = Disk.used s'.pages j) : LeastInv w0 w' g bu n k' s' own' u := by
  have hbl := heap_lt h.row
  refine ⟨hD, hp.trans h.page, hm.trans h.most, ho, fun j => by rw [hpl]; exact h.plan j, ?_, h.len, hu, (hs bu hbl).trans h.free, h.below.trans (hO.below h.below.size h.low), fun i hi => by rw [hs i (Nat.lt_of_lt_of_le hi h.below.size)]; exact h.low i hi, h.bul⟩
  exact (hO.block bu hbl h.free).trans h.row
/-- A mark is set, and the disk has followed. -/
theorem LeastInv.mark {w0 w : World} {g bu n k : Nat} {s : Disk.St} {own : Nat → Nat} {u : List Bool} (hD : DiskAt w g s own) (page : s.page = 64) (most : s.most = n) (ops : s.ops ≤ 3 * k) (plan : ∀ j, s.plan j = []) (row : RowB w bu u) (len : u.length = n)
    (free : own bu = 0) (below : Below w0.heap.size w0 w) (low : ∀ i, i < w0.heap.size → own i = 0) (bul : w0.heap.size ≤ bu) (j : Nat) (v : Bool) (hu : ∀ i, i < n → (u.set j v).getD i false = Disk.used s.pages i) :
    LeastInv w0 (w.setCell ⟨bu, j, none⟩ (.bool v)) g bu n k s own (u.set j v) :=
  ⟨hD.grown (grown_cell (World.grownBy.refl _ _) _ _) free, page, most, ops, plan, row.set j v, by simpa using len, hu, free, below.setCell bul _, low, bul⟩
theorem live_lt {l : Disk.Pages} {m t : Nat} (hl : l.length ≤ m) (ht : t < m) (hu : Disk.used l t = false) : Disk.live l < m := by
  rcases Nat.lt_or_ge t l.length with h | h
  · have h1 := Disk.live_put_new (Nat.le_of_lt h) hu []
    have h2 := Disk.live_le (Disk.put l t (some []))
    have h3 : (Disk.put l t (some [])).length = l.length := by unfold Disk.put; rw [if_neg (by omega)]; simp
    omega
  · have := Disk.live_le l
    omega
theorem getD_setB (u : List Bool) (i j : Nat) (v : Bool) : (u.set i v).getD j false = if i = j ∧ j < u.length then v else u.getD j false := by
  simp only [List.getD_eq_getElem?_getD, List.getElem?_set]
  by_cases h : i = j
  · subst h
    by_cases h2 : i < u.length
    · simp [h2]
    · simp [h2]
  · simp [h]
theorem getD_put {l : Disk.Pages} {n : Nat} (p : Option (List Nat)) (hn : n ≤ l.length) : (Disk.put l n p).getD n none = p := by
  unfold Disk.put
  split
  · rename_i h; subst h; simp [List.getD_eq_getElem?_getD]
  · simp [List.getD_eq_getElem?_getD, show n < l.length by omega]
def nine : List Nat := (noughts 64).set 9 9
theorem nine_len : nine.length = 64 := by decide
theorem nine_oct : Oct nine := by intro c hc; revert c; decide
theorem nine_cells : (madeCells #[Value.int .u8 0] 64).setIfInBounds 9 (Value.int .u8 9) = (u8s nine).toArray := by kernel_rfl
theorem noughts_oct : Oct (noughts 64) := by intro c hc; revert c; decide
set_option maxRecDepth 100000 in
set_option maxHeartbeats 1000000 in
theorem least_law (mo : Nat) (a : Option Addr) (len cap : Nat) (l : List Nat) (w : World) (hmo : mo < 256) (hl : l.length = len) (ho : Oct l) (hs : SliceIs w a l) (hT : Bruijn w) (h0 : 0 < w.heap.size) :
    Calls Tryd.prog 3 #[.int .u8 (mo : Int), .slice a len cap] w fun e w' => e = .returned (.bool true) ∧ Below w.heap.size w w' := by
  have CA := Lib.hid (awake_any w hT h0)
  have HT := Lib.hid hT
  have HL := Lib.hid hl
  have HS := Lib.hid hs
  have HO := Lib.hid ho
  obtain ⟨n, hn⟩ : ∃ n, n = 1 + mo % 12 := ⟨_, rfl⟩
  have hn1 : 1 ≤ n ∧ n ≤ 12 := by omega
  have hnn : 1 + (mo : Int) % 12 = (n : Int) := by omega
  clear hT hl hs ho hn
  by_cases hbig : 100 < len
  · go_enter Tryd.func3, Tryd.ntmps3
    go_wp2_with fail
    refine CA.out.mono ?_
    rintro e w1 ⟨rfl, hB1⟩
    have HB1 := Lib.hid hB1
    clear hB1
    go_wp2_with fail
    go_ret
    exact ⟨rfl, HB1.out⟩
  · have hmk := run_makeBools n (by omega)
    go_enter Tryd.func3, Tryd.ntmps3
    go_wp2_with fail
    refine CA.out.mono ?_
    rintro e w1 ⟨rfl, hB1⟩
    have C1 := new_ok 64 n w1 (by decide) (by omega)
    rw [show ((64 : Nat) : Int) = 64 from rfl] at C1
    have HC1 := Lib.hid C1
    have HB1 := Lib.hid hB1
    clear hB1 C1
    go_wp2_with fail
    refine HC1.out.mono ?_
    rintro e w2 ⟨rfl, hD2, hB2, hz2⟩
    obtain ⟨g, hg⟩ : ∃ g, g = w1.heap.size + 1 := ⟨_, rfl⟩
    rw [← hg] at hD2 ⊢
    generalize newOwn w1.heap.size = own0 at hD2 hz2
    have hB02 : Below w.heap.size w w2 := HB1.out.trans (hB2.mono HB1.out.size)
    have hI : LeastInv w (w2.alloc (.cells (madeCells #[.bool false] n) 4)) g w2.heap.size n 0 (new 64 n) own0 (List.replicate n false) := by
      refine ⟨hD2.below (below_alloc _ _), rfl, rfl, Nat.zero_le _, fun _ => rfl, RowB.made n, by simp, fun j hj => ?_, hD2.fresh _ (Nat.le_refl _), hB02.alloc hB02.size _, fun i hi => hz2 i (Nat.lt_of_lt_of_le hi HB1.out.size), hB02.size⟩
      rw [show Disk.used (new 64 n).pages j = false by simp [Disk.used, new]]
      simp only [List.getD_eq_getElem?_getD, List.getElem?_replicate]
      split <;> rfl
    have HI := Lib.hid hI
    clear hD2 hB2 hz2 hg hB02 hI
    go_wp2_with fail
    obtain ⟨w3, hw3⟩ : ∃ w3, w3 = w2.alloc (.cells (madeCells #[.bool false] n) 4) := ⟨_, rfl⟩
    obtain ⟨bu, hbu⟩ : ∃ bu, bu = w2.heap.size := ⟨_, rfl⟩
    have hI3 : LeastInv w w3 g bu n 0 (new 64 n) own0 (List.replicate n false) := by rw [hw3, hbu]; exact HI.out
    rw [← hw3, ← hbu]
    have HI3 := Lib.hid hI3
    clear hw3 hbu hI3 HI hmk
    go_loopw [9] (fun i wr => ∃ (k : Nat) (s : Disk.St) (own : Nat → Nat) (u : List Bool), k ≤ len ∧ i = .int .i64 (k : Int) ∧ LeastInv w wr g bu n k s own u) (fun i _ => len - (intOf i).toNat)
    case atStart => exact ⟨0, _, _, _, Nat.zero_le _, rfl, HI3.out⟩
    case round =>
      obtain ⟨k, s, own, u, hk, rfl, hI⟩ := hrel
      have HI := Lib.hid hI
      clear hI HI3
      by_cases hlt : k < len
      · obtain ⟨b, off, rfl, hrd⟩ := HS.out.resolve_left (fun e => by have := HL.out; rw [e] at this; simp at this; omega)
        have hck : wr.cell? ⟨b, off + k, none⟩ = some (.int .u8 ((l.getD k 0 : Nat) : Int)) := (hrd.below HI.out.below (World.block_lt_of_cell? w _ (hrd 0 (by rw [HL.out]; omega)))) k (by rw [HL.out]; exact hlt)
        have hc8 : l.getD k 0 < 256 := HO.out _ (by rw [List.getD_eq_getElem?_getD, List.getElem?_eq_getElem (show k < l.length by rw [HL.out]; exact hlt)]; exact List.getElem_mem _)
        clear hrd
        generalize l.getD k 0 = c at *
        obtain ⟨x, hx⟩ : ∃ x, x = c / 2 % n := ⟨_, rfl⟩
        have hxn : x < n := by rw [hx]; exact Nat.mod_lt _ (by omega)
        have e1 : ((c : Int) / 2).tmod (n : Int) = (x : Int) := by
          rw [Int.tmod_eq_emod_of_nonneg (by omega), hx]; simp
        have q1 : (x : Int) < (n : Int) := by omega
        have hcu := HI.out.row.cell (j := x) (by rw [HI.out.len]; exact hxn)
        have hfu := HI.out.row.frozen x
        have hsx := HI.out.same x hxn
        have ea : bits .and .u8 (c : Int) 1 = ((c % 2 : Nat) : Int) := by
          have h2 := u8_and_nat c 1 hc8 (by decide)
          rw [show ((1 : Nat) : Int) = 1 from rfl] at h2
          rw [h2, Nat.and_one_is_mod]
        have hops : s.ops < 4611686018427387904 := by have := HI.out.ops; omega
        have hzn : ¬ (n : Int) = 0 := by omega
        have HX := Lib.hid hx
        have HEA := Lib.hid ea
        have HSX := Lib.hid hsx
        clear hx ea hsx
        rcases Nat.mod_two_eq_zero_or_one c with hpar | hpar
        · have eb : bits .and .u8 (c : Int) 1 = 0 := by rw [HEA.out, hpar]; rfl
          clear hpar
          go_wp2_with fail
          obtain ⟨wo, rfl⟩ : ∃ wo : World, wo = wr := ⟨_, rfl⟩
          clear hcu hfu
          go_loop [11] (fun i => ∃ t : Nat, t ≤ n ∧ i = .int .i64 (t : Int) ∧ Hid (∀ j, j < t → Disk.used s.pages j = true)) (fun i => n - (intOf i).toNat)
          case atStart => exact ⟨0, Nat.zero_le _, rfl, fun j hj => by omega⟩
          case round =>
            obtain ⟨t, ht, rfl, hused⟩ := hrel
            by_cases htn : t < n
            · have hct := HI.out.row.cell (j := t) (by rw [HI.out.len]; exact htn)
              have d1 : decide ((t : Int) < (n : Int)) = true := by simp; omega
              have q2 : (t : Int) < (n : Int) := by omega
              cases hut : u.getD t false with
              | true =>
                rw [hut] at hct
                have hu2 : Hid (∀ j, j < t + 1 → Disk.used s.pages j = true) := fun j hj => by
                  rcases Nat.lt_or_ge j t with h | h
                  · exact hused.out j h
                  · have e : j = t := by omega
                    subst e
                    rw [← HI.out.same j htn]; exact hut
                clear hut
                go_wp2_with fail
                go_round
                case rel => exact ⟨t + 1, by omega, by go_num, hu2⟩
                case measure => simp [intOf]; omega
              | false =>
                rw [hut] at hct
                have hun : Disk.used s.pages t = false := by rw [← HI.out.same t htn]; exact hut
                have hlf : Disk.leastFree s.pages = t := Disk.leastFree_eq hun hused.out
                have hmx : s.pages.length ≤ n := by rw [← HI.out.most]; exact HI.out.disk.most_le
                have hlv : Disk.live s.pages < s.most := by rw [HI.out.most]; exact live_lt hmx htn hun
                have hTo : Bruijn wo := HT.out.below HI.out.below h0
                have C2 := alloc_ok g s own wo HI.out.disk hops hTo (HI.out.low _ h0) 0 (by rw [HI.out.plan]; rfl) hlv
                rw [hlf] at C2
                have HC2 := Lib.hid C2
                have HUN := Lib.hid hun
                have HUT := Lib.hid hut
                have HLF := Lib.hid hlf
                have htl : t ≤ s.pages.length := by rw [← hlf]; exact Disk.leastFree_le _
                have HTL := Lib.hid htl
                clear hut hun hlf hmx hlv hTo C2 htl
                go_wp2_with fail
                refine HC2.out.mono ?_
                rintro e w2 ⟨rfl, own2, hD2, hO2, hs2⟩
                have hpg : s.page = 64 := HI.out.page
                obtain ⟨s2, hs2e⟩ : ∃ s2 : Disk.St, s2 = { tick s with pages := Disk.put s.pages t (some (List.replicate s.page 0)) } := ⟨_, rfl⟩
                rw [← hs2e] at hD2
                have hp2 : s2.pages.getD t none = some (noughts 64) := by rw [hs2e]; show (Disk.put s.pages t (some (List.replicate s.page 0))).getD t none = _; rw [getD_put _ HTL.out, hpg]; rfl
                have hpg2 : s2.page = 64 := by rw [hs2e]; exact hpg
                have C3 := look_yes g s2 own2 t (noughts 64) w2 hD2 hp2
                rw [hpg2] at C3
                have HC3 := Lib.hid C3
                have HD2 := Lib.hid hD2
                have HO2 := Lib.hid hO2
                have HS2 := Lib.hid hs2
                have HS2E := Lib.hid hs2e
                have HPG := Lib.hid hpg
                have HPG2 := Lib.hid hpg2
                have HP2 := Lib.hid hp2
                clear C3 hD2 hO2 hs2 hs2e hpg hpg2 hp2
                have dtn : ((t : Int) == (n : Int)) = false := by rw [beq_eq_false_iff_ne]; omega
                go_wp2_with fail
                refine HC3.out.mono ?_
                rintro e w3 ⟨v, rfl, hv3, hB3⟩
                obtain ⟨hl3, a3, c3, rfl, hS3, hA3, _, _⟩ := slice_of_row hv3
                have hmk64 := run_makeBytes 64 (by decide)
                rw [show ((64 : Nat) : Int) = 64 from rfl] at hmk64
                have hba := below_alloc w3 (.cells (madeCells #[.int .u8 0] 64) 5)
                have hR3 : Row (w3.alloc (.cells (madeCells #[.int .u8 0] 64) 5)) w3.heap.size (noughts 64) := Row.made 64
                have hrd3 := hR3.reads 0 64 (by decide)
                rw [List.drop_zero, List.take_of_length_le (by decide)] at hrd3
                have v1 := run_conv (c := c3) hl3 hS3
                have v2 := run_conv (c := c3) hl3 (hS3.keep hba)
                have v3 := run_conv (c := 64) (show (noughts 64).length = 64 by decide) (.inr ⟨w3.heap.size, 0, rfl, hrd3⟩ : SliceIs _ (some ⟨w3.heap.size, 0, none⟩) (noughts 64))
                have v4 : (convert 22 9 (.slice a3 64 c3)).run Tryd.prog w3.drew = .ok (.string (strB (noughts 64))) w3.drew := run_conv (c := c3) hl3 hS3
                have v5 : (convert 22 9 (.slice a3 64 c3)).run Tryd.prog (w3.alloc (.cells (madeCells #[.int .u8 0] 64) 5)).drew = .ok (.string (strB (noughts 64))) (w3.alloc (.cells (madeCells #[.int .u8 0] 64) 5)).drew := run_conv (c := c3) hl3 (hS3.keep hba.drew)
                have v6 : (convert 22 9 (.slice (some ⟨w3.heap.size, 0, none⟩) 64 64)).run Tryd.prog (w3.alloc (.cells (madeCells #[.int .u8 0] 64) 5)).drew = .ok (.string (strB (noughts 64))) (w3.alloc (.cells (madeCells #[.int .u8 0] 64) 5)).drew := run_conv (c := 64) (show (noughts 64).length = 64 by decide) (.inr ⟨w3.heap.size, 0, rfl, hrd3⟩ : SliceIs _ (some ⟨w3.heap.size, 0, none⟩) (noughts 64))
                have HB3 := Lib.hid hB3
                have HBA := Lib.hid hba
                clear hv3 hl3 hS3 hA3 hba hR3 hrd3 hB3
                generalize strB (noughts 64) = txt at v1 v2 v3 v4 v5 v6
                go_wp2_with fail
                go_region
                have HD4 : Hid (DiskAt ((w3.alloc (.cells (madeCells #[.int .u8 0] 64) 5)).drew) g s2 own2) := (HD2.out.below HB3.out).below HBA.out.drew
                have HO4 : Hid (Only own wo ((w3.alloc (.cells (madeCells #[.int .u8 0] 64) 5)).drew)) := HO2.out.trans' (Only.of_below (own := own) (HB3.out.trans ((HBA.out.mono HB3.out.size).drew))) (fun _ _ h => h)
                obtain ⟨w4, hw4⟩ : ∃ w4, w4 = (w3.alloc (.cells (madeCells #[.int .u8 0] 64) 5)).drew := ⟨_, rfl⟩
                rw [← hw4] at HD4 HO4 ⊢
                clear hw4 v1 v2 v3 v4 v5 v6
                have hbul := heap_lt HI.out.row
                have hrow4 : RowB w4 bu u := (HO4.out.block bu hbul HI.out.free).trans HI.out.row
                have hct4 := hrow4.cell (j := t) (by rw [HI.out.len]; exact htn)
                have hft4 := hrow4.frozen t
                have hns : ∀ i, i < n → (u.set t true).getD i false = Disk.used s2.pages i := by
                  intro i hi
                  rw [getD_setB, HI.out.len, HS2E.out]
                  show _ = Disk.used (Disk.put s.pages t (some (List.replicate s.page 0))) i
                  rw [Disk.used_put _ HTL.out]
                  by_cases e : t = i
                  · subst e; simp [htn]
                  · rw [if_neg (fun x => e x.1), if_neg (fun x => e x.symm)]; exact HI.out.same i hi
                have hops2 : s2.ops = s.ops + 1 := by rw [HS2E.out]; rfl
                have hI5 : LeastInv w (w4.setCell ⟨bu, t, none⟩ (.bool true)) g bu n (k + 1) s2 own2 (u.set t true) :=
                  LeastInv.mark HD4.out HPG2.out (by rw [HS2E.out]; exact HI.out.most) (by rw [hops2]; have := HI.out.ops; omega) (fun j => by rw [HS2E.out]; exact HI.out.plan j) hrow4 HI.out.len ((HS2.out bu hbul).trans HI.out.free)
                    (HI.out.below.trans (HO4.out.below HI.out.below.size HI.out.low)) (fun i hi => by rw [HS2.out i (Nat.lt_of_lt_of_le hi HI.out.below.size)]; exact HI.out.low i hi) HI.out.bul t true hns
                have HI5 := Lib.hid hI5
                have HNS := Lib.hid hns
                have HOPS2 := Lib.hid hops2
                clear hrow4 hns hops2 hI5
                have hz5 : (w4.setCell ⟨bu, t, none⟩ (.bool true)).heap.size = w4.heap.size := by simp [World.setCell]
                have hR5 : Row ((w4.setCell ⟨bu, t, none⟩ (.bool true)).alloc (.cells (madeCells #[.int .u8 0] 64) 5)) w4.heap.size (noughts 64) := by
                  have := Row.made (w := w4.setCell ⟨bu, t, none⟩ (.bool true)) 64
                  rw [hz5] at this
                  exact this
                have k9 := hR5.cell (j := 9) (by decide)
                have f9 := hR5.frozen 9
                rw [show (((noughts 64).getD 9 0 : Nat) : Int) = 0 by decide] at k9
                have hR6 : Row ((w4.setCell ⟨bu, t, none⟩ (.bool true)).alloc (.cells (u8s nine).toArray 5)) w4.heap.size nine := by
                  have := heap_alloc_new (w4.setCell ⟨bu, t, none⟩ (.bool true)) (.cells (u8s nine).toArray 5)
                  rw [hz5] at this
                  exact this
                have hb6 := below_alloc (w4.setCell ⟨bu, t, none⟩ (.bool true)) (.cells (u8s nine).toArray 5)
                have HI6 := Lib.hid (HI5.out.step (k' := k + 1) (HI5.out.disk.below hb6) (Only.of_below hb6) (fun _ _ => rfl) rfl rfl HI5.out.ops rfl HI5.out.same)
                have hf6 : own2 w4.heap.size = 0 := HD4.out.fresh _ (Nat.le_refl _)
                have hu6 : Disk.used s2.pages t = true := by unfold Disk.used; rw [HP2.out]; rfl
                have hops6 : s2.ops < 4611686018427387904 := by rw [HOPS2.out]; have := HI.out.ops; omega
                have HR6 := Lib.hid hR6
                have HF6 := Lib.hid hf6
                have HU6 := Lib.hid hu6
                clear hz5 hR5 hR6 hb6 hf6 hu6
                go_wp2_with fail
                rw [nine_cells]
                obtain ⟨w6, hw6⟩ : ∃ w6, w6 = (w4.setCell ⟨bu, t, none⟩ (.bool true)).alloc (.cells (u8s nine).toArray 5) := ⟨_, rfl⟩
                obtain ⟨b6, hb6⟩ : ∃ b6, b6 = w4.heap.size := ⟨_, rfl⟩
                rw [← hw6] at HI6 HR6 ⊢
                rw [← hb6] at HR6 HF6 ⊢
                have hrd6 := HR6.out.reads 0 64 (by decide)
                rw [List.drop_zero, List.take_of_length_le (by decide)] at hrd6
                have C6 := write_ok g s2 own2 t (some ⟨b6, 0, none⟩) 64 nine w6 HI6.out.disk hops6 0 (by rw [HI6.out.plan]; rfl) HU6.out (by rw [HPG2.out]; rfl) ⟨.inr ⟨b6, 0, rfl, hrd6⟩, nine_oct, fun p hp => by cases hp; exact HF6.out⟩
                rw [HPG2.out] at C6
                have HC6 := Lib.hid C6
                clear C6 hrd6 hw6 hb6 k9 f9
                refine HC6.out.mono ?_
                rintro e w7 ⟨rfl, hD7, hO7⟩
                have hI7 := HI6.out.step (k' := k + 1) hD7 hO7 (fun _ _ => rfl) rfl rfl (by show s2.ops + 1 ≤ 3 * (k + 1); rw [HOPS2.out]; have := HI.out.ops; omega) rfl (fun i hi => by
                  rw [HI6.out.same i hi]
                  show _ = Disk.used (Disk.put s2.pages t (some nine)) i
                  rw [Disk.used_put _ (Nat.le_of_lt (Disk.used_lt HU6.out))]
                  split
                  · rename_i e; subst e; exact HU6.out
                  · rfl)
                have HI7 := Lib.hid hI7
                clear hD7 hO7 hI7
                go_wp2_with fail
                go_roundw
                case rel => exact ⟨k + 1, _, _, _, by omega, by go_num, HI7.out⟩
                case measure => simp [intOf]; omega
            · have hte : t = n := by omega
              subst hte
              have d1 : decide ((t : Int) < (t : Int)) = false := by simp
              have hlv : Disk.live s.pages = s.most := by
                have h1 := Disk.live_full hused.out
                have h2 := Disk.live_le s.pages
                have h3 := HI.out.disk.most_le
                rw [HI.out.most] at h3 ⊢
                omega
              have C2 := alloc_full g s own wo HI.out.disk hops 0 (by rw [HI.out.plan]; rfl) hlv
              have HC2 := Lib.hid C2
              clear C2 hlv
              go_wp2_with fail
              refine HC2.out.mono ?_
              rintro e w2 ⟨rfl, hD2, hO2⟩
              have HI2 := Lib.hid (HI.out.step (k' := k + 1) hD2 hO2 (fun _ _ => rfl) rfl rfl (by show s.ops + 1 ≤ 3 * (k + 1); have := HI.out.ops; omega) rfl HI.out.same)
              clear hD2 hO2
              go_wp2_with fail
              go_roundw
              case rel => exact ⟨k + 1, _, _, _, by omega, by go_num, HI2.out⟩
              case measure => simp [intOf]; omega
        · have eb : bits .and .u8 (c : Int) 1 = 1 := by rw [HEA.out, hpar]; rfl
          clear hpar
          cases hux : u.getD x false with
          | true =>
            have HUN : Hid (Disk.used s.pages x = true) := by rw [← HSX.out]; exact hux
            rw [hux] at hcu
            have CF : ∀ W : World, DiskAt W g s own → Only own wr W → Calls Tryd.prog 8 #[.pointer (some ⟨g, 0, none⟩), .int .i64 (x : Int)] W fun e w' => e = .returned (.int .i64 0) ∧ DiskAt w' g { tick s with pages := Disk.put s.pages x none } own ∧ Only own wr w' :=
              fun W hD hO => (free_ok g s own x W hD hops HUN.out).mono fun _ _ ⟨a, b, c⟩ => ⟨a, b, hO.trans c⟩
            have HCF := Lib.hid CF
            have hbul := heap_lt HI.out.row
            have hfree := HI.out.free
            clear CF hux
            go_wp2_with fail
            go_region_with (go_at_call 8; refine (HCF.out _ (HI.out.disk.drewN 1) ((Only.refl _ _).drewN 1)).mono ?_; rintro e w2 ⟨rfl, hD2, hO2⟩; have hcu2 := (World.cell?_of_block (a := ⟨bu, x, none⟩) (hO2.block bu hbul hfree)).trans hcu; have HD2 := Lib.hid hD2; have HO2 := Lib.hid hO2; clear hD2 hO2)
            all_goals
              have hrow2 : RowB w2 bu u := (HO2.out.block bu hbul hfree).trans HI.out.row
              have hf2 := hrow2.frozen x
              have hI5 : LeastInv w (w2.setCell ⟨bu, x, none⟩ (.bool false)) g bu n (k + 1) { tick s with pages := Disk.put s.pages x none } own (u.set x false) :=
                LeastInv.mark HD2.out HI.out.page HI.out.most (by show s.ops + 1 ≤ 3 * (k + 1); have := HI.out.ops; omega) HI.out.plan hrow2 HI.out.len hfree (HI.out.below.trans (HO2.out.below HI.out.below.size HI.out.low)) HI.out.low HI.out.bul x false (by
                intro i hi
                rw [getD_setB, HI.out.len]
                show _ = Disk.used (Disk.put s.pages x none) i
                rw [Disk.used_put _ (Nat.le_of_lt (Disk.used_lt HUN.out))]
                by_cases e : x = i
                · subst e; simp [hxn]
                · rw [if_neg (fun y => e y.1), if_neg (fun y => e y.symm)]; exact HI.out.same i hi)
              have HI5 := Lib.hid hI5
              clear hrow2 hI5
              go_wp2_with fail
              go_roundw
              case rel => exact ⟨k + 1, _, _, _, by omega, by go_num, HI5.out⟩
              case measure => simp [intOf]; omega
          | false =>
            have HUN : Hid (Disk.used s.pages x = false) := by rw [← HSX.out]; exact hux
            rw [hux] at hcu
            have CF : ∀ W : World, DiskAt W g s own → Only own wr W → Calls Tryd.prog 8 #[.pointer (some ⟨g, 0, none⟩), .int .i64 (x : Int)] W fun e w' => e = .returned (.int .i64 20) ∧ DiskAt w' g (tick s) own ∧ Only own wr w' :=
              fun W hD hO => (free_none g s own (x : Int) W hD hops (by rw [hasB_nat]; exact HUN.out)).mono fun _ _ ⟨a, b, c⟩ => ⟨a, b, hO.trans c⟩
            have HCF := Lib.hid CF
            have hbul := heap_lt HI.out.row
            have hfree := HI.out.free
            clear CF hux
            go_wp2_with fail
            go_region_with (go_at_call 8; refine (HCF.out _ (HI.out.disk.drewN 1) ((Only.refl _ _).drewN 1)).mono ?_; rintro e w2 ⟨rfl, hD2, hO2⟩; have hcu2 := (World.cell?_of_block (a := ⟨bu, x, none⟩) (hO2.block bu hbul hfree)).trans hcu; have HD2 := Lib.hid hD2; have HO2 := Lib.hid hO2; clear hD2 hO2)
            all_goals
              have hrow2 : RowB w2 bu u := (HO2.out.block bu hbul hfree).trans HI.out.row
              have hf2 := hrow2.frozen x
              have hI5 : LeastInv w (w2.setCell ⟨bu, x, none⟩ (.bool false)) g bu n (k + 1) (tick s) own (u.set x false) :=
                LeastInv.mark HD2.out HI.out.page HI.out.most (by show s.ops + 1 ≤ 3 * (k + 1); have := HI.out.ops; omega) HI.out.plan hrow2 HI.out.len hfree (HI.out.below.trans (HO2.out.below HI.out.below.size HI.out.low)) HI.out.low HI.out.bul x false (by
                intro i hi
                rw [getD_setB, HI.out.len]
                show _ = Disk.used s.pages i
                by_cases e : x = i
                · subst e; rw [if_pos ⟨rfl, hxn⟩]; exact HUN.out.symm
                · rw [if_neg (fun y => e y.1)]; exact HI.out.same i hi)
              have HI5 := Lib.hid hI5
              clear hrow2 hI5
              go_wp2_with fail
              go_roundw
              case rel => exact ⟨k + 1, _, _, _, by omega, by go_num, HI5.out⟩
              case measure => simp [intOf]; omega
      · go_wp2_with fail
        go_ret
        exact ⟨rfl, HI.out.below⟩
end Go.Proofs.YtfgamdpjcfbcbaaDoor
