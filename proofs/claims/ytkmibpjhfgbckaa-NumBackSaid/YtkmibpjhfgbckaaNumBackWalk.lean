/- aqueductlaw9.NumBack answers true (a walk). -/
import Derived.Test.YtkmibpjhfgbckaaNumAwake
import Derived.Test.YtkmibpjhfgbckaaNumBackMath
import Derived.Deep.DeepCutAuto
import Derived.Deep.CutBlock
namespace Go.Proofs.Ytkmibpjhfgbckaa
open Go.RowKit
open Seal
open Num
set_option maxRecDepth 100000 in
set_option maxHeartbeats 8000000 in
theorem back_any (a b : Int) (p0 p1 : Bool) (w : World) (ha : In a) (hb0 : In b) : Calls Try.prog 4 #[.int .i64 a, .int .i64 b, .agg #[.bool p0, .bool p1]] w (BoolBe true w) := by
  have HA := Lib.hid ha
  have HBB := Lib.hid hb0
  clear ha hb0
  have HB0 : Hid (Below w.heap.size w (w.alloc (.cells #[Value.bool p0, .bool p1] 39))) := (Below.refl _ w).alloc (Nat.le_refl _) _
  have HP : Hid ((w.alloc (.cells #[Value.bool p0, .bool p1] 39)).cell? ⟨w.heap.size, 0, none⟩ = some (.bool p0) ∧ (w.alloc (.cells #[Value.bool p0, .bool p1] 39)).cell? ⟨w.heap.size, 1, none⟩ = some (.bool p1)) := ⟨(cell_of_row _ _ 0 _ _ _ (heap_alloc_new w _)).trans rfl, (cell_of_row _ _ 1 _ _ _ (heap_alloc_new w _)).trans rfl⟩
  go_enter Try.func4, Try.ntmps4
  go_wp2_with fail
  generalize hW : (w.alloc (.cells #[Value.bool p0, .bool p1] 39)) = V0 at *
  clear hW
  go_at_call 7
  refine (awake9 _).mono ?_
  rintro e w0 ⟨rfl, hb⟩
  have HB1 := Lib.hid (HB0.out.trans (hb.mono HB0.out.size))
  have HP1 := Lib.hid (And.intro (cell_keep hb HP.out.1) (cell_keep hb HP.out.2))
  clear hb
  go_wp2_with fail
  go_at_call 18
  refine (of_any a _).mono ?_
  rintro e w1 ⟨rfl, hb⟩
  have HB2 := Lib.hid (HB1.out.trans (hb.mono HB1.out.size))
  have HP2 := Lib.hid (And.intro (cell_keep hb HP1.out.1) (cell_keep hb HP1.out.2))
  clear hb
  go_wp2_with fail
  go_at_call 18
  refine (of_any b _).mono ?_
  rintro e w2 ⟨rfl, hb⟩
  have HB3 := Lib.hid (HB2.out.trans (hb.mono HB2.out.size))
  have HP3 := Lib.hid (And.intro (cell_keep hb HP2.out.1) (cell_keep hb HP2.out.2))
  clear hb
  have HX := Lib.hid (show IsBox ((w2.alloc (.cells #[Value.int .i64 (ofK a), .int .i64 a, .string ⟨#[]⟩, .slice none 0 0, .slice none 0 0, .slice none 0 0] 26)).alloc (.cells #[Value.int .i64 (ofK b), .int .i64 b, .string ⟨#[]⟩, .slice none 0 0, .slice none 0 0, .slice none 0 0] 26)) w2.heap.size (.int .i64 (ofK a)) (.int .i64 a) (.string ⟨#[]⟩) (.slice none 0 0) (.slice none 0 0) (.slice none 0 0) from (IsBox.new w2 (.int .i64 (ofK a)) (.int .i64 a) (.string ⟨#[]⟩) (.slice none 0 0) (.slice none 0 0) (.slice none 0 0)).keep ((Below.refl _ _).alloc (Nat.le_refl _) _))
  have HY := Lib.hid (IsBox.new2 w2 (.cells #[Value.int .i64 (ofK a), .int .i64 a, .string ⟨#[]⟩, .slice none 0 0, .slice none 0 0, .slice none 0 0] 26) (.int .i64 (ofK b)) (.int .i64 b) (.string ⟨#[]⟩) (.slice none 0 0) (.slice none 0 0) (.slice none 0 0))
  have HBC : Hid (Below w.heap.size w ((w2.alloc (.cells #[Value.int .i64 (ofK a), .int .i64 a, .string ⟨#[]⟩, .slice none 0 0, .slice none 0 0, .slice none 0 0] 26)).alloc (.cells #[Value.int .i64 (ofK b), .int .i64 b, .string ⟨#[]⟩, .slice none 0 0, .slice none 0 0, .slice none 0 0] 26))) := (HB3.out.alloc HB3.out.size _).alloc (by have := HB3.out.size; simp; omega) _
  have HPC : Hid (((w2.alloc (.cells #[Value.int .i64 (ofK a), .int .i64 a, .string ⟨#[]⟩, .slice none 0 0, .slice none 0 0, .slice none 0 0] 26)).alloc (.cells #[Value.int .i64 (ofK b), .int .i64 b, .string ⟨#[]⟩, .slice none 0 0, .slice none 0 0, .slice none 0 0] 26)).cell? ⟨w.heap.size, 0, none⟩ = some (.bool p0) ∧ ((w2.alloc (.cells #[Value.int .i64 (ofK a), .int .i64 a, .string ⟨#[]⟩, .slice none 0 0, .slice none 0 0, .slice none 0 0] 26)).alloc (.cells #[Value.int .i64 (ofK b), .int .i64 b, .string ⟨#[]⟩, .slice none 0 0, .slice none 0 0, .slice none 0 0] 26)).cell? ⟨w.heap.size, 1, none⟩ = some (.bool p1)) := ⟨cell_keep ((Below.refl _ _).alloc (Nat.le_refl _) _) (cell_keep ((Below.refl _ w2).alloc (Nat.le_refl _) _) HP3.out.1), cell_keep ((Below.refl _ _).alloc (Nat.le_refl _) _) (cell_keep ((Below.refl _ w2).alloc (Nat.le_refl _) _) HP3.out.2)⟩
  have hlt : w.heap.size < w2.heap.size := World.block_lt_of_cell? w2 _ HP3.out.1
  have HLT := Lib.hid hlt
  skip
  have HG := Lib.hid (BX.to0 (ofK_kn a) (ofK_kn b) HX.out HY.out HPC.out.1 HPC.out.2 HLT.out (by omega) HBC.out)
  obtain ⟨q0, q1⟩ := HP3.out
  have nq : ¬ w.heap.size = w2.heap.size := by have := HLT.out; omega
  go_upto_if 28 with fail
  clear q0 q1 hlt
  generalize hg2 : ((w2.alloc (.cells #[Value.int .i64 (ofK a), .int .i64 a, .string ⟨#[]⟩, .slice none 0 0, .slice none 0 0, .slice none 0 0] 26)).alloc (.cells #[Value.int .i64 (ofK b), .int .i64 b, .string ⟨#[]⟩, .slice none 0 0, .slice none 0 0, .slice none 0 0] 26)) = V1 at *
  clear hg2
  have hg1 := Lib.hid (rfl : w2.heap.size = w2.heap.size)
  obtain ⟨x0, x1, x2, x3, x4, x5⟩ := HX.out.thaw
  obtain ⟨xx0, -, -, -, -, -⟩ := HX.out.cells
  go_cut [29] (fun _ W => W = if p0 = true then V1.setCell ⟨w2.heap.size, 0, none⟩ (.int .i64 4) else V1)
  case first =>
    cases p0 with
    | true =>
      go_wp2_with fail
      go_meet
      exact (if_pos trivial).symm
    | false =>
      go_wp2_with fail
      go_meet
      exact (if_neg (by decide)).symm
  case rest =>
  clear x0 x1 x2 x3 x4 x5 xx0
  rw [← hcut] at HG
  clear hcut HX HY HBC HPC HP HP1 HP2 HP3 HB0 HB1 HB2 HB3 hg1
  obtain ⟨kx, ky, h1, h2, h3, hx, hy, c0, c1, l1, l2, hb⟩ := HG.out
  clear h1 h2 h3 hx c0 hb
  obtain ⟨y0, y1, y2, y3, y4, y5⟩ := hy.thaw
  obtain ⟨yy0, -, -, -, -, -⟩ := hy.cells
  clear hy
  go_upto_if 31 with fail
  have HL2 := Lib.hid (show True from trivial)
  clear c1 l1 l2
  go_cut [32] (fun _ W => Hid (BX w w2.heap.size (w2.heap.size + 1) a b p0 p1 W))
  case first =>
    cases p1 with
    | true =>
      go_wp2_with fail
      go_meet
      exact HG.out.set1
    | false =>
      go_wp2_with fail
      go_meet
      exact HG.out
  case rest =>
  clear y0 y1 y2 y3 y4 y5 yy0 HG
  obtain ⟨kx, ky, h1, h2, h3, hx, hy, c0, c1, l1, l2, hb⟩ := hcut.out
  have HX := Lib.hid hx
  have HY := Lib.hid hy
  have HP := Lib.hid c0
  have HBW := Lib.hid hb
  have H3 := Lib.hid h3
  have HL1 := Lib.hid l1
  clear hx hy c0 c1 l2 hb h3 hcut l1
  have HK1 := Lib.hid h1
  have HK2 := Lib.hid h2
  clear h1 h2
  rcases back_sum HA.out HK1.out HK2.out with ⟨ks, kd, hs1, hs2, hs3, hs4⟩ | hs
  · have HC := Lib.hid (fun w => numAdd_any kx a ky b (.string ⟨#[]⟩) (.slice none 0 0) (.slice none 0 0) (.slice none 0 0) (.string ⟨#[]⟩) (.slice none 0 0) (.slice none 0 0) (.slice none 0 0) w HA.out HBB.out)
    rw [hs1] at HC
    have HD := Lib.hid (fun w => numSub_any ks (a + b) ky b (.string ⟨#[]⟩) (.slice none 0 0) (.slice none 0 0) (.slice none 0 0) (.string ⟨#[]⟩) (.slice none 0 0) (.slice none 0 0) (.slice none 0 0) w hs2 HBB.out)
    rw [hs3] at HD
    have HS4 := Lib.hid hs4
    clear hs1 hs2 hs3 hs4
    generalize a + b = sm at *
    obtain ⟨X0, X1, X2, X3, X4, X5⟩ := HX.out.cells
    obtain ⟨Y0, Y1, Y2, Y3, Y4, Y5⟩ := HY.out.cells
    go_wp2_with fail
    go_at_call 9
    refine (HC.out _).mono ?_
    rintro e w11 ⟨rfl, hb⟩
    clear X0 X1 X2 X3 X4 X5 Y0 Y1 Y2 Y3 Y4 Y5
    have HB11 := Lib.hid (HBW.out.trans (hb.mono HBW.out.size))
    have GX11 := Lib.hid (HX.out.keep hb)
    have GY11 := Lib.hid (HY.out.keep hb)
    have HP11 := Lib.hid (cell_keep hb HP.out)
    clear hb
    clear HC
    obtain ⟨Y0, Y1, Y2, Y3, Y4, Y5⟩ := GY11.out.cells
    have mY : (w2.heap.size + 1) < w11.heap.size := GY11.out.lt
    have nY : ¬ (w2.heap.size + 1) = w11.heap.size := by omega
    go_wp2_with fail
    go_at_call 10
    refine (HD.out _).mono ?_
    rintro e w12 ⟨rfl, hb⟩
    clear Y0 Y1 Y2 Y3 Y4 Y5 mY nY
    have hc : Below w11.heap.size w11 w12 := ((Below.refl _ w11).alloc (Nat.le_refl _) _).trans (hb.mono (by simp))
    have HB12 := Lib.hid (HB11.out.trans (hc.mono HB11.out.size))
    have GX12 := Lib.hid (GX11.out.keep hc)
    have GY12 := Lib.hid (GY11.out.keep hc)
    have HP12 := Lib.hid (cell_keep hc HP11.out)
    clear hc
    clear hb
    by_cases hk : kd = 4
    · have d4 : ((kd : Int) != 4) = false := by simp [hk]
      clear hk
      by_cases h0 : b = 0
      · obtain ⟨hq1, hr1⟩ := back_nought a HK1.out HK2.out
        have HQ1 := Lib.hid (show reck (quoR a b) kx ky = (0, 0, 11) by rw [h0]; exact hq1)
        have HR1 := Lib.hid (show reck (remR a b) kx ky = (0, 0, 11) by rw [h0]; exact hr1)
        have e0 : ((b : Int) == 0) = true := by rw [beq_iff_eq]; exact h0
        clear hq1 hr1 h0
        have HC := Lib.hid (fun w => numDiv_any kx a ky b (.string ⟨#[]⟩) (.slice none 0 0) (.slice none 0 0) (.slice none 0 0) (.string ⟨#[]⟩) (.slice none 0 0) (.slice none 0 0) (.slice none 0 0) w HA.out HBB.out)
        rw [HQ1.out] at HC
        obtain ⟨X0, X1, X2, X3, X4, X5⟩ := GX12.out.cells
        obtain ⟨Y0, Y1, Y2, Y3, Y4, Y5⟩ := GY12.out.cells
        have mX : w2.heap.size < w12.heap.size := GX12.out.lt
        have nX : ¬ w2.heap.size = w12.heap.size := by omega
        have mY : (w2.heap.size + 1) < w12.heap.size := GY12.out.lt
        have nY : ¬ (w2.heap.size + 1) = w12.heap.size := by omega
        go_wp2_with fail
        go_at_call 12
        refine (HC.out _).mono ?_
        rintro e w13 ⟨rfl, hb⟩
        clear X0 X1 X2 X3 X4 X5 Y0 Y1 Y2 Y3 Y4 Y5 mX nX mY nY
        have hc : Below w12.heap.size w12 w13 := ((Below.refl _ w12).alloc (Nat.le_refl _) _).trans (hb.mono (by simp))
        have HB13 := Lib.hid (HB12.out.trans (hc.mono HB12.out.size))
        have GX13 := Lib.hid (GX12.out.keep hc)
        have GY13 := Lib.hid (GY12.out.keep hc)
        have HP13 := Lib.hid (cell_keep hc HP12.out)
        clear hc
        clear hb
        clear HC
        have HC := Lib.hid (fun w => numMod_any kx a ky b (.string ⟨#[]⟩) (.slice none 0 0) (.slice none 0 0) (.slice none 0 0) (.string ⟨#[]⟩) (.slice none 0 0) (.slice none 0 0) (.slice none 0 0) w HA.out HBB.out)
        rw [HR1.out] at HC
        obtain ⟨X0, X1, X2, X3, X4, X5⟩ := GX13.out.cells
        obtain ⟨Y0, Y1, Y2, Y3, Y4, Y5⟩ := GY13.out.cells
        have mX : w2.heap.size < w13.heap.size := GX13.out.lt
        have nX : ¬ w2.heap.size = w13.heap.size := by omega
        have mY : (w2.heap.size + 1) < w13.heap.size := GY13.out.lt
        have nY : ¬ (w2.heap.size + 1) = w13.heap.size := by omega
        go_wp2_with fail
        go_at_call 13
        refine (HC.out _).mono ?_
        rintro e w14 ⟨rfl, hb⟩
        clear X0 X1 X2 X3 X4 X5 Y0 Y1 Y2 Y3 Y4 Y5 mX nX mY nY
        have hc : Below w13.heap.size w13 w14 := ((Below.refl _ w13).alloc (Nat.le_refl _) _).trans (hb.mono (by simp))
        have HB14 := Lib.hid (HB13.out.trans (hc.mono HB13.out.size))
        have GX14 := Lib.hid (GX13.out.keep hc)
        have GY14 := Lib.hid (GY13.out.keep hc)
        have HP14 := Lib.hid (cell_keep hc HP13.out)
        clear hc
        clear hb
        clear HC
        go_wp2_with fail
        go_ret
        exact ⟨rfl, HB14.out.alloc HB14.out.size _⟩
      have e0 : ((b : Int) == 0) = false := by rw [beq_eq_false_iff_ne]; exact h0
      by_cases hl : a = -9223372036854775808 ∧ b = -1
      · obtain ⟨kr, hq1, hr1⟩ := back_least HK1.out HK2.out
        have HQ1 := Lib.hid (show reck (quoR a b) kx ky = (0, 0, 10) by rw [hl.1, hl.2]; exact hq1)
        have HR1 := Lib.hid (show reck (remR a b) kx ky = (kr, 0, 0) by rw [hl.1, hl.2]; exact hr1)
        clear hq1 hr1
        have e1 : ((a : Int) == -9223372036854775808) = true := by rw [beq_iff_eq]; exact hl.1
        have e2 : ((b : Int) == -1) = true := by rw [beq_iff_eq]; exact hl.2
        clear hl h0
        have HC := Lib.hid (fun w => numDiv_any kx a ky b (.string ⟨#[]⟩) (.slice none 0 0) (.slice none 0 0) (.slice none 0 0) (.string ⟨#[]⟩) (.slice none 0 0) (.slice none 0 0) (.slice none 0 0) w HA.out HBB.out)
        rw [HQ1.out] at HC
        obtain ⟨X0, X1, X2, X3, X4, X5⟩ := GX12.out.cells
        obtain ⟨Y0, Y1, Y2, Y3, Y4, Y5⟩ := GY12.out.cells
        have mX : w2.heap.size < w12.heap.size := GX12.out.lt
        have nX : ¬ w2.heap.size = w12.heap.size := by omega
        have mY : (w2.heap.size + 1) < w12.heap.size := GY12.out.lt
        have nY : ¬ (w2.heap.size + 1) = w12.heap.size := by omega
        go_wp2_with fail
        go_at_call 12
        refine (HC.out _).mono ?_
        rintro e w13 ⟨rfl, hb⟩
        clear X0 X1 X2 X3 X4 X5 Y0 Y1 Y2 Y3 Y4 Y5 mX nX mY nY
        have hc : Below w12.heap.size w12 w13 := ((Below.refl _ w12).alloc (Nat.le_refl _) _).trans (hb.mono (by simp))
        have HB13 := Lib.hid (HB12.out.trans (hc.mono HB12.out.size))
        have GX13 := Lib.hid (GX12.out.keep hc)
        have GY13 := Lib.hid (GY12.out.keep hc)
        have HP13 := Lib.hid (cell_keep hc HP12.out)
        clear hc
        clear hb
        clear HC
        have HC := Lib.hid (fun w => numMod_any kx a ky b (.string ⟨#[]⟩) (.slice none 0 0) (.slice none 0 0) (.slice none 0 0) (.string ⟨#[]⟩) (.slice none 0 0) (.slice none 0 0) (.slice none 0 0) w HA.out HBB.out)
        rw [HR1.out] at HC
        obtain ⟨X0, X1, X2, X3, X4, X5⟩ := GX13.out.cells
        obtain ⟨Y0, Y1, Y2, Y3, Y4, Y5⟩ := GY13.out.cells
        have mX : w2.heap.size < w13.heap.size := GX13.out.lt
        have nX : ¬ w2.heap.size = w13.heap.size := by omega
        have mY : (w2.heap.size + 1) < w13.heap.size := GY13.out.lt
        have nY : ¬ (w2.heap.size + 1) = w13.heap.size := by omega
        go_wp2_with fail
        go_at_call 13
        refine (HC.out _).mono ?_
        rintro e w14 ⟨rfl, hb⟩
        clear X0 X1 X2 X3 X4 X5 Y0 Y1 Y2 Y3 Y4 Y5 mX nX mY nY
        have hc : Below w13.heap.size w13 w14 := ((Below.refl _ w13).alloc (Nat.le_refl _) _).trans (hb.mono (by simp))
        have HB14 := Lib.hid (HB13.out.trans (hc.mono HB13.out.size))
        have GX14 := Lib.hid (GX13.out.keep hc)
        have GY14 := Lib.hid (GY13.out.keep hc)
        have HP14 := Lib.hid (cell_keep hc HP13.out)
        clear hc
        clear hb
        clear HC
        go_wp2_with fail
        go_ret
        exact ⟨rfl, HB14.out.alloc HB14.out.size _⟩
      obtain ⟨kq, kr, kp, kt, hq1, hr1, hp1, ht1, iq, ip, ir⟩ := back_quo HA.out h0 hl HK1.out HK2.out
      have HQ1 := Lib.hid hq1
      have HR1 := Lib.hid hr1
      have HIQ := Lib.hid iq
      have HIP := Lib.hid ip
      have HIR := Lib.hid ir
      have HSG := Lib.hid (tmod_sign a b)
      have HC3 := Lib.hid (fun w => numMul_any kq (a.tdiv b) ky b (.string ⟨#[]⟩) (.slice none 0 0) (.slice none 0 0) (.slice none 0 0) (.string ⟨#[]⟩) (.slice none 0 0) (.slice none 0 0) (.slice none 0 0) w HIQ.out HBB.out)
      have HC4 := Lib.hid (fun w => numAdd_any kp (a.tdiv b * b) kr (a.tmod b) (.string ⟨#[]⟩) (.slice none 0 0) (.slice none 0 0) (.slice none 0 0) (.string ⟨#[]⟩) (.slice none 0 0) (.slice none 0 0) (.slice none 0 0) w HIP.out HIR.out)
      rw [hp1] at HC3
      rw [ht1] at HC4
      clear hq1 hr1 hp1 ht1 iq ip ir hl
      generalize a.tdiv b * b = m at *
      generalize a.tdiv b = q at *
      generalize a.tmod b = rr at *
      have HC := Lib.hid (fun w => numDiv_any kx a ky b (.string ⟨#[]⟩) (.slice none 0 0) (.slice none 0 0) (.slice none 0 0) (.string ⟨#[]⟩) (.slice none 0 0) (.slice none 0 0) (.slice none 0 0) w HA.out HBB.out)
      rw [HQ1.out] at HC
      obtain ⟨X0, X1, X2, X3, X4, X5⟩ := GX12.out.cells
      obtain ⟨Y0, Y1, Y2, Y3, Y4, Y5⟩ := GY12.out.cells
      have mX : w2.heap.size < w12.heap.size := GX12.out.lt
      have nX : ¬ w2.heap.size = w12.heap.size := by omega
      have mY : (w2.heap.size + 1) < w12.heap.size := GY12.out.lt
      have nY : ¬ (w2.heap.size + 1) = w12.heap.size := by omega
      go_wp2_with fail
      go_at_call 12
      refine (HC.out _).mono ?_
      rintro e w13 ⟨rfl, hb⟩
      clear X0 X1 X2 X3 X4 X5 Y0 Y1 Y2 Y3 Y4 Y5 mX nX mY nY
      have hc : Below w12.heap.size w12 w13 := ((Below.refl _ w12).alloc (Nat.le_refl _) _).trans (hb.mono (by simp))
      have HB13 := Lib.hid (HB12.out.trans (hc.mono HB12.out.size))
      have GX13 := Lib.hid (GX12.out.keep hc)
      have GY13 := Lib.hid (GY12.out.keep hc)
      have HP13 := Lib.hid (cell_keep hc HP12.out)
      clear hc
      clear hb
      clear HC
      have HC := Lib.hid (fun w => numMod_any kx a ky b (.string ⟨#[]⟩) (.slice none 0 0) (.slice none 0 0) (.slice none 0 0) (.string ⟨#[]⟩) (.slice none 0 0) (.slice none 0 0) (.slice none 0 0) w HA.out HBB.out)
      rw [HR1.out] at HC
      obtain ⟨X0, X1, X2, X3, X4, X5⟩ := GX13.out.cells
      obtain ⟨Y0, Y1, Y2, Y3, Y4, Y5⟩ := GY13.out.cells
      have mX : w2.heap.size < w13.heap.size := GX13.out.lt
      have nX : ¬ w2.heap.size = w13.heap.size := by omega
      have mY : (w2.heap.size + 1) < w13.heap.size := GY13.out.lt
      have nY : ¬ (w2.heap.size + 1) = w13.heap.size := by omega
      go_wp2_with fail
      go_at_call 13
      refine (HC.out _).mono ?_
      rintro e w14 ⟨rfl, hb⟩
      clear X0 X1 X2 X3 X4 X5 Y0 Y1 Y2 Y3 Y4 Y5 mX nX mY nY
      have hc : Below w13.heap.size w13 w14 := ((Below.refl _ w13).alloc (Nat.le_refl _) _).trans (hb.mono (by simp))
      have HB14 := Lib.hid (HB13.out.trans (hc.mono HB13.out.size))
      have GX14 := Lib.hid (GX13.out.keep hc)
      have GY14 := Lib.hid (GY13.out.keep hc)
      have GQ14 := Lib.hid ((IsBox.new w13 (.int .i64 kq) (.int .i64 q) (.string ⟨#[]⟩) (.slice none 0 0) (.slice none 0 0) (.slice none 0 0)).keep hb)
      have HP14 := Lib.hid (cell_keep hc HP13.out)
      clear hc
      clear hb
      clear HC
      obtain ⟨Q0, Q1, Q2, Q3, Q4, Q5⟩ := GQ14.out.cells
      obtain ⟨Y0, Y1, Y2, Y3, Y4, Y5⟩ := GY14.out.cells
      have mQ : w13.heap.size < w14.heap.size := GQ14.out.lt
      have nQ : ¬ w13.heap.size = w14.heap.size := by omega
      have mY : (w2.heap.size + 1) < w14.heap.size := GY14.out.lt
      have nY : ¬ (w2.heap.size + 1) = w14.heap.size := by omega
      go_wp2_with fail
      go_at_call 11
      refine (HC3.out _).mono ?_
      rintro e w15 ⟨rfl, hb⟩
      clear Q0 Q1 Q2 Q3 Q4 Q5 Y0 Y1 Y2 Y3 Y4 Y5 mQ nQ mY nY
      have hc : Below w14.heap.size w14 w15 := ((Below.refl _ w14).alloc (Nat.le_refl _) _).trans (hb.mono (by simp))
      have HB15 := Lib.hid (HB14.out.trans (hc.mono HB14.out.size))
      have GX15 := Lib.hid (GX14.out.keep hc)
      have GY15 := Lib.hid (GY14.out.keep hc)
      have GQ15 := Lib.hid (GQ14.out.keep hc)
      have GR15 := Lib.hid ((IsBox.new w14 (.int .i64 kr) (.int .i64 rr) (.string ⟨#[]⟩) (.slice none 0 0) (.slice none 0 0) (.slice none 0 0)).keep hb)
      have HP15 := Lib.hid (cell_keep hc HP14.out)
      clear hc
      clear hb
      obtain ⟨R0, R1, R2, R3, R4, R5⟩ := GR15.out.cells
      have mR : w14.heap.size < w15.heap.size := GR15.out.lt
      have nR : ¬ w14.heap.size = w15.heap.size := by omega
      go_wp2_with fail
      go_at_call 9
      refine (HC4.out _).mono ?_
      rintro e w16 ⟨rfl, hb⟩
      clear R0 R1 R2 R3 R4 R5 mR nR
      have hc : Below w15.heap.size w15 w16 := ((Below.refl _ w15).alloc (Nat.le_refl _) _).trans (hb.mono (by simp))
      have HB16 := Lib.hid (HB15.out.trans (hc.mono HB15.out.size))
      have GX16 := Lib.hid (GX15.out.keep hc)
      have GY16 := Lib.hid (GY15.out.keep hc)
      have GQ16 := Lib.hid (GQ15.out.keep hc)
      have GR16 := Lib.hid (GR15.out.keep hc)
      have HP16 := Lib.hid (cell_keep hc HP15.out)
      clear hc
      clear hb
      obtain ⟨R0, R1, R2, R3, R4, R5⟩ := GR16.out.cells
      have mR : w14.heap.size < w16.heap.size := GR16.out.lt
      have nR : ¬ w14.heap.size = w16.heap.size := by omega
      by_cases hz : rr = 0
      · have z1 : ((rr : Int) == 0) = true := by rw [beq_iff_eq]; exact hz
        clear hz
        go_wp2_with fail
        go_ret
        exact ⟨rfl, HB16.out.alloc HB16.out.size _⟩
      have z1 : ((rr : Int) == 0) = false := by rw [beq_eq_false_iff_ne]; exact hz
      have z2 : (decide (rr < 0) == decide (a < 0)) = true := by rw [HSG.out hz]; exact beq_self_eq_true _
      go_wp2_with fail
      go_ret
      exact ⟨rfl, HB16.out.alloc HB16.out.size _⟩
    obtain rfl : p0 = false := eq_false_of_ne_true (fun h => hk (HS4.out (H3.out h)))
    have d4 : ((kd : Int) != 4) = true := by simp [hk]
    clear hk
    have pc := HP12.out
    have pl := World.block_lt_of_cell? _ _ pc
    have pn : ¬ w.heap.size = w12.heap.size := by have h : w.heap.size < w12.heap.size := pl; omega
    by_cases h0 : b = 0
    · obtain ⟨hq1, hr1⟩ := back_nought a HK1.out HK2.out
      have HQ1 := Lib.hid (show reck (quoR a b) kx ky = (0, 0, 11) by rw [h0]; exact hq1)
      have HR1 := Lib.hid (show reck (remR a b) kx ky = (0, 0, 11) by rw [h0]; exact hr1)
      have e0 : ((b : Int) == 0) = true := by rw [beq_iff_eq]; exact h0
      clear hq1 hr1 h0
      have HC := Lib.hid (fun w => numDiv_any kx a ky b (.string ⟨#[]⟩) (.slice none 0 0) (.slice none 0 0) (.slice none 0 0) (.string ⟨#[]⟩) (.slice none 0 0) (.slice none 0 0) (.slice none 0 0) w HA.out HBB.out)
      rw [HQ1.out] at HC
      obtain ⟨X0, X1, X2, X3, X4, X5⟩ := GX12.out.cells
      obtain ⟨Y0, Y1, Y2, Y3, Y4, Y5⟩ := GY12.out.cells
      have mX : w2.heap.size < w12.heap.size := GX12.out.lt
      have nX : ¬ w2.heap.size = w12.heap.size := by omega
      have mY : (w2.heap.size + 1) < w12.heap.size := GY12.out.lt
      have nY : ¬ (w2.heap.size + 1) = w12.heap.size := by omega
      go_wp2_with fail
      go_at_call 12
      refine (HC.out _).mono ?_
      rintro e w13 ⟨rfl, hb⟩
      clear pc pl pn X0 X1 X2 X3 X4 X5 Y0 Y1 Y2 Y3 Y4 Y5 mX nX mY nY
      have hc : Below w12.heap.size w12 w13 := ((Below.refl _ w12).alloc (Nat.le_refl _) _).trans (hb.mono (by simp))
      have HB13 := Lib.hid (HB12.out.trans (hc.mono HB12.out.size))
      have GX13 := Lib.hid (GX12.out.keep hc)
      have GY13 := Lib.hid (GY12.out.keep hc)
      have HP13 := Lib.hid (cell_keep hc HP12.out)
      clear hc
      clear hb
      clear HC
      have HC := Lib.hid (fun w => numMod_any kx a ky b (.string ⟨#[]⟩) (.slice none 0 0) (.slice none 0 0) (.slice none 0 0) (.string ⟨#[]⟩) (.slice none 0 0) (.slice none 0 0) (.slice none 0 0) w HA.out HBB.out)
      rw [HR1.out] at HC
      obtain ⟨X0, X1, X2, X3, X4, X5⟩ := GX13.out.cells
      obtain ⟨Y0, Y1, Y2, Y3, Y4, Y5⟩ := GY13.out.cells
      have mX : w2.heap.size < w13.heap.size := GX13.out.lt
      have nX : ¬ w2.heap.size = w13.heap.size := by omega
      have mY : (w2.heap.size + 1) < w13.heap.size := GY13.out.lt
      have nY : ¬ (w2.heap.size + 1) = w13.heap.size := by omega
      go_wp2_with fail
      go_at_call 13
      refine (HC.out _).mono ?_
      rintro e w14 ⟨rfl, hb⟩
      clear X0 X1 X2 X3 X4 X5 Y0 Y1 Y2 Y3 Y4 Y5 mX nX mY nY
      have hc : Below w13.heap.size w13 w14 := ((Below.refl _ w13).alloc (Nat.le_refl _) _).trans (hb.mono (by simp))
      have HB14 := Lib.hid (HB13.out.trans (hc.mono HB13.out.size))
      have GX14 := Lib.hid (GX13.out.keep hc)
      have GY14 := Lib.hid (GY13.out.keep hc)
      have HP14 := Lib.hid (cell_keep hc HP13.out)
      clear hc
      clear hb
      clear HC
      go_wp2_with fail
      go_ret
      exact ⟨rfl, HB14.out.alloc HB14.out.size _⟩
    have e0 : ((b : Int) == 0) = false := by rw [beq_eq_false_iff_ne]; exact h0
    by_cases hl : a = -9223372036854775808 ∧ b = -1
    · obtain ⟨kr, hq1, hr1⟩ := back_least HK1.out HK2.out
      have HQ1 := Lib.hid (show reck (quoR a b) kx ky = (0, 0, 10) by rw [hl.1, hl.2]; exact hq1)
      have HR1 := Lib.hid (show reck (remR a b) kx ky = (kr, 0, 0) by rw [hl.1, hl.2]; exact hr1)
      clear hq1 hr1
      have e1 : ((a : Int) == -9223372036854775808) = true := by rw [beq_iff_eq]; exact hl.1
      have e2 : ((b : Int) == -1) = true := by rw [beq_iff_eq]; exact hl.2
      clear hl h0
      have HC := Lib.hid (fun w => numDiv_any kx a ky b (.string ⟨#[]⟩) (.slice none 0 0) (.slice none 0 0) (.slice none 0 0) (.string ⟨#[]⟩) (.slice none 0 0) (.slice none 0 0) (.slice none 0 0) w HA.out HBB.out)
      rw [HQ1.out] at HC
      obtain ⟨X0, X1, X2, X3, X4, X5⟩ := GX12.out.cells
      obtain ⟨Y0, Y1, Y2, Y3, Y4, Y5⟩ := GY12.out.cells
      have mX : w2.heap.size < w12.heap.size := GX12.out.lt
      have nX : ¬ w2.heap.size = w12.heap.size := by omega
      have mY : (w2.heap.size + 1) < w12.heap.size := GY12.out.lt
      have nY : ¬ (w2.heap.size + 1) = w12.heap.size := by omega
      go_wp2_with fail
      go_at_call 12
      refine (HC.out _).mono ?_
      rintro e w13 ⟨rfl, hb⟩
      clear pc pl pn X0 X1 X2 X3 X4 X5 Y0 Y1 Y2 Y3 Y4 Y5 mX nX mY nY
      have hc : Below w12.heap.size w12 w13 := ((Below.refl _ w12).alloc (Nat.le_refl _) _).trans (hb.mono (by simp))
      have HB13 := Lib.hid (HB12.out.trans (hc.mono HB12.out.size))
      have GX13 := Lib.hid (GX12.out.keep hc)
      have GY13 := Lib.hid (GY12.out.keep hc)
      have HP13 := Lib.hid (cell_keep hc HP12.out)
      clear hc
      clear hb
      clear HC
      have HC := Lib.hid (fun w => numMod_any kx a ky b (.string ⟨#[]⟩) (.slice none 0 0) (.slice none 0 0) (.slice none 0 0) (.string ⟨#[]⟩) (.slice none 0 0) (.slice none 0 0) (.slice none 0 0) w HA.out HBB.out)
      rw [HR1.out] at HC
      obtain ⟨X0, X1, X2, X3, X4, X5⟩ := GX13.out.cells
      obtain ⟨Y0, Y1, Y2, Y3, Y4, Y5⟩ := GY13.out.cells
      have mX : w2.heap.size < w13.heap.size := GX13.out.lt
      have nX : ¬ w2.heap.size = w13.heap.size := by omega
      have mY : (w2.heap.size + 1) < w13.heap.size := GY13.out.lt
      have nY : ¬ (w2.heap.size + 1) = w13.heap.size := by omega
      go_wp2_with fail
      go_at_call 13
      refine (HC.out _).mono ?_
      rintro e w14 ⟨rfl, hb⟩
      clear X0 X1 X2 X3 X4 X5 Y0 Y1 Y2 Y3 Y4 Y5 mX nX mY nY
      have hc : Below w13.heap.size w13 w14 := ((Below.refl _ w13).alloc (Nat.le_refl _) _).trans (hb.mono (by simp))
      have HB14 := Lib.hid (HB13.out.trans (hc.mono HB13.out.size))
      have GX14 := Lib.hid (GX13.out.keep hc)
      have GY14 := Lib.hid (GY13.out.keep hc)
      have HP14 := Lib.hid (cell_keep hc HP13.out)
      clear hc
      clear hb
      clear HC
      go_wp2_with fail
      go_ret
      exact ⟨rfl, HB14.out.alloc HB14.out.size _⟩
    obtain ⟨kq, kr, kp, kt, hq1, hr1, hp1, ht1, iq, ip, ir⟩ := back_quo HA.out h0 hl HK1.out HK2.out
    have HQ1 := Lib.hid hq1
    have HR1 := Lib.hid hr1
    have HIQ := Lib.hid iq
    have HIP := Lib.hid ip
    have HIR := Lib.hid ir
    have HSG := Lib.hid (tmod_sign a b)
    have HC3 := Lib.hid (fun w => numMul_any kq (a.tdiv b) ky b (.string ⟨#[]⟩) (.slice none 0 0) (.slice none 0 0) (.slice none 0 0) (.string ⟨#[]⟩) (.slice none 0 0) (.slice none 0 0) (.slice none 0 0) w HIQ.out HBB.out)
    have HC4 := Lib.hid (fun w => numAdd_any kp (a.tdiv b * b) kr (a.tmod b) (.string ⟨#[]⟩) (.slice none 0 0) (.slice none 0 0) (.slice none 0 0) (.string ⟨#[]⟩) (.slice none 0 0) (.slice none 0 0) (.slice none 0 0) w HIP.out HIR.out)
    rw [hp1] at HC3
    rw [ht1] at HC4
    clear hq1 hr1 hp1 ht1 iq ip ir hl
    generalize a.tdiv b * b = m at *
    generalize a.tdiv b = q at *
    generalize a.tmod b = rr at *
    have HC := Lib.hid (fun w => numDiv_any kx a ky b (.string ⟨#[]⟩) (.slice none 0 0) (.slice none 0 0) (.slice none 0 0) (.string ⟨#[]⟩) (.slice none 0 0) (.slice none 0 0) (.slice none 0 0) w HA.out HBB.out)
    rw [HQ1.out] at HC
    obtain ⟨X0, X1, X2, X3, X4, X5⟩ := GX12.out.cells
    obtain ⟨Y0, Y1, Y2, Y3, Y4, Y5⟩ := GY12.out.cells
    have mX : w2.heap.size < w12.heap.size := GX12.out.lt
    have nX : ¬ w2.heap.size = w12.heap.size := by omega
    have mY : (w2.heap.size + 1) < w12.heap.size := GY12.out.lt
    have nY : ¬ (w2.heap.size + 1) = w12.heap.size := by omega
    go_wp2_with fail
    go_at_call 12
    refine (HC.out _).mono ?_
    rintro e w13 ⟨rfl, hb⟩
    clear pc pl pn X0 X1 X2 X3 X4 X5 Y0 Y1 Y2 Y3 Y4 Y5 mX nX mY nY
    have hc : Below w12.heap.size w12 w13 := ((Below.refl _ w12).alloc (Nat.le_refl _) _).trans (hb.mono (by simp))
    have HB13 := Lib.hid (HB12.out.trans (hc.mono HB12.out.size))
    have GX13 := Lib.hid (GX12.out.keep hc)
    have GY13 := Lib.hid (GY12.out.keep hc)
    have HP13 := Lib.hid (cell_keep hc HP12.out)
    clear hc
    clear hb
    clear HC
    have HC := Lib.hid (fun w => numMod_any kx a ky b (.string ⟨#[]⟩) (.slice none 0 0) (.slice none 0 0) (.slice none 0 0) (.string ⟨#[]⟩) (.slice none 0 0) (.slice none 0 0) (.slice none 0 0) w HA.out HBB.out)
    rw [HR1.out] at HC
    obtain ⟨X0, X1, X2, X3, X4, X5⟩ := GX13.out.cells
    obtain ⟨Y0, Y1, Y2, Y3, Y4, Y5⟩ := GY13.out.cells
    have mX : w2.heap.size < w13.heap.size := GX13.out.lt
    have nX : ¬ w2.heap.size = w13.heap.size := by omega
    have mY : (w2.heap.size + 1) < w13.heap.size := GY13.out.lt
    have nY : ¬ (w2.heap.size + 1) = w13.heap.size := by omega
    go_wp2_with fail
    go_at_call 13
    refine (HC.out _).mono ?_
    rintro e w14 ⟨rfl, hb⟩
    clear X0 X1 X2 X3 X4 X5 Y0 Y1 Y2 Y3 Y4 Y5 mX nX mY nY
    have hc : Below w13.heap.size w13 w14 := ((Below.refl _ w13).alloc (Nat.le_refl _) _).trans (hb.mono (by simp))
    have HB14 := Lib.hid (HB13.out.trans (hc.mono HB13.out.size))
    have GX14 := Lib.hid (GX13.out.keep hc)
    have GY14 := Lib.hid (GY13.out.keep hc)
    have GQ14 := Lib.hid ((IsBox.new w13 (.int .i64 kq) (.int .i64 q) (.string ⟨#[]⟩) (.slice none 0 0) (.slice none 0 0) (.slice none 0 0)).keep hb)
    have HP14 := Lib.hid (cell_keep hc HP13.out)
    clear hc
    clear hb
    clear HC
    obtain ⟨Q0, Q1, Q2, Q3, Q4, Q5⟩ := GQ14.out.cells
    obtain ⟨Y0, Y1, Y2, Y3, Y4, Y5⟩ := GY14.out.cells
    have mQ : w13.heap.size < w14.heap.size := GQ14.out.lt
    have nQ : ¬ w13.heap.size = w14.heap.size := by omega
    have mY : (w2.heap.size + 1) < w14.heap.size := GY14.out.lt
    have nY : ¬ (w2.heap.size + 1) = w14.heap.size := by omega
    go_wp2_with fail
    go_at_call 11
    refine (HC3.out _).mono ?_
    rintro e w15 ⟨rfl, hb⟩
    clear Q0 Q1 Q2 Q3 Q4 Q5 Y0 Y1 Y2 Y3 Y4 Y5 mQ nQ mY nY
    have hc : Below w14.heap.size w14 w15 := ((Below.refl _ w14).alloc (Nat.le_refl _) _).trans (hb.mono (by simp))
    have HB15 := Lib.hid (HB14.out.trans (hc.mono HB14.out.size))
    have GX15 := Lib.hid (GX14.out.keep hc)
    have GY15 := Lib.hid (GY14.out.keep hc)
    have GQ15 := Lib.hid (GQ14.out.keep hc)
    have GR15 := Lib.hid ((IsBox.new w14 (.int .i64 kr) (.int .i64 rr) (.string ⟨#[]⟩) (.slice none 0 0) (.slice none 0 0) (.slice none 0 0)).keep hb)
    have HP15 := Lib.hid (cell_keep hc HP14.out)
    clear hc
    clear hb
    obtain ⟨R0, R1, R2, R3, R4, R5⟩ := GR15.out.cells
    have mR : w14.heap.size < w15.heap.size := GR15.out.lt
    have nR : ¬ w14.heap.size = w15.heap.size := by omega
    go_wp2_with fail
    go_at_call 9
    refine (HC4.out _).mono ?_
    rintro e w16 ⟨rfl, hb⟩
    clear R0 R1 R2 R3 R4 R5 mR nR
    have hc : Below w15.heap.size w15 w16 := ((Below.refl _ w15).alloc (Nat.le_refl _) _).trans (hb.mono (by simp))
    have HB16 := Lib.hid (HB15.out.trans (hc.mono HB15.out.size))
    have GX16 := Lib.hid (GX15.out.keep hc)
    have GY16 := Lib.hid (GY15.out.keep hc)
    have GQ16 := Lib.hid (GQ15.out.keep hc)
    have GR16 := Lib.hid (GR15.out.keep hc)
    have HP16 := Lib.hid (cell_keep hc HP15.out)
    clear hc
    clear hb
    obtain ⟨R0, R1, R2, R3, R4, R5⟩ := GR16.out.cells
    have mR : w14.heap.size < w16.heap.size := GR16.out.lt
    have nR : ¬ w14.heap.size = w16.heap.size := by omega
    by_cases hz : rr = 0
    · have z1 : ((rr : Int) == 0) = true := by rw [beq_iff_eq]; exact hz
      clear hz
      go_wp2_with fail
      go_ret
      exact ⟨rfl, HB16.out.alloc HB16.out.size _⟩
    have z1 : ((rr : Int) == 0) = false := by rw [beq_eq_false_iff_ne]; exact hz
    have z2 : (decide (rr < 0) == decide (a < 0)) = true := by rw [HSG.out hz]; exact beq_self_eq_true _
    go_wp2_with fail
    go_ret
    exact ⟨rfl, HB16.out.alloc HB16.out.size _⟩
  · have HC := Lib.hid (fun w => numAdd_any kx a ky b (.string ⟨#[]⟩) (.slice none 0 0) (.slice none 0 0) (.slice none 0 0) (.string ⟨#[]⟩) (.slice none 0 0) (.slice none 0 0) (.slice none 0 0) w HA.out HBB.out)
    rw [hs] at HC
    clear hs
    obtain ⟨X0, X1, X2, X3, X4, X5⟩ := HX.out.cells
    obtain ⟨Y0, Y1, Y2, Y3, Y4, Y5⟩ := HY.out.cells
    go_wp2_with fail
    go_at_call 9
    refine (HC.out _).mono ?_
    rintro e w11 ⟨rfl, hb⟩
    clear X0 X1 X2 X3 X4 X5 Y0 Y1 Y2 Y3 Y4 Y5
    have HB11 := Lib.hid (HBW.out.trans (hb.mono HBW.out.size))
    have GX11 := Lib.hid (HX.out.keep hb)
    have GY11 := Lib.hid (HY.out.keep hb)
    have HP11 := Lib.hid (cell_keep hb HP.out)
    clear hb
    clear HC
    by_cases h0 : b = 0
    · obtain ⟨hq1, hr1⟩ := back_nought a HK1.out HK2.out
      have HQ1 := Lib.hid (show reck (quoR a b) kx ky = (0, 0, 11) by rw [h0]; exact hq1)
      have HR1 := Lib.hid (show reck (remR a b) kx ky = (0, 0, 11) by rw [h0]; exact hr1)
      have e0 : ((b : Int) == 0) = true := by rw [beq_iff_eq]; exact h0
      clear hq1 hr1 h0
      have HC := Lib.hid (fun w => numDiv_any kx a ky b (.string ⟨#[]⟩) (.slice none 0 0) (.slice none 0 0) (.slice none 0 0) (.string ⟨#[]⟩) (.slice none 0 0) (.slice none 0 0) (.slice none 0 0) w HA.out HBB.out)
      rw [HQ1.out] at HC
      obtain ⟨X0, X1, X2, X3, X4, X5⟩ := GX11.out.cells
      obtain ⟨Y0, Y1, Y2, Y3, Y4, Y5⟩ := GY11.out.cells
      have mX : w2.heap.size < w11.heap.size := GX11.out.lt
      have nX : ¬ w2.heap.size = w11.heap.size := by omega
      have mY : (w2.heap.size + 1) < w11.heap.size := GY11.out.lt
      have nY : ¬ (w2.heap.size + 1) = w11.heap.size := by omega
      go_wp2_with fail
      go_at_call 12
      refine (HC.out _).mono ?_
      rintro e w12 ⟨rfl, hb⟩
      clear X0 X1 X2 X3 X4 X5 Y0 Y1 Y2 Y3 Y4 Y5 mX nX mY nY
      have hc : Below w11.heap.size w11 w12 := ((Below.refl _ w11).alloc (Nat.le_refl _) _).trans (hb.mono (by simp))
      have HB12 := Lib.hid (HB11.out.trans (hc.mono HB11.out.size))
      have GX12 := Lib.hid (GX11.out.keep hc)
      have GY12 := Lib.hid (GY11.out.keep hc)
      have HP12 := Lib.hid (cell_keep hc HP11.out)
      clear hc
      clear hb
      clear HC
      have HC := Lib.hid (fun w => numMod_any kx a ky b (.string ⟨#[]⟩) (.slice none 0 0) (.slice none 0 0) (.slice none 0 0) (.string ⟨#[]⟩) (.slice none 0 0) (.slice none 0 0) (.slice none 0 0) w HA.out HBB.out)
      rw [HR1.out] at HC
      obtain ⟨X0, X1, X2, X3, X4, X5⟩ := GX12.out.cells
      obtain ⟨Y0, Y1, Y2, Y3, Y4, Y5⟩ := GY12.out.cells
      have mX : w2.heap.size < w12.heap.size := GX12.out.lt
      have nX : ¬ w2.heap.size = w12.heap.size := by omega
      have mY : (w2.heap.size + 1) < w12.heap.size := GY12.out.lt
      have nY : ¬ (w2.heap.size + 1) = w12.heap.size := by omega
      go_wp2_with fail
      go_at_call 13
      refine (HC.out _).mono ?_
      rintro e w13 ⟨rfl, hb⟩
      clear X0 X1 X2 X3 X4 X5 Y0 Y1 Y2 Y3 Y4 Y5 mX nX mY nY
      have hc : Below w12.heap.size w12 w13 := ((Below.refl _ w12).alloc (Nat.le_refl _) _).trans (hb.mono (by simp))
      have HB13 := Lib.hid (HB12.out.trans (hc.mono HB12.out.size))
      have GX13 := Lib.hid (GX12.out.keep hc)
      have GY13 := Lib.hid (GY12.out.keep hc)
      have HP13 := Lib.hid (cell_keep hc HP12.out)
      clear hc
      clear hb
      clear HC
      go_wp2_with fail
      go_ret
      exact ⟨rfl, HB13.out.alloc HB13.out.size _⟩
    have e0 : ((b : Int) == 0) = false := by rw [beq_eq_false_iff_ne]; exact h0
    by_cases hl : a = -9223372036854775808 ∧ b = -1
    · obtain ⟨kr, hq1, hr1⟩ := back_least HK1.out HK2.out
      have HQ1 := Lib.hid (show reck (quoR a b) kx ky = (0, 0, 10) by rw [hl.1, hl.2]; exact hq1)
      have HR1 := Lib.hid (show reck (remR a b) kx ky = (kr, 0, 0) by rw [hl.1, hl.2]; exact hr1)
      clear hq1 hr1
      have e1 : ((a : Int) == -9223372036854775808) = true := by rw [beq_iff_eq]; exact hl.1
      have e2 : ((b : Int) == -1) = true := by rw [beq_iff_eq]; exact hl.2
      clear hl h0
      have HC := Lib.hid (fun w => numDiv_any kx a ky b (.string ⟨#[]⟩) (.slice none 0 0) (.slice none 0 0) (.slice none 0 0) (.string ⟨#[]⟩) (.slice none 0 0) (.slice none 0 0) (.slice none 0 0) w HA.out HBB.out)
      rw [HQ1.out] at HC
      obtain ⟨X0, X1, X2, X3, X4, X5⟩ := GX11.out.cells
      obtain ⟨Y0, Y1, Y2, Y3, Y4, Y5⟩ := GY11.out.cells
      have mX : w2.heap.size < w11.heap.size := GX11.out.lt
      have nX : ¬ w2.heap.size = w11.heap.size := by omega
      have mY : (w2.heap.size + 1) < w11.heap.size := GY11.out.lt
      have nY : ¬ (w2.heap.size + 1) = w11.heap.size := by omega
      go_wp2_with fail
      go_at_call 12
      refine (HC.out _).mono ?_
      rintro e w12 ⟨rfl, hb⟩
      clear X0 X1 X2 X3 X4 X5 Y0 Y1 Y2 Y3 Y4 Y5 mX nX mY nY
      have hc : Below w11.heap.size w11 w12 := ((Below.refl _ w11).alloc (Nat.le_refl _) _).trans (hb.mono (by simp))
      have HB12 := Lib.hid (HB11.out.trans (hc.mono HB11.out.size))
      have GX12 := Lib.hid (GX11.out.keep hc)
      have GY12 := Lib.hid (GY11.out.keep hc)
      have HP12 := Lib.hid (cell_keep hc HP11.out)
      clear hc
      clear hb
      clear HC
      have HC := Lib.hid (fun w => numMod_any kx a ky b (.string ⟨#[]⟩) (.slice none 0 0) (.slice none 0 0) (.slice none 0 0) (.string ⟨#[]⟩) (.slice none 0 0) (.slice none 0 0) (.slice none 0 0) w HA.out HBB.out)
      rw [HR1.out] at HC
      obtain ⟨X0, X1, X2, X3, X4, X5⟩ := GX12.out.cells
      obtain ⟨Y0, Y1, Y2, Y3, Y4, Y5⟩ := GY12.out.cells
      have mX : w2.heap.size < w12.heap.size := GX12.out.lt
      have nX : ¬ w2.heap.size = w12.heap.size := by omega
      have mY : (w2.heap.size + 1) < w12.heap.size := GY12.out.lt
      have nY : ¬ (w2.heap.size + 1) = w12.heap.size := by omega
      go_wp2_with fail
      go_at_call 13
      refine (HC.out _).mono ?_
      rintro e w13 ⟨rfl, hb⟩
      clear X0 X1 X2 X3 X4 X5 Y0 Y1 Y2 Y3 Y4 Y5 mX nX mY nY
      have hc : Below w12.heap.size w12 w13 := ((Below.refl _ w12).alloc (Nat.le_refl _) _).trans (hb.mono (by simp))
      have HB13 := Lib.hid (HB12.out.trans (hc.mono HB12.out.size))
      have GX13 := Lib.hid (GX12.out.keep hc)
      have GY13 := Lib.hid (GY12.out.keep hc)
      have HP13 := Lib.hid (cell_keep hc HP12.out)
      clear hc
      clear hb
      clear HC
      go_wp2_with fail
      go_ret
      exact ⟨rfl, HB13.out.alloc HB13.out.size _⟩
    obtain ⟨kq, kr, kp, kt, hq1, hr1, hp1, ht1, iq, ip, ir⟩ := back_quo HA.out h0 hl HK1.out HK2.out
    have HQ1 := Lib.hid hq1
    have HR1 := Lib.hid hr1
    have HIQ := Lib.hid iq
    have HIP := Lib.hid ip
    have HIR := Lib.hid ir
    have HSG := Lib.hid (tmod_sign a b)
    have HC3 := Lib.hid (fun w => numMul_any kq (a.tdiv b) ky b (.string ⟨#[]⟩) (.slice none 0 0) (.slice none 0 0) (.slice none 0 0) (.string ⟨#[]⟩) (.slice none 0 0) (.slice none 0 0) (.slice none 0 0) w HIQ.out HBB.out)
    have HC4 := Lib.hid (fun w => numAdd_any kp (a.tdiv b * b) kr (a.tmod b) (.string ⟨#[]⟩) (.slice none 0 0) (.slice none 0 0) (.slice none 0 0) (.string ⟨#[]⟩) (.slice none 0 0) (.slice none 0 0) (.slice none 0 0) w HIP.out HIR.out)
    rw [hp1] at HC3
    rw [ht1] at HC4
    clear hq1 hr1 hp1 ht1 iq ip ir hl
    generalize a.tdiv b * b = m at *
    generalize a.tdiv b = q at *
    generalize a.tmod b = rr at *
    have HC := Lib.hid (fun w => numDiv_any kx a ky b (.string ⟨#[]⟩) (.slice none 0 0) (.slice none 0 0) (.slice none 0 0) (.string ⟨#[]⟩) (.slice none 0 0) (.slice none 0 0) (.slice none 0 0) w HA.out HBB.out)
    rw [HQ1.out] at HC
    obtain ⟨X0, X1, X2, X3, X4, X5⟩ := GX11.out.cells
    obtain ⟨Y0, Y1, Y2, Y3, Y4, Y5⟩ := GY11.out.cells
    have mX : w2.heap.size < w11.heap.size := GX11.out.lt
    have nX : ¬ w2.heap.size = w11.heap.size := by omega
    have mY : (w2.heap.size + 1) < w11.heap.size := GY11.out.lt
    have nY : ¬ (w2.heap.size + 1) = w11.heap.size := by omega
    go_wp2_with fail
    go_at_call 12
    refine (HC.out _).mono ?_
    rintro e w12 ⟨rfl, hb⟩
    clear X0 X1 X2 X3 X4 X5 Y0 Y1 Y2 Y3 Y4 Y5 mX nX mY nY
    have hc : Below w11.heap.size w11 w12 := ((Below.refl _ w11).alloc (Nat.le_refl _) _).trans (hb.mono (by simp))
    have HB12 := Lib.hid (HB11.out.trans (hc.mono HB11.out.size))
    have GX12 := Lib.hid (GX11.out.keep hc)
    have GY12 := Lib.hid (GY11.out.keep hc)
    have HP12 := Lib.hid (cell_keep hc HP11.out)
    clear hc
    clear hb
    clear HC
    have HC := Lib.hid (fun w => numMod_any kx a ky b (.string ⟨#[]⟩) (.slice none 0 0) (.slice none 0 0) (.slice none 0 0) (.string ⟨#[]⟩) (.slice none 0 0) (.slice none 0 0) (.slice none 0 0) w HA.out HBB.out)
    rw [HR1.out] at HC
    obtain ⟨X0, X1, X2, X3, X4, X5⟩ := GX12.out.cells
    obtain ⟨Y0, Y1, Y2, Y3, Y4, Y5⟩ := GY12.out.cells
    have mX : w2.heap.size < w12.heap.size := GX12.out.lt
    have nX : ¬ w2.heap.size = w12.heap.size := by omega
    have mY : (w2.heap.size + 1) < w12.heap.size := GY12.out.lt
    have nY : ¬ (w2.heap.size + 1) = w12.heap.size := by omega
    go_wp2_with fail
    go_at_call 13
    refine (HC.out _).mono ?_
    rintro e w13 ⟨rfl, hb⟩
    clear X0 X1 X2 X3 X4 X5 Y0 Y1 Y2 Y3 Y4 Y5 mX nX mY nY
    have hc : Below w12.heap.size w12 w13 := ((Below.refl _ w12).alloc (Nat.le_refl _) _).trans (hb.mono (by simp))
    have HB13 := Lib.hid (HB12.out.trans (hc.mono HB12.out.size))
    have GX13 := Lib.hid (GX12.out.keep hc)
    have GY13 := Lib.hid (GY12.out.keep hc)
    have GQ13 := Lib.hid ((IsBox.new w12 (.int .i64 kq) (.int .i64 q) (.string ⟨#[]⟩) (.slice none 0 0) (.slice none 0 0) (.slice none 0 0)).keep hb)
    have HP13 := Lib.hid (cell_keep hc HP12.out)
    clear hc
    clear hb
    clear HC
    obtain ⟨Q0, Q1, Q2, Q3, Q4, Q5⟩ := GQ13.out.cells
    obtain ⟨Y0, Y1, Y2, Y3, Y4, Y5⟩ := GY13.out.cells
    have mQ : w12.heap.size < w13.heap.size := GQ13.out.lt
    have nQ : ¬ w12.heap.size = w13.heap.size := by omega
    have mY : (w2.heap.size + 1) < w13.heap.size := GY13.out.lt
    have nY : ¬ (w2.heap.size + 1) = w13.heap.size := by omega
    go_wp2_with fail
    go_at_call 11
    refine (HC3.out _).mono ?_
    rintro e w14 ⟨rfl, hb⟩
    clear Q0 Q1 Q2 Q3 Q4 Q5 Y0 Y1 Y2 Y3 Y4 Y5 mQ nQ mY nY
    have hc : Below w13.heap.size w13 w14 := ((Below.refl _ w13).alloc (Nat.le_refl _) _).trans (hb.mono (by simp))
    have HB14 := Lib.hid (HB13.out.trans (hc.mono HB13.out.size))
    have GX14 := Lib.hid (GX13.out.keep hc)
    have GY14 := Lib.hid (GY13.out.keep hc)
    have GQ14 := Lib.hid (GQ13.out.keep hc)
    have GR14 := Lib.hid ((IsBox.new w13 (.int .i64 kr) (.int .i64 rr) (.string ⟨#[]⟩) (.slice none 0 0) (.slice none 0 0) (.slice none 0 0)).keep hb)
    have HP14 := Lib.hid (cell_keep hc HP13.out)
    clear hc
    clear hb
    obtain ⟨R0, R1, R2, R3, R4, R5⟩ := GR14.out.cells
    have mR : w13.heap.size < w14.heap.size := GR14.out.lt
    have nR : ¬ w13.heap.size = w14.heap.size := by omega
    go_wp2_with fail
    go_at_call 9
    refine (HC4.out _).mono ?_
    rintro e w15 ⟨rfl, hb⟩
    clear R0 R1 R2 R3 R4 R5 mR nR
    have hc : Below w14.heap.size w14 w15 := ((Below.refl _ w14).alloc (Nat.le_refl _) _).trans (hb.mono (by simp))
    have HB15 := Lib.hid (HB14.out.trans (hc.mono HB14.out.size))
    have GX15 := Lib.hid (GX14.out.keep hc)
    have GY15 := Lib.hid (GY14.out.keep hc)
    have GQ15 := Lib.hid (GQ14.out.keep hc)
    have GR15 := Lib.hid (GR14.out.keep hc)
    have HP15 := Lib.hid (cell_keep hc HP14.out)
    clear hc
    clear hb
    obtain ⟨R0, R1, R2, R3, R4, R5⟩ := GR15.out.cells
    have mR : w13.heap.size < w15.heap.size := GR15.out.lt
    have nR : ¬ w13.heap.size = w15.heap.size := by omega
    by_cases hz : rr = 0
    · have z1 : ((rr : Int) == 0) = true := by rw [beq_iff_eq]; exact hz
      clear hz
      go_wp2_with fail
      go_ret
      exact ⟨rfl, HB15.out.alloc HB15.out.size _⟩
    have z1 : ((rr : Int) == 0) = false := by rw [beq_eq_false_iff_ne]; exact hz
    have z2 : (decide (rr < 0) == decide (a < 0)) = true := by rw [HSG.out hz]; exact beq_self_eq_true _
    go_wp2_with fail
    go_ret
    exact ⟨rfl, HB15.out.alloc HB15.out.size _⟩
end Go.Proofs.Ytkmibpjhfgbckaa
