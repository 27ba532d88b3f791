/- THE WALK OF LedgerKeeps. -/
import Derived.Test.YtikdkoeicohopaaLedgerPlaysWalk
namespace Go.Proofs.Ytikdkoeicohopaa
open Go.RowKit
/-- A slice of short numbers. -/
def Shorts (w : World) (a : Option Addr) (l : List Int) : Prop := l = [] ∨ ∃ b off, a = some ⟨b, off, none⟩ ∧ ∀ j, j < l.length → w.cell? ⟨b, off + j, none⟩ = some (.int .u16 (l.getD j 0)) ∧ 0 ≤ l.getD j 0 ∧ l.getD j 0 ≤ 65535
theorem tk_fair {H z : Int} (h0 : 0 ≤ H) (h1 : H ≤ 6553500) (z0 : 0 ≤ z) (z1 : z ≤ 65535) : tkB H z = true ∧ tkH H z = H + z ∧ ∀ M, tkM H M z = mx M (H + z) := by
  have e : tkB H z = true := by unfold tkB; simp; omega
  unfold tkH tkM
  rw [e]
  exact ⟨rfl, rfl, fun _ => rfl⟩
theorem gv_more (H : Int) : gvB H (H + 1) = false := by unfold gvB; simp; omega
theorem gv_more' (H : Int) : gvH H (H + 1) = H := by unfold gvH; rw [gv_more]; rfl
theorem gv_some {H z : Int} (h0 : 0 ≤ z) (h1 : z ≤ H) : gvB H z = true ∧ gvH H z = H - z := by
  have e : gvB H z = true := by unfold gvB; simp; omega
  unfold gvH
  rw [e]
  exact ⟨rfl, rfl⟩
set_option maxRecDepth 100000 in
set_option maxHeartbeats 2000000 in
theorem keeps_any (B : Int) (a : Option Addr) (n c : Nat) (l : List Int) (w : World) (b0 : 0 ≤ B) (b1 : B ≤ 65535) (hl : l.length = n) (hd : Shorts w a l) :
    Calls Try.prog 4 #[.int .u16 B, .slice a n c] w fun e w' => e = .returned (.bool true) ∧ Below w.heap.size w w' := by
  by_cases hbig : 100 < n
  · go_enter Try.func4, Try.ntmps4
    go_wp2_with fail
    refine (awake_any w).mono ?_
    rintro e w1 ⟨rfl, hB1⟩
    go_wp2_with fail
    go_ret
    exact ⟨rfl, hB1⟩
  · go_enter Try.func4, Try.ntmps4
    go_wp2_with fail
    refine (awake_any w).mono ?_
    rintro e w1 ⟨rfl, hB1⟩
    have HB1 := Lib.hid hB1
    clear hB1
    go_wp2_with fail
    refine (New_all _ _).mono ?_
    have en : near B = B := by unfold near; rw [if_neg (by omega), if_neg (by omega)]
    rw [en]
    rintro e w2 ⟨rfl, hw2⟩
    have hL := new_led w1 B TL
    have hBl := (Below.refl w1.heap.size w1).alloc (Nat.le_refl _) (.cells #[.int .i64 B, .int .i64 0, .int .i64 0] TL)
    rw [show 39 = TL from rfl] at hw2
    rw [← hw2] at hL hBl
    clear hw2 en
    have hB0 : Below w.heap.size w w2 := HB1.out.trans (hBl.mono HB1.out.size)
    obtain ⟨g, hg⟩ : ∃ g, g = w1.heap.size := ⟨_, rfl⟩
    have q1 : w.heap.size ≤ g := by rw [hg]; exact HB1.out.size
    rw [← hg] at hL ⊢
    have HL := Lib.hid hL
    have H0 := Lib.hid hB0
    have Hl := Lib.hid hl
    have Hd := Lib.hid hd
    clear hg hBl hL hB0 HB1 hl hd
    go_wp2_with fail
    go_loopw [6, 7, 8] (fun h m i wr => ∃ (k : Nat) (H M : Int), k ≤ n ∧ i = .int .i64 k ∧ h = .int .i64 H ∧ m = .int .i64 M ∧ Led wr g TL B H M ∧ 0 ≤ H ∧ H ≤ 65535 * k ∧ Below w.heap.size w wr) (fun _ _ i _ => n - (intOf i).toNat)
    case atStart => exact ⟨0, 0, 0, by omega, rfl, rfl, rfl, HL.out, by omega, by omega, H0.out⟩
    case round =>
      obtain ⟨k, H, M, hk, rfl, rfl, rfl, hL, hH0, hH1, hB0⟩ := hrel
      clear HL H0
      have hF : Fair B H := by unfold Fair; omega
      have HL := Lib.hid hL
      have H0 := Lib.hid hB0
      clear hL hB0
      by_cases hlt : k < n
      · have hne : l ≠ [] := by intro e; have := Hl.out; rw [e] at this; simp at this; omega
        obtain ⟨b, off, rfl, hcl⟩ := Hd.out.resolve_left hne
        obtain ⟨hc, z0, z1⟩ := hcl k (by rw [Hl.out]; exact hlt)
        have hlw : b < w.heap.size := World.block_lt_of_cell? w _ hc
        rw [← H0.out.cell (p := ⟨b, _, none⟩) hlw] at hc
        generalize l.getD k 0 = z at *
        clear hcl hne Hd
        have hk100 : k ≤ 99 := by omega
        have hH2 : H ≤ 6553500 := by omega
        obtain ⟨t1, t2, t3⟩ := tk_fair hH0 hH2 z0 z1
        have s1 := gv_some (H := H + z) z0 (by omega)
        have T1 := Lib.hid t1
        have T2 := Lib.hid t2
        have T3 := Lib.hid (t3 M)
        have S1 := Lib.hid s1
        clear t1 t2 t3 s1
        have hFt : ftB B H z = decide (H + z ≤ B) := by
          unfold ftB
          rw [Bool.eq_iff_iff]; simp; omega
        have hm1 : 0 ≤ z % 2 ∧ z % 2 < 2 := by omega
        have HF := Lib.hid hF
        clear hF
        by_cases hu : M < H + z
        · rcases Int.emod_two_eq z with ho | ho
          · have d1 : (z % 2 == 1) = false := by rw [ho]; rfl
            clear ho
            by_cases hh : H + z ≤ B
            · have e1 : ftB B H z = true := by rw [hFt]; simp; omega
              have E1 := Lib.hid e1
              clear e1 hFt
              go_wp2_with fail
              refine (Fits_all g TL B H M z _ HL.out HF.out).mono ?_
              rw [E1.out]
              rintro e w3 ⟨rfl, m3, hw⟩
              have hL := HL.out.drewN m3
              have h0 := below_drewN H0.out m3
              rw [← hw] at hL h0
              clear hw HL H0
              have HL := Lib.hid hL
              have H0 := Lib.hid h0
              clear hL h0
              go_wp2_with fail
              refine (Take_all g TL B H M z _ HL.out HF.out).mono ?_
              rw [T1.out, T2.out, T3.out, mx_pos hu]
              rintro e w4 ⟨rfl, hL, hG⟩
              have h0 := below_grown H0.out hG q1 H0.out.size
              clear hG HL H0
              have HL := Lib.hid hL
              have H0 := Lib.hid h0
              clear hL h0
              go_wp2_with fail
              refine (Held_all g TL _ _ _ _ HL.out).mono ?_
              rintro e w' ⟨rfl, rfl⟩
              go_wp2_with fail
              refine (Most_all g TL _ _ _ _ HL.out).mono ?_
              rintro e w' ⟨rfl, rfl⟩
              go_wp2_with fail
              refine (Give_all g TL _ _ _ _ _ HL.out (by unfold Fair; omega)).mono ?_
              rw [gv_more, gv_more']
              rintro e w5 ⟨rfl, hL, hG⟩
              have h0 := below_grown H0.out hG q1 H0.out.size
              clear hG HL H0
              have HL := Lib.hid hL
              have H0 := Lib.hid h0
              clear hL h0
              go_wp2_with fail
              go_roundw
              case rel => exact ⟨k + 1, _, _, by omega, by go_num, rfl, rfl, HL.out, by omega, by omega, H0.out⟩
              case measure => simp [intOf]; omega
            · have e1 : ftB B H z = false := by rw [hFt]; simp; omega
              have E1 := Lib.hid e1
              clear e1 hFt
              go_wp2_with fail
              refine (Fits_all g TL B H M z _ HL.out HF.out).mono ?_
              rw [E1.out]
              rintro e w3 ⟨rfl, m3, hw⟩
              have hL := HL.out.drewN m3
              have h0 := below_drewN H0.out m3
              rw [← hw] at hL h0
              clear hw HL H0
              have HL := Lib.hid hL
              have H0 := Lib.hid h0
              clear hL h0
              go_wp2_with fail
              refine (Take_all g TL B H M z _ HL.out HF.out).mono ?_
              rw [T1.out, T2.out, T3.out, mx_pos hu]
              rintro e w4 ⟨rfl, hL, hG⟩
              have h0 := below_grown H0.out hG q1 H0.out.size
              clear hG HL H0
              have HL := Lib.hid hL
              have H0 := Lib.hid h0
              clear hL h0
              go_wp2_with fail
              refine (Held_all g TL _ _ _ _ HL.out).mono ?_
              rintro e w' ⟨rfl, rfl⟩
              go_wp2_with fail
              refine (Most_all g TL _ _ _ _ HL.out).mono ?_
              rintro e w' ⟨rfl, rfl⟩
              go_wp2_with fail
              refine (Give_all g TL _ _ _ _ _ HL.out (by unfold Fair; omega)).mono ?_
              rw [gv_more, gv_more']
              rintro e w5 ⟨rfl, hL, hG⟩
              have h0 := below_grown H0.out hG q1 H0.out.size
              clear hG HL H0
              have HL := Lib.hid hL
              have H0 := Lib.hid h0
              clear hL h0
              go_wp2_with fail
              go_roundw
              case rel => exact ⟨k + 1, _, _, by omega, by go_num, rfl, rfl, HL.out, by omega, by omega, H0.out⟩
              case measure => simp [intOf]; omega
          · have d1 : (z % 2 == 1) = true := by rw [ho]; rfl
            clear ho
            by_cases hh : H + z ≤ B
            · have e1 : ftB B H z = true := by rw [hFt]; simp; omega
              have E1 := Lib.hid e1
              clear e1 hFt
              go_wp2_with fail
              refine (Fits_all g TL B H M z _ HL.out HF.out).mono ?_
              rw [E1.out]
              rintro e w3 ⟨rfl, m3, hw⟩
              have hL := HL.out.drewN m3
              have h0 := below_drewN H0.out m3
              rw [← hw] at hL h0
              clear hw HL H0
              have HL := Lib.hid hL
              have H0 := Lib.hid h0
              clear hL h0
              go_wp2_with fail
              refine (Take_all g TL B H M z _ HL.out HF.out).mono ?_
              rw [T1.out, T2.out, T3.out, mx_pos hu]
              rintro e w4 ⟨rfl, hL, hG⟩
              have h0 := below_grown H0.out hG q1 H0.out.size
              clear hG HL H0
              have HL := Lib.hid hL
              have H0 := Lib.hid h0
              clear hL h0
              go_wp2_with fail
              refine (Held_all g TL _ _ _ _ HL.out).mono ?_
              rintro e w' ⟨rfl, rfl⟩
              go_wp2_with fail
              refine (Most_all g TL _ _ _ _ HL.out).mono ?_
              rintro e w' ⟨rfl, rfl⟩
              go_wp2_with fail
              refine (Give_all g TL _ _ _ _ _ HL.out (by unfold Fair; omega)).mono ?_
              rw [gv_more, gv_more']
              rintro e w5 ⟨rfl, hL, hG⟩
              have h0 := below_grown H0.out hG q1 H0.out.size
              clear hG HL H0
              have HL := Lib.hid hL
              have H0 := Lib.hid h0
              clear hL h0
              go_wp2_with fail
              refine (Give_all g TL _ _ _ _ _ HL.out (by unfold Fair; omega)).mono ?_
              rw [S1.out.1, S1.out.2]
              rintro e w6 ⟨rfl, hL, hG⟩
              have h0 := below_grown H0.out hG q1 H0.out.size
              clear hG HL H0
              have HL := Lib.hid hL
              have H0 := Lib.hid h0
              clear hL h0
              go_wp2_with fail
              go_roundw
              case rel => exact ⟨k + 1, _, _, by omega, by go_num, rfl, rfl, (by have h := HL.out; rw [show H + z - z = H by omega] at h; exact h), by omega, by omega, H0.out⟩
              case measure => simp [intOf]; omega
            · have e1 : ftB B H z = false := by rw [hFt]; simp; omega
              have E1 := Lib.hid e1
              clear e1 hFt
              go_wp2_with fail
              refine (Fits_all g TL B H M z _ HL.out HF.out).mono ?_
              rw [E1.out]
              rintro e w3 ⟨rfl, m3, hw⟩
              have hL := HL.out.drewN m3
              have h0 := below_drewN H0.out m3
              rw [← hw] at hL h0
              clear hw HL H0
              have HL := Lib.hid hL
              have H0 := Lib.hid h0
              clear hL h0
              go_wp2_with fail
              refine (Take_all g TL B H M z _ HL.out HF.out).mono ?_
              rw [T1.out, T2.out, T3.out, mx_pos hu]
              rintro e w4 ⟨rfl, hL, hG⟩
              have h0 := below_grown H0.out hG q1 H0.out.size
              clear hG HL H0
              have HL := Lib.hid hL
              have H0 := Lib.hid h0
              clear hL h0
              go_wp2_with fail
              refine (Held_all g TL _ _ _ _ HL.out).mono ?_
              rintro e w' ⟨rfl, rfl⟩
              go_wp2_with fail
              refine (Most_all g TL _ _ _ _ HL.out).mono ?_
              rintro e w' ⟨rfl, rfl⟩
              go_wp2_with fail
              refine (Give_all g TL _ _ _ _ _ HL.out (by unfold Fair; omega)).mono ?_
              rw [gv_more, gv_more']
              rintro e w5 ⟨rfl, hL, hG⟩
              have h0 := below_grown H0.out hG q1 H0.out.size
              clear hG HL H0
              have HL := Lib.hid hL
              have H0 := Lib.hid h0
              clear hL h0
              go_wp2_with fail
              refine (Give_all g TL _ _ _ _ _ HL.out (by unfold Fair; omega)).mono ?_
              rw [S1.out.1, S1.out.2]
              rintro e w6 ⟨rfl, hL, hG⟩
              have h0 := below_grown H0.out hG q1 H0.out.size
              clear hG HL H0
              have HL := Lib.hid hL
              have H0 := Lib.hid h0
              clear hL h0
              go_wp2_with fail
              go_roundw
              case rel => exact ⟨k + 1, _, _, by omega, by go_num, rfl, rfl, (by have h := HL.out; rw [show H + z - z = H by omega] at h; exact h), by omega, by omega, H0.out⟩
              case measure => simp [intOf]; omega
        · rcases Int.emod_two_eq z with ho | ho
          · have d1 : (z % 2 == 1) = false := by rw [ho]; rfl
            clear ho
            by_cases hh : H + z ≤ B
            · have e1 : ftB B H z = true := by rw [hFt]; simp; omega
              have E1 := Lib.hid e1
              clear e1 hFt
              go_wp2_with fail
              refine (Fits_all g TL B H M z _ HL.out HF.out).mono ?_
              rw [E1.out]
              rintro e w3 ⟨rfl, m3, hw⟩
              have hL := HL.out.drewN m3
              have h0 := below_drewN H0.out m3
              rw [← hw] at hL h0
              clear hw HL H0
              have HL := Lib.hid hL
              have H0 := Lib.hid h0
              clear hL h0
              go_wp2_with fail
              refine (Take_all g TL B H M z _ HL.out HF.out).mono ?_
              rw [T1.out, T2.out, T3.out, mx_neg (by omega)]
              rintro e w4 ⟨rfl, hL, hG⟩
              have h0 := below_grown H0.out hG q1 H0.out.size
              clear hG HL H0
              have HL := Lib.hid hL
              have H0 := Lib.hid h0
              clear hL h0
              go_wp2_with fail
              refine (Held_all g TL _ _ _ _ HL.out).mono ?_
              rintro e w' ⟨rfl, rfl⟩
              go_wp2_with fail
              refine (Most_all g TL _ _ _ _ HL.out).mono ?_
              rintro e w' ⟨rfl, rfl⟩
              go_wp2_with fail
              refine (Give_all g TL _ _ _ _ _ HL.out (by unfold Fair; omega)).mono ?_
              rw [gv_more, gv_more']
              rintro e w5 ⟨rfl, hL, hG⟩
              have h0 := below_grown H0.out hG q1 H0.out.size
              clear hG HL H0
              have HL := Lib.hid hL
              have H0 := Lib.hid h0
              clear hL h0
              go_wp2_with fail
              go_roundw
              case rel => exact ⟨k + 1, _, _, by omega, by go_num, rfl, rfl, HL.out, by omega, by omega, H0.out⟩
              case measure => simp [intOf]; omega
            · have e1 : ftB B H z = false := by rw [hFt]; simp; omega
              have E1 := Lib.hid e1
              clear e1 hFt
              go_wp2_with fail
              refine (Fits_all g TL B H M z _ HL.out HF.out).mono ?_
              rw [E1.out]
              rintro e w3 ⟨rfl, m3, hw⟩
              have hL := HL.out.drewN m3
              have h0 := below_drewN H0.out m3
              rw [← hw] at hL h0
              clear hw HL H0
              have HL := Lib.hid hL
              have H0 := Lib.hid h0
              clear hL h0
              go_wp2_with fail
              refine (Take_all g TL B H M z _ HL.out HF.out).mono ?_
              rw [T1.out, T2.out, T3.out, mx_neg (by omega)]
              rintro e w4 ⟨rfl, hL, hG⟩
              have h0 := below_grown H0.out hG q1 H0.out.size
              clear hG HL H0
              have HL := Lib.hid hL
              have H0 := Lib.hid h0
              clear hL h0
              go_wp2_with fail
              refine (Held_all g TL _ _ _ _ HL.out).mono ?_
              rintro e w' ⟨rfl, rfl⟩
              go_wp2_with fail
              refine (Most_all g TL _ _ _ _ HL.out).mono ?_
              rintro e w' ⟨rfl, rfl⟩
              go_wp2_with fail
              refine (Give_all g TL _ _ _ _ _ HL.out (by unfold Fair; omega)).mono ?_
              rw [gv_more, gv_more']
              rintro e w5 ⟨rfl, hL, hG⟩
              have h0 := below_grown H0.out hG q1 H0.out.size
              clear hG HL H0
              have HL := Lib.hid hL
              have H0 := Lib.hid h0
              clear hL h0
              go_wp2_with fail
              go_roundw
              case rel => exact ⟨k + 1, _, _, by omega, by go_num, rfl, rfl, HL.out, by omega, by omega, H0.out⟩
              case measure => simp [intOf]; omega
          · have d1 : (z % 2 == 1) = true := by rw [ho]; rfl
            clear ho
            by_cases hh : H + z ≤ B
            · have e1 : ftB B H z = true := by rw [hFt]; simp; omega
              have E1 := Lib.hid e1
              clear e1 hFt
              go_wp2_with fail
              refine (Fits_all g TL B H M z _ HL.out HF.out).mono ?_
              rw [E1.out]
              rintro e w3 ⟨rfl, m3, hw⟩
              have hL := HL.out.drewN m3
              have h0 := below_drewN H0.out m3
              rw [← hw] at hL h0
              clear hw HL H0
              have HL := Lib.hid hL
              have H0 := Lib.hid h0
              clear hL h0
              go_wp2_with fail
              refine (Take_all g TL B H M z _ HL.out HF.out).mono ?_
              rw [T1.out, T2.out, T3.out, mx_neg (by omega)]
              rintro e w4 ⟨rfl, hL, hG⟩
              have h0 := below_grown H0.out hG q1 H0.out.size
              clear hG HL H0
              have HL := Lib.hid hL
              have H0 := Lib.hid h0
              clear hL h0
              go_wp2_with fail
              refine (Held_all g TL _ _ _ _ HL.out).mono ?_
              rintro e w' ⟨rfl, rfl⟩
              go_wp2_with fail
              refine (Most_all g TL _ _ _ _ HL.out).mono ?_
              rintro e w' ⟨rfl, rfl⟩
              go_wp2_with fail
              refine (Give_all g TL _ _ _ _ _ HL.out (by unfold Fair; omega)).mono ?_
              rw [gv_more, gv_more']
              rintro e w5 ⟨rfl, hL, hG⟩
              have h0 := below_grown H0.out hG q1 H0.out.size
              clear hG HL H0
              have HL := Lib.hid hL
              have H0 := Lib.hid h0
              clear hL h0
              go_wp2_with fail
              refine (Give_all g TL _ _ _ _ _ HL.out (by unfold Fair; omega)).mono ?_
              rw [S1.out.1, S1.out.2]
              rintro e w6 ⟨rfl, hL, hG⟩
              have h0 := below_grown H0.out hG q1 H0.out.size
              clear hG HL H0
              have HL := Lib.hid hL
              have H0 := Lib.hid h0
              clear hL h0
              go_wp2_with fail
              go_roundw
              case rel => exact ⟨k + 1, _, _, by omega, by go_num, rfl, rfl, (by have h := HL.out; rw [show H + z - z = H by omega] at h; exact h), by omega, by omega, H0.out⟩
              case measure => simp [intOf]; omega
            · have e1 : ftB B H z = false := by rw [hFt]; simp; omega
              have E1 := Lib.hid e1
              clear e1 hFt
              go_wp2_with fail
              refine (Fits_all g TL B H M z _ HL.out HF.out).mono ?_
              rw [E1.out]
              rintro e w3 ⟨rfl, m3, hw⟩
              have hL := HL.out.drewN m3
              have h0 := below_drewN H0.out m3
              rw [← hw] at hL h0
              clear hw HL H0
              have HL := Lib.hid hL
              have H0 := Lib.hid h0
              clear hL h0
              go_wp2_with fail
              refine (Take_all g TL B H M z _ HL.out HF.out).mono ?_
              rw [T1.out, T2.out, T3.out, mx_neg (by omega)]
              rintro e w4 ⟨rfl, hL, hG⟩
              have h0 := below_grown H0.out hG q1 H0.out.size
              clear hG HL H0
              have HL := Lib.hid hL
              have H0 := Lib.hid h0
              clear hL h0
              go_wp2_with fail
              refine (Held_all g TL _ _ _ _ HL.out).mono ?_
              rintro e w' ⟨rfl, rfl⟩
              go_wp2_with fail
              refine (Most_all g TL _ _ _ _ HL.out).mono ?_
              rintro e w' ⟨rfl, rfl⟩
              go_wp2_with fail
              refine (Give_all g TL _ _ _ _ _ HL.out (by unfold Fair; omega)).mono ?_
              rw [gv_more, gv_more']
              rintro e w5 ⟨rfl, hL, hG⟩
              have h0 := below_grown H0.out hG q1 H0.out.size
              clear hG HL H0
              have HL := Lib.hid hL
              have H0 := Lib.hid h0
              clear hL h0
              go_wp2_with fail
              refine (Give_all g TL _ _ _ _ _ HL.out (by unfold Fair; omega)).mono ?_
              rw [S1.out.1, S1.out.2]
              rintro e w6 ⟨rfl, hL, hG⟩
              have h0 := below_grown H0.out hG q1 H0.out.size
              clear hG HL H0
              have HL := Lib.hid hL
              have H0 := Lib.hid h0
              clear hL h0
              go_wp2_with fail
              go_roundw
              case rel => exact ⟨k + 1, _, _, by omega, by go_num, rfl, rfl, (by have h := HL.out; rw [show H + z - z = H by omega] at h; exact h), by omega, by omega, H0.out⟩
              case measure => simp [intOf]; omega
      · have hk' : k = n := by omega
        have g1 := gv_some (H := H) (z := H) hH0 (Int.le_refl _)
        have g2 : gvH H H = 0 := by rw [g1.2]; omega
        have G1 := Lib.hid g1.1
        have G2 := Lib.hid g2
        have HF := Lib.hid hF
        clear g1 g2 hF
        go_wp2_with fail
        refine (Held_all g TL _ _ _ _ HL.out).mono ?_
        rintro e w' ⟨rfl, rfl⟩
        go_wp2_with fail
        refine (Most_all g TL _ _ _ _ HL.out).mono ?_
        rintro e w' ⟨rfl, rfl⟩
        go_wp2_with fail
        refine (Give_all g TL _ _ _ _ _ HL.out HF.out).mono ?_
        rw [G1.out, G2.out]
        rintro e w3 ⟨rfl, hL, hG⟩
        have h0 := below_grown H0.out hG q1 H0.out.size
        clear hG HL H0
        have HL := Lib.hid hL
        have H0 := Lib.hid h0
        clear hL h0
        go_wp2_with fail
        refine (Held_all g TL _ _ _ _ HL.out).mono ?_
        rintro e w' ⟨rfl, rfl⟩
        go_wp2_with fail
        refine (Take_all g TL _ _ _ _ _ HL.out (by unfold Fair; omega)).mono ?_
        rw [show tkB 0 (-1) = false by decide, show tkH 0 (-1) = 0 by decide, show tkM 0 M (-1) = M from rfl]
        rintro e w4 ⟨rfl, hL, hG⟩
        have h0 := below_grown H0.out hG q1 H0.out.size
        clear hG HL H0
        have HL := Lib.hid hL
        have H0 := Lib.hid h0
        clear hL h0
        go_wp2_with fail
        refine (Give_all g TL _ _ _ _ _ HL.out (by unfold Fair; omega)).mono ?_
        rw [show gvB 0 (-1) = false by decide, show gvH 0 (-1) = 0 by decide]
        rintro e w5 ⟨rfl, hL, hG⟩
        have h0 := below_grown H0.out hG q1 H0.out.size
        clear hG HL H0
        have HL := Lib.hid hL
        have H0 := Lib.hid h0
        clear hL h0
        go_wp2_with fail
        refine (Fits_all g TL _ _ _ _ _ HL.out (by unfold Fair; omega)).mono ?_
        rw [show ftB B 0 (-1) = false by unfold ftB; simp]
        rintro e w6 ⟨rfl, m6, rfl⟩
        go_wp2_with fail
        go_ret
        exact ⟨rfl, below_drewN H0.out m6⟩
end Go.Proofs.Ytikdkoeicohopaa
