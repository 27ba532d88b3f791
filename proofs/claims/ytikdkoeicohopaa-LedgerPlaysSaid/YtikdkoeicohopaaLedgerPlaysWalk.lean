/- THE WALKS OF awake AND LedgerPlays. -/
import Derived.Test.YtikdkoeicohopaaLedgerRef
import Derived.Deep.RegionHeld3
namespace Go.Proofs.Ytikdkoeicohopaa
open Go.RowKit
def TL : TypeId := 39
def TR : TypeId := 33
theorem below_drewN {N : Nat} {u w : World} (h : Below N u w) (n : Nat) : Below N u (w.drewN n) := ⟨h.os, h.tape, h.output, h.size, h.block⟩
theorem beq_self_b (b : Bool) : (b == b) = true := by cases b <;> rfl
theorem held_q (g : Nat) (T : TypeId) (B H M : Int) (w : World) (h : Led w g T B H M) : Calls Try.prog 15 #[.pointer (some ⟨g, 0, none⟩)] w fun e w' => e = .returned (.int .i64 H) ∧ w' = w := (Held_all g T B H M w h).mono fun _ _ ⟨a, b⟩ => ⟨a, b.symm⟩
theorem most_q (g : Nat) (T : TypeId) (B H M : Int) (w : World) (h : Led w g T B H M) : Calls Try.prog 16 #[.pointer (some ⟨g, 0, none⟩)] w fun e w' => e = .returned (.int .i64 M) ∧ w' = w := (Most_all g T B H M w h).mono fun _ _ ⟨a, b⟩ => ⟨a, b.symm⟩
theorem budget_q (g : Nat) (T : TypeId) (B H M : Int) (w : World) (h : Led w g T B H M) : Calls Try.prog 17 #[.pointer (some ⟨g, 0, none⟩)] w fun e w' => e = .returned (.int .i64 B) ∧ w' = w := (Budget_all g T B H M w h).mono fun _ _ ⟨a, b⟩ => ⟨a, b.symm⟩
theorem new_led (w : World) (B : Int) (T : TypeId) : Led (w.alloc (.cells #[.int .i64 B, .int .i64 0, .int .i64 0] T)) w.heap.size T B 0 0 := by
  unfold Led; rw [heap_alloc_new w _]
theorem below_grown {N : Nat} {u w w' : World} {g : Nat} (h : Below N u w) (hg : w.grownBy w' (some g)) (hN : N ≤ g) (hB : N ≤ w.heap.size) : Below N u w' :=
  h.grown hg hB (fun k hk => by cases hk; exact hN)
set_option maxHeartbeats 1000000 in
theorem awake_any (w : World) : Calls Try.prog 6 #[] w fun e w' => e = .returned (.bool true) ∧ Below w.heap.size w w' := by
  go_enter Try.func6, Try.ntmps6
  go_wp2_with fail
  refine (New_all 10 w).mono ?_
  rintro e w1 ⟨rfl, hw1⟩
  have hL := new_led w 10 TL
  have hB := (Below.refl w.heap.size w).alloc (Nat.le_refl _) (.cells #[.int .i64 10, .int .i64 0, .int .i64 0] TL)
  rw [show near 10 = 10 by decide] at hw1
  rw [show 39 = TL from rfl] at hw1
  rw [← hw1] at hL hB
  clear hw1
  obtain ⟨g, hg⟩ : ∃ g, g = w.heap.size := ⟨_, rfl⟩
  rw [← hg] at hL ⊢
  have Hg := Lib.hid hg
  have HB := Lib.hid hB
  clear hg hB
  go_wp2_with fail
  refine (Fits_all g TL 10 0 0 10 _ hL (by unfold Fair; omega)).mono ?_
  rw [show ftB 10 0 10 = true by decide]
  rintro e w2 ⟨rfl, m, rfl⟩
  have hL2 := hL.drewN m
  clear hL
  go_wp2_with fail
  refine (Take_all g TL 10 0 0 12 _ hL2 (by unfold Fair; omega)).mono ?_
  rw [show tkB 0 12 = true by decide, show tkH 0 12 = 12 by decide, show tkM 0 0 12 = 12 by decide]
  rintro e w3 ⟨rfl, hL3, hG3⟩
  have HG3 := Lib.hid hG3
  clear hG3 hL2
  go_wp2_with fail
  refine (Fits_all g TL 10 12 12 0 _ hL3 (by unfold Fair; omega)).mono ?_
  rw [show ftB 10 12 0 = false by decide]
  rintro e w4 ⟨rfl, m4, rfl⟩
  have hL4 := hL3.drewN m4
  clear hL3
  go_wp2_with fail
  refine (Give_all g TL 10 12 12 3 _ hL4 (by unfold Fair; omega)).mono ?_
  rw [show gvB 12 3 = true by decide, show gvH 12 3 = 9 by decide]
  rintro e w5 ⟨rfl, hL5, hG5⟩
  have HG5 := Lib.hid hG5
  clear hG5 hL4
  go_wp2_with fail
  refine (Held_all g TL 10 9 12 _ hL5).mono ?_
  rintro e w6 ⟨rfl, rfl⟩
  go_wp2_with fail
  refine (Most_all g TL 10 9 12 _ hL5).mono ?_
  rintro e w6 ⟨rfl, rfl⟩
  go_wp2_with fail
  refine (Budget_all g TL 10 9 12 _ hL5).mono ?_
  rintro e w6 ⟨rfl, rfl⟩
  clear hL5
  go_wp2_with fail
  go_ret
  refine ⟨rfl, ?_⟩
  rw [← Hg.out]
  have z1 : g ≤ w1.heap.size := by rw [Hg.out]; exact HB.out.size
  rw [← Hg.out] at HB
  refine (below_grown (below_drewN HB.out m) HG3.out (Nat.le_refl _) z1).trans ?_
  exact below_grown (below_drewN (Below.refl _ _) m4) HG5.out (Nat.le_refl _) (Nat.le_trans z1 HG3.out.size)
/-- A slice of deeds: numbers by twos. -/
def Deeds (w : World) (a : Option Addr) (l : List (Int × Int)) : Prop := l = [] ∨ ∃ b off, a = some ⟨b, off, none⟩ ∧ ∀ j, j < l.length → w.cell? ⟨b, off + j * 2, none⟩ = some (.int .i64 (l.getD j (0, 0)).1) ∧ w.cell? ⟨b, off + j * 2 + 1, none⟩ = some (.int .i64 (l.getD j (0, 0)).2)
set_option maxRecDepth 100000 in
set_option maxHeartbeats 2000000 in
theorem plays_any (B : Int) (a : Option Addr) (n c : Nat) (l : List (Int × Int)) (w : World) (hl : l.length = n) (hc : n ≤ c) (hm : c ≤ 9223372036854775807) (hd : Deeds w a l) :
    Calls Try.prog 3 #[.int .i64 B, .slice a n c] w fun e w' => e = .returned (.bool true) ∧ Below w.heap.size w w' := by
  by_cases hbig : 200 < n
  · go_enter Try.func3, Try.ntmps3
    go_wp2_with fail
    refine (awake_any w).mono ?_
    rintro e w1 ⟨rfl, hB1⟩
    go_wp2_with fail
    go_ret
    exact ⟨rfl, hB1⟩
  · go_enter Try.func3, Try.ntmps3
    go_wp2_with fail
    refine (awake_any w).mono ?_
    rintro e w1 ⟨rfl, hB1⟩
    have HB1 := Lib.hid hB1
    clear hB1
    go_wp2_with fail
    refine (New_all _ _).mono ?_
    rintro e w2 ⟨rfl, hw2⟩
    have hL := new_led w1 (near B) TL
    have hBl := (Below.refl w1.heap.size w1).alloc (Nat.le_refl _) (.cells #[.int .i64 (near B), .int .i64 0, .int .i64 0] TL)
    rw [show 39 = TL from rfl] at hw2
    rw [← hw2] at hL hBl
    have hz2 : w2.heap.size = w1.heap.size + 1 := by rw [hw2]; simp
    clear hw2
    have HL := Lib.hid hL
    have HBl := Lib.hid hBl
    have HZ2 := Lib.hid hz2
    clear hL hBl hz2
    go_wp2_with fail
    refine (NewRef_all _ _).mono ?_
    rintro e w3 ⟨rfl, hw3⟩
    have hR := new_led w2 (near B) TR
    have hBr := (Below.refl w2.heap.size w2).alloc (Nat.le_refl _) (.cells #[.int .i64 (near B), .int .i64 0, .int .i64 0] TR)
    rw [show 33 = TR from rfl] at hw3
    rw [← hw3] at hR hBr
    have hz3 : w3.heap.size = w2.heap.size + 1 := by rw [hw3]; simp
    clear hw3
    have hL3 := HL.out.below hBr (by rw [HZ2.out]; omega)
    have hB3 : Below w.heap.size w w3 := HB1.out.trans ((HBl.out.mono HB1.out.size).trans (hBr.mono (by have := HB1.out.size; rw [HZ2.out]; omega)))
    obtain ⟨g1, hg1⟩ : ∃ g, g = w1.heap.size := ⟨_, rfl⟩
    obtain ⟨g2, hg2⟩ : ∃ g, g = w2.heap.size := ⟨_, rfl⟩
    have q1 : w.heap.size ≤ g1 := by rw [hg1]; exact HB1.out.size
    have q2 : g1 < g2 := by rw [hg2, HZ2.out, hg1]; omega
    rw [← hg1] at hL3 ⊢
    rw [← hg2] at hR ⊢
    have HR := Lib.hid hR
    have HL3 := Lib.hid hL3
    have HB3 := Lib.hid hB3
    clear hBr hz3 hg1 hg2 HL HBl HZ2 hR hL3 hB3
    go_wp2_with fail
    have hB0 := near_bounds B
    obtain ⟨B', hB'⟩ : ∃ B', B' = near B := ⟨_, rfl⟩
    rw [← hB'] at HR HL3 hB0
    clear hB' hbig
    have Hl := Lib.hid hl
    have Hd := Lib.hid hd
    clear hl hd
    go_loopw [7] (fun i wr => ∃ (k : Nat) (H M : Int), k ≤ n ∧ i = .int .i64 k ∧ Led wr g1 TL B' H M ∧ Led wr g2 TR B' H M ∧ Fair B' H ∧ Below w.heap.size w wr) (fun i _ => n - (intOf i).toNat)
    case atStart => exact ⟨0, 0, 0, by omega, rfl, HL3.out, HR.out, by unfold Fair; omega, HB3.out⟩
    case round =>
      obtain ⟨k, H, M, hk, rfl, hLk, hRk, hFk, hBk⟩ := hrel
      clear HR HL3 HB3 HB1 hB0
      by_cases hlt : k < n
      · have hne : l ≠ [] := by intro e; have := Hl.out; rw [e] at this; simp at this; omega
        obtain ⟨b, off, rfl, hcl⟩ := Hd.out.resolve_left hne
        obtain ⟨hc0, hc1⟩ := hcl k (by rw [Hl.out]; exact hlt)
        have hlw : b < w.heap.size := World.block_lt_of_cell? w _ hc0
        rw [← hBk.cell (p := ⟨b, _, none⟩) hlw] at hc0 hc1
        generalize (l.getD k (0, 0)).1 = d at hc0
        generalize (l.getD k (0, 0)).2 = x at hc1
        clear hcl hne Hd
        have HLk := Lib.hid hLk
        have HRk := Lib.hid hRk
        have HFk := Lib.hid hFk
        have HBk := Lib.hid hBk
        clear hLk hRk hFk hBk
        have h7 : d = 0 ∨ d = 1 ∨ d = 2 ∨ d = 3 ∨ d = 4 ∨ d = 5 ∨ ((d == 0) = false ∧ (d == 1) = false ∧ (d == 2) = false ∧ (d == 3) = false ∧ (d == 4) = false ∧ (d == 5) = false) := by
          simp only [beq_eq_false_iff_ne]; omega
        rcases h7 with rfl | rfl | rfl | rfl | rfl | rfl | ⟨d0, d1, d2, d3, d4, d5⟩
        · go_wp2_with fail
          refine (Take_all g1 TL B' H M x wr HLk.out HFk.out).mono ?_
          rintro e w4 ⟨rfl, hL4, hG4⟩
          have hR4 := HRk.out.grown hG4 (by omega)
          have hB4 := below_grown HBk.out hG4 q1 (HBk.out.size)
          have HL4 := Lib.hid hL4
          have HB4 := Lib.hid hB4
          clear hL4 hB4 hG4
          go_wp2_with fail
          refine (RTake_all g2 TR B' H M x w4 hR4 HFk.out).mono ?_
          rintro e w5 ⟨rfl, hR5, hG5⟩
          have hL5 := HL4.out.grown hG5 (by omega)
          have hB5 := below_grown HB4.out hG5 (by omega) (HB4.out.size)
          have hF5 := HFk.out.take x
          clear hG5 hR4
          have bb := beq_self_b (tkB H x)
          generalize tkH H x = H' at *
          generalize tkM H M x = M' at *
          generalize tkB H x = b at *
          have r0 := hR5.c0
          have r1 := hR5.c1
          have r2 := hR5.c2
          have Hn := Lib.hid hR5
          have Hm := Lib.hid hL5
          have HF5 := Lib.hid hF5
          have HB5 := Lib.hid hB5
          have q3 := hL5
          clear hR5 hF5 hB5 hL5
          go_wp2_with fail
          go_quiet ((first | (go_at_call 15; exact Calls.quiet_of_same (held_q g1 TL B' H' M' _ q3)) | (go_at_call 16; exact Calls.quiet_of_same (most_q g1 TL B' H' M' _ q3)) | (go_at_call 17; exact Calls.quiet_of_same (budget_q g1 TL B' H' M' _ q3))))
          go_wp2_with fail
          go_roundw
          case rel => exact ⟨k + 1, H', M', by omega, by go_num, Hm.out.drewN _, Hn.out.drewN _, HF5.out, below_drewN HB5.out _⟩
          case measure => simp [intOf]; omega
        · go_wp2_with fail
          refine (Take_all g1 TL B' H M x wr HLk.out HFk.out).mono ?_
          rintro e w4 ⟨rfl, hL4, hG4⟩
          have hR4 := HRk.out.grown hG4 (by omega)
          have hB4 := below_grown HBk.out hG4 q1 (HBk.out.size)
          have HL4 := Lib.hid hL4
          have HB4 := Lib.hid hB4
          clear hL4 hB4 hG4
          go_wp2_with fail
          refine (RTake_all g2 TR B' H M x w4 hR4 HFk.out).mono ?_
          rintro e w5 ⟨rfl, hR5, hG5⟩
          have hL5 := HL4.out.grown hG5 (by omega)
          have hB5 := below_grown HB4.out hG5 (by omega) (HB4.out.size)
          have hF5 := HFk.out.take x
          clear hG5 hR4
          have bb := beq_self_b (tkB H x)
          generalize tkH H x = H' at *
          generalize tkM H M x = M' at *
          generalize tkB H x = b at *
          have r0 := hR5.c0
          have r1 := hR5.c1
          have r2 := hR5.c2
          have Hn := Lib.hid hR5
          have Hm := Lib.hid hL5
          have HF5 := Lib.hid hF5
          have HB5 := Lib.hid hB5
          have q3 := hL5
          clear hR5 hF5 hB5 hL5
          go_wp2_with fail
          go_quiet ((first | (go_at_call 15; exact Calls.quiet_of_same (held_q g1 TL B' H' M' _ q3)) | (go_at_call 16; exact Calls.quiet_of_same (most_q g1 TL B' H' M' _ q3)) | (go_at_call 17; exact Calls.quiet_of_same (budget_q g1 TL B' H' M' _ q3))))
          go_wp2_with fail
          go_roundw
          case rel => exact ⟨k + 1, H', M', by omega, by go_num, Hm.out.drewN _, Hn.out.drewN _, HF5.out, below_drewN HB5.out _⟩
          case measure => simp [intOf]; omega
        · go_wp2_with fail
          refine (Take_all g1 TL B' H M x wr HLk.out HFk.out).mono ?_
          rintro e w4 ⟨rfl, hL4, hG4⟩
          have hR4 := HRk.out.grown hG4 (by omega)
          have hB4 := below_grown HBk.out hG4 q1 (HBk.out.size)
          have HL4 := Lib.hid hL4
          have HB4 := Lib.hid hB4
          clear hL4 hB4 hG4
          go_wp2_with fail
          refine (RTake_all g2 TR B' H M x w4 hR4 HFk.out).mono ?_
          rintro e w5 ⟨rfl, hR5, hG5⟩
          have hL5 := HL4.out.grown hG5 (by omega)
          have hB5 := below_grown HB4.out hG5 (by omega) (HB4.out.size)
          have hF5 := HFk.out.take x
          clear hG5 hR4
          have bb := beq_self_b (tkB H x)
          generalize tkH H x = H' at *
          generalize tkM H M x = M' at *
          generalize tkB H x = b at *
          have r0 := hR5.c0
          have r1 := hR5.c1
          have r2 := hR5.c2
          have Hn := Lib.hid hR5
          have Hm := Lib.hid hL5
          have HF5 := Lib.hid hF5
          have HB5 := Lib.hid hB5
          have q3 := hL5
          clear hR5 hF5 hB5 hL5
          go_wp2_with fail
          go_quiet ((first | (go_at_call 15; exact Calls.quiet_of_same (held_q g1 TL B' H' M' _ q3)) | (go_at_call 16; exact Calls.quiet_of_same (most_q g1 TL B' H' M' _ q3)) | (go_at_call 17; exact Calls.quiet_of_same (budget_q g1 TL B' H' M' _ q3))))
          go_wp2_with fail
          go_roundw
          case rel => exact ⟨k + 1, H', M', by omega, by go_num, Hm.out.drewN _, Hn.out.drewN _, HF5.out, below_drewN HB5.out _⟩
          case measure => simp [intOf]; omega
        · go_wp2_with fail
          refine (Give_all g1 TL B' H M x wr HLk.out HFk.out).mono ?_
          rintro e w4 ⟨rfl, hL4, hG4⟩
          have hR4 := HRk.out.grown hG4 (by omega)
          have hB4 := below_grown HBk.out hG4 q1 (HBk.out.size)
          have HL4 := Lib.hid hL4
          have HB4 := Lib.hid hB4
          clear hL4 hB4 hG4
          go_wp2_with fail
          refine (RGive_all g2 TR B' H M x w4 hR4 HFk.out).mono ?_
          rintro e w5 ⟨rfl, hR5, hG5⟩
          have hL5 := HL4.out.grown hG5 (by omega)
          have hB5 := below_grown HB4.out hG5 (by omega) (HB4.out.size)
          have hF5 := HFk.out.give x
          clear hG5 hR4
          have bb := beq_self_b (gvB H x)
          generalize gvH H x = H' at *
          obtain ⟨M', hM'⟩ : ∃ M', M' = M := ⟨_, rfl⟩
          rw [← hM'] at hL5 hR5
          clear hM'
          generalize gvB H x = b at *
          have r0 := hR5.c0
          have r1 := hR5.c1
          have r2 := hR5.c2
          have Hn := Lib.hid hR5
          have Hm := Lib.hid hL5
          have HF5 := Lib.hid hF5
          have HB5 := Lib.hid hB5
          have q3 := hL5
          clear hR5 hF5 hB5 hL5
          go_wp2_with fail
          go_quiet ((first | (go_at_call 15; exact Calls.quiet_of_same (held_q g1 TL B' H' M' _ q3)) | (go_at_call 16; exact Calls.quiet_of_same (most_q g1 TL B' H' M' _ q3)) | (go_at_call 17; exact Calls.quiet_of_same (budget_q g1 TL B' H' M' _ q3))))
          go_wp2_with fail
          go_roundw
          case rel => exact ⟨k + 1, H', M', by omega, by go_num, Hm.out.drewN _, Hn.out.drewN _, HF5.out, below_drewN HB5.out _⟩
          case measure => simp [intOf]; omega
        · go_wp2_with fail
          refine (Give_all g1 TL B' H M x wr HLk.out HFk.out).mono ?_
          rintro e w4 ⟨rfl, hL4, hG4⟩
          have hR4 := HRk.out.grown hG4 (by omega)
          have hB4 := below_grown HBk.out hG4 q1 (HBk.out.size)
          have HL4 := Lib.hid hL4
          have HB4 := Lib.hid hB4
          clear hL4 hB4 hG4
          go_wp2_with fail
          refine (RGive_all g2 TR B' H M x w4 hR4 HFk.out).mono ?_
          rintro e w5 ⟨rfl, hR5, hG5⟩
          have hL5 := HL4.out.grown hG5 (by omega)
          have hB5 := below_grown HB4.out hG5 (by omega) (HB4.out.size)
          have hF5 := HFk.out.give x
          clear hG5 hR4
          have bb := beq_self_b (gvB H x)
          generalize gvH H x = H' at *
          obtain ⟨M', hM'⟩ : ∃ M', M' = M := ⟨_, rfl⟩
          rw [← hM'] at hL5 hR5
          clear hM'
          generalize gvB H x = b at *
          have r0 := hR5.c0
          have r1 := hR5.c1
          have r2 := hR5.c2
          have Hn := Lib.hid hR5
          have Hm := Lib.hid hL5
          have HF5 := Lib.hid hF5
          have HB5 := Lib.hid hB5
          have q3 := hL5
          clear hR5 hF5 hB5 hL5
          go_wp2_with fail
          go_quiet ((first | (go_at_call 15; exact Calls.quiet_of_same (held_q g1 TL B' H' M' _ q3)) | (go_at_call 16; exact Calls.quiet_of_same (most_q g1 TL B' H' M' _ q3)) | (go_at_call 17; exact Calls.quiet_of_same (budget_q g1 TL B' H' M' _ q3))))
          go_wp2_with fail
          go_roundw
          case rel => exact ⟨k + 1, H', M', by omega, by go_num, Hm.out.drewN _, Hn.out.drewN _, HF5.out, below_drewN HB5.out _⟩
          case measure => simp [intOf]; omega
        · go_wp2_with fail
          refine (Fits_all g1 TL B' H M x wr HLk.out HFk.out).mono ?_
          rintro e w4 ⟨rfl, m4, rfl⟩
          go_wp2_with fail
          refine (RFits_all g2 TR B' H M x _ (HRk.out.drewN m4) HFk.out).mono ?_
          rintro e w5 ⟨rfl, m5, rfl⟩
          have bb := beq_self_b (ftB B' H x)
          generalize ftB B' H x = b at *
          obtain ⟨w5, hw5⟩ : ∃ w5, w5 = (wr.drewN m4).drewN m5 := ⟨_, rfl⟩
          have hL5 := (HLk.out.drewN m4).drewN m5
          have hR5 := (HRk.out.drewN m4).drewN m5
          have hB5 := below_drewN (below_drewN HBk.out m4) m5
          have hF5 := HFk.out
          obtain ⟨H', hH'⟩ : ∃ H', H' = H := ⟨_, rfl⟩
          obtain ⟨M', hM'⟩ : ∃ M', M' = M := ⟨_, rfl⟩
          rw [← hw5, ← hH', ← hM'] at hL5 hR5
          rw [← hw5] at hB5 ⊢
          rw [← hH'] at hF5
          clear hw5 hH' hM'
          have r0 := hR5.c0
          have r1 := hR5.c1
          have r2 := hR5.c2
          have Hn := Lib.hid hR5
          have Hm := Lib.hid hL5
          have HF5 := Lib.hid hF5
          have HB5 := Lib.hid hB5
          have q3 := hL5
          clear hR5 hF5 hB5 hL5
          go_wp2_with fail
          go_quiet ((first | (go_at_call 15; exact Calls.quiet_of_same (held_q g1 TL B' H' M' _ q3)) | (go_at_call 16; exact Calls.quiet_of_same (most_q g1 TL B' H' M' _ q3)) | (go_at_call 17; exact Calls.quiet_of_same (budget_q g1 TL B' H' M' _ q3))))
          go_wp2_with fail
          go_roundw
          case rel => exact ⟨k + 1, H', M', by omega, by go_num, Hm.out.drewN _, Hn.out.drewN _, HF5.out, below_drewN HB5.out _⟩
          case measure => simp [intOf]; omega
        · have hL5 := HLk.out
          have hR5 := HRk.out
          have hB5 := HBk.out
          have hF5 := HFk.out
          obtain ⟨H', hH'⟩ : ∃ H', H' = H := ⟨_, rfl⟩
          obtain ⟨M', hM'⟩ : ∃ M', M' = M := ⟨_, rfl⟩
          rw [← hH', ← hM'] at hL5 hR5
          rw [← hH'] at hF5
          clear hH' hM'
          have r0 := hR5.c0
          have r1 := hR5.c1
          have r2 := hR5.c2
          have Hn := Lib.hid hR5
          have Hm := Lib.hid hL5
          have HF5 := Lib.hid hF5
          have HB5 := Lib.hid hB5
          have q3 := hL5
          clear hR5 hF5 hB5 hL5
          go_wp2_with fail
          go_quiet ((first | (go_at_call 15; exact Calls.quiet_of_same (held_q g1 TL B' H' M' _ q3)) | (go_at_call 16; exact Calls.quiet_of_same (most_q g1 TL B' H' M' _ q3)) | (go_at_call 17; exact Calls.quiet_of_same (budget_q g1 TL B' H' M' _ q3))))
          go_wp2_with fail
          go_roundw
          case rel => exact ⟨k + 1, H', M', by omega, by go_num, Hm.out.drewN _, Hn.out.drewN _, HF5.out, below_drewN HB5.out _⟩
          case measure => simp [intOf]; omega
      · go_wp2_with fail
        go_ret
        exact ⟨rfl, hBk⟩
end Go.Proofs.Ytikdkoeicohopaa
