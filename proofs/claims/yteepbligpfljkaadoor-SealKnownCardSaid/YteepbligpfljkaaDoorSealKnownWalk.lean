/- THE WALK OF SealKnown. -/
import Derived.Test.YteepbligpfljkaaDoorSealAwake
import Derived.Test.YteepbligpfljkaaDoorSealRefSum
namespace Go.Proofs.YteepbligpfljkaaDoor
open Go.RowKit
open Seal
theorem known1 : (closeB 64 1 []).getD 0 0 = 1 ∧ (closeB 64 1 []).getD 4 0 = 0 := by decide +kernel
theorem known2 : openB ((closeB 64 1 []).take 63) = (0, [], 1) := by decide +kernel
theorem known3 : openB (List.replicate 64 0) = (0, [], 18) := by decide +kernel
theorem known4 : openB [] = (0, [], 1) := by decide +kernel
theorem oct_nil : Oct [] := by intro c hc; cases hc
set_option maxHeartbeats 2000000 in
theorem known_any (w : World) (ht : Tab w) (h0 : 0 < w.heap.size) :
    Calls Tryd.prog 8 #[] w fun e w' => e = .returned (.bool true) ∧ Below w.heap.size w w' := by
  obtain ⟨i0, hi, hz0, hz1, hz2⟩ := info_parts info5
  have hmk : ∀ u : World, (Instr.makeSlice 22 (.int .i64 64) (.int .i64 64)).run Tryd.prog u =
      .ok (.slice (some ⟨u.heap.size, 0, none⟩) 64 64) (u.alloc (.cells (madeCells #[.int .u8 0] 64) 5)) := fun u => by
    have h := run_make (P := Tryd.prog) u 22 5 i0 (.int .u8 0) Tryd.underlying22 hi hz0 .i64 .i64 64 64 (by omega) (Int.le_refl _) (by rw [hz2]; omega) (by omega)
    rw [show (64 : Int).toNat = 64 from rfl] at h
    simpa [hz1, Value.cells] using h
  clear hi hz0 hz1 hz2
  go_enter Tryd.func8, Tryd.ntmps8
  go_wp2_with fail
  refine (awake_any _ ht h0).mono ?_
  rintro e w1 ⟨rfl, hB1⟩
  have ht1 : Tab w1 := ht.below hB1 h0
  have hz1 : 0 < w1.heap.size := Nat.lt_of_lt_of_le h0 hB1.size
  go_wp2_with fail
  refine (close_at 64 0 none 0 0 [] w1 rfl (by decide) (by omega) (by omega) (by decide) oct_nil (.inl rfl) ht1 hz1).mono ?_
  rintro e w2 ⟨rfl, hR2, hB2⟩
  rw [show (64 : Int).toNat = 64 from rfl, show ((0 : Int) + 1).toNat = 1 from rfl] at *
  have hB02 : Below w.heap.size w w2 := hB1.trans (hB2.mono hB1.size)
  have ht2 : Tab w2 := ht.below hB02 h0
  have hl := length_closeB 64 1 [] (by decide)
  have hc0 := hR2.cell (j := 0) (by omega)
  have hc4 := hR2.cell (j := 4) (by omega)
  rw [known1.1] at hc0
  rw [known1.2] at hc4
  have hG := hR2.lt
  have hr63 := hR2.reads 0 63 (by omega)
  rw [List.drop_zero] at hr63
  have Hl := Lib.hid hl
  obtain ⟨G, hGe⟩ : ∃ G, G = w1.heap.size := ⟨_, rfl⟩
  rw [← hGe] at hc0 hc4 hG hr63 ⊢
  clear hGe hl hR2 hB2
  have ho63 : Oct ((closeB 64 1 []).take 63) := oct_take _ (oct_closeB _ _ _ oct_nil)
  go_wp2_with fail
  refine (open_at (some ⟨G, 0, none⟩) 63 64 ((closeB 64 1 []).take 63) w2 (by rw [List.length_take, Hl.out]; rfl) (by omega) (by omega) ho63 (.inr ⟨_, 0, rfl, hr63⟩) ht2).mono ?_
  rw [known2]
  rintro e w3 ⟨a3, c3, rfl, hS3, hA3, hB3⟩
  have hB03 : Below w.heap.size w w3 := hB02.trans (hB3.mono hB02.size)
  clear hS3 hA3 hB3 hc0 hc4 hr63 hG ht2 hB02
  rw [show ([] : List Nat).length = 0 from rfl]
  go_wp2_with fail
  have hR4 := Row.made (w := w3) 64
  have hB4 : Below w3.heap.size w3 (w3.alloc (.cells (madeCells #[.int .u8 0] 64) 5)) := (Below.refl _ _).alloc (Nat.le_refl _) _
  have hB04 := hB03.trans (hB4.mono hB03.size)
  have ht4 : Tab (w3.alloc (.cells (madeCells #[.int .u8 0] 64) 5)) := ht.below hB04 h0
  have hr4 := hR4.reads 0 64 (by simp)
  rw [List.drop_zero, List.take_of_length_le (by simp)] at hr4
  refine (open_at (some ⟨w3.heap.size, 0, none⟩) 64 64 (List.replicate 64 0) _ (by simp) (by omega) (by omega) (oct_replicate _ _ (by decide)) (.inr ⟨_, 0, rfl, hr4⟩) ht4).mono ?_
  rw [known3]
  rintro e w5 ⟨a5, c5, rfl, hS5, hA5, hB5⟩
  have hB05 : Below w.heap.size w w5 := hB04.trans (hB5.mono hB04.size)
  have ht5 : Tab w5 := ht.below hB05 h0
  clear hS5 hA5 hB5 hR4 hB4 hB04 ht4 hr4 hB03 hmk
  rw [show ([] : List Nat).length = 0 from rfl]
  go_wp2_with fail
  refine (open_at none 0 0 [] w5 rfl (by omega) (by omega) oct_nil (.inl rfl) ht5).mono ?_
  rw [known4]
  rintro e w6 ⟨a6, c6, rfl, hS6, hA6, hB6⟩
  have hB06 : Below w.heap.size w w6 := hB05.trans (hB6.mono hB05.size)
  have ht6 : Tab w6 := ht.below hB06 h0
  clear hS6 hA6 hB6 hB05 ht5
  rw [show ([] : List Nat).length = 0 from rfl]
  go_wp2_with fail
  refine (close_bad 63 0 _ 0 _ w6 (by omega) (by omega) (.inl (by decide))).mono ?_
  rintro e w7 ⟨rfl, rfl⟩
  go_wp2_with fail
  refine (close_bad 8192 0 _ 0 _ w6 (by omega) (by omega) (.inl (by decide))).mono ?_
  rintro e w7 ⟨rfl, rfl⟩
  go_wp2_with fail
  have hB7 : Below w6.heap.size w6 (w6.alloc (.cells #[.int .u8 0, .int .u8 0, .int .u8 0, .int .u8 0] 5)) := (Below.refl _ _).alloc (Nat.le_refl _) _
  have hB07 := hB06.trans (hB7.mono hB06.size)
  have hr7 : Reads (w6.alloc (.cells #[.int .u8 0, .int .u8 0, .int .u8 0, .int .u8 0] 5)) w6.heap.size 0 [0, 0, 0, 0] := reads_new w6 [0, 0, 0, 0] _ _
  refine (sum_any (some ⟨w6.heap.size, 0, none⟩) 4 4 [0, 0, 0, 0] _ rfl (by omega) (by intro c hc; simp at hc; omega) (.inr ⟨_, 0, rfl, hr7⟩) (ht.below hB07 h0)).mono ?_
  rintro e w8 ⟨rfl, rfl⟩
  clear hr7 hB7
  generalize w6.alloc (.cells #[.int .u8 0, .int .u8 0, .int .u8 0, .int .u8 0] 5) = w7 at hB07 ⊢
  obtain ⟨k7, hk7⟩ : ∃ k7, k7 = crc [0, 0, 0, 0] := ⟨_, rfl⟩
  rw [← hk7]
  have Hk7 := Lib.hid hk7
  clear hk7
  go_wp2_with fail
  have hB8 : Below w7.heap.size w7 (w7.alloc (.cells #[.int .u8 0, .int .u8 0, .int .u8 0, .int .u8 0] 5)) := (Below.refl _ _).alloc (Nat.le_refl _) _
  have hB08 := hB07.trans (hB8.mono hB07.size)
  have hr8 : Reads (w7.alloc (.cells #[.int .u8 0, .int .u8 0, .int .u8 0, .int .u8 0] 5)) w7.heap.size 0 [0, 0, 0, 0] := reads_new w7 [0, 0, 0, 0] _ _
  refine (refsum_any (some ⟨w7.heap.size, 0, none⟩) 4 4 [0, 0, 0, 0] _ rfl (by omega) (by intro c hc; simp at hc; omega) (.inr ⟨_, 0, rfl, hr8⟩)).mono ?_
  rintro e w9 ⟨rfl, rfl⟩
  rw [← Hk7.out]
  clear hr8 hB8
  go_wp2_with fail
  refine (room_any 64 _ (by omega) (by omega)).mono ?_
  rintro e w9 ⟨rfl, rfl⟩
  rw [show roomOf 64 = 54 by decide]
  have HB08 := Lib.hid hB08
  clear hB08
  go_wp2_with fail
  go_ret
  exact ⟨rfl, HB08.out⟩
end Go.Proofs.YteepbligpfljkaaDoor
