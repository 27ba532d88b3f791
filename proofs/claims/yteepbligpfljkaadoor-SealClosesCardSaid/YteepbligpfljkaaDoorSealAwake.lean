/- THE WALK OF awake. -/
import Derived.Test.YteepbligpfljkaaDoorSealOpen
import Derived.Lib.SlBytesConst
namespace Go.Proofs.YteepbligpfljkaaDoor
open Go.RowKit
open Seal
theorem sum_known : crc [49, 50, 51, 52, 53, 54, 55, 56, 57] = 3808858755 := by decide +kernel
theorem abc_known : openB (closeB 64 6 [97, 98, 99]) = (5, [97, 98, 99], 0) := open_close 64 6 _ (by decide) (by decide) (by decide) (by intro c hc; simp at hc; omega)
set_option maxHeartbeats 1000000 in
theorem awake_any (w : World) (ht : Tab w) (h0 : 0 < w.heap.size) :
    Calls Tryd.prog 9 #[] w fun e w' => e = .returned (.bool true) ∧ Below w.heap.size w w' := by
  have kc := fun (w : World) (C : Array Value) (n c : Nat) => Lib.run_convert_bytes_const (P := Tryd.prog) w 22 5 C n c Tryd.underlying22 Tryd.underlying5
  go_enter Tryd.func9, Tryd.ntmps9
  go_wp2_with fail
  have hr1 : Reads (w.alloc (.cells #[.int .u8 97, .int .u8 98, .int .u8 99] 5 (3, 4))) w.heap.size 0 [97, 98, 99] := reads_new w [97, 98, 99] _ _
  have hB1 : Below w.heap.size w (w.alloc (.cells #[.int .u8 97, .int .u8 98, .int .u8 99] 5 (3, 4))) := (Below.refl _ _).alloc (Nat.le_refl _) _
  refine (close_at 64 5 (some ⟨w.heap.size, 0, none⟩) 3 3 [97, 98, 99] _ rfl (by decide) (by omega) (by omega) (by decide) (by intro c hc; simp at hc; omega) (.inr ⟨_, 0, rfl, hr1⟩) (ht.below hB1 h0) (by simp)).mono ?_
  rintro e w2 ⟨rfl, hR2, hB2⟩
  have hs1 : (w.alloc (.cells #[.int .u8 97, .int .u8 98, .int .u8 99] 5 (3, 4))).heap.size = w.heap.size + 1 := by simp
  rw [hs1] at hR2 hB2 ⊢
  have hB02 : Below w.heap.size w w2 := hB1.trans (hB2.mono (by omega))
  have ht2 : Tab w2 := ht.below hB02 h0
  have hR2' : Row w2 (w.heap.size + 1) (closeB 64 6 [97, 98, 99]) := hR2
  have hz2 := hR2'.lt
  have hrd2 := hR2'.reads 0 64 (by rw [length_closeB _ _ _ (by decide)]; omega)
  rw [List.drop_zero, List.take_of_length_le (by rw [length_closeB _ _ _ (by decide)]; omega)] at hrd2
  clear hR2 hs1 hr1 hB1 hB2
  rw [show (64 : Int).toNat = 64 from rfl]
  go_wp2_with fail
  refine (open_at (some ⟨w.heap.size + 1, 0, none⟩) 64 64 (closeB 64 6 [97, 98, 99]) w2 (length_closeB _ _ _ (by decide)) (by omega) (by omega) (oct_closeB _ _ _ (by intro c hc; simp at hc; omega)) (.inr ⟨_, 0, rfl, hrd2⟩) ht2).mono ?_
  rw [abc_known]
  rintro e w3 ⟨a3, c3, rfl, hS3, hA3, hB3⟩
  have hB03 : Below w.heap.size w w3 := hB02.trans (hB3.mono (by omega))
  have ht3 : Tab w3 := ht.below hB03 h0
  go_wp2_with fail
  have hr4 : Reads (w3.alloc (.cells #[.int .u8 49, .int .u8 50, .int .u8 51, .int .u8 52, .int .u8 53, .int .u8 54, .int .u8 55, .int .u8 56, .int .u8 57] 5 (9, 10))) w3.heap.size 0 [49, 50, 51, 52, 53, 54, 55, 56, 57] := reads_new w3 [49, 50, 51, 52, 53, 54, 55, 56, 57] _ _
  have hB4 : Below w3.heap.size w3 (w3.alloc (.cells #[.int .u8 49, .int .u8 50, .int .u8 51, .int .u8 52, .int .u8 53, .int .u8 54, .int .u8 55, .int .u8 56, .int .u8 57] 5 (9, 10))) := (Below.refl _ _).alloc (Nat.le_refl _) _
  have hB04 := hB03.trans (hB4.mono (Nat.le_trans hB03.size (Nat.le_refl _)))
  have ht4 : Tab (w3.alloc (.cells #[.int .u8 49, .int .u8 50, .int .u8 51, .int .u8 52, .int .u8 53, .int .u8 54, .int .u8 55, .int .u8 56, .int .u8 57] 5 (9, 10))) := ht.below hB04 h0
  have hS4 : SliceIs (w3.alloc (.cells #[.int .u8 49, .int .u8 50, .int .u8 51, .int .u8 52, .int .u8 53, .int .u8 54, .int .u8 55, .int .u8 56, .int .u8 57] 5 (9, 10))) a3 [97, 98, 99] := hS3.below hB4 (fun p hp => (hA3 p hp).2)
  have hconv : (convert 22 9 (.slice a3 3 c3)).run Tryd.prog (w3.alloc (.cells #[.int .u8 49, .int .u8 50, .int .u8 51, .int .u8 52, .int .u8 53, .int .u8 54, .int .u8 55, .int .u8 56, .int .u8 57] 5 (9, 10))) = .ok (.string ⟨#[97, 98, 99]⟩) (w3.alloc (.cells #[.int .u8 49, .int .u8 50, .int .u8 51, .int .u8 52, .int .u8 53, .int .u8 54, .int .u8 55, .int .u8 56, .int .u8 57] 5 (9, 10))) := conv_str _ a3 3 c3 [97, 98, 99] rfl hS4
  refine (sum_any (some ⟨w3.heap.size, 0, none⟩) 9 9 [49, 50, 51, 52, 53, 54, 55, 56, 57] _ rfl (by decide) (by intro c hc; simp at hc; omega) (.inr ⟨_, 0, rfl, hr4⟩) ht4).mono ?_
  rintro e w4 ⟨rfl, rfl⟩
  rw [sum_known]
  have Hfin := Lib.hid hB04
  clear hr4 hB4 hB04 ht4 hS4 hS3 hA3 hB3 hB03 ht3 hrd2 hR2' hB02 ht2 ht
  go_wp2_with fail
  go_ret
  exact ⟨rfl, Hfin.out⟩
end Go.Proofs.YteepbligpfljkaaDoor
