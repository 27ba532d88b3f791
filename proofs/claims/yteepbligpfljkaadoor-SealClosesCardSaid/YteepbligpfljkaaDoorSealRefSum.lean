/- THE WALK OF THE DOCUMENT's OWN SUM (a bit a step): the same number. -/
import Derived.Test.YteepbligpfljkaaDoorSealOpen
namespace Go.Proofs.YteepbligpfljkaaDoor
open Go.RowKit
open Seal
theorem Tn_succ (n s : Nat) : Tn (n + 1) s = T (Tn n s) := by rw [Tn_add n 1 s]; rfl
theorem bit_round (s : Nat) (hs : s < 4294967296) : bits .and .u32 (s : Int) 1 = ((s % 2 : Nat) : Int) := by
  have := u32_and_nat s 1 hs (by decide)
  rw [show ((1 : Nat) : Int) = 1 from rfl] at this
  rw [this, show (1 : Nat) = 2 ^ 1 - 1 from rfl, Nat.and_two_pow_sub_one_eq_mod]
set_option maxHeartbeats 1000000 in
theorem refsum_some (b off cap : Nat) (l : List Nat) (w : World) (hm : l.length ≤ 9223372036854775807) (hb : Oct l) (hc : Reads w b off l) :
    Calls Tryd.prog 15 #[.slice (some ⟨b, off, none⟩) l.length cap] w fun e w' => e = .returned (.int .u32 (crc l : Nat)) ∧ w = w' := by
  go_enter Tryd.func15, Tryd.ntmps15
  go_wp2
  go_loop [3, 4] (fun s i => ∃ k x: Nat, k ≤ l.length ∧ i = .int .i64 k ∧ s = .int .u32 x ∧ x = crc0 (l.take k) ∧ x < 4294967296) (fun _ i => l.length - (intOf i).toNat)
  case atStart => exact ⟨0, 4294967295, Nat.zero_le _, rfl, rfl, rfl, by decide⟩
  case round =>
    obtain ⟨k, x, hk, rfl, rfl, hxe, hx⟩ := hrel
    have Hxe := Lib.hid hxe; clear hxe
    by_cases hlt : k < l.length
    · have hcell := hc k hlt
      have hcl : l.getD k 0 < 256 := hb _ (by rw [List.getD_eq_getElem?_getD, List.getElem?_eq_getElem hlt]; simp)
      have hsn : crc0 (l.take (k+1)) = Tn 8 (x ^^^ (l.getD k 0)) := by
        rw [List.take_succ_eq_append_getElem hlt]
        unfold crc0
        rw [run_snoc, stepB_eq, List.getD_eq_getElem?_getD, List.getElem?_eq_getElem hlt, Hxe.out]; rfl
      generalize l.getD k 0 = c at *
      have r1 : bits .xor .u32 (x : Int) (c : Int) = ((x ^^^ c : Nat) : Int) := u32_xor_nat _ _ hx (by omega)
      have hs1 : x ^^^ c < 4294967296 := Nat.xor_lt_two_pow (n := 32) hx (by omega)
      have Hsn := Lib.hid hsn
      clear hsn hc hb
      generalize (x ^^^ c) = s1 at *
      go_wp2
      go_loop [3, 5, 6] (fun s i _ => ∃ j y : Nat, j ≤ 8 ∧ i = .int .i64 j ∧ s = .int .u32 y ∧ y = Tn j s1 ∧ y < 4294967296) (fun _ i _ => 8 - (intOf i).toNat)
      case atStart => exact ⟨0, s1, by omega, rfl, rfl, rfl, hs1⟩
      case round =>
        obtain ⟨j, y, hj, rfl, rfl, hye, hy⟩ := hrel
        have Hye := Lib.hid hye; clear hye
        by_cases hlt2 : j < 8
        · have a1 := bit_round y hy
          have ht : Tn (j + 1) s1 = T y := by rw [Tn_succ, ← Hye.out]
          have Ht := Lib.hid ht
          have htl := T_lt y hy
          clear ht
          rcases Nat.mod_two_eq_zero_or_one y with h0 | h1
          · rw [h0] at a1
            have hT : T y = y / 2 := by unfold T; rw [h0]; simp
            have ev : (y : Int) / 2 = ((y / 2 : Nat) : Int) := by omega
            have HT := Lib.hid hT
            have Ev := Lib.hid ev
            clear hT h0 ev
            go_wp2
            go_round
            case rel => exact ⟨j + 1, y / 2, by omega, by go_num, (by first | rfl | rw [Ev.out]), by rw [Ht.out, HT.out], by omega⟩
            case measure => simp [intOf]; omega
          · rw [h1] at a1
            have hT : T y = y / 2 ^^^ 2197175160 := by unfold T; rw [h1]
            have a2 : bits .xor .u32 ((y : Int) / 2) 2197175160 = ((T y : Nat) : Int) := by
              rw [hT]
              have := u32_xor_nat (y / 2) 2197175160 (by omega) (by decide)
              rw [← this, Int.natCast_ediv]; rfl
            clear hT h1
            generalize T y = z at *
            go_wp2
            go_round
            case rel => exact ⟨j + 1, z, by omega, by go_num, rfl, Ht.out.symm, htl⟩
            case measure => simp [intOf]; omega
        · have hj8 : j = 8 := by omega
          subst hj8
          go_wp2
          go_round
          case rel => exact ⟨k + 1, y, by omega, by go_num, rfl, by rw [Hsn.out, Hye.out], hy⟩
          case measure => simp [intOf]; omega
    · have hk' : k = l.length := by omega
      subst hk'
      have r1 : bits .xor .u32 (IntKind.u32.max) (x : Int) = ((crc l : Nat) : Int) := by
        have := u32_xor_nat 4294967295 x (by decide) hx
        rw [show IntKind.u32.max = ((4294967295 : Nat) : Int) from rfl]
        rw [this, crc, Hxe.out, List.take_length]
      have R1 := Lib.hid r1
      clear r1
      go_wp2
      go_ret
      exact ⟨ret_val (by show Value.int .u32 (bits .xor .u32 IntKind.u32.max (x : Int)) = _; rw [R1.out]), rfl⟩
theorem refsum_none (a : Option Addr) (cap : Nat) (w : World) :
    Calls Tryd.prog 15 #[.slice a 0 cap] w fun e w' => e = .returned (.int .u32 0) ∧ w = w' := by
  go_enter Tryd.func15, Tryd.ntmps15
  go_wp2
  refine wp_loop_rounds 1 ?_
  rw [rounds_succ]
  go_wp2
  go_ret
  exact ⟨rfl, rfl⟩
theorem refsum_any (a : Option Addr) (n cap : Nat) (l : List Nat) (w : World) (hn : l.length = n) (hm : n ≤ 9223372036854775807) (hb : Oct l) (hc : SliceIs w a l) :
    Calls Tryd.prog 15 #[.slice a n cap] w fun e w' => e = .returned (.int .u32 (crc l : Nat)) ∧ w = w' := by
  subst hn
  rcases hc with rfl | ⟨b, off, rfl, hc⟩
  · refine (refsum_none a cap w).mono ?_
    rintro e w' ⟨rfl, rfl⟩
    exact ⟨by rw [crc_nil]; rfl, rfl⟩
  · exact refsum_some b off cap l w hm hb hc
end Go.Proofs.YteepbligpfljkaaDoor
