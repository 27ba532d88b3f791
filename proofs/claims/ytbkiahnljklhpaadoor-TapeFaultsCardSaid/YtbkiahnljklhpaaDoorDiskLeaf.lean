/- THE WALKS OF disk's LEAVES: has, TrailingZeros64, least, fail, turn, Clone. -/
import Derived.Test.YtbkiahnljklhpaaDoorDiskState
import Derived.WalkLawsBesides
import Derived.WalkSpells
import Derived.StillTailTactics
import Derived.Deep.QuietTactic
import Derived.BigQuiet
import Derived.Deep.RegionWith
import Derived.Shelf.Spec.TrailingZeros
namespace Go.Proofs.YtbkiahnljklhpaaDoor
open Go.RowKit
open Seal
theorem row_form {w : World} {e : TypeId} {v : Value} {n : Nat} {xs : List Value} (h : w.ownsRow 0 e 1 v n xs) :
    ∃ a cap, v = .slice a n cap ∧ n ≤ cap ∧ cap ≤ 9223372036854775807 ∧ xs.length = n ∧ (0 < n → ∃ b, a = some ⟨b, 0, none⟩ ∧ v.ownBlock = some b ∧ (∀ j, j < n → w.cell? ⟨b, j, none⟩ = some (xs.getD j undef)) ∧ ∀ j, w.frozen? ⟨b, j, none⟩ = false) := by
  have hx : xs.length = n := by have := h.1; omega
  rcases h.2 with ⟨rfl, rfl⟩ | ⟨g, cap, cur, rfl, _, hg, hnc, hcm, hcs, htake⟩
  · exact ⟨none, 0, rfl, Nat.le_refl _, by decide, hx, fun h => by omega⟩
  · refine ⟨_, cap, rfl, hnc, hcm, hx, fun _ => ⟨g, rfl, rfl, fun j hj => ?_, fun j => frozen_of_row w g j _ _ hg⟩⟩
    rw [cell_of_row w g j _ _ _ hg, ← htake]
    simp [List.getD_eq_getElem?_getD, show j < n by omega, show j < cap by omega, hcs]
def hasB (l : Disk.Pages) (n : Int) : Bool := decide (0 ≤ n) && Disk.used l n.toNat
theorem hasB_nat (l : Disk.Pages) (n : Nat) : hasB l n = Disk.used l n := by simp [hasB]
set_option maxRecDepth 100000 in
set_option maxHeartbeats 400000 in
theorem has_any (g : Nat) (s : Disk.St) (own : Nat → Nat) (n : Int) (w : World) (h : DiskAt w g s own) :
    Calls Tryd.prog 25 #[.pointer (some ⟨g, 0, none⟩), .int .i64 n] w fun e w' => e = .returned (.bool (hasB s.pages n)) ∧ w = w' := by
  obtain ⟨pv, gu, mv, xs, ws, R⟩ := h
  have c2 := R.blk.c2
  obtain ⟨a, cap, rfl, hnc, hcm, hxl, hrow⟩ := row_form R.pages.row
  by_cases h0 : 0 ≤ n
  · obtain ⟨k, rfl⟩ := Int.eq_ofNat_of_zero_le h0
    rw [hasB_nat]
    by_cases h1 : k < s.pages.length
    · have d1 : decide ((k : Int) < (s.pages.length : Int)) = true := by simp; omega
      obtain ⟨b, rfl, _, hc, _⟩ := hrow (by omega)
      have hck := hc k h1
      have hp := R.pages.at_ k h1
      cases hpk : s.pages.getD k none with
      | none =>
        have hu : Disk.used s.pages k = false := by unfold Disk.used; rw [hpk]; rfl
        rw [hpk] at hp
        rw [show xs.getD k undef = .slice none 0 0 from hp] at hck
        rw [hu]
        clear R hp hrow hc hu hpk
        generalize s.pages.length = m at *
        go_enter Tryd.func25, Tryd.ntmps25
        go_wp2_with fail
        go_ret
        exact ⟨rfl, rfl⟩
      | some bs =>
        have hu : Disk.used s.pages k = true := by unfold Disk.used; rw [hpk]; rfl
        rw [hpk] at hp
        obtain ⟨bb, hv, _⟩ := hp
        rw [hv] at hck
        rw [hu]
        clear R hrow hc hu hpk hv
        generalize s.pages.length = m at *
        go_enter Tryd.func25, Tryd.ntmps25
        go_wp2_with fail
        go_ret
        exact ⟨rfl, rfl⟩
    · have d1 : decide ((k : Int) < (s.pages.length : Int)) = false := by simp; omega
      have hu : Disk.used s.pages k = false := by
        cases e : Disk.used s.pages k with
        | false => rfl
        | true => exact (h1 (Disk.used_lt e)).elim
      rw [hu]
      clear R hrow hu
      generalize s.pages.length = m at *
      go_enter Tryd.func25, Tryd.ntmps25
      go_wp2_with fail
      go_ret
      exact ⟨rfl, rfl⟩
  · have d0 : decide (0 ≤ n) = false := by simpa using h0
    have hu : hasB s.pages n = false := by unfold hasB; rw [d0]; rfl
    rw [hu]
    clear R hrow hu
    go_enter Tryd.func25, Tryd.ntmps25
    go_wp2_with fail
    go_ret
    exact ⟨rfl, rfl⟩
/-- The table of the library's, as it lies in memory. -/
def Bruijn (w : World) : Prop := TabAt 0 Lib.deBruijn64tab w
theorem Bruijn.only {own : Nat → Nat} {w w' : World} (h : Bruijn w) (k : Only own w w') (h0 : own 0 = 0) : Bruijn w' := fun j hj => by
  have hc := h j hj
  exact (World.cell?_of_block (k.block _ (World.block_lt_of_cell? w _ hc) h0)).trans hc
theorem Bruijn.below {B : Nat} {w w' : World} (h : Bruijn w) (k : Below B w w') (h0 : 0 < B) : Bruijn w' := fun j hj => (k.cell (p := ⟨_, j, none⟩) h0).trans (h j hj)
theorem Bruijn.drewN {w : World} (h : Bruijn w) (n : Nat) : Bruijn (w.drewN n) := fun j hj => by rw [World.cell?_drewN]; exact h j hj
set_option maxRecDepth 100000 in
set_option maxHeartbeats 1000000 in
theorem tz_core (x k idx : Nat) (w : World) (hx0 : ((x : Int) == 0) = false)
    (key : IntKind.u64.wrap (bits BinOp.and IntKind.u64 (x : Int) (IntKind.u64.wrap (-(x : Int))) * 285870213051353865) / 288230376151711744 = (idx : Int))
    (hi : idx < 64) (hk : k < 64) (hcell : w.cell? ⟨0, idx, none⟩ = some (.int .u8 k)) :
    Calls Tryd.prog 36 #[.int .u64 x] w fun e w' => e = .returned (.int .i64 k) ∧ w = w' := by
  go_enter Tryd.func36, Tryd.ntmps36
  go_wp2_with (simp only [key])
  go_ret
  exact ⟨rfl, rfl⟩
theorem tz_any (x : Nat) (hx0 : x ≠ 0) (hx : x < 18446744073709551616) (w : World) (hT : Bruijn w) :
    Calls Tryd.prog 36 #[.int .u64 x] w fun e w' => e = .returned (.int .i64 (Lib.ctz 64 x)) ∧ w = w' := by
  obtain ⟨hlow, hk⟩ := Lib.lowest_bit 64 x hx0 hx
  obtain ⟨hi, htab⟩ := Lib.deBruijn64_at _ hk
  have hcell := hT _ hi
  rw [htab] at hcell
  exact tz_core x _ _ w (by simp; omega) (tz64_key x _ hx hx0 hlow) hi hk hcell
theorem xor_full (x : Nat) (hx : x < 18446744073709551616) : bits .xor .u64 IntKind.u64.max (x : Int) = ((18446744073709551615 - x : Nat) : Int) := by
  have h := u64_xor_nat 18446744073709551615 x (by decide) hx
  rw [show IntKind.u64.max = ((18446744073709551615 : Nat) : Int) from rfl, h]
  congr 1
  apply Nat.eq_of_testBit_eq
  intro i
  have hb := Nat.testBit_two_pow_sub_succ (x := x) (n := 64) hx i
  rw [show (2 : Nat) ^ 64 - (x + 1) = 18446744073709551615 - x by omega] at hb
  rw [hb, Nat.testBit_xor, show (18446744073709551615 : Nat) = 2 ^ 64 - 1 from rfl, Nat.testBit_two_pow_sub_one]
  by_cases h64 : i < 64
  · simp [h64]
  · have : x.testBit i = false := Nat.testBit_lt_two_pow (Nat.lt_of_lt_of_le hx (Nat.pow_le_pow_right (n := 2) (i := 64) (by decide) (by omega)))
    simp [h64, this]
def Full (ws : List Nat) (k : Nat) : Prop := ∀ j, j < k → ws.getD j 0 = 18446744073709551615
set_option maxRecDepth 100000 in
set_option maxHeartbeats 1000000 in
theorem least_any (g : Nat) (s : Disk.St) (own : Nat → Nat) (w : World) (h : DiskAt w g s own) (hl : Disk.live s.pages < s.most) (hT : Bruijn w) :
    Calls Tryd.prog 24 #[.pointer (some ⟨g, 0, none⟩)] w fun e w' => e = .returned (.int .i64 (Disk.leastFree s.pages : Nat)) ∧ w = w' := by
  obtain ⟨pv, gu, mv, xs, ws, R⟩ := h
  have c3 := R.blk.c3
  have hU := R.used
  have htop := R.top
  obtain ⟨nw, hnw⟩ : ∃ nw, nw = (s.most + 63) / 64 := ⟨_, rfl⟩
  rw [← hnw] at c3 hU
  have hn1 : s.most ≤ 64 * nw := by omega
  have hn2 : nw ≤ 256 := by omega
  clear R hnw
  have HU := Lib.hid hU
  have HT := Lib.hid hT
  clear hU hT
  go_enter Tryd.func24, Tryd.ntmps24
  go_wp2_with fail
  go_loop [10] (fun i => ∃ k : Nat, k ≤ nw ∧ i = .int .i64 k ∧ Full ws k) (fun i => nw - (intOf i).toNat)
  case atStart => exact ⟨0, Nat.zero_le _, rfl, fun j hj => by omega⟩
  case round =>
    obtain ⟨k, hk, rfl, hF⟩ := hrel
    have HF := Lib.hid hF
    clear hF
    by_cases hlt : k < nw
    · have hc := HU.out.cell hlt
      by_cases hfull : ws.getD k 0 = 18446744073709551615
      · rw [hfull] at hc
        have HFull := Lib.hid hfull
        clear hfull
        go_wp2_with fail
        go_round
        case rel => exact ⟨k + 1, by omega, by go_num, fun j hj => by
          rcases Nat.lt_or_ge j k with h1 | h1
          · exact HF.out j h1
          · have : j = k := by omega
            subst this; exact HFull.out⟩
        case measure => simp [intOf]; omega
      · obtain ⟨hle, hct⟩ := Disk.least_word HU.out.words hlt HF.out hfull
        have hx : ws.getD k 0 < 18446744073709551616 := HU.out.words.lt k
        have hne : (((ws.getD k 0 : Nat) : Int) != 18446744073709551615) = true := by rw [bne_iff_ne]; omega
        have htz := tz_any (18446744073709551615 - ws.getD k 0) (by omega) (by omega) w HT.out
        have Hle := Lib.hid hle
        have Htz := Lib.hid htz
        clear hle htz hfull
        generalize Lib.ctz 64 (18446744073709551615 - ws.getD k 0) = c at *
        generalize ws.getD k 0 = x at *
        go_wp2_with fail
        rw [xor_full x hx]
        refine Htz.out.mono ?_
        rintro e w' ⟨rfl, rfl⟩
        go_wp2_with fail
        go_ret
        refine ⟨?_, rfl⟩
        have he : (Disk.leastFree s.pages : Int) = (k : Int) * 64 + (c : Int) := by rw [Hle.out]; omega
        show Ending.returned (.int .i64 ((k : Int) * 64 + (c : Int))) = _
        rw [he]
    · have hk' : k = nw := by omega
      subst hk'
      have := Disk.words_full HU.out.words HF.out
      omega
end Go.Proofs.YtbkiahnljklhpaaDoor
