/- THE WALKS OF seal's LEAVES: Sum, put, get, Room. -/
import Derived.Test.YtbkiahnljklhpaaDoorSealRow
import Derived.WalkLawsBesides
namespace Go.Proofs.YtbkiahnljklhpaaDoor
open Go.RowKit
open Seal
theorem ret_val {a b : Value} (h : a = b) : Ending.returned a = .returned b := by rw [h]
/-- The table of seal, as it lies in memory. -/
def Tab (w : World) : Prop := ∀ j, j < 16 → w.cell? ⟨1, j, none⟩ = some (.int .u32 ((tab.getD j 0 : Nat) : Int))
theorem Tab.below {w w' : World} {B : Nat} (h : Tab w) (hb : Below B w w') (hB : 1 < B) : Tab w' := fun j hj => (hb.cell (p := ⟨_, j, none⟩) hB).trans (h j hj)

theorem Tab.drewN {w : World} (h : Tab w) (n : Nat) : Tab (w.drewN n) := fun j hj => by rw [World.cell?_drewN]; exact h j hj
theorem sum_round (w : World) (ht : Tab w) (s : Nat) (hs : s < 4294967296) : bits .and .u32 (s : Int) 15 = ((s % 16 : Nat) : Int) ∧ w.cell? ⟨1, s % 16, none⟩ = some (.int .u32 ((tab.getD (s % 16) 0 : Nat) : Int)) ∧ bits .xor .u32 ((s : Int) / 16) ((tab.getD (s % 16) 0 : Nat) : Int) = ((half s : Nat) : Int) := by
  refine ⟨?_, ht _ (by omega), ?_⟩
  · have := u32_and_nat s 15 hs (by decide)
    rw [show ((15 : Nat) : Int) = 15 from rfl] at this
    rw [this, show (15 : Nat) = 2 ^ 4 - 1 from rfl, Nat.and_two_pow_sub_one_eq_mod]
  · have := u32_xor_nat (s / 16) (tab.getD (s % 16) 0) (by omega) (tab_lt _ (by omega))
    unfold half; rw [← this, Int.natCast_ediv]; rfl

set_option maxRecDepth 100000 in
set_option maxHeartbeats 400000 in
theorem sum_some (b off cap : Nat) (l : List Nat) (w : World) (hm : l.length ≤ 9223372036854775807) (hb : Oct l) (hc : Reads w b off l) (ht : Tab w) :
    Calls Tryd.prog 62 #[.slice (some ⟨b, off, none⟩) l.length cap] w fun e w' => e = .returned (.int .u32 (crc l : Nat)) ∧ w = w' := by
  go_enter Tryd.func62, Tryd.ntmps62
  go_wp2
  go_loop [3, 8] (fun s i => ∃ k x: Nat, k ≤ l.length ∧ i = .int .i64 k ∧ s = .int .u32 x ∧ x = crc0 (l.take k) ∧ x < 4294967296) (fun _ i => l.length - (intOf i).toNat)
  case atStart => exact ⟨0, 4294967295, Nat.zero_le _, rfl, rfl, rfl, by decide⟩
  case round =>
    obtain ⟨k, x, hk, rfl, rfl, hxe, hx⟩ := hrel
    have Hxe := Lib.hid hxe; clear hxe
    by_cases hlt : k < l.length
    · have hcell := hc k hlt
      have hcl : l.getD k 0 < 256 := hb _ (by rw [List.getD_eq_getElem?_getD, List.getElem?_eq_getElem hlt]; simp)
      have hsn : crc0 (l.take (k+1)) = stepB x (l.getD k 0) := by
        rw [List.take_succ_eq_append_getElem hlt]
        unfold crc0
        rw [run_snoc, List.getD_eq_getElem?_getD, List.getElem?_eq_getElem hlt, Hxe.out]; rfl
      generalize l.getD k 0 = c at *
      have r1 : bits .xor .u32 (x : Int) (c : Int) = ((x ^^^ c : Nat) : Int) := u32_xor_nat _ _ hx (by omega)
      have hs1 : x ^^^ c < 4294967296 := Nat.xor_lt_two_pow (n := 32) hx (by omega)
      obtain ⟨a1, a2, a3⟩ := sum_round w ht _ hs1
      have hs2 := half_lt _ hs1
      obtain ⟨b1, b2, b3⟩ := sum_round w ht _ hs2
      have hs3 := half_lt _ hs2
      have hfin : half (half (x ^^^ c)) = crc0 (l.take (k+1)) := hsn.symm
      have Hfin := Lib.hid hfin
      clear hfin hsn hc ht hb
      generalize half (half (x ^^^ c)) = s3 at *
      generalize half (x ^^^ c) = s2 at *
      generalize (x ^^^ c) = s1 at *
      have hi1 : s1 % 16 < 16 := by omega
      have hi2 : s2 % 16 < 16 := by omega
      generalize tab.getD (s1 % 16) 0 = q1 at *
      generalize tab.getD (s2 % 16) 0 = q2 at *
      generalize (s1 % 16) = i1 at *
      generalize (s2 % 16) = i2 at *
      go_wp2
      go_round
      case rel => exact ⟨k + 1, s3, by omega, by go_num, rfl, Hfin.out, hs3⟩
      case measure => simp [intOf]; omega
    · have hk' : k = l.length := by omega
      subst hk'
      have r1 : bits .xor .u32 (IntKind.u32.max) (x : Int) = ((crc l : Nat) : Int) := by
        have := u32_xor_nat 4294967295 x (by decide) hx
        rw [show IntKind.u32.max = ((4294967295 : Nat) : Int) from rfl]
        rw [this, crc, Hxe.out, List.take_length]
      have R1 := Lib.hid r1
      clear r1
      go_wp2
      go_ret
      exact ⟨ret_val (by show Value.int .u32 (bits .xor .u32 IntKind.u32.max (x : Int)) = _; rw [R1.out]), rfl⟩

theorem sum_none (a : Option Addr) (cap : Nat) (w : World) :
    Calls Tryd.prog 62 #[.slice a 0 cap] w fun e w' => e = .returned (.int .u32 0) ∧ w = w' := by
  have hx : bits .xor .u32 IntKind.u32.max 4294967295 = 0 := by decide +kernel
  go_enter Tryd.func62, Tryd.ntmps62
  go_wp2
  refine wp_loop_rounds 1 ?_
  rw [rounds_succ]
  go_wp2
  go_ret
  exact ⟨rfl, rfl⟩
theorem crc_nil : crc [] = 0 := by decide +kernel
theorem sum_any (a : Option Addr) (n cap : Nat) (l : List Nat) (w : World) (hn : l.length = n) (hm : n ≤ 9223372036854775807) (hb : Oct l) (hc : SliceIs w a l) (ht : Tab w) :
    Calls Tryd.prog 62 #[.slice a n cap] w fun e w' => e = .returned (.int .u32 (crc l : Nat)) ∧ w = w' := by
  subst hn
  rcases hc with rfl | ⟨b, off, rfl, hc⟩
  · refine (sum_none a cap w).mono ?_
    rintro e w' ⟨rfl, rfl⟩
    exact ⟨by rw [crc_nil]; rfl, rfl⟩
  · exact sum_some b off cap l w hm hb hc ht

set_option maxRecDepth 100000 in
set_option maxHeartbeats 400000 in
theorem put_any (g off n cap x : Nat) (cur : List Nat) (w : World) (hn : n ≤ 4) (hR : Row w g cur) (hfit : off + n ≤ cur.length) :
    Calls Tryd.prog 61 #[.slice (some ⟨g, off, none⟩) n cap, .int .u32 x] w fun e w' => e = .returned (.tuple #[]) ∧ Row w' g (splice cur off (le x n)) ∧ w.grownBy w' (some g) := by
  go_enter Tryd.func61, Tryd.ntmps61
  go_wp2
  go_loopw [7] (fun i wr => ∃ k : Nat, k ≤ n ∧ i = .int .i64 k ∧ Row wr g (splice cur off (le x k)) ∧ w.grownBy wr (some g)) (fun i _ => n - (intOf i).toNat)
  case atStart => exact ⟨0, by omega, rfl, by simpa [splice, le] using hR, ⟨rfl, rfl, rfl, Nat.le_refl _, fun _ _ _ => rfl⟩⟩
  case round =>
    obtain ⟨k, hk, rfl, hRk, hG⟩ := hrel
    by_cases hlt : k < n
    · have hsp : (splice cur off (le x k)).length = cur.length := length_splice _ _ _ (by rw [length_le]; omega)
      have hcell := hRk.cell (j := off + k) (by omega)
      have hfr := hRk.frozen (off + k)
      have hnew : (splice cur off (le x k)).set (off + k) (x / 256 ^ k % 256) = splice cur off (le x (k + 1)) := splice_set cur off (le x k) _ _ k (length_le _ _) (by omega) (le_snoc x k)
      have hset := hRk.set (off + k) (x / 256 ^ k % 256)
      rw [hnew] at hset
      have hgr : w.grownBy (wr.setCell ⟨g, off + k, none⟩ (.int .u8 ((x / 256 ^ k % 256 : Nat) : Int))) (some g) := grown_setCell hG _ _
      have ev : ((x / 256 ^ k % 256 : Nat) : Int) = (x : Int) / 2 ^ (8 * k) % 256 := by
        rw [Int.natCast_emod, Int.natCast_ediv, show (256 : Nat) ^ k = 2 ^ (8 * k) by rw [Nat.pow_mul]]; simp
      rw [ev] at hset hgr
      have Hset := Lib.hid hset
      have Hgr := Lib.hid hgr
      clear hset hgr hnew ev
      go_wp2
      go_roundw
      case rel => exact ⟨k + 1, by omega, by go_num, Hset.out, Hgr.out⟩
      case measure => simp [intOf]; omega
    · have hk' : k = n := by omega
      subst hk'
      go_wp2
      go_end0
      exact ⟨rfl, hRk, hG⟩

set_option maxRecDepth 100000 in
set_option maxHeartbeats 400000 in
theorem get_any (b off n cap : Nat) (l : List Nat) (w : World) (hl : l.length = n) (hn : n ≤ 4) (hb : Oct l) (hc : Reads w b off l) :
    Calls Tryd.prog 65 #[.slice (some ⟨b, off, none⟩) n cap] w fun e w' => e = .returned (.int .u32 (num l : Nat)) ∧ w = w' := by
  subst hl
  go_enter Tryd.func65, Tryd.ntmps65
  go_wp2
  go_loop [3, 8] (fun s i => ∃ k x : Nat, k ≤ l.length ∧ i = .int .i64 k ∧ s = .int .u32 x ∧ x = num (l.take k) ∧ x < 256 ^ k) (fun _ i => l.length - (intOf i).toNat)
  case atStart => exact ⟨0, 0, Nat.zero_le _, rfl, rfl, rfl, by decide⟩
  case round =>
    obtain ⟨k, x, hk, rfl, rfl, hxe, hx⟩ := hrel
    have Hxe := Lib.hid hxe; clear hxe
    by_cases hlt : k < l.length
    · have hcell := hc k hlt
      have hcl : l.getD k 0 < 256 := hb _ (by rw [List.getD_eq_getElem?_getD, List.getElem?_eq_getElem hlt]; simp)
      have hgc : Hid (l[k] = l.getD k 0) := by show l[k] = _; rw [List.getD_eq_getElem?_getD, List.getElem?_eq_getElem hlt]; rfl
      generalize l.getD k 0 = c at *
      have hk4 : k < 4 := by omega
      have hmul : 256 ^ k * c < 4294967296 ∧ x + 256 ^ k * c < 256 ^ (k + 1) ∧ 256 ^ k ≤ 16777216 := by
        have h2 : 256 ^ k * c ≤ 256 ^ k * 255 := Nat.mul_le_mul_left _ (by omega)
        have h3 : 256 ^ k ≤ 256 ^ 3 := Nat.pow_le_pow_right (by decide) (by omega)
        rw [Nat.pow_succ]
        omega
      have ev : bits .or .u32 (x : Int) ((c : Int) * 2 ^ (8 * k) % 4294967296) = ((x + 256 ^ k * c : Nat) : Int) := by
        have e1 : ((c : Int) * 2 ^ (8 * k) % 4294967296) = ((256 ^ k * c : Nat) : Int) := by
          rw [show (256 : Nat) ^ k = 2 ^ (8 * k) by rw [Nat.pow_mul]] at hmul ⊢
          rw [Nat.mul_comm (2 ^ (8 * k)) c] at hmul ⊢
          have : ((c * 2 ^ (8 * k) : Nat) : Int) = (c : Int) * 2 ^ (8 * k) := by simp
          rw [← this]; omega
        rw [e1, u32_or_nat _ _ (by omega) hmul.1]
        congr 1
        rw [Nat.or_comm, show (256 : Nat) ^ k = 2 ^ (8 * k) by rw [Nat.pow_mul], ← Nat.two_pow_add_eq_or_of_lt (by rw [Nat.pow_mul]; exact hx), Nat.add_comm]
      have hfin : x + 256 ^ k * c = num (l.take (k + 1)) := by
        rw [List.take_succ_eq_append_getElem hlt, num_append, ← Hxe.out, List.length_take, Nat.min_eq_left hk, show l[k] = c from hgc.out]
        simp [num]
      have Hfin := Lib.hid hfin
      have hb2 := hmul.2.1
      clear hfin hmul hc hb
      generalize x + 256 ^ k * c = y at *
      go_wp2
      go_round
      case rel => exact ⟨k + 1, y, by omega, by go_num, rfl, Hfin.out, hb2⟩
      case measure => simp [intOf]; omega
    · have hk' : k = l.length := by omega
      subst hk'
      go_wp2
      go_ret
      exact ⟨ret_val (by show Value.int .u32 (x : Int) = _; rw [Hxe.out, List.take_length]), rfl⟩

def pageB (p : Int) : Bool := pageOk p.toNat
def roomOf (p : Int) : Int := if pageB p = true then p - 10 else 0
theorem pageB_bounds {p : Int} (h : pageB p = true) : 64 ≤ p ∧ p ≤ 4096 := by
  have := pageOk_bounds h; omega
set_option maxRecDepth 100000 in
set_option maxHeartbeats 400000 in
theorem room_any (p : Int) (w : World) (h0 : -9223372036854775808 ≤ p) (h1 : p ≤ 9223372036854775807) :
    Calls Tryd.prog 56 #[.int .i64 p] w fun e w' => e = .returned (.int .i64 (roomOf p)) ∧ w = w' := by
  by_cases hlo : p < 64
  · have hv : roomOf p = 0 := by
      unfold roomOf; rw [if_neg]; intro h; have := pageB_bounds h; omega
    rw [hv]
    go_enter Tryd.func56, Tryd.ntmps56
    go_wp2
    go_ret
    exact ⟨rfl, rfl⟩
  · by_cases hhi : 4096 < p
    · have hv : roomOf p = 0 := by
        unfold roomOf; rw [if_neg]; intro h; have := pageB_bounds h; omega
      rw [hv]
      go_enter Tryd.func56, Tryd.ntmps56
      go_wp2
      go_ret
      exact ⟨rfl, rfl⟩
    · obtain ⟨q, rfl⟩ := Int.eq_ofNat_of_zero_le (show 0 ≤ p by omega)
      have hq := pow_and q (by omega) (by omega)
      have ha : bits .and .i64 (q : Int) ((q : Int) - 1) = ((q &&& (q - 1) : Nat) : Int) := by
        rw [show ((q : Int) - 1) = ((q - 1 : Nat) : Int) by omega]
        exact i64_and_nat _ _ (by omega) (by omega)
      by_cases hp : pageOk q = true
      · have hv : roomOf q = q - 10 := by
          unfold roomOf; rw [if_pos]; unfold pageB; rwa [Int.toNat_natCast]
        rw [hq.2 hp] at ha
        rw [hv]
        clear hq hv hp
        go_enter Tryd.func56, Tryd.ntmps56
        go_wp2
        go_ret
        exact ⟨rfl, rfl⟩
      · have hv : roomOf q = 0 := by
          unfold roomOf; rw [if_neg]; unfold pageB; rwa [Int.toNat_natCast]
        have hne : (bits .and .i64 (q : Int) ((q : Int) - 1) == 0) = false := by
          rw [ha, beq_eq_false_iff_ne]
          intro h
          exact hp (hq.1 (by omega))
        have hne2 : (bits .and .i64 (q : Int) ((q : Int) - 1) != 0) = true := by simp [bne, hne]
        rw [hv]
        clear hq hv hp ha
        go_enter Tryd.func56, Tryd.ntmps56
        go_wp2
        go_ret
        exact ⟨rfl, rfl⟩
end Go.Proofs.YtbkiahnljklhpaaDoor
