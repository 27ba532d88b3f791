/- THE WALKS OF Turn AND New. -/
import Derived.Test.YtlfjffpbofigmaaDoorDiskPut
namespace Go.Proofs.YtlfjffpbofigmaaDoor
open Go.RowKit
open Seal
namespace Disk
/-- What bit i of the mask does to the bytes. -/
def turnStep (bit mask : Nat) (l : List Nat) (i : Nat) : List Nat :=
  if bit + i < 8 * l.length then l.set ((bit + i) / 8) (l.getD ((bit + i) / 8) 0 ^^^ ((mask / 2 ^ i % 2) * 2 ^ ((bit + i) % 8))) else l
def turnN (bit mask : Nat) (l : List Nat) (n : Nat) : List Nat := (List.range n).foldl (turnStep bit mask) l
def turnB (bit mask : Nat) (l : List Nat) : List Nat := turnN bit mask l 32
theorem turnN_succ (bit mask : Nat) (l : List Nat) (n : Nat) : turnN bit mask l (n + 1) = turnStep bit mask (turnN bit mask l n) n := by
  unfold turnN; rw [List.range_succ, List.foldl_append]; rfl
theorem length_turnStep (bit mask : Nat) (l : List Nat) (i : Nat) : (turnStep bit mask l i).length = l.length := by
  unfold turnStep; split
  · simp
  · rfl
theorem length_turnN (bit mask : Nat) (l : List Nat) (n : Nat) : (turnN bit mask l n).length = l.length := by
  induction n with
  | zero => rfl
  | succ n ih => rw [turnN_succ, length_turnStep, ih]
theorem turnN_stop (bit mask : Nat) (l : List Nat) (n : Nat) (h : 8 * l.length ≤ bit + n) (m : Nat) : turnN bit mask l (n + m) = turnN bit mask l n := by
  induction m with
  | zero => rfl
  | succ m ih =>
    rw [← Nat.add_assoc, turnN_succ, ih]
    unfold turnStep
    rw [if_neg (by rw [length_turnN]; omega)]
theorem small_bit (mask i b : Nat) : (mask / 2 ^ i % 2) * 2 ^ (b % 8) < 256 := by
  have h1 : mask / 2 ^ i % 2 < 2 := Nat.mod_lt _ (by decide)
  have h2 : 2 ^ (b % 8) ≤ 2 ^ 7 := Nat.pow_le_pow_right (by decide) (by omega)
  rcases Nat.lt_or_ge (mask / 2 ^ i % 2) 1 with h | h
  · rw [show mask / 2 ^ i % 2 = 0 by omega]; omega
  · rw [show mask / 2 ^ i % 2 = 1 by omega]; omega
theorem oct_turnStep (bit mask : Nat) (l : List Nat) (i : Nat) (h : Oct l) : Oct (turnStep bit mask l i) := by
  unfold turnStep; split
  · rename_i hlt
    intro c hc
    rcases List.mem_or_eq_of_mem_set hc with hc | hc
    · exact h c hc
    · rw [hc]
      refine Nat.xor_lt_two_pow (n := 8) ?_ (small_bit _ _ _)
      rw [List.getD_eq_getElem?_getD, List.getElem?_eq_getElem (show (bit + i) / 8 < l.length by omega)]
      exact h _ (List.getElem_mem _)
  · exact h
theorem oct_turnN (bit mask : Nat) (l : List Nat) (n : Nat) (h : Oct l) : Oct (turnN bit mask l n) := by
  induction n with
  | zero => exact h
  | succ n ih => rw [turnN_succ]; exact oct_turnStep _ _ _ _ ih
/-- What turns in byte j. -/
def diff (bit mask len j : Nat) : Nat → Nat
  | 0 => 0
  | n + 1 => diff bit mask len j n ^^^ (if bit + n < 8 * len ∧ (bit + n) / 8 = j then (mask / 2 ^ n % 2) * 2 ^ ((bit + n) % 8) else 0)
theorem getD_turnN (bit mask : Nat) (l : List Nat) (n j : Nat) (hj : j < l.length) : (turnN bit mask l n).getD j 0 = (l.getD j 0 ^^^ diff bit mask l.length j n) := by
  induction n with
  | zero => simp [turnN, diff]
  | succ n ih =>
    rw [turnN_succ]
    unfold turnStep diff
    rw [length_turnN]
    by_cases h : bit + n < 8 * l.length
    · rw [if_pos h, getD_set, length_turnN]
      by_cases h2 : (bit + n) / 8 = j
      · rw [if_pos ⟨h2, hj⟩, if_pos ⟨h, h2⟩, h2, ih, Nat.xor_assoc]
      · rw [if_neg (fun x => h2 x.1), if_neg (fun x => h2 x.2), ih, Nat.xor_zero]
    · rw [if_neg h, if_neg (fun x => h x.1), ih, Nat.xor_zero]
/-- Turned twice it is as it was. -/
theorem turnB_twice (bit mask : Nat) (l : List Nat) : turnB bit mask (turnB bit mask l) = l := by
  unfold turnB
  apply List.ext_getElem?
  intro j
  rcases Nat.lt_or_ge j l.length with h | h
  · have h1 := getD_turnN bit mask (turnN bit mask l 32) 32 j (by rw [length_turnN]; exact h)
    rw [length_turnN, getD_turnN bit mask l 32 j h, Nat.xor_assoc, Nat.xor_self, Nat.xor_zero] at h1
    simp only [List.getD_eq_getElem?_getD, List.getElem?_eq_getElem h, List.getElem?_eq_getElem (show j < (turnN bit mask (turnN bit mask l 32) 32).length by rw [length_turnN, length_turnN]; exact h), Option.getD_some] at h1 ⊢
    rw [h1]
  · rw [List.getElem?_eq_none (by rw [length_turnN, length_turnN]; exact h), List.getElem?_eq_none h]
end Disk
set_option maxRecDepth 100000 in
set_option maxHeartbeats 1000000 in
theorem turn_none (g : Nat) (s : Disk.St) (own : Nat → Nat) (n bit : Int) (mask : Nat) (w : World) (h : DiskAt w g s own) (hu : hasB s.pages n = false) :
    Calls Tryd.prog 31 #[.pointer (some ⟨g, 0, none⟩), .int .i64 n, .int .i64 bit, .int .u32 (mask : Int)] w fun e w' => e = .returned (.bool false) ∧ w = w' := by
  have C := has_any g s own n w h
  rw [hu] at C
  have HC := Lib.hid C
  clear C h
  go_enter Tryd.func31, Tryd.ntmps31
  go_wp2_with fail
  refine HC.out.mono ?_
  rintro e w' ⟨rfl, rfl⟩
  go_wp2_with fail
  go_ret
  exact ⟨rfl, rfl⟩
set_option maxRecDepth 100000 in
set_option maxHeartbeats 1000000 in
theorem turn_out (g : Nat) (s : Disk.St) (own : Nat → Nat) (n bit : Int) (mask : Nat) (w : World) (h : DiskAt w g s own) (hb : bit < 0 ∨ 8 * (s.page : Int) ≤ bit) :
    Calls Tryd.prog 31 #[.pointer (some ⟨g, 0, none⟩), .int .i64 n, .int .i64 bit, .int .u32 (mask : Int)] w fun e w' => e = .returned (.bool false) ∧ w = w' := by
  have C := has_any g s own n w h
  have hpg := pageOk_bounds h.page_ok
  obtain ⟨pv, gu, mv, xs, ws, R⟩ := h
  have c0 := R.blk.c0
  clear R
  cases hh : hasB s.pages n with
  | false =>
    rw [hh] at C
    have HC := Lib.hid C
    clear C
    go_enter Tryd.func31, Tryd.ntmps31
    go_wp2_with fail
    refine HC.out.mono ?_
    rintro e w' ⟨rfl, rfl⟩
    go_wp2_with fail
    go_ret
    exact ⟨rfl, rfl⟩
  | true =>
    rw [hh] at C
    have HC := Lib.hid C
    clear C
    rcases Int.lt_or_le bit 0 with h1 | h1
    · clear hb
      go_enter Tryd.func31, Tryd.ntmps31
      go_wp2_with fail
      refine HC.out.mono ?_
      rintro e w' ⟨rfl, rfl⟩
      go_wp2_with fail
      go_ret
      exact ⟨rfl, rfl⟩
    · have h2 : 8 * (s.page : Int) ≤ bit := by omega
      have h3 : ¬ bit < 0 := by omega
      have d2 : decide (8 * (s.page : Int) ≤ bit) = true := by simpa using h2
      clear hb
      go_enter Tryd.func31, Tryd.ntmps31
      go_wp2_with fail
      refine HC.out.mono ?_
      rintro e w' ⟨rfl, rfl⟩
      go_wp2_with fail
      go_ret
      exact ⟨rfl, rfl⟩
theorem wrap_u8_small (n : Nat) (h : n < 256) : IntKind.u8.wrap (n : Int) = (n : Int) := by
  have : IntKind.u8.wrap (n : Int) = (n : Int) % 256 := by simp [IntKind.wrap, IntKind.signed, IntKind.bits]
  omega
set_option maxRecDepth 100000 in
set_option maxHeartbeats 2000000 in
theorem turn_ok (g : Nat) (s : Disk.St) (own : Nat → Nat) (k bit mask : Nat) (bs : List Nat) (w : World) (h : DiskAt w g s own) (hp : s.pages.getD k none = some bs) (hb : bit < 8 * s.page) (hm : mask < 4294967296) :
    Calls Tryd.prog 31 #[.pointer (some ⟨g, 0, none⟩), .int .i64 (k : Int), .int .i64 (bit : Int), .int .u32 (mask : Int)] w fun e w' => e = .returned (.bool true) ∧ DiskAt w' g { s with pages := Disk.put s.pages k (some (Disk.turnB bit mask bs)) } own ∧ Only own w w' := by
  have C := has_any g s own (k : Int) w h
  have hu : Disk.used s.pages k = true := by unfold Disk.used; rw [hp]; rfl
  rw [show hasB s.pages (k : Int) = true from (hasB_nat _ _).trans hu] at C
  have HC := Lib.hid C
  have hpg := pageOk_bounds h.page_ok
  obtain ⟨pv, gu, mv, xs, ws, R⟩ := h
  have c0 := R.blk.c0
  obtain ⟨gp, cap, b, hk, hpv, hnc, hcell, hob, hr, hbl, hoct⟩ := page_at R hp
  subst hpv
  have hxk : xs.getD k undef = .slice (some ⟨b, 0, none⟩) s.page s.page := by
    obtain ⟨a1, cap1, hpv1, _, _, _, hrow1⟩ := row_form R.pages.row
    obtain ⟨gp1, ha1, _, hc1, _⟩ := hrow1 (Nat.lt_of_le_of_lt (Nat.zero_le _) hk)
    simp only [Value.slice.injEq, true_and] at hpv1
    rw [ha1] at hpv1
    simp only [Option.some.injEq, Addr.mk.injEq, and_true] at hpv1
    obtain ⟨rfl, _⟩ := hpv1
    have := hc1 k hk
    rw [hcell] at this
    exact (Option.some.inj this).symm
  have c2 := R.blk.c2
  have d1 : ¬ ((bit : Int) < 0) := by omega
  have d2 : decide (8 * (s.page : Int) ≤ (bit : Int)) = false := by simp; omega
  have d3 : (k : Int) < (s.pages.length : Int) := by omega
  have hg1 := R.mark
  have hgb : g ≠ b := fun e => by rw [e, hob] at hg1; omega
  have HR := Lib.hid R
  have HX := Lib.hid hxk
  have HU := Lib.hid hu
  have HOB := Lib.hid hob
  have HROW := Lib.hid hr
  have HBL := Lib.hid hbl
  have HOCT := Lib.hid hoct
  clear C R hxk hu hob hr hbl hoct hg1 hp
  generalize s.pages.length = m at *
  go_enter Tryd.func31, Tryd.ntmps31
  go_wp2_with fail
  refine HC.out.mono ?_
  rintro e w' ⟨rfl, rfl⟩
  go_wp2_with fail
  go_loopw [10] (fun i wr => ∃ j : Nat, j ≤ 32 ∧ i = .int .i64 (j : Int) ∧ Row wr b (Disk.turnN bit mask bs j) ∧ w.grownBy wr (some b)) (fun i _ => 32 - (intOf i).toNat)
  case atStart => exact ⟨0, by omega, rfl, HROW.out, World.grownBy.refl _ _⟩
  case round =>
    obtain ⟨j, hj, rfl, hRj, hGj⟩ := hrel
    have e0 : wr.cell? ⟨g, 0, none⟩ = some (.int .i64 (s.page : Int)) := hGj.cell c0 (by simp [hgb])
    have hend : 8 * s.page ≤ bit + j ∨ j = 32 → Row wr b (Disk.turnB bit mask bs) := by
      intro hh
      unfold Disk.turnB
      rcases hh with hh | hh
      · have := Disk.turnN_stop bit mask bs j (by rw [HBL.out]; exact hh) (32 - j)
        rw [show j + (32 - j) = 32 by omega] at this
        rw [this]; exact hRj
      · subst hh; exact hRj
    by_cases h32 : j < 32
    · have t1 : decide ((j : Int) < 32) = true := by simp; omega
      by_cases hin : bit + j < 8 * s.page
      · have t2 : decide ((bit : Int) + (j : Int) < 8 * (s.page : Int)) = true := by simp; omega
        obtain ⟨p, hpe⟩ : ∃ p, p = bit + j := ⟨_, rfl⟩
        obtain ⟨q, hq⟩ : ∃ q, q = p / 8 := ⟨_, rfl⟩
        obtain ⟨sh, hsh⟩ : ∃ sh, sh = p % 8 := ⟨_, rfl⟩
        obtain ⟨mb, hmb⟩ : ∃ mb, mb = mask / 2 ^ j % 2 := ⟨_, rfl⟩
        have hl : (Disk.turnN bit mask bs j).length = s.page := by rw [Disk.length_turnN]; exact HBL.out
        have hqp : q < s.page := by omega
        have hcq := hRj.cell (j := q) (by rw [hl]; exact hqp)
        have hfq := hRj.frozen q
        have hstep : (Disk.turnN bit mask bs j).set q ((Disk.turnN bit mask bs j).getD q 0 ^^^ (mb * 2 ^ sh)) = Disk.turnN bit mask bs (j + 1) := by
          rw [Disk.turnN_succ]
          unfold Disk.turnStep
          rw [hl, if_pos hin, ← hpe, ← hq, ← hsh, ← hmb]
        have hset := hRj.set q ((Disk.turnN bit mask bs j).getD q 0 ^^^ (mb * 2 ^ sh))
        rw [hstep] at hset
        have hgr : w.grownBy (wr.setCell ⟨b, q, none⟩ (.int .u8 (((Disk.turnN bit mask bs j).getD q 0 ^^^ (mb * 2 ^ sh) : Nat) : Int))) (some b) := grown_cell hGj _ _
        have hxb : (Disk.turnN bit mask bs j).getD q 0 < 256 := Disk.oct_turnN bit mask bs j HOCT.out _ (by rw [List.getD_eq_getElem?_getD, List.getElem?_eq_getElem (show q < (Disk.turnN bit mask bs j).length by rw [hl]; exact hqp)]; exact List.getElem_mem _)
        have hyb : mb * 2 ^ sh < 256 := by rw [hmb, hsh]; exact Disk.small_bit _ _ _
        have hmb2 : mb < 2 := by omega
        have hsh8 : sh < 8 := by omega
        have ex := u8_xor_nat _ _ hxb hyb
        have ea : bits .and .u32 ((mask : Int) / 2 ^ j) 1 = (mb : Int) := by
          have e1 : (mask : Int) / 2 ^ j = ((mask / 2 ^ j : Nat) : Int) := by simp
          have h2 := u32_and_nat (mask / 2 ^ j) 1 (Nat.lt_of_le_of_lt (Nat.div_le_self _ _) hm) (by decide)
          rw [show ((1 : Nat) : Int) = 1 from rfl] at h2
          rw [e1, h2, hmb, Nat.and_one_is_mod]
        have ec : IntKind.u8.wrap (mb : Int) = (mb : Int) := by rw [wrap_u8_small]; omega
        have es : IntKind.u8.wrap ((mb : Int) * 2 ^ sh) = ((mb * 2 ^ sh : Nat) : Int) := by
          have e1 : (mb : Int) * 2 ^ sh = ((mb * 2 ^ sh : Nat) : Int) := by simp
          rw [e1, wrap_u8_small _ hyb]
        have w0 : IntKind.i64.wrap ((bit : Int) + (j : Int)) = (p : Int) := by rw [IntKind.wrap_i64]; omega
        have w1 : IntKind.i64.wrap ((p : Int) / 8) = (q : Int) := by rw [IntKind.wrap_i64]; omega
        have w2 : ((p : Int)).tmod 8 = (sh : Int) := by rw [Int.tmod_eq_emod_of_nonneg (by omega)]; omega
        have t3 : decide ((p : Int) < 8 * (s.page : Int)) = true := by simp; omega
        have b1 : (0 : Int) ≤ (q : Int) := by omega
        have b2 : (q : Int) < (s.page : Int) := by omega
        have b3 : (0 : Int) ≤ (sh : Int) := by omega
        have b4 : (0 : Int) ≤ (j : Int) := by omega
        have HSET := Lib.hid hset
        have HGR := Lib.hid hgr
        clear hend hRj hGj hl hstep hset hgr hxb hyb hpe hq hsh hmb
        generalize (Disk.turnN bit mask bs j).getD q 0 = x at *
        generalize mb * 2 ^ sh = y at *
        generalize x ^^^ y = z at *
        go_wp2_with fail
        refine wp_region_still_tail 19 (by kernel_rfl) (by kernel_rfl) ?_
        simp only [List.take_succ_cons, List.take_zero, List.drop_succ_cons, List.drop_zero]
        iterate 19 still_step
        refine wpStill_nil ?_
        change wpList _ _ _ _ _ wr.drew
        go_wp2_with fail
        go_roundw
        case rel => exact ⟨j + 1, by omega, by go_num, HSET.out.drew, grown_drewN HGR.out 1⟩
        case measure => simp [intOf]; omega
      · have t2 : decide ((bit : Int) + (j : Int) < 8 * (s.page : Int)) = false := by simp; omega
        have hfin := Lib.hid (hend (.inl (by omega)))
        have HGj := Lib.hid hGj
        clear hend hRj hGj
        go_wp2_with fail
        go_ret
        exact ⟨rfl, ⟨_, _, _, _, _, HR.out.rewrite HU.out HX.out HOB.out hfin.out (by unfold Disk.turnB; rw [Disk.length_turnN]; exact HBL.out) (Disk.oct_turnN _ _ _ _ HOCT.out) HGj.out⟩, Only.of_grown HGj.out (.inl (by rw [HOB.out]; omega))⟩
    · have t1 : decide ((j : Int) < 32) = false := by simp; omega
      have hfin := Lib.hid (hend (.inr (by omega)))
      have HGj := Lib.hid hGj
      clear hend hRj hGj
      go_wp2_with fail
      go_ret
      exact ⟨rfl, ⟨_, _, _, _, _, HR.out.rewrite HU.out HX.out HOB.out hfin.out (by unfold Disk.turnB; rw [Disk.length_turnN]; exact HBL.out) (Disk.oct_turnN _ _ _ _ HOCT.out) HGj.out⟩, Only.of_grown HGj.out (.inl (by rw [HOB.out]; omega))⟩
end Go.Proofs.YtlfjffpbofigmaaDoor
