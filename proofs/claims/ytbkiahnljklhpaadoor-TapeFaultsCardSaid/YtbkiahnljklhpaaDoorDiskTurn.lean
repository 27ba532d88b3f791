/- THE WALKS OF Turn AND New. -/
import Derived.Test.YtbkiahnljklhpaaDoorDiskPut
namespace Go.Proofs.YtbkiahnljklhpaaDoor
open Go.RowKit
open Seal
namespace Disk
/-- What bit i of the mask does to the bytes. -/
def turnStep (bit mask : Nat) (l : List Nat) (i : Nat) : List Nat :=
  if bit + i < 8 * l.length then l.set ((bit + i) / 8) (l.getD ((bit + i) / 8) 0 ^^^ ((mask / 2 ^ i % 2) * 2 ^ ((bit + i) % 8))) else l
def turnN (bit mask : Nat) (l : List Nat) (n : Nat) : List Nat := (List.range n).foldl (turnStep bit mask) l
def turnB (bit mask : Nat) (l : List Nat) : List Nat := turnN bit mask l 32
theorem turnN_succ (bit mask : Nat) (l : List Nat) (n : Nat) : turnN bit mask l (n + 1) = turnStep bit mask (turnN bit mask l n) n := by
  unfold turnN; rw [List.range_succ, List.foldl_append]; rfl
theorem length_turnStep (bit mask : Nat) (l : List Nat) (i : Nat) : (turnStep bit mask l i).length = l.length := by
  unfold turnStep; split
  · simp
  · rfl
theorem length_turnN (bit mask : Nat) (l : List Nat) (n : Nat) : (turnN bit mask l n).length = l.length := by
  induction n with
  | zero => rfl
  | succ n ih => rw [turnN_succ, length_turnStep, ih]
theorem turnN_stop (bit mask : Nat) (l : List Nat) (n : Nat) (h : 8 * l.length ≤ bit + n) (m : Nat) : turnN bit mask l (n + m) = turnN bit mask l n := by
  induction m with
  | zero => rfl
  | succ m ih =>
    rw [← Nat.add_assoc, turnN_succ, ih]
    unfold turnStep
    rw [if_neg (by rw [length_turnN]; omega)]
theorem small_bit (mask i b : Nat) : (mask / 2 ^ i % 2) * 2 ^ (b % 8) < 256 := by
  have h1 : mask / 2 ^ i % 2 < 2 := Nat.mod_lt _ (by decide)
  have h2 : 2 ^ (b % 8) ≤ 2 ^ 7 := Nat.pow_le_pow_right (by decide) (by omega)
  rcases Nat.lt_or_ge (mask / 2 ^ i % 2) 1 with h | h
  · rw [show mask / 2 ^ i % 2 = 0 by omega]; omega
  · rw [show mask / 2 ^ i % 2 = 1 by omega]; omega
theorem oct_turnStep (bit mask : Nat) (l : List Nat) (i : Nat) (h : Oct l) : Oct (turnStep bit mask l i) := by
  unfold turnStep; split
  · rename_i hlt
    intro c hc
    rcases List.mem_or_eq_of_mem_set hc with hc | hc
    · exact h c hc
    · rw [hc]
      refine Nat.xor_lt_two_pow (n := 8) ?_ (small_bit _ _ _)
      rw [List.getD_eq_getElem?_getD, List.getElem?_eq_getElem (show (bit + i) / 8 < l.length by omega)]
      exact h _ (List.getElem_mem _)
  · exact h
theorem oct_turnN (bit mask : Nat) (l : List Nat) (n : Nat) (h : Oct l) : Oct (turnN bit mask l n) := by
  induction n with
  | zero => exact h
  | succ n ih => rw [turnN_succ]; exact oct_turnStep _ _ _ _ ih
/-- What turns in byte j. -/
def diff (bit mask len j : Nat) : Nat → Nat
  | 0 => 0
  | n + 1 => diff bit mask len j n ^^^ (if bit + n < 8 * len ∧ (bit + n) / 8 = j then (mask / 2 ^ n % 2) * 2 ^ ((bit + n) % 8) else 0)
theorem getD_turnN (bit mask : Nat) (l : List Nat) (n j : Nat) (hj : j < l.length) : (turnN bit mask l n).getD j 0 = (l.getD j 0 ^^^ diff bit mask l.length j n) := by
  induction n with
  | zero => simp [turnN, diff]
  | succ n ih =>
    rw [turnN_succ]
    unfold turnStep diff
    rw [length_turnN]
    by_cases h : bit + n < 8 * l.length
    · rw [if_pos h, getD_set, length_turnN]
      by_cases h2 : (bit + n) / 8 = j
      · rw [if_pos ⟨h2, hj⟩, if_pos ⟨h, h2⟩, h2, ih, Nat.xor_assoc]
      · rw [if_neg (fun x => h2 x.1), if_neg (fun x => h2 x.2), ih, Nat.xor_zero]
    · rw [if_neg h, if_neg (fun x => h x.1), ih, Nat.xor_zero]
/-- Turned twice it is as it was. -/
theorem turnB_twice (bit mask : Nat) (l : List Nat) : turnB bit mask (turnB bit mask l) = l := by
  unfold turnB
  apply List.ext_getElem?
  intro j
  rcases Nat.lt_or_ge j l.length with h | h
  · have h1 := getD_turnN bit mask (turnN bit mask l 32) 32 j (by rw [length_turnN]; exact h)
    rw [length_turnN, getD_turnN bit mask l 32 j h, Nat.xor_assoc, Nat.xor_self, Nat.xor_zero] at h1
    simp only [List.getD_eq_getElem?_getD, List.getElem?_eq_getElem h, List.getElem?_eq_getElem (show j < (turnN bit mask (turnN bit mask l 32) 32).length by rw [length_turnN, length_turnN]; exact h), Option.getD_some] at h1 ⊢
    rw [h1]
  · rw [List.getElem?_eq_none (by rw [length_turnN, length_turnN]; exact h), List.getElem?_eq_none h]
end Disk
theorem wrap_u8_small (n : Nat) (h : n < 256) : IntKind.u8.wrap (n : Int) = (n : Int) := by
  have : IntKind.u8.wrap (n : Int) = (n : Int) % 256 := by simp [IntKind.wrap, IntKind.signed, IntKind.bits]
  omega
end Go.Proofs.YtbkiahnljklhpaaDoor
