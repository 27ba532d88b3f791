/- A PAGE OF A TAPE THAT IS TURNED WITHIN 32 BITS (no walk). -/
import Derived.Test.YtlfjffpbofigmaaDoorTapeMath
import Derived.Test.YtlfjffpbofigmaaDoorDiskTurn
namespace Go.Proofs.YtlfjffpbofigmaaDoor
open Go.RowKit
open Seal
namespace Disk
theorem set_self (l : List Nat) (i : Nat) : l.set i (l.getD i 0) = l := by
  apply List.ext_getElem?
  intro j
  rw [List.getElem?_set]
  by_cases e : i = j
  · subst e
    by_cases h : i < l.length
    · rw [if_pos rfl, if_pos h, List.getD_eq_getElem?_getD, List.getElem?_eq_getElem h]; rfl
    · rw [if_pos rfl, if_neg h, List.getElem?_eq_none (by omega)]
  · rw [if_neg e]
theorem num_turnN (bit mask : Nat) (l : List Nat) (ho : Oct l) (hb : bit + 32 ≤ 8 * l.length) (n : Nat) (hn : n ≤ 32) : num (turnN bit mask l n) = num l ^^^ 2 ^ bit * (mask % 2 ^ n) := by
  induction n with
  | zero => simp [turnN, Nat.mod_one]
  | succ n ih =>
    have ih := ih (by omega)
    have hl := length_turnN bit mask l n
    have hoct := oct_turnN bit mask l n ho
    rw [turnN_succ]
    unfold turnStep
    rw [if_pos (by rw [hl]; omega)]
    rcases Nat.mod_two_eq_zero_or_one (mask / 2 ^ n) with h0 | h1
    · rw [h0, Nat.zero_mul, Nat.xor_zero, set_self, ih, mod_bit0 mask n h0]
    · rw [h1, Nat.one_mul, num_turn _ _ hoct (by rw [hl]; omega), ih, mod_bit1 mask n h1, mul_xor, ← Nat.pow_add, Nat.xor_assoc]
theorem num_turnB (bit mask : Nat) (l : List Nat) (ho : Oct l) (hb : bit + 32 ≤ 8 * l.length) (hm : mask < 4294967296) : num l ^^^ num (turnB bit mask l) = 2 ^ bit * mask := by
  unfold turnB
  rw [num_turnN bit mask l ho hb 32 (Nat.le_refl _), Nat.mod_eq_of_lt hm, ← Nat.xor_assoc, Nat.xor_self, Nat.zero_xor]
end Disk
namespace Tape
theorem open_torn {page next bit mask : Nat} {data : List Nat} (hp : pageOk page = true) (hd : data.length + 10 ≤ page) (hb : Oct data) (hbit : bit + 32 ≤ 8 * page) (h0 : mask ≠ 0) (hm : mask < 4294967296) : openB (Disk.turnB bit mask (closeB page next data)) = (0, [], 18) := by
  have hl := length_closeB page next data hd
  have ho := oct_closeB page next data hb
  have hpb := pageOk_bounds hp
  have hlt : (Disk.turnB bit mask (closeB page next data)).length = page := by unfold Disk.turnB; rw [Disk.length_turnN, hl]
  refine open_told (by rw [hlt]; exact hp) ?_
  exact told (closeB page next data) _ (by rw [hl, hlt]) ho (by unfold Disk.turnB; exact Disk.oct_turnN _ _ _ _ ho) (by omega) mask bit hm h0 (by rw [hl]; exact hbit) (Disk.num_turnB bit mask _ ho (by rw [hl]; exact hbit) hm) (sum_good hd hb)
theorem chunk_room {page : Nat} {S : List Nat} (hp : pageOk page = true) (i : Nat) : (chunk (page - 10) S i).length + 10 ≤ page := by
  have hpb := pageOk_bounds hp
  rw [length_chunk]; omega
theorem nodup_at {P : List Nat} (h : P.Nodup) {i j : Nat} (hi : i < P.length) (hj : j < P.length) (hne : j ≠ i) : P.getD j 0 ≠ P.getD i 0 := by
  rw [List.getD_eq_getElem?_getD, List.getD_eq_getElem?_getD, List.getElem?_eq_getElem hi, List.getElem?_eq_getElem hj]
  intro e
  have e' : P[j] = P[i] := e
  rcases Nat.lt_or_gt_of_ne hne with hlt | hgt
  · exact List.pairwise_iff_getElem.1 h j i hj hi hlt e'
  · exact List.pairwise_iff_getElem.1 h i j hi hj hgt e'.symm
/-- The disk's state behind the turn of a tape's page. -/
def tornSt (s : Disk.St) (P S : List Nat) (i bit mask : Nat) : Disk.St :=
  { s with pages := Disk.put s.pages (P.getD i 0) (some (Disk.turnB bit mask (closeB s.page (nextOf P i) (chunk (s.page - 10) S i)))) }
theorem torn_at {s : Disk.St} {P S : List Nat} {i : Nat} (bit mask : Nat) (hT : Tp s P S) (hi : i < P.length) : (tornSt s P S i bit mask).pages.getD (P.getD i 0) none = some (Disk.turnB bit mask (closeB s.page (nextOf P i) (chunk (s.page - 10) S i))) :=
  Disk.getD_put_same _ (Nat.le_of_lt (Disk.used_lt (hT.used _ (getD_mem hi))))
theorem torn_tp {s : Disk.St} {P S : List Nat} {i bit mask : Nat} (hT : Tp s P S) (hc : Disk.Calm s) (hi : i < P.length) (hp : pageOk s.page = true) (hbit : bit + 32 ≤ 8 * s.page) (h0 : mask ≠ 0) (hm : mask < 4294967296) :
    Tp (tornSt s P S i bit mask) P S := by
  refine ⟨hT.nodup, fun n hn => ?_, hT.len, fun j hj => ?_, hT.oct⟩
  · show Disk.used (Disk.put _ _ _) n = true
    rw [Disk.used_put _ (Nat.le_of_lt (Disk.used_lt (hT.used _ (getD_mem hi))))]
    split
    · rfl
    · exact hT.used n hn
  · by_cases e : j = i
    · subst e
      exact .inr ⟨hc, _, torn_at bit mask hT hj, open_torn hp (chunk_room hp _) (oct_chunk hT.oct _ _) hbit h0 hm⟩
    · have hg : (tornSt s P S i bit mask).pages.getD (P.getD j 0) none = s.pages.getD (P.getD j 0) none := Disk.getD_put_other _ (nodup_at hT.nodup hi hj e)
      rcases hT.page j hj with h | ⟨_, bs, h1, h2⟩
      · exact .inl (by unfold Good at h ⊢; rw [hg]; exact h)
      · exact .inr ⟨hc, bs, by rw [hg]; exact h1, h2⟩
theorem torn_bad {s : Disk.St} {P S : List Nat} {i bit mask : Nat} (hT : Tp s P S) (hi : i < P.length) (hp : pageOk s.page = true) (hbit : bit + 32 ≤ 8 * s.page) (h0 : mask ≠ 0) (hm : mask < 4294967296) (hn : nextOf P i ≤ 16384) :
    ¬ Good (tornSt s P S i bit mask) P S i := by
  intro h
  unfold Good at h
  rw [torn_at bit mask hT hi] at h
  have h1 := open_torn (next := nextOf P i) (data := chunk (s.page - 10) S i) hp (chunk_room hp _) (oct_chunk hT.oct _ _) hbit h0 hm
  have h2 := open_good (next := nextOf P i) (data := chunk (s.page - 10) S i) hp hn (chunk_room hp _) (oct_chunk hT.oct _ _)
  rw [Option.some.inj h] at h1
  have h3 := h2.symm.trans h1
  simp at h3
end Tape
end Go.Proofs.YtlfjffpbofigmaaDoor
