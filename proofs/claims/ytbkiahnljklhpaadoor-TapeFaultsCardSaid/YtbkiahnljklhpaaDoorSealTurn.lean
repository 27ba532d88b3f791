/- PLAIN MATHEMATICS: one bit of a page turned after another. -/
import Derived.Test.YtbkiahnljklhpaaDoorSealMath
namespace Go.Proofs.YtbkiahnljklhpaaDoor.Seal
/-- Bytes of zero but one. -/
def onlyL (n j v : Nat) : List Nat := (List.replicate n 0).set j v
theorem num_only (n j v : Nat) (hj : j < n) : num (onlyL n j v) = 256 ^ j * v := by
  induction n generalizing j with
  | zero => omega
  | succ n ih => cases j with
    | zero => simp [onlyL, List.replicate_succ, num, num_zeros]
    | succ j =>
      have := ih j (by omega)
      simp only [onlyL, List.replicate_succ, List.set_cons_succ, num] at this ⊢
      rw [this, Nat.pow_succ, Nat.zero_add, Nat.mul_assoc (256 ^ j), Nat.mul_left_comm]
theorem length_only (n j v : Nat) : (onlyL n j v).length = n := by simp [onlyL]
theorem oct_only (n j v : Nat) (hv : v < 256) : Oct (onlyL n j v) := by
  intro c hc
  rcases List.mem_or_eq_of_mem_set hc with h | h
  · rw [(List.mem_replicate.1 h).2]; decide
  · omega
theorem set_xor (l : List Nat) (j v : Nat) (hj : j < l.length) : l.set j (l.getD j 0 ^^^ v) = xorL l (onlyL l.length j v) := by
  induction l generalizing j with
  | nil => simp at hj
  | cons c r ih => cases j with
    | zero =>
      simp only [onlyL, List.length_cons, List.replicate_succ, List.set_cons_zero, xorL, List.getD_cons_zero]
      congr 1
      clear ih hj
      induction r with
      | nil => rfl
      | cons a r ih => simp [List.replicate_succ, xorL]; exact ih
    | succ j =>
      have := ih j (by simpa using hj)
      simp only [onlyL, List.length_cons, List.replicate_succ, List.set_cons_succ, xorL, List.getD_cons_succ, Nat.xor_zero] at this ⊢
      rw [this]
/-- One bit turned. -/
theorem num_turn (l : List Nat) (at_ : Nat) (h : Oct l) (hj : at_ / 8 < l.length) :
    num (l.set (at_ / 8) (l.getD (at_ / 8) 0 ^^^ 2 ^ (at_ % 8))) = num l ^^^ 2 ^ at_ := by
  have hv : 2 ^ (at_ % 8) < 256 := by
    have : 2 ^ (at_ % 8) ≤ 2 ^ 7 := Nat.pow_le_pow_right (by decide) (by omega)
    omega
  rw [set_xor l _ _ hj, num_xorL _ _ (length_only _ _ _).symm h (oct_only _ _ _ hv), num_only _ _ _ hj]
  congr 1
  rw [show (256 : Nat) = 2 ^ 8 from rfl, ← Nat.pow_mul, ← Nat.pow_add]
  congr 1; omega
theorem oct_turn (l : List Nat) (at_ : Nat) (h : Oct l) (hj : at_ / 8 < l.length) : Oct (l.set (at_ / 8) (l.getD (at_ / 8) 0 ^^^ 2 ^ (at_ % 8))) := by
  have hv : 2 ^ (at_ % 8) < 256 := by
    have : 2 ^ (at_ % 8) ≤ 2 ^ 7 := Nat.pow_le_pow_right (by decide) (by omega)
    omega
  rw [set_xor l _ _ hj]
  exact oct_xorL _ _ h (oct_only _ _ _ hv)
/-- The low k bits of m, and one more. -/
theorem mod_succ (m k : Nat) : m % 2 ^ (k + 1) = m % 2 ^ k + 2 ^ k * (m / 2 ^ k % 2) := by
  rw [Nat.pow_succ, Nat.mod_mul]
theorem mod_bit1 (m k : Nat) (h : m / 2 ^ k % 2 = 1) : m % 2 ^ (k + 1) = (m % 2 ^ k) ^^^ 2 ^ k := by
  have hp : 0 < 2 ^ k := Nat.two_pow_pos k
  have := add_xor k 1 (m % 2 ^ k) (Nat.mod_lt _ hp)
  rw [mod_succ, h, Nat.mul_one, Nat.add_comm]
  rw [Nat.mul_one] at this
  exact this
theorem mod_bit0 (m k : Nat) (h : m / 2 ^ k % 2 = 0) : m % 2 ^ (k + 1) = m % 2 ^ k := by
  rw [mod_succ, h, Nat.mul_zero, Nat.add_zero]
theorem mul_xor (k a b : Nat) : 2 ^ k * (a ^^^ b) = 2 ^ k * a ^^^ 2 ^ k * b := by
  apply Nat.eq_of_testBit_eq
  intro j
  rw [Nat.testBit_xor, Nat.testBit_two_pow_mul, Nat.testBit_two_pow_mul, Nat.testBit_two_pow_mul, Nat.testBit_xor]
  by_cases h : k ≤ j <;> simp [h]
end Go.Proofs.YtbkiahnljklhpaaDoor.Seal
