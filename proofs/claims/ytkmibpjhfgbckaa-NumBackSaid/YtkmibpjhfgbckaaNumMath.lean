/- Numbers that are watched (plain mathematics): what fits into 64 bits, and how the program asks it. -/
import Derived.RowKit
import Derived.IntWalk
import Derived.Laws.Entries
namespace Go.Proofs.Ytkmibpjhfgbckaa
open Go.RowKit
namespace Num
def In (n : Int) : Prop := -9223372036854775808 ≤ n ∧ n ≤ 9223372036854775807
instance (n : Int) : Decidable (In n) := by unfold In; exact inferInstance
theorem wrap_in (n : Int) : In (wrap64 n) := by unfold In wrap64; omega
theorem wrap_toNat (X : BitVec 64) : IntKind.i64.wrap (X.toNat : Int) = X.toInt := by
  rw [IntWalk.i64_left, BitVec.toInt_eq_toNat_cond]
  have := X.isLt
  unfold wrap64
  split <;> omega
theorem bits_xor (a b : Int) : bits .xor .i64 a b = (BitVec.ofInt 64 a ^^^ BitVec.ofInt 64 b).toInt := wrap_toNat _
theorem bits_and (a b : Int) : bits .and .i64 a b = (BitVec.ofInt 64 a &&& BitVec.ofInt 64 b).toInt := wrap_toNat _
theorem msb_of {a : Int} (h : In a) : (BitVec.ofInt 64 a).msb = decide (a < 0) := by
  rw [BitVec.msb_eq_toInt, BitVec.toInt_ofInt]
  unfold In at h
  have : a.bmod (2 ^ 64) = a := by
    apply Int.bmod_eq_of_le <;> omega
  rw [this]
theorem sign_two {a b n : Int} (ha : In a) (hb : In b) (hn : In n) : (bits .and .i64 (bits .xor .i64 a n) (bits .xor .i64 b n) < 0) ↔ ((a < 0 ∧ 0 ≤ n ∧ b < 0) ∨ (0 ≤ a ∧ n < 0 ∧ 0 ≤ b)) := by
  have e : (bits .and .i64 (bits .xor .i64 a n) (bits .xor .i64 b n) < 0) ↔ (BitVec.ofInt 64 (bits .xor .i64 a n) &&& BitVec.ofInt 64 (bits .xor .i64 b n)).msb = true := by
    rw [bits_and, BitVec.msb_eq_toInt, decide_eq_true_eq]
  rw [e, bits_xor, bits_xor, BitVec.ofInt_toInt, BitVec.ofInt_toInt, BitVec.msb_and, BitVec.msb_xor, BitVec.msb_xor, msb_of ha, msb_of hb, msb_of hn]
  by_cases h1 : a < 0 <;> by_cases h2 : b < 0 <;> by_cases h3 : n < 0 <;> simp [h1, h2, h3] <;> omega
theorem sum_sign {a b : Int} (ha : In a) (hb : In b) : 0 ≤ bits .and .i64 (bits .xor .i64 a (wrap64 (a + b))) (bits .xor .i64 b (wrap64 (a + b))) ↔ In (a + b) := by
  have h := sign_two ha hb (wrap_in (a + b))
  rw [← Int.not_lt, h]
  unfold In at *
  unfold wrap64
  omega
theorem sign_dif {a b n : Int} (ha : In a) (hb : In b) (hn : In n) : (bits .and .i64 (bits .xor .i64 a b) (bits .xor .i64 a n) < 0) ↔ ((a < 0 ∧ 0 ≤ n ∧ 0 ≤ b) ∨ (0 ≤ a ∧ n < 0 ∧ b < 0)) := by
  have e : (bits .and .i64 (bits .xor .i64 a b) (bits .xor .i64 a n) < 0) ↔ (BitVec.ofInt 64 (bits .xor .i64 a b) &&& BitVec.ofInt 64 (bits .xor .i64 a n)).msb = true := by
    rw [bits_and, BitVec.msb_eq_toInt, decide_eq_true_eq]
  rw [e, bits_xor, bits_xor, BitVec.ofInt_toInt, BitVec.ofInt_toInt, BitVec.msb_and, BitVec.msb_xor, BitVec.msb_xor, msb_of ha, msb_of hb, msb_of hn]
  by_cases h1 : a < 0 <;> by_cases h2 : b < 0 <;> by_cases h3 : n < 0 <;> simp [h1, h2, h3] <;> omega
theorem dif_sign {a b : Int} (ha : In a) (hb : In b) : 0 ≤ bits .and .i64 (bits .xor .i64 a b) (bits .xor .i64 a (wrap64 (a - b))) ↔ In (a - b) := by
  have h := sign_dif ha hb (wrap_in (a - b))
  rw [← Int.not_lt, h]
  unfold In at *
  unfold wrap64
  omega
theorem tdiv_in {a b : Int} (ha : In a) (h : ¬ (a = -9223372036854775808 ∧ b = -1)) : In (a.tdiv b) := by
  unfold In at *
  have h1 : (a.tdiv b).natAbs ≤ a.natAbs := by
    rw [Int.natAbs_tdiv]; exact Nat.div_le_self _ _
  by_cases hm : a = -9223372036854775808
  · have hb : b ≠ -1 := fun e => h ⟨hm, e⟩
    by_cases h0 : b = 0
    · subst h0; simp
    by_cases hp : b = 1
    · subst hp; simp; omega
    have h2 : 2 ≤ b.natAbs := by omega
    have h3 : (a.tdiv b).natAbs ≤ a.natAbs / 2 := by
      rw [Int.natAbs_tdiv]; exact Nat.div_le_div_left h2 (by omega)
    omega
  · omega
theorem tdiv_not {a b : Int} (h : a = -9223372036854775808 ∧ b = -1) : ¬ In (a.tdiv b) := by
  obtain ⟨rfl, rfl⟩ := h; decide
theorem tmod_in {a b : Int} (ha : In a) : In (a.tmod b) := by
  unfold In at *
  have h1 : (a.tmod b).natAbs ≤ a.natAbs := by
    rw [Int.natAbs_tmod]; exact Nat.mod_le _ _
  rcases Int.le_total 0 a with h | h
  · have := Int.tmod_nonneg b h
    omega
  · have := Int.tmod_nonneg b (a := -a) (by omega)
    rw [Int.neg_tmod] at this
    omega
/-- How a product is asked. -/
theorem mul_asked {a b : Int} (hA : In a) (hb : In b) (h0 : a ≠ 0) : (wrap64 ((wrap64 (a * b)).tdiv a) = b ∧ ¬ (b = -9223372036854775808 ∧ a = -1)) ↔ In (a * b) := by
  constructor
  · rintro ⟨h1, h2⟩
    by_cases hm : a = -1
    · subst hm
      unfold In at *
      have : b ≠ -9223372036854775808 := fun e => h2 ⟨e, rfl⟩
      omega
    have hn := wrap_in (a * b)
    have hq : In ((wrap64 (a * b)).tdiv a) := tdiv_in hn (fun h => hm h.2)
    rw [IntWalk.wrap64_in _ hq] at h1
    have hd := Int.mul_tdiv_add_tmod (wrap64 (a * b)) a
    rw [h1] at hd
    have ha : ((wrap64 (a * b)).tmod a).natAbs < a.natAbs := by
      rw [Int.natAbs_tmod]; exact Nat.mod_lt _ (by omega)
    generalize hm2 : a * b = m at *
    generalize (wrap64 m).tmod a = r at *
    have hk : ∃ k : Int, wrap64 m = m + k * 18446744073709551616 := ⟨-((m + 9223372036854775808) / 18446744073709551616), by unfold wrap64; omega⟩
    obtain ⟨k, hk⟩ := hk
    have hk0 : k = 0 := by unfold In at hA; omega
    subst hk0
    unfold In at *
    omega
  · intro h
    rw [IntWalk.wrap64_in _ h, Int.mul_tdiv_cancel_left _ h0, IntWalk.wrap64_in _ hb]
    refine ⟨rfl, ?_⟩
    rintro ⟨rfl, rfl⟩
    exact absurd h (by decide)
end Num
end Go.Proofs.Ytkmibpjhfgbckaa
