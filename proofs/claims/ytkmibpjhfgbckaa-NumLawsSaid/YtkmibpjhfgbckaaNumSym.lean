/- What num.Add and num.Mul have in common (plain), and the closures of the law (walks). -/
import Derived.Test.YtkmibpjhfgbckaaNumBox
namespace Go.Proofs.Ytkmibpjhfgbckaa
open Go.RowKit
open Seal
open Num
theorem lawNone_any (k : Int) (c1 c2 c3 c4 c5 : Value) (w : World) : Calls Try.prog 20 #[.agg #[.int .i64 k, c1, c2, c3, c4, c5]] w (BoolBe (noneB k) w) := by
  by_cases h : k = 2
  · subst h
    go_enter Try.func20, Try.ntmps20
    go_wp2_with fail
    go_ret
    exact ⟨rfl, (Below.refl _ _).alloc (Nat.le_refl _) _⟩
  by_cases h2 : k = 0
  · subst h2
    go_enter Try.func20, Try.ntmps20
    go_wp2_with fail
    go_ret
    exact ⟨rfl, (Below.refl _ _).alloc (Nat.le_refl _) _⟩
  have hB := Lib.hid (show noneB k = false by simp [noneB, h, h2])
  have e1 : ((k : Int) == 2) = false := by rw [beq_eq_false_iff_ne]; exact h
  have e2 : ((k : Int) == 0) = false := by rw [beq_eq_false_iff_ne]; exact h2
  rw [hB.out]
  go_enter Try.func20, Try.ntmps20
  go_wp2_with fail
  go_ret
  exact ⟨rfl, (Below.refl _ _).alloc (Nat.le_refl _) _⟩
theorem lawNumber_any (k : Int) (c1 c2 c3 c4 c5 : Value) (w : World) : Calls Try.prog 21 #[.agg #[.int .i64 k, c1, c2, c3, c4, c5]] w (BoolBe (numB k) w) := by
  by_cases h : k = 3
  · subst h
    go_enter Try.func21, Try.ntmps21
    go_wp2_with fail
    go_ret
    exact ⟨rfl, (Below.refl _ _).alloc (Nat.le_refl _) _⟩
  by_cases h2 : k = 4
  · subst h2
    go_enter Try.func21, Try.ntmps21
    go_wp2_with fail
    go_ret
    exact ⟨rfl, (Below.refl _ _).alloc (Nat.le_refl _) _⟩
  have hB := Lib.hid (show numB k = false by simp [numB, h, h2])
  have e1 : ((k : Int) == 3) = false := by rw [beq_eq_false_iff_ne]; exact h
  have e2 : ((k : Int) == 4) = false := by rw [beq_eq_false_iff_ne]; exact h2
  rw [hB.out]
  go_enter Try.func21, Try.ntmps21
  go_wp2_with fail
  go_ret
  exact ⟨rfl, (Below.refl _ _).alloc (Nat.le_refl _) _⟩
namespace Num
theorem sumR_swap (a b : Int) : sumR b a = sumR a b := by unfold sumR; rw [Int.add_comm b a]
theorem mulR_swap (a b : Int) : mulR b a = mulR a b := by unfold mulR; rw [Int.mul_comm b a]
theorem reck_swap (o : Int × Int) (a b : Int) : reck o a b = reck o b a := by
  unfold reck
  by_cases c1 : noneB a = true <;> by_cases c2 : noneB b = true <;> by_cases c3 : numB a = false <;> by_cases c4 : numB b = false <;> simp [c1, c2, c3, c4]
  by_cases c6 : a = 4 <;> by_cases c7 : b = 4 <;> simp [c6, c7]
def LF (ak bk k0 n0 e0 k1 n1 e1 : Int) : Prop :=
  (noneB ak = true ∨ noneB bk = true → (k0 = 2 ∧ n0 = 0 ∧ e0 = 0) ∧ k1 = 2 ∧ n1 = 0 ∧ e1 = 0) ∧
  (¬ noneB ak = true → ¬ noneB bk = true → numB ak = false ∨ numB bk = false → (k0 = 0 ∧ n0 = 0 ∧ e0 = 12) ∧ k1 = 0 ∧ n1 = 0 ∧ e1 = 12) ∧
  (¬ noneB ak = true → ¬ noneB bk = true → ¬ numB ak = false → ¬ numB bk = false →
    (e0 = 10 ∧ k0 = 0) ∨ (e0 = 0 ∧ k0 = 4 ∧ (ak = 4 ∨ bk = 4)) ∨ (e0 = 0 ∧ k0 = 4 ∧ ¬ ak = 4 ∧ ¬ bk = 4 ∧ n0 < -2147483648) ∨ (e0 = 0 ∧ k0 = 4 ∧ ¬ ak = 4 ∧ ¬ bk = 4 ∧ ¬ n0 < -2147483648 ∧ n0 ≥ 2147483648) ∨ (e0 = 0 ∧ k0 = 3 ∧ ¬ ak = 4 ∧ ¬ bk = 4 ∧ ¬ n0 < -2147483648 ∧ ¬ n0 ≥ 2147483648))
theorem reck_none (o : Int × Int) {ak bk : Int} (h : noneB ak = true ∨ noneB bk = true) : reck o ak bk = (2, 0, 0) := by
  unfold reck
  by_cases c1 : noneB ak = true
  · rw [if_pos c1]
  · rw [if_neg c1, if_pos (h.resolve_left c1)]
theorem reck_not (o : Int × Int) {ak bk : Int} (c1 : ¬ noneB ak = true) (c2 : ¬ noneB bk = true) (h : numB ak = false ∨ numB bk = false) : reck o ak bk = (0, 0, 12) := by
  unfold reck
  rw [if_neg c1, if_neg c2]
  by_cases c3 : numB ak = false
  · rw [if_pos c3]
  · rw [if_neg c3, if_pos (h.resolve_left c3)]
theorem laws_facts (an bn ak bk : Int) : LF ak bk (reck (sumR an bn) ak bk).1 (reck (sumR an bn) ak bk).2.1 (reck (sumR an bn) ak bk).2.2 (reck (mulR an bn) ak bk).1 (reck (mulR an bn) ak bk).2.1 (reck (mulR an bn) ak bk).2.2 := by
  refine ⟨fun h => ?_, fun c1 c2 h => ?_, fun c1 c2 c3 c4 => ?_⟩
  · rw [reck_none _ h, reck_none _ h]; exact ⟨⟨rfl, rfl, rfl⟩, rfl, rfl, rfl⟩
  · rw [reck_not _ c1 c2 h, reck_not _ c1 c2 h]; exact ⟨⟨rfl, rfl, rfl⟩, rfl, rfl, rfl⟩
  · unfold reck
    rw [if_neg c1, if_neg c2, if_neg c3, if_neg c4]
    by_cases hi : In (an + bn)
    · have e : sumR an bn = (an + bn, 0) := if_pos hi
      rw [e, if_neg (by simp)]
      by_cases c6 : ak = 4
      · rw [if_pos c6]; exact .inr (.inl ⟨rfl, rfl, .inl c6⟩)
      by_cases c7 : bk = 4
      · rw [if_neg c6, if_pos c7]; exact .inr (.inl ⟨rfl, rfl, .inr c7⟩)
      rw [if_neg c6, if_neg c7]
      by_cases hl : an + bn < -2147483648
      · exact .inr (.inr (.inl ⟨rfl, if_neg (by omega), c6, c7, hl⟩))
      by_cases hg : an + bn ≥ 2147483648
      · exact .inr (.inr (.inr (.inl ⟨rfl, if_neg (by omega), c6, c7, hl, hg⟩)))
      exact .inr (.inr (.inr (.inr ⟨rfl, if_pos (by omega), c6, c7, hl, hg⟩)))
    · have e : sumR an bn = (0, 10) := if_neg hi
      rw [e, if_pos (by simp)]; exact .inl ⟨rfl, rfl⟩
end Num
end Go.Proofs.Ytkmibpjhfgbckaa
