/- num.Abs, aqueductref5.Abs, Two at each operation (walks). -/
import Derived.Test.YtkmibpjhfgbckaaNumRkSize
import Derived.Test.YtkmibpjhfgbckaaNumTwoE
import Derived.Test.YtkmibpjhfgbckaaNumTwoSum
import Derived.Test.YtkmibpjhfgbckaaNumTwoDifference
import Derived.Test.YtkmibpjhfgbckaaNumTwoProduct
import Derived.Test.YtkmibpjhfgbckaaNumTwoQuotient
import Derived.Test.YtkmibpjhfgbckaaNumTwoRest
namespace Go.Proofs.Ytkmibpjhfgbckaa
open Go.RowKit
open Seal
open Num
def R2 (w : World) (ca : Array Value) (wr : World) : Prop := Got wr w.heap.size ca ∧ Got wr (w.heap.size + 1) #[.int .i64 0, .int .i64 0, .string ⟨#[]⟩, .slice none 0 0, .slice none 0 0, .slice none 0 0] ∧ Below w.heap.size w wr
theorem R2.step {w wr w' : World} {ca : Array Value} (h : R2 w ca wr) (hb : Below wr.heap.size wr w') : R2 w ca w' := ⟨h.1.keep hb, h.2.1.keep hb, h.2.2.trans (hb.mono h.2.2.size)⟩
theorem R2.new (w : World) (ca : Array Value) : R2 w ca ((w.alloc (.cells ca 26)).alloc (.cells #[.int .i64 0, .int .i64 0, .string ⟨#[]⟩, .slice none 0 0, .slice none 0 0, .slice none 0 0] 26)) := by
  have h1 := Got.new w ca
  have h2 := Got.new (w.alloc (.cells ca 26)) #[.int .i64 0, .int .i64 0, .string ⟨#[]⟩, .slice none 0 0, .slice none 0 0, .slice none 0 0]
  have k2 : Below (w.alloc (.cells ca 26)).heap.size (w.alloc (.cells ca 26)) ((w.alloc (.cells ca 26)).alloc (.cells #[.int .i64 0, .int .i64 0, .string ⟨#[]⟩, .slice none 0 0, .slice none 0 0, .slice none 0 0] 26)) := (Below.refl _ _).alloc (Nat.le_refl _) _
  have e1 : (w.alloc (.cells ca 26)).heap.size = w.heap.size + 1 := by simp
  rw [e1] at h2
  exact ⟨h1.keep k2, h2, ((Below.refl _ w).alloc (Nat.le_refl _) _).alloc (by simp) _⟩
theorem R2.all {w wr : World} {c0 c1 c2 c3 c4 c5 : Value} (h : R2 w #[c0, c1, c2, c3, c4, c5] wr) :
    Six6 wr w.heap.size c0 c1 c2 c3 c4 c5 ∧ Six6 wr (w.heap.size + 1) (.int .i64 0) (.int .i64 0) (.string ⟨#[]⟩) (.slice none 0 0) (.slice none 0 0) (.slice none 0 0) ∧
      wr.frozen? ⟨w.heap.size + 1, 0, none⟩ = false ∧ wr.frozen? ⟨w.heap.size + 1, 1, none⟩ = false ∧ wr.frozen? ⟨w.heap.size + 1, 2, none⟩ = false ∧ wr.frozen? ⟨w.heap.size + 1, 3, none⟩ = false ∧ wr.frozen? ⟨w.heap.size + 1, 4, none⟩ = false ∧ wr.frozen? ⟨w.heap.size + 1, 5, none⟩ = false :=
  ⟨h.1.six, h.2.1.six, h.2.1.frozen 0, h.2.1.frozen 1, h.2.1.frozen 2, h.2.1.frozen 3, h.2.1.frozen 4, h.2.1.frozen 5⟩
theorem refTwo_sum (ak an bk bn : Int) (p2 p3 p4 p5 q2 q3 q4 q5 : Value) (w : World) (ha : In an) (hb : In bn) : Calls Try.prog 15 #[.int .u8 43, .agg #[.int .i64 ak, .int .i64 an, p2, p3, p4, p5], .agg #[.int .i64 bk, .int .i64 bn, q2, q3, q4, q5]] w (ValE (reck (sumR an bn) ak bk) w) := by
  by_cases hn : noneB ak = true ∨ noneB bk = true ∨ numB ak = false ∨ numB bk = false
  · exact refTwo_early 43 _ ak an bk bn p2 p3 p4 p5 q2 q3 q4 q5 w hn
  have c1 : noneB ak = false := eq_false_of_ne_true (fun h => hn (.inl h))
  have c2 : noneB bk = false := eq_false_of_ne_true (fun h => hn (.inr (.inl h)))
  have c3 : numB ak = true := eq_true_of_ne_false (fun h => hn (.inr (.inr (.inl h))))
  have c4 : numB bk = true := eq_true_of_ne_false (fun h => hn (.inr (.inr (.inr h))))
  by_cases h : In (an + bn)
  · by_cases h0 : 0 ≤ bn
    · exact refTwo_sum_up ak an bk bn p2 p3 p4 p5 q2 q3 q4 q5 w ha hb c1 c2 c3 c4 h h0
    · exact refTwo_sum_down ak an bk bn p2 p3 p4 p5 q2 q3 q4 q5 w ha hb c1 c2 c3 c4 h h0
  · by_cases h0 : 0 ≤ bn
    · exact refTwo_sum_above ak an bk bn p2 p3 p4 p5 q2 q3 q4 q5 w ha hb c1 c2 c3 c4 h h0
    · exact refTwo_sum_below ak an bk bn p2 p3 p4 p5 q2 q3 q4 q5 w ha hb c1 c2 c3 c4 h h0
theorem refTwo_dif (ak an bk bn : Int) (p2 p3 p4 p5 q2 q3 q4 q5 : Value) (w : World) (ha : In an) (hb : In bn) : Calls Try.prog 15 #[.int .u8 45, .agg #[.int .i64 ak, .int .i64 an, p2, p3, p4, p5], .agg #[.int .i64 bk, .int .i64 bn, q2, q3, q4, q5]] w (ValE (reck (difR an bn) ak bk) w) := by
  by_cases hn : noneB ak = true ∨ noneB bk = true ∨ numB ak = false ∨ numB bk = false
  · exact refTwo_early 45 _ ak an bk bn p2 p3 p4 p5 q2 q3 q4 q5 w hn
  have c1 : noneB ak = false := eq_false_of_ne_true (fun h => hn (.inl h))
  have c2 : noneB bk = false := eq_false_of_ne_true (fun h => hn (.inr (.inl h)))
  have c3 : numB ak = true := eq_true_of_ne_false (fun h => hn (.inr (.inr (.inl h))))
  have c4 : numB bk = true := eq_true_of_ne_false (fun h => hn (.inr (.inr (.inr h))))
  by_cases h : In (an - bn)
  · by_cases h0 : bn ≤ 0
    · exact refTwo_dif_up ak an bk bn p2 p3 p4 p5 q2 q3 q4 q5 w ha hb c1 c2 c3 c4 h h0
    · exact refTwo_dif_down ak an bk bn p2 p3 p4 p5 q2 q3 q4 q5 w ha hb c1 c2 c3 c4 h h0
  · by_cases h0 : bn ≤ 0
    · exact refTwo_dif_above ak an bk bn p2 p3 p4 p5 q2 q3 q4 q5 w ha hb c1 c2 c3 c4 h h0
    · exact refTwo_dif_below ak an bk bn p2 p3 p4 p5 q2 q3 q4 q5 w ha hb c1 c2 c3 c4 h h0
theorem refTwo_mul (ak an bk bn : Int) (p2 p3 p4 p5 q2 q3 q4 q5 : Value) (w : World) (ha : In an) (hb : In bn) : Calls Try.prog 15 #[.int .u8 42, .agg #[.int .i64 ak, .int .i64 an, p2, p3, p4, p5], .agg #[.int .i64 bk, .int .i64 bn, q2, q3, q4, q5]] w (ValE (reck (mulR an bn) ak bk) w) := by
  by_cases hn : noneB ak = true ∨ noneB bk = true ∨ numB ak = false ∨ numB bk = false
  · exact refTwo_early 42 _ ak an bk bn p2 p3 p4 p5 q2 q3 q4 q5 w hn
  have c1 : noneB ak = false := eq_false_of_ne_true (fun h => hn (.inl h))
  have c2 : noneB bk = false := eq_false_of_ne_true (fun h => hn (.inr (.inl h)))
  have c3 : numB ak = true := eq_true_of_ne_false (fun h => hn (.inr (.inr (.inl h))))
  have c4 : numB bk = true := eq_true_of_ne_false (fun h => hn (.inr (.inr (.inr h))))
  by_cases h0 : an = 0
  · exact refTwo_mul_nought ak an bk bn p2 p3 p4 p5 q2 q3 q4 q5 w ha hb c1 c2 c3 c4 h0
  by_cases h : In (an * bn)
  · by_cases h1 : an = -1
    · have h2 : bn ≠ -9223372036854775808 := fun e => ((mul_asked ha hb h0).2 h).2 ⟨e, h1⟩
      exact refTwo_mul_minus ak an bk bn p2 p3 p4 p5 q2 q3 q4 q5 w ha hb c1 c2 c3 c4 h h0 h1 h2
    · exact refTwo_mul_other ak an bk bn p2 p3 p4 p5 q2 q3 q4 q5 w ha hb c1 c2 c3 c4 h h0 h1
  by_cases h1 : wrap64 ((wrap64 (an * bn)).tdiv an) = bn
  · by_cases h2 : bn = -9223372036854775808 ∧ an = -1
    · exact refTwo_mul_least ak an bk bn p2 p3 p4 p5 q2 q3 q4 q5 w ha hb c1 c2 c3 c4 h2.2 h2.1
    · exact absurd ((mul_asked ha hb h0).1 ⟨h1, h2⟩) h
  · exact refTwo_mul_not ak an bk bn p2 p3 p4 p5 q2 q3 q4 q5 w ha hb c1 c2 c3 c4 h h0 h1
theorem refTwo_quo (ak an bk bn : Int) (p2 p3 p4 p5 q2 q3 q4 q5 : Value) (w : World) (ha : In an) (hb : In bn) : Calls Try.prog 15 #[.int .u8 47, .agg #[.int .i64 ak, .int .i64 an, p2, p3, p4, p5], .agg #[.int .i64 bk, .int .i64 bn, q2, q3, q4, q5]] w (ValE (reck (quoR an bn) ak bk) w) := by
  by_cases hn : noneB ak = true ∨ noneB bk = true ∨ numB ak = false ∨ numB bk = false
  · exact refTwo_early 47 _ ak an bk bn p2 p3 p4 p5 q2 q3 q4 q5 w hn
  have c1 : noneB ak = false := eq_false_of_ne_true (fun h => hn (.inl h))
  have c2 : noneB bk = false := eq_false_of_ne_true (fun h => hn (.inr (.inl h)))
  have c3 : numB ak = true := eq_true_of_ne_false (fun h => hn (.inr (.inr (.inl h))))
  have c4 : numB bk = true := eq_true_of_ne_false (fun h => hn (.inr (.inr (.inr h))))
  by_cases h0 : bn = 0
  · exact refTwo_quo_nought ak an bk bn p2 p3 p4 p5 q2 q3 q4 q5 w ha hb c1 c2 c3 c4 h0
  by_cases h1 : an = -9223372036854775808
  · by_cases h2 : bn = -1
    · exact refTwo_quo_least ak an bk bn p2 p3 p4 p5 q2 q3 q4 q5 w ha hb c1 c2 c3 c4 h1 h2
    · exact refTwo_quo_minus ak an bk bn p2 p3 p4 p5 q2 q3 q4 q5 w ha hb c1 c2 c3 c4 h0 h1 h2
  · exact refTwo_quo_other ak an bk bn p2 p3 p4 p5 q2 q3 q4 q5 w ha hb c1 c2 c3 c4 h0 h1
theorem refTwo_rem (ak an bk bn : Int) (p2 p3 p4 p5 q2 q3 q4 q5 : Value) (w : World) (ha : In an) (hb : In bn) : Calls Try.prog 15 #[.int .u8 37, .agg #[.int .i64 ak, .int .i64 an, p2, p3, p4, p5], .agg #[.int .i64 bk, .int .i64 bn, q2, q3, q4, q5]] w (ValE (reck (remR an bn) ak bk) w) := by
  by_cases hn : noneB ak = true ∨ noneB bk = true ∨ numB ak = false ∨ numB bk = false
  · exact refTwo_early 37 _ ak an bk bn p2 p3 p4 p5 q2 q3 q4 q5 w hn
  have c1 : noneB ak = false := eq_false_of_ne_true (fun h => hn (.inl h))
  have c2 : noneB bk = false := eq_false_of_ne_true (fun h => hn (.inr (.inl h)))
  have c3 : numB ak = true := eq_true_of_ne_false (fun h => hn (.inr (.inr (.inl h))))
  have c4 : numB bk = true := eq_true_of_ne_false (fun h => hn (.inr (.inr (.inr h))))
  by_cases h0 : bn = 0
  · exact refTwo_rem_nought ak an bk bn p2 p3 p4 p5 q2 q3 q4 q5 w ha hb c1 c2 c3 c4 h0
  by_cases h2 : bn = -1
  · exact refTwo_rem_minus ak an bk bn p2 p3 p4 p5 q2 q3 q4 q5 w ha hb c1 c2 c3 c4 h2
  · exact refTwo_rem_other ak an bk bn p2 p3 p4 p5 q2 q3 q4 q5 w ha hb c1 c2 c3 c4 h0 h2
set_option maxRecDepth 100000 in
set_option maxHeartbeats 4000000 in
theorem numAbs_any (ak an : Int) (p2 p3 p4 p5 : Value) (w : World) (ha : In an) : Calls Try.prog 14 #[.agg #[.int .i64 ak, .int .i64 an, p2, p3, p4, p5]] w (ValE (reck (absR an) ak ak) w) := by
  have HR0 := Lib.hid (R2.new w #[Value.int .i64 ak, .int .i64 an, p2, p3, p4, p5])
  have HC := Lib.hid (fun w => reckon_size ak an ak an p2 p3 p4 p5 p2 p3 p4 p5 w ha ha)
  clear ha
  generalize reck (absR an) ak ak = r at *
  obtain ⟨k, n, e⟩ := r
  go_enter Try.func14, Try.ntmps14
  go_wp2_with fail
  generalize hW : ((w.alloc (.cells #[Value.int .i64 ak, .int .i64 an, p2, p3, p4, p5] 26)).alloc (.cells #[Value.int .i64 0, .int .i64 0, .string ⟨#[]⟩, .slice none 0 0, .slice none 0 0, .slice none 0 0] 26)) = W0 at *
  clear hW
  obtain ⟨⟨a0, a1, a2, a3, a4, a5⟩, ⟨z0, z1, z2, z3, z4, z5⟩, f0, f1, f2, f3, f4, f5⟩ := HR0.out.all
  go_wp2_with fail
  go_at_call 26
  refine (HC.out _).mono ?_
  rintro ee w1 ⟨rfl, hb⟩
  clear a0 a1 a2 a3 a4 a5 z0 z1 z2 z3 z4 z5 f0 f1 f2 f3 f4 f5
  have HR1 := Lib.hid (HR0.out.step hb)
  clear hb
  obtain ⟨⟨a0, a1, a2, a3, a4, a5⟩, ⟨z0, z1, z2, z3, z4, z5⟩, f0, f1, f2, f3, f4, f5⟩ := HR1.out.all
  go_wp2_with fail
  exact bodyPost_ret (v := .tuple #[.agg #[.int .i64 k, .int .i64 n, .string ⟨#[]⟩, .slice none 0 0, .slice none 0 0, .slice none 0 0], .int .i64 e]) (by simp [results, Try.results14, go_sem, *]) rfl (val_e rfl (below_six HR1.out.2.2 (by omega) _ _ _ _ _ _))
theorem abs_down {an : Int} (ak : Int) (h : an < 0) : reck (absR an) ak ak = reck (difR 0 an) 3 ak := by
  have e : absR an = difR 0 an := if_pos h
  rw [e]
  unfold reck
  have h1 : noneB 3 = false := rfl
  have h2 : numB 3 = true := rfl
  rw [h1, h2]
  generalize difR 0 an = o
  by_cases c1 : noneB ak = true
  · simp [c1]
  · by_cases c3 : numB ak = false
    · simp [c1, c3]
    · by_cases c4 : ak = 4
      · subst c4; rfl
      · simp [c1, c3, c4]
theorem abs_up {an : Int} (ak : Int) (h : ¬ an < 0) (ha : In an) : reck (absR an) ak ak = reck (sumR an 0) ak 3 := by
  have e : absR an = (an, 0) := if_neg h
  have e2 : sumR an 0 = (an, 0) := by rw [sumR, Int.add_zero, if_pos ha]
  rw [e, e2]
  unfold reck
  have h1 : noneB 3 = false := rfl
  have h2 : numB 3 = true := rfl
  rw [h1, h2]
  by_cases c1 : noneB ak = true
  · simp [c1]
  · by_cases c3 : numB ak = false
    · simp [c1, c3]
    · by_cases c4 : ak = 4
      · subst c4; rfl
      · simp [c1, c3, c4]
set_option maxRecDepth 100000 in
set_option maxHeartbeats 4000000 in
theorem refAbs_any (ak an : Int) (p2 p3 p4 p5 : Value) (w : World) (ha : In an) : Calls Try.prog 17 #[.agg #[.int .i64 ak, .int .i64 an, p2, p3, p4, p5]] w (ValE (reck (absR an) ak ak) w) := by
  have HR0 := Lib.hid (R2.new w #[Value.int .i64 ak, .int .i64 an, p2, p3, p4, p5])
  by_cases h : an < 0
  · rw [abs_down ak h]
    have HC := Lib.hid (fun w => refTwo_dif 3 0 ak an (.string ⟨#[]⟩) (.slice none 0 0) (.slice none 0 0) (.slice none 0 0) p2 p3 p4 p5 w (by decide) ha)
    clear ha
    generalize reck (difR 0 an) 3 ak = r at *
    obtain ⟨k, n, e⟩ := r
    go_enter Try.func17, Try.ntmps17
    go_wp2_with fail
    generalize hW : ((w.alloc (.cells #[Value.int .i64 ak, .int .i64 an, p2, p3, p4, p5] 26)).alloc (.cells #[Value.int .i64 0, .int .i64 0, .string ⟨#[]⟩, .slice none 0 0, .slice none 0 0, .slice none 0 0] 26)) = W0 at *
    clear hW
    obtain ⟨⟨a0, a1, a2, a3, a4, a5⟩, ⟨z0, z1, z2, z3, z4, z5⟩, f0, f1, f2, f3, f4, f5⟩ := HR0.out.all
    go_wp2_with fail
    go_at_call 15
    refine (HC.out _).mono ?_
    rintro ee w1 ⟨rfl, hb⟩
    clear a0 a1 a2 a3 a4 a5 z0 z1 z2 z3 z4 z5 f0 f1 f2 f3 f4 f5
    have HR1 := Lib.hid (HR0.out.step hb)
    clear hb
    obtain ⟨⟨a0, a1, a2, a3, a4, a5⟩, ⟨z0, z1, z2, z3, z4, z5⟩, f0, f1, f2, f3, f4, f5⟩ := HR1.out.all
    go_wp2_with fail
    exact bodyPost_ret (v := .tuple #[.agg #[.int .i64 k, .int .i64 n, .string ⟨#[]⟩, .slice none 0 0, .slice none 0 0, .slice none 0 0], .int .i64 e]) (by simp [results, Try.results17, go_sem, *]) rfl (val_e rfl (below_six HR1.out.2.2 (by omega) _ _ _ _ _ _))
  · rw [abs_up ak h ha]
    have HC := Lib.hid (fun w => refTwo_sum ak an 3 0 p2 p3 p4 p5 (.string ⟨#[]⟩) (.slice none 0 0) (.slice none 0 0) (.slice none 0 0) w ha (by decide))
    clear ha
    generalize reck (sumR an 0) ak 3 = r at *
    obtain ⟨k, n, e⟩ := r
    go_enter Try.func17, Try.ntmps17
    go_wp2_with fail
    generalize hW : ((w.alloc (.cells #[Value.int .i64 ak, .int .i64 an, p2, p3, p4, p5] 26)).alloc (.cells #[Value.int .i64 0, .int .i64 0, .string ⟨#[]⟩, .slice none 0 0, .slice none 0 0, .slice none 0 0] 26)) = W0 at *
    clear hW
    obtain ⟨⟨a0, a1, a2, a3, a4, a5⟩, ⟨z0, z1, z2, z3, z4, z5⟩, f0, f1, f2, f3, f4, f5⟩ := HR0.out.all
    go_wp2_with fail
    go_at_call 15
    refine (HC.out _).mono ?_
    rintro ee w1 ⟨rfl, hb⟩
    clear a0 a1 a2 a3 a4 a5 z0 z1 z2 z3 z4 z5 f0 f1 f2 f3 f4 f5
    have HR1 := Lib.hid (HR0.out.step hb)
    clear hb
    obtain ⟨⟨a0, a1, a2, a3, a4, a5⟩, ⟨z0, z1, z2, z3, z4, z5⟩, f0, f1, f2, f3, f4, f5⟩ := HR1.out.all
    go_wp2_with fail
    exact bodyPost_ret (v := .tuple #[.agg #[.int .i64 k, .int .i64 n, .string ⟨#[]⟩, .slice none 0 0, .slice none 0 0, .slice none 0 0], .int .i64 e]) (by simp [results, Try.results17, go_sem, *]) rfl (val_e rfl (below_six HR1.out.2.2 (by omega) _ _ _ _ _ _))
end Go.Proofs.Ytkmibpjhfgbckaa
