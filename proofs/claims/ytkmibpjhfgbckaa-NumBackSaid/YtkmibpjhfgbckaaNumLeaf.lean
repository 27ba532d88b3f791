/- num's operations of two numbers; Of; what a value is (walks). -/
import Derived.Test.YtkmibpjhfgbckaaNumMath
import Derived.Test.YtkmibpjhfgbckaaSixIs
import Derived.Deep.QuietTactic
import Derived.BigQuiet
namespace Go.Proofs.Ytkmibpjhfgbckaa
open Go.RowKit
open Seal
namespace Num
def sumR (a b : Int) : Int × Int := if In (a + b) then (a + b, 0) else (0, 10)
def difR (a b : Int) : Int × Int := if In (a - b) then (a - b, 0) else (0, 10)
def mulR (a b : Int) : Int × Int := if In (a * b) then (a * b, 0) else (0, 10)
def quoR (a b : Int) : Int × Int := if b = 0 then (0, 11) else if In (a.tdiv b) then (a.tdiv b, 0) else (0, 10)
def remR (a b : Int) : Int × Int := if b = 0 then (0, 11) else (a.tmod b, 0)
def absR (a : Int) : Int × Int := if a < 0 then difR 0 a else (a, 0)
def ofK (n : Int) : Int := if -2147483648 ≤ n ∧ n < 2147483648 then 3 else 4
end Num
open Num
def PairIs (r : Int × Int) (w : World) (e : Ending) (w' : World) : Prop := e = .returned (.tuple #[.int .i64 r.1, .int .i64 r.2]) ∧ w = w'
def BoolIs (b : Bool) (w : World) (e : Ending) (w' : World) : Prop := e = .returned (.bool b) ∧ w = w'
def BoolBe (b : Bool) (w : World) (e : Ending) (w' : World) : Prop := e = .returned (.bool b) ∧ Below w.heap.size w w'
theorem pair_is {r : Int × Int} {n m : Int} {w : World} (h : r = (n, m)) : PairIs r w (.returned (.tuple #[.int .i64 n, .int .i64 m])) w := by subst h; exact ⟨rfl, rfl⟩
theorem watched_yes (n : Int) (w : World) : Calls Try.prog 37 #[.int .i64 n, .bool true] w (PairIs (n, 0) w) := by
  go_enter Try.func37, Try.ntmps37
  go_wp2
  go_ret2
  exact ⟨rfl, rfl⟩
theorem watched_no (n : Int) (w : World) : Calls Try.prog 37 #[.int .i64 n, .bool false] w (PairIs (0, 10) w) := by
  go_enter Try.func37, Try.ntmps37
  go_wp2
  go_ret2
  exact ⟨rfl, rfl⟩
theorem sum_any (a b : Int) (w : World) (ha : In a) (hb : In b) : Calls Try.prog 27 #[.int .i64 a, .int .i64 b] w (PairIs (sumR a b) w) := by
  have hs := sum_sign ha hb
  by_cases h : In (a + b)
  · have hR := Lib.hid (show sumR a b = (a + b, 0) from if_pos h)
    have hd : decide (bits .and .i64 (bits .xor .i64 a (wrap64 (a + b))) (bits .xor .i64 b (wrap64 (a + b))) ≥ 0) = true := decide_eq_true (hs.2 h)
    rw [IntWalk.wrap64_in _ h] at hd
    have hw : IntKind.i64.wrap (a + b) = a + b := IntWalk.i64_in _ h
    clear hs ha hb h
    go_enter Try.func27, Try.ntmps27
    go_wp2_with (go_at_call 37; refine (watched_yes _ _).mono ?_; rintro e w' ⟨rfl, rfl⟩)
    go_ret2
    exact pair_is hR.out
  · have hR := Lib.hid (show sumR a b = (0, 10) from if_neg h)
    have hd : decide (bits .and .i64 (bits .xor .i64 a (wrap64 (a + b))) (bits .xor .i64 b (wrap64 (a + b))) ≥ 0) = false := decide_eq_false (fun x => h (hs.1 x))
    clear hs ha hb h
    go_enter Try.func27, Try.ntmps27
    go_wp2_with (go_at_call 37; refine (watched_no _ _).mono ?_; rintro e w' ⟨rfl, rfl⟩)
    go_ret2
    exact pair_is hR.out
theorem dif_any (a b : Int) (w : World) (ha : In a) (hb : In b) : Calls Try.prog 28 #[.int .i64 a, .int .i64 b] w (PairIs (difR a b) w) := by
  have hs := dif_sign ha hb
  by_cases h : In (a - b)
  · have hR := Lib.hid (show difR a b = (a - b, 0) from if_pos h)
    have hd : decide (bits .and .i64 (bits .xor .i64 a b) (bits .xor .i64 a (wrap64 (a - b))) ≥ 0) = true := decide_eq_true (hs.2 h)
    rw [IntWalk.wrap64_in _ h] at hd
    have hw : IntKind.i64.wrap (a - b) = a - b := IntWalk.i64_in _ h
    clear hs ha hb h
    go_enter Try.func28, Try.ntmps28
    go_wp2_with (go_at_call 37; refine (watched_yes _ _).mono ?_; rintro e w' ⟨rfl, rfl⟩)
    go_ret2
    exact pair_is hR.out
  · have hR := Lib.hid (show difR a b = (0, 10) from if_neg h)
    have hd : decide (bits .and .i64 (bits .xor .i64 a b) (bits .xor .i64 a (wrap64 (a - b))) ≥ 0) = false := decide_eq_false (fun x => h (hs.1 x))
    clear hs ha hb h
    go_enter Try.func28, Try.ntmps28
    go_wp2_with (go_at_call 37; refine (watched_no _ _).mono ?_; rintro e w' ⟨rfl, rfl⟩)
    go_ret2
    exact pair_is hR.out
theorem turns_yes (w : World) : Calls Try.prog 38 #[.int .i64 (-9223372036854775808), .int .i64 (-1)] w (BoolIs true w) := by
  go_enter Try.func38, Try.ntmps38
  go_wp2
  go_ret
  exact ⟨rfl, rfl⟩
theorem turns_no (a b : Int) (w : World) (h : ¬ (a = -9223372036854775808 ∧ b = -1)) : Calls Try.prog 38 #[.int .i64 a, .int .i64 b] w (BoolIs false w) := by
  by_cases ha : a = -9223372036854775808
  · subst ha
    have hb : ((b : Int) == -1) = false := by rw [beq_eq_false_iff_ne]; exact fun e => h ⟨rfl, e⟩
    clear h
    go_enter Try.func38, Try.ntmps38
    go_wp2
    go_ret
    exact ⟨rfl, rfl⟩
  · have hb : ((a : Int) == -9223372036854775808) = false := by rw [beq_eq_false_iff_ne]; exact ha
    clear h ha
    go_enter Try.func38, Try.ntmps38
    go_wp2
    go_ret
    exact ⟨rfl, rfl⟩
theorem mul_nought (b : Int) (w : World) : Calls Try.prog 29 #[.int .i64 0, .int .i64 b] w (PairIs (mulR 0 b) w) := by
  have hR := Lib.hid (show mulR 0 b = (0 * b, 0) from if_pos (by rw [Int.zero_mul]; decide))
  go_enter Try.func29, Try.ntmps29
  go_wp2_with (go_at_call 37; refine (watched_yes _ _).mono ?_; rintro e w' ⟨rfl, rfl⟩)
  go_ret2
  exact pair_is (by rw [hR.out]; simp)
theorem mul_fits (a b : Int) (w : World) (ha : In a) (hb : In b) (h0 : a ≠ 0) (h : In (a * b)) : Calls Try.prog 29 #[.int .i64 a, .int .i64 b] w (PairIs (mulR a b) w) := by
  have hs := mul_asked ha hb h0
  have e0 : ((a : Int) == 0) = false := by rw [beq_eq_false_iff_ne]; exact h0
  have hR := Lib.hid (show mulR a b = (wrap64 (a * b), 0) by rw [IntWalk.wrap64_in _ h]; exact if_pos h)
  obtain ⟨h1, h2⟩ := hs.2 h
  have hT := Lib.hid (turns_no b a w h2)
  have hq : ((wrap64 ((wrap64 (a * b)).tdiv a) : Int) == b) = true := by rw [h1]; exact beq_self_eq_true b
  clear hs ha hb h h1 h2
  go_enter Try.func29, Try.ntmps29
  go_wp2_with fail
  go_at_call 38
  refine hT.out.mono ?_
  rintro e w' ⟨rfl, rfl⟩
  go_wp2_with fail
  go_at_call 37
  refine (watched_yes _ _).mono ?_
  rintro e w' ⟨rfl, rfl⟩
  go_wp2_with fail
  go_ret2
  exact pair_is hR.out
theorem mul_least (a b : Int) (w : World) (hb : b = -9223372036854775808) (ha : a = -1) : Calls Try.prog 29 #[.int .i64 a, .int .i64 b] w (PairIs (mulR a b) w) := by
  have hR := Lib.hid (show mulR a b = (0, 10) by subst ha hb; decide)
  have h0 : a ≠ 0 := by omega
  have e0 : ((a : Int) == 0) = false := by rw [beq_eq_false_iff_ne]; exact h0
  have hq : ((wrap64 ((wrap64 (a * b)).tdiv a) : Int) == b) = true := by subst ha hb; rw [beq_iff_eq]; simp [wrap64]
  have hT := Lib.hid (show Calls Try.prog 38 #[.int .i64 b, .int .i64 a] w (BoolIs true w) by subst ha hb; exact turns_yes w)
  clear ha hb
  go_enter Try.func29, Try.ntmps29
  go_wp2_with fail
  go_at_call 38
  refine hT.out.mono ?_
  rintro e w' ⟨rfl, rfl⟩
  go_wp2_with fail
  go_at_call 37
  refine (watched_no _ _).mono ?_
  rintro e w' ⟨rfl, rfl⟩
  go_wp2_with fail
  go_ret2
  exact pair_is hR.out
theorem mul_not (a b : Int) (w : World) (h0 : a ≠ 0) (h : ¬ In (a * b)) (h1 : wrap64 ((wrap64 (a * b)).tdiv a) ≠ b) : Calls Try.prog 29 #[.int .i64 a, .int .i64 b] w (PairIs (mulR a b) w) := by
  have e0 : ((a : Int) == 0) = false := by rw [beq_eq_false_iff_ne]; exact h0
  have hR := Lib.hid (show mulR a b = (0, 10) from if_neg h)
  have hq : ((wrap64 ((wrap64 (a * b)).tdiv a) : Int) == b) = false := by rw [beq_eq_false_iff_ne]; exact h1
  clear h h1
  go_enter Try.func29, Try.ntmps29
  go_wp2_with fail
  go_at_call 37
  refine (watched_no _ _).mono ?_
  rintro e w' ⟨rfl, rfl⟩
  go_wp2_with fail
  go_ret2
  exact pair_is hR.out
theorem mul_any (a b : Int) (w : World) (ha : In a) (hb : In b) : Calls Try.prog 29 #[.int .i64 a, .int .i64 b] w (PairIs (mulR a b) w) := by
  by_cases h0 : a = 0
  · subst h0; exact mul_nought b w
  by_cases h : In (a * b)
  · exact mul_fits a b w ha hb h0 h
  by_cases h1 : wrap64 ((wrap64 (a * b)).tdiv a) = b
  · by_cases h2 : b = -9223372036854775808 ∧ a = -1
    · exact mul_least a b w h2.1 h2.2
    · exact absurd ((mul_asked ha hb h0).1 ⟨h1, h2⟩) h
  · exact mul_not a b w h0 h h1
theorem quo_nought (a : Int) (w : World) : Calls Try.prog 30 #[.int .i64 a, .int .i64 0] w (PairIs (quoR a 0) w) := by
  have hR := Lib.hid (show quoR a 0 = (0, 11) from if_pos rfl)
  go_enter Try.func30, Try.ntmps30
  go_wp2
  go_ret2
  exact pair_is hR.out
theorem watched_q (n : Int) (w : World) : Calls Try.prog 37 #[.int .i64 n, .bool true] w fun e w' => e = .returned (.tuple #[.int .i64 n, .int .i64 0]) ∧ w' = w := (watched_yes n w).mono fun _ _ ⟨h1, h2⟩ => ⟨h1, h2.symm⟩
theorem watched_qn (n : Int) (w : World) : Calls Try.prog 37 #[.int .i64 n, .bool false] w fun e w' => e = .returned (.tuple #[.int .i64 0, .int .i64 10]) ∧ w' = w := (watched_no n w).mono fun _ _ ⟨h1, h2⟩ => ⟨h1, h2.symm⟩
def PairDr (r : Int × Int) (w : World) (e : Ending) (w' : World) : Prop := e = .returned (.tuple #[.int .i64 r.1, .int .i64 r.2]) ∧ ∃ n, w' = w.drewN n
theorem pair_dr {r : Int × Int} {n m : Int} {w : World} {q : Nat} (h : r = (n, m)) : PairDr r w (.returned (.tuple #[.int .i64 n, .int .i64 m])) (w.drewN q) := by subst h; exact ⟨rfl, _, rfl⟩
theorem PairIs.dr {r : Int × Int} {w w' : World} {e : Ending} (h : PairIs r w e w') : PairDr r w e w' := ⟨h.1, 0, h.2.symm⟩
theorem quo_fits (a b : Int) (w : World) (h0 : b ≠ 0) (h : In (a.tdiv b)) : Calls Try.prog 30 #[.int .i64 a, .int .i64 b] w (PairDr (quoR a b) w) := by
  have e0 : ((b : Int) == 0) = false := by rw [beq_eq_false_iff_ne]; exact h0
  have hR := Lib.hid (show quoR a b = (wrap64 (a.tdiv b), 0) by rw [quoR, if_neg h0, if_pos h, IntWalk.wrap64_in _ h])
  have hT := Lib.hid (fun n => (turns_no a b (w.drewN n) (fun x => tdiv_not x h)).mono fun _ _ h => And.intro h.1 h.2.symm)
  clear h
  go_enter Try.func30, Try.ntmps30
  go_wp2_with fail
  go_quiet ((first | (go_at_call 37; exact Calls.quiet_of_same (watched_q _ _)) | (go_at_call 38; exact Calls.quiet_of_same (hT.out _))))
  go_wp2_with fail
  go_ret2
  exact pair_dr hR.out
theorem quo_least (a b : Int) (w : World) (ha : a = -9223372036854775808) (hb : b = -1) : Calls Try.prog 30 #[.int .i64 a, .int .i64 b] w (PairDr (quoR a b) w) := by
  have h0 : b ≠ 0 := by omega
  have e0 : ((b : Int) == 0) = false := by rw [beq_eq_false_iff_ne]; exact h0
  have hR := Lib.hid (show quoR a b = (0, 10) by subst ha hb; decide)
  have hT := Lib.hid (fun n => show Calls Try.prog 38 #[.int .i64 a, .int .i64 b] (w.drewN n) (fun e w' => e = .returned (.bool true) ∧ w' = w.drewN n) by subst ha hb; exact (turns_yes _).mono fun _ _ h => And.intro h.1 h.2.symm)
  clear ha hb
  go_enter Try.func30, Try.ntmps30
  go_wp2_with fail
  go_quiet ((first | (go_at_call 37; exact Calls.quiet_of_same (watched_qn _ _)) | (go_at_call 38; exact Calls.quiet_of_same (hT.out _))))
  go_wp2_with fail
  go_ret2
  exact pair_dr hR.out
theorem quo_any (a b : Int) (w : World) (ha : In a) : Calls Try.prog 30 #[.int .i64 a, .int .i64 b] w (PairDr (quoR a b) w) := by
  by_cases h0 : b = 0
  · subst h0; exact (quo_nought a w).mono fun _ _ h => h.dr
  by_cases h : a = -9223372036854775808 ∧ b = -1
  · exact quo_least a b w h.1 h.2
  · exact quo_fits a b w h0 (tdiv_in ha h)
theorem rem_any (a b : Int) (w : World) : Calls Try.prog 31 #[.int .i64 a, .int .i64 b] w (PairIs (remR a b) w) := by
  by_cases h0 : b = 0
  · subst h0
    have hR := Lib.hid (show remR a 0 = (0, 11) from if_pos rfl)
    go_enter Try.func31, Try.ntmps31
    go_wp2_with fail
    go_ret2
    exact pair_is hR.out
  · have hR := Lib.hid (show remR a b = (a.tmod b, 0) from if_neg h0)
    go_enter Try.func31, Try.ntmps31
    go_wp2_with fail
    go_ret2
    exact pair_is hR.out
theorem abs_any (a b : Int) (w : World) (ha : In a) : Calls Try.prog 32 #[.int .i64 a, .int .i64 b] w (PairIs (absR a) w) := by
  by_cases h : a < 0
  · have hR := Lib.hid (show absR a = ((difR 0 a).1, (difR 0 a).2) from if_pos h)
    have hT := Lib.hid (dif_any 0 a w (by decide) ha)
    clear ha
    go_enter Try.func32, Try.ntmps32
    go_wp2_with (go_at_call 28; refine hT.out.mono ?_; rintro e w' ⟨rfl, rfl⟩)
    go_ret2
    exact pair_is hR.out
  · have hR := Lib.hid (show absR a = (a, 0) from if_neg h)
    go_enter Try.func32, Try.ntmps32
    go_wp2_with fail
    go_ret2
    exact pair_is hR.out
def ValBe (k n : Int) (w : World) (e : Ending) (w' : World) : Prop := e = .returned (.agg #[.int .i64 k, .int .i64 n, .string ⟨#[]⟩, .slice none 0 0, .slice none 0 0, .slice none 0 0]) ∧ Below w.heap.size w w'
def noneB (k : Int) : Bool := k == 2 || k == 0
def numB (k : Int) : Bool := k == 3 || k == 4
theorem of_any (n : Int) (w : World) : Calls Try.prog 18 #[.int .i64 n] w (ValBe (ofK n) n w) := by
  by_cases h : -2147483648 ≤ n ∧ n < 2147483648
  · have hK := Lib.hid (show ofK n = 3 from if_pos h)
    rw [hK.out]
    clear hK
    have hq : ((n : Int) == wrap32 n) = true := by rw [IntWalk.wrap32_in n ⟨h.1, by omega⟩]; exact beq_self_eq_true n
    obtain ⟨h1, h2⟩ := h
    go_enter Try.func18, Try.ntmps18
    go_wp2_with fail
    exact bodyPost_ret (v := .agg #[.int .i64 3, .int .i64 n, .string ⟨#[]⟩, .slice none 0 0, .slice none 0 0, .slice none 0 0]) (by simp [results, Try.results18, go_sem]) rfl ⟨rfl, ((Below.refl _ _).alloc (Nat.le_refl _) _)⟩
  · have hK := Lib.hid (show ofK n = 4 from if_neg h)
    rw [hK.out]
    clear hK
    have hn : ¬ n = wrap64 (wrap32 n) := by unfold wrap64 wrap32; omega
    have hq : ((n : Int) == wrap64 (wrap32 n)) = false := by rw [beq_eq_false_iff_ne]; exact hn
    clear h
    go_enter Try.func18, Try.ntmps18
    go_wp2_with fail
    exact bodyPost_ret (v := .agg #[.int .i64 4, .int .i64 n, .string ⟨#[]⟩, .slice none 0 0, .slice none 0 0, .slice none 0 0]) (by simp [results, Try.results18, go_sem]) rfl ⟨rfl, ((Below.refl _ _).alloc (Nat.le_refl _) _)⟩
theorem refOf_any (n : Int) (w : World) : Calls Try.prog 19 #[.int .i64 n] w (ValBe (ofK n) n w) := by
  by_cases h : -2147483648 ≤ n ∧ n < 2147483648
  · have hK := Lib.hid (show ofK n = 3 from if_pos h)
    rw [hK.out]
    clear hK
    obtain ⟨h1, h2⟩ := h
    go_enter Try.func19, Try.ntmps19
    go_wp2_with fail
    exact bodyPost_ret (v := .agg #[.int .i64 3, .int .i64 n, .string ⟨#[]⟩, .slice none 0 0, .slice none 0 0, .slice none 0 0]) (by simp [results, Try.results19, go_sem]) rfl ⟨rfl, ((Below.refl _ _).alloc (Nat.le_refl _) _)⟩
  · have hK := Lib.hid (show ofK n = 4 from if_neg h)
    rw [hK.out]
    clear hK
    by_cases h1 : -2147483648 ≤ n
    · have h2 : ¬ n < 2147483648 := fun x => h ⟨h1, x⟩
      clear h
      go_enter Try.func19, Try.ntmps19
      go_wp2_with fail
      exact bodyPost_ret (v := .agg #[.int .i64 4, .int .i64 n, .string ⟨#[]⟩, .slice none 0 0, .slice none 0 0, .slice none 0 0]) (by simp [results, Try.results19, go_sem]) rfl ⟨rfl, ((Below.refl _ _).alloc (Nat.le_refl _) _)⟩
    · clear h
      go_enter Try.func19, Try.ntmps19
      go_wp2_with fail
      exact bodyPost_ret (v := .agg #[.int .i64 4, .int .i64 n, .string ⟨#[]⟩, .slice none 0 0, .slice none 0 0, .slice none 0 0]) (by simp [results, Try.results19, go_sem]) rfl ⟨rfl, ((Below.refl _ _).alloc (Nat.le_refl _) _)⟩
theorem nothing_any (k : Int) (c1 c2 c3 c4 c5 : Value) (w : World) : Calls Try.prog 35 #[.agg #[.int .i64 k, c1, c2, c3, c4, c5]] w (BoolBe (noneB k) w) := by
  by_cases h : k = 2
  · subst h
    go_enter Try.func35, Try.ntmps35
    go_wp2_with fail
    go_ret
    exact ⟨rfl, (Below.refl _ _).alloc (Nat.le_refl _) _⟩
  by_cases h2 : k = 0
  · subst h2
    go_enter Try.func35, Try.ntmps35
    go_wp2_with fail
    go_ret
    exact ⟨rfl, (Below.refl _ _).alloc (Nat.le_refl _) _⟩
  have hB := Lib.hid (show noneB k = false by simp [noneB, h, h2])
  have e1 : ((k : Int) == 2) = false := by rw [beq_eq_false_iff_ne]; exact h
  have e2 : ((k : Int) == 0) = false := by rw [beq_eq_false_iff_ne]; exact h2
  rw [hB.out]
  go_enter Try.func35, Try.ntmps35
  go_wp2_with fail
  go_ret
  exact ⟨rfl, (Below.refl _ _).alloc (Nat.le_refl _) _⟩
theorem number_any (k : Int) (c1 c2 c3 c4 c5 : Value) (w : World) : Calls Try.prog 36 #[.agg #[.int .i64 k, c1, c2, c3, c4, c5]] w (BoolBe (numB k) w) := by
  by_cases h : k = 3
  · subst h
    go_enter Try.func36, Try.ntmps36
    go_wp2_with fail
    go_ret
    exact ⟨rfl, (Below.refl _ _).alloc (Nat.le_refl _) _⟩
  by_cases h2 : k = 4
  · subst h2
    go_enter Try.func36, Try.ntmps36
    go_wp2_with fail
    go_ret
    exact ⟨rfl, (Below.refl _ _).alloc (Nat.le_refl _) _⟩
  have hB := Lib.hid (show numB k = false by simp [numB, h, h2])
  have e1 : ((k : Int) == 3) = false := by rw [beq_eq_false_iff_ne]; exact h
  have e2 : ((k : Int) == 4) = false := by rw [beq_eq_false_iff_ne]; exact h2
  rw [hB.out]
  go_enter Try.func36, Try.ntmps36
  go_wp2_with fail
  go_ret
  exact ⟨rfl, (Below.refl _ _).alloc (Nat.le_refl _) _⟩
theorem refNone_any (k : Int) (c1 c2 c3 c4 c5 : Value) (w : World) : Calls Try.prog 33 #[.agg #[.int .i64 k, c1, c2, c3, c4, c5]] w (BoolBe (noneB k) w) := by
  by_cases h : k = 2
  · subst h
    go_enter Try.func33, Try.ntmps33
    go_wp2_with fail
    go_ret
    exact ⟨rfl, (Below.refl _ _).alloc (Nat.le_refl _) _⟩
  by_cases h2 : k = 0
  · subst h2
    go_enter Try.func33, Try.ntmps33
    go_wp2_with fail
    go_ret
    exact ⟨rfl, (Below.refl _ _).alloc (Nat.le_refl _) _⟩
  have hB := Lib.hid (show noneB k = false by simp [noneB, h, h2])
  have e1 : ((k : Int) == 2) = false := by rw [beq_eq_false_iff_ne]; exact h
  have e2 : ((k : Int) == 0) = false := by rw [beq_eq_false_iff_ne]; exact h2
  rw [hB.out]
  go_enter Try.func33, Try.ntmps33
  go_wp2_with fail
  go_ret
  exact ⟨rfl, (Below.refl _ _).alloc (Nat.le_refl _) _⟩
theorem refNumber_any (k : Int) (c1 c2 c3 c4 c5 : Value) (w : World) : Calls Try.prog 34 #[.agg #[.int .i64 k, c1, c2, c3, c4, c5]] w (BoolBe (numB k) w) := by
  by_cases h : k = 3
  · subst h
    go_enter Try.func34, Try.ntmps34
    go_wp2_with fail
    go_ret
    exact ⟨rfl, (Below.refl _ _).alloc (Nat.le_refl _) _⟩
  by_cases h2 : k = 4
  · subst h2
    go_enter Try.func34, Try.ntmps34
    go_wp2_with fail
    go_ret
    exact ⟨rfl, (Below.refl _ _).alloc (Nat.le_refl _) _⟩
  have hB := Lib.hid (show numB k = false by simp [numB, h, h2])
  have e1 : ((k : Int) == 3) = false := by rw [beq_eq_false_iff_ne]; exact h
  have e2 : ((k : Int) == 4) = false := by rw [beq_eq_false_iff_ne]; exact h2
  rw [hB.out]
  go_enter Try.func34, Try.ntmps34
  go_wp2_with fail
  go_ret
  exact ⟨rfl, (Below.refl _ _).alloc (Nat.le_refl _) _⟩
end Go.Proofs.Ytkmibpjhfgbckaa
