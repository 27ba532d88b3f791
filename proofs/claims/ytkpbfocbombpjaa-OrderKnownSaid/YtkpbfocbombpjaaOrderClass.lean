/- Class (of the program). -/
import Derived.Test.YtkpbfocbombpjaaOrderMath
import Derived.Test.YtkpbfocbombpjaaBsonShallow
import Derived.Laws.Externs
import Derived.BigQuiet
namespace Go.Proofs.Ytkpbfocbombpjaa
open Go.RowKit
open Seal
def IntPost (n : Int) (w : World) (e : Ending) (w' : World) : Prop := e = .returned (.int .i64 n) ∧ w = w'
theorem ret_i {a b : Int} (h : a = b) : Ending.returned (.int .i64 a) = .returned (.int .i64 b) := by rw [h]
theorem kinds (k : Int) (h0 : ¬ k < 0) (h1 : ¬ 12 < k) : k = 0 ∨ k = 1 ∨ k = 2 ∨ k = 3 ∨ k = 4 ∨ k = 5 ∨ k = 6 ∨ k = 7 ∨ k = 8 ∨ k = 9 ∨ k = 10 ∨ k = 11 ∨ k = 12 := by omega
set_option maxRecDepth 100000 in
set_option maxHeartbeats 2000000 in
theorem class_any (k : Int) (w : World) : Calls Try.prog 8 #[.int .i64 k] w (IntPost (Order.cls k) w) := by
  by_cases h : k < 0 ∨ 12 < k
  · have HC := Lib.hid (show Order.cls k = -1 from if_pos h)
    have e0 : (k == 0) = false := by rw [beq_eq_false_iff_ne]; omega
    have e1 : (k == 1) = false := by rw [beq_eq_false_iff_ne]; omega
    have e2 : (k == 2) = false := by rw [beq_eq_false_iff_ne]; omega
    have e3 : (k == 3) = false := by rw [beq_eq_false_iff_ne]; omega
    have e4 : (k == 4) = false := by rw [beq_eq_false_iff_ne]; omega
    have e5 : (k == 5) = false := by rw [beq_eq_false_iff_ne]; omega
    have e6 : (k == 6) = false := by rw [beq_eq_false_iff_ne]; omega
    have e7 : (k == 7) = false := by rw [beq_eq_false_iff_ne]; omega
    have e8 : (k == 8) = false := by rw [beq_eq_false_iff_ne]; omega
    have e9 : (k == 9) = false := by rw [beq_eq_false_iff_ne]; omega
    have e10 : (k == 10) = false := by rw [beq_eq_false_iff_ne]; omega
    have e11 : (k == 11) = false := by rw [beq_eq_false_iff_ne]; omega
    have e12 : (k == 12) = false := by rw [beq_eq_false_iff_ne]; omega
    clear h
    go_enter Try.func8, Try.ntmps8
    go_wp2
    go_ret
    exact ⟨ret_i HC.out.symm, rfl⟩
  · rcases kinds k (by omega) (by omega) with rfl | rfl | rfl | rfl | rfl | rfl | rfl | rfl | rfl | rfl | rfl | rfl | rfl
    all_goals
      clear h
      go_enter Try.func8, Try.ntmps8
      go_wp2
      go_ret
      exact ⟨rfl, rfl⟩
end Go.Proofs.Ytkpbfocbombpjaa
