/- BsonBare. -/
import Derived.Test.YtngllchoiffniaaDoorMk2
set_option maxRecDepth 100000
set_option maxHeartbeats 20000000
section
namespace Go.Proofs.YtngllchoiffniaaDoor
open Go.RowKit
open Seal
open Bson (Val)
theorem bare_any (Q : Nat → Prop) (h : Nat) (x : Val) (v : Value) (w : World) (hv : VIn w Q h x v) :
  Calls Tryd.prog 62 #[v] w fun e w' => e = .returned (.bool (bareB x)) ∧ Below w.heap.size w w' := by
 cases h with
 | zero => exact hv.elim
 | succ h =>
  obtain ⟨ba, fa, la, bc, fc, lc, rfl, hL, hb, hf, hl, hB, hF, hI⟩ := hv
  unfold agg
  have hbb : bareB x = Bson.bare x (x.kind == 3 || x.kind == 4 || x.kind == 10 || x.kind == 11) (x.kind == 5) (x.kind == 8 || x.kind == 9) (x.kind == 6) (x.kind == 7) := rfl
  unfold Bson.bare at hbb
  have hse : (x.s.size == 0) = x.s.toList.isEmpty := by
   rw [ByteArray.toList_eq]
   have h1 : x.s.size = x.s.data.toList.length := by simp
   rw [h1]
   cases x.s.data.toList <;> rfl
  rw [hse] at hbb
  have hbe : x.b.isEmpty = ((x.b.length : Int) == 0) := by cases x.b <;> rfl
  have hfe : x.f.isEmpty = ((x.f.length : Int) == 0) := by cases x.f <;> rfl
  have hle : x.l.isEmpty = ((x.l.length : Int) == 0) := by cases x.l <;> rfl
  rw [hbe, hfe, hle] at hbb
  generalize bareB x = R at *
  generalize x.kind = kd at *
  generalize x.n = nn at *
  generalize x.s = ss at *
  generalize x.b.length = bn at *
  generalize x.f.length = fn at *
  generalize x.l.length = ln at *
  have HR := Lib.hid hbb
  clear hbb hse hbe hfe hle hL hb hf hl hB hF hI
  by_cases k3 : kd = 3
  ·subst k3
   go_enter Tryd.func62, Tryd.ntmps62
   go_wp2_with fail
   all_goals
    go_ret
    refine ⟨ret_eq ?_, (Below.refl _ w).alloc (Nat.le_refl _) _⟩
    rw [HR.out]
    simp [*]
  by_cases k4 : kd = 4
  ·subst k4
   go_enter Tryd.func62, Tryd.ntmps62
   go_wp2_with fail
   all_goals
    go_ret
    refine ⟨ret_eq ?_, (Below.refl _ w).alloc (Nat.le_refl _) _⟩
    rw [HR.out]
    simp [*]
  by_cases k10 : kd = 10
  ·subst k10
   go_enter Tryd.func62, Tryd.ntmps62
   go_wp2_with fail
   all_goals
    go_ret
    refine ⟨ret_eq ?_, (Below.refl _ w).alloc (Nat.le_refl _) _⟩
    rw [HR.out]
    simp [*]
  by_cases k11 : kd = 11
  ·subst k11
   go_enter Tryd.func62, Tryd.ntmps62
   go_wp2_with fail
   all_goals
    go_ret
    refine ⟨ret_eq ?_, (Below.refl _ w).alloc (Nat.le_refl _) _⟩
    rw [HR.out]
    simp [*]
  by_cases k5 : kd = 5
  ·subst k5
   go_enter Tryd.func62, Tryd.ntmps62
   go_wp2_with fail
   all_goals
    go_ret
    refine ⟨ret_eq ?_, (Below.refl _ w).alloc (Nat.le_refl _) _⟩
    rw [HR.out]
    simp [*]
  by_cases k8 : kd = 8
  ·subst k8
   go_enter Tryd.func62, Tryd.ntmps62
   go_wp2_with fail
   all_goals
    go_ret
    refine ⟨ret_eq ?_, (Below.refl _ w).alloc (Nat.le_refl _) _⟩
    rw [HR.out]
    simp [*]
  by_cases k9 : kd = 9
  ·subst k9
   go_enter Tryd.func62, Tryd.ntmps62
   go_wp2_with fail
   all_goals
    go_ret
    refine ⟨ret_eq ?_, (Below.refl _ w).alloc (Nat.le_refl _) _⟩
    rw [HR.out]
    simp [*]
  by_cases k6 : kd = 6
  ·subst k6
   go_enter Tryd.func62, Tryd.ntmps62
   go_wp2_with fail
   all_goals
    go_ret
    refine ⟨ret_eq ?_, (Below.refl _ w).alloc (Nat.le_refl _) _⟩
    rw [HR.out]
    simp [*]
  by_cases k7 : kd = 7
  ·subst k7
   go_enter Tryd.func62, Tryd.ntmps62
   go_wp2_with fail
   all_goals
    go_ret
    refine ⟨ret_eq ?_, (Below.refl _ w).alloc (Nat.le_refl _) _⟩
    rw [HR.out]
    simp [*]
  have e3 : (kd == 3) = false := by simpa using k3
  have e4 : (kd == 4) = false := by simpa using k4
  have e10 : (kd == 10) = false := by simpa using k10
  have e11 : (kd == 11) = false := by simpa using k11
  have e5 : (kd == 5) = false := by simpa using k5
  have e8 : (kd == 8) = false := by simpa using k8
  have e9 : (kd == 9) = false := by simpa using k9
  have e6 : (kd == 6) = false := by simpa using k6
  have e7 : (kd == 7) = false := by simpa using k7
  clear k3 k4 k10 k11 k5 k8 k9 k6 k7
  go_enter Tryd.func62, Tryd.ntmps62
  go_wp2_with fail
  all_goals
   go_ret
   refine ⟨ret_eq ?_, (Below.refl _ w).alloc (Nat.le_refl _) _⟩
   rw [HR.out]
   simp [*]
end Go.Proofs.YtngllchoiffniaaDoor
end
