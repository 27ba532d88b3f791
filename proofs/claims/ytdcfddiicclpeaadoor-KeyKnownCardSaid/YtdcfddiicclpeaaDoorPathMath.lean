/- PATHS: plain mathematics (no walk): what a path leads to. -/
import Derived.Test.YtdcfddiicclpeaaDoorBsonForth
namespace Bson
open Go
/-- The value of the first field of that name, Missing where there is none. -/
def fieldIn : List (ByteArray × Val) → ByteArray → Val
  | [], _ => zero
  | (s, v) :: r, a => if s = a then v else fieldIn r a
def nil_ : Val := zero
/-- A List of these items. -/
def listOf (l : List Val) : Val := .mk 7 0 none_ [] [] l
/-- What an expression's path leads to (n: fuel, as much as names and height together). -/
def reach : Nat → Val → List ByteArray → Val
  | _, x, [] => x
  | 0, _, _ :: _ => zero
  | n + 1, x, a :: r => if x.kind = 6 then reach n (fieldIn x.f a) r else if x.kind = 7 then listOf ((x.l.map fun y => reach n y (a :: r)).filter fun y => decide (y.kind ≠ 0)) else zero
/-- What a query's path leads to. -/
def itself (x : Val) : List Val := x :: (if x.kind = 7 then x.l else [])
def all : Nat → Val → List ByteArray → List Val
  | _, x, [] => itself x
  | 0, _, _ :: _ => [zero]
  | n + 1, x, a :: r =>
    if x.kind = 6 then (if (fieldIn x.f a).kind = 0 then [zero] else all n (fieldIn x.f a) r)
    else if x.kind = 7 then (if (x.l.filter fun y => decide (y.kind = 6)).isEmpty then [zero] else (x.l.filter fun y => decide (y.kind = 6)).flatMap fun y => all n y (a :: r))
    else [zero]
theorem reach_nil (n : Nat) (x : Val) : reach n x [] = x := by cases n <;> rfl
theorem all_nil (n : Nat) (x : Val) : all n x [] = itself x := by cases n <;> rfl
theorem reach_doc (n : Nat) (x : Val) (a : ByteArray) (r : List ByteArray) (h : x.kind = 6) : reach (n + 1) x (a :: r) = reach n (fieldIn x.f a) r := by rw [reach, if_pos h]
theorem reach_list (n : Nat) (x : Val) (a : ByteArray) (r : List ByteArray) (h : x.kind = 7) : reach (n + 1) x (a :: r) = listOf ((x.l.map fun y => reach n y (a :: r)).filter fun y => decide (y.kind ≠ 0)) := by rw [reach, if_neg (by omega), if_pos h]
theorem reach_other (n : Nat) (x : Val) (a : ByteArray) (r : List ByteArray) (h6 : x.kind ≠ 6) (h7 : x.kind ≠ 7) : reach n x (a :: r) = zero := by
  cases n with
  | zero => rfl
  | succ n => rw [reach, if_neg h6, if_neg h7]
theorem all_ne (n : Nat) (x : Val) (p : List ByteArray) : all n x p ≠ [] := by
  induction n generalizing x p with
  | zero => cases p <;> simp [all, itself]
  | succ n ih =>
    cases p with
    | nil => simp [all, itself]
    | cons a r =>
      rw [all]
      split
      · split
        · simp
        · exact ih _ _
      · split
        · split
          · simp
          · rename_i h
            intro e
            simp only [List.isEmpty_iff] at h
            cases hl : x.l.filter fun y => decide (y.kind = 6) with
            | nil => exact h hl
            | cons y t =>
              rw [hl, List.flatMap_cons, List.append_eq_nil_iff] at e
              exact ih _ _ e.1
        · simp
theorem all_missing (n : Nat) (x : Val) (a : ByteArray) (r : List ByteArray) (h : x.kind = 6) (h0 : (fieldIn x.f a).kind = 0) : all (n + 1) x (a :: r) = [zero] := by rw [all, if_pos h, if_pos h0]
theorem all_doc (n : Nat) (x : Val) (a : ByteArray) (r : List ByteArray) (h : x.kind = 6) (h0 : (fieldIn x.f a).kind ≠ 0) : all (n + 1) x (a :: r) = all n (fieldIn x.f a) r := by rw [all, if_pos h, if_neg h0]
theorem all_none (n : Nat) (x : Val) (a : ByteArray) (r : List ByteArray) (h : x.kind = 7) (h0 : (x.l.filter fun y => decide (y.kind = 6)) = []) : all (n + 1) x (a :: r) = [zero] := by
  rw [all, if_neg (by omega), if_pos h, if_pos (by rw [h0]; rfl)]
theorem all_list (n : Nat) (x : Val) (a : ByteArray) (r : List ByteArray) (h : x.kind = 7) (h0 : (x.l.filter fun y => decide (y.kind = 6)) ≠ []) : all (n + 1) x (a :: r) = (x.l.filter fun y => decide (y.kind = 6)).flatMap fun y => all n y (a :: r) := by
  rw [all, if_neg (by omega), if_pos h, if_neg (by simp only [List.isEmpty_iff]; exact h0)]
theorem all_other (n : Nat) (x : Val) (a : ByteArray) (r : List ByteArray) (h6 : x.kind ≠ 6) (h7 : x.kind ≠ 7) : all n x (a :: r) = [zero] := by
  cases n with
  | zero => rfl
  | succ n => rw [all, if_neg h6, if_neg h7]
end Bson
