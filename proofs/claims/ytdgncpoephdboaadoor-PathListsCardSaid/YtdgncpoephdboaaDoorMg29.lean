/- PathBackLaw. -/
import Derived.Test.YtdgncpoephdboaaDoorMg28
set_option maxRecDepth 100000
section
namespace Go.Proofs.YtdgncpoephdboaaDoor
open Go.RowKit
open Seal
open Path
namespace Path
/-- Names with points between. -/
def joinL : List (List UInt8) → List UInt8
  | [] => []
  | [x] => x
  | x :: y :: r => x ++ 46 :: joinL (y :: r)
theorem joinL_snoc : ∀ (l : List (List UInt8)) (x : List UInt8), joinL (l ++ [x]) = if l = [] then x else joinL l ++ 46 :: x
  | [], x => rfl
  | [a], x => by show a ++ 46 :: joinL ([] ++ [x]) = _; simp [joinL]
  | a :: b :: r, x => by
    have ih := joinL_snoc (b :: r) x
    rw [if_neg (by simp)] at ih ⊢
    show a ++ 46 :: joinL ((b :: r) ++ [x]) = (a ++ 46 :: joinL (b :: r)) ++ 46 :: x
    rw [ih]; simp
theorem split_join : ∀ (l : List (List UInt8)), l ≠ [] → (∀ x ∈ l, (46 : UInt8) ∉ x) → split (joinL l) = l
  | [], h, _ => absurd rfl h
  | [a], _, h => split_free a (h a (by simp))
  | a :: b :: r, _, h => by
    show split (a ++ 46 :: joinL (b :: r)) = _
    rw [split_cut _ _ (h a (by simp)), split_join (b :: r) (by simp) (fun x hx => h x (by simp [hx]))]
theorem joinL_length : ∀ (l : List (List UInt8)), (joinL l).length ≤ (l.map List.length).sum + l.length
  | [] => by simp [joinL]
  | [a] => by simp [joinL]
  | a :: b :: r => by
    have := joinL_length (b :: r)
    simp only [joinL, List.length_append, List.length_cons, List.map_cons, List.sum_cons] at this ⊢
    omega
/-- Texts as lists of bytes. -/
def lists (p : List ByteArray) : List (List UInt8) := p.map fun s => s.data.toList
theorem lists_length (p : List ByteArray) : (lists p).length = p.length := by simp [lists]
theorem names_lists (p : List ByteArray) : names (lists p) = p := by
  unfold names lists
  rw [List.map_map]
  have e : ((fun x : List UInt8 => (⟨x.toArray⟩ : ByteArray)) ∘ fun s : ByteArray => s.data.toList) = id := by funext s; cases s; rfl
  rw [e, List.map_id]
theorem lists_sum (p : List ByteArray) : ((lists p).map List.length).sum = bulk p := by
  unfold lists bulk
  rw [List.map_map]
  have e : (List.length ∘ fun s : ByteArray => s.data.toList) = fun s => s.size := by funext s; exact len_list s
  rw [e]
theorem lists_take (p : List ByteArray) (k : Nat) (hk : k < p.length) : lists (p.take (k + 1)) = lists (p.take k) ++ [p[k].data.toList] := by
  unfold lists
  rw [List.take_add_one, List.getElem?_eq_getElem hk, List.map_append]; rfl
theorem app_list (a b : ByteArray) : (a ++ b).data.toList = a.data.toList ++ b.data.toList := by simp
/-- Is the path one? -/
def fineN (n : Nat) (l : List (List UInt8)) : Bool := decide (0 < n ∧ n ≤ 16) && l.all may
theorem parse_join (p : List ByteArray) (h : ∀ x ∈ lists p, (46 : UInt8) ∉ x) : parse (joinL (lists p)) = if fineN p.length (lists p) then some (lists p) else none := by
  have hl := lists_length p
  unfold fineN
  by_cases h0 : lists p = []
  · have hp0 : p.length = 0 := by rw [← hl, h0]; rfl
    rw [h0, hp0]; rfl
  · have hpos : 0 < p.length := by rw [← hl]; exact List.length_pos_iff.2 h0
    unfold parse
    rw [split_join _ h0 h, hl]
    by_cases h16 : p.length ≤ 16
    · rw [decide_eq_true (And.intro hpos h16), Bool.true_and]
      cases (lists p).all may with
      | false => rw [if_neg (by simp), if_neg (by simp)]
      | true => rw [if_pos ⟨rfl, h16⟩, if_pos rfl]
    · rw [decide_eq_false (fun h => h16 h.2), if_neg (fun h => h16 h.2), if_neg (by simp)]
end Path
end Go.Proofs.YtdgncpoephdboaaDoor
end
