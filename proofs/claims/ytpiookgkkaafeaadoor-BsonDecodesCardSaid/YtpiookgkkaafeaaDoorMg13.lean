/- PathBound. -/
import Derived.Test.YtpiookgkkaafeaaDoorMg5
import Derived.Test.YtpiookgkkaafeaaDoorMg12
set_option maxRecDepth 100000
section
namespace Go.Proofs.YtpiookgkkaafeaaDoor
open Bson (Val)
/-- At most so high. -/
def Hgt : Nat → Val → Prop
  | 0, _ => False
  | h + 1, x => (∀ p ∈ x.f, Hgt h p.2) ∧ ∀ y ∈ x.l, Hgt h y
theorem wt_pos {h : Nat} {x : Val} (hx : Hgt h x) : 1 ≤ wt h x := by
  cases h with
  | zero => exact hx.elim
  | succ h => rw [wt]; omega
theorem sum_le {α : Type} (f g : α → Nat) : ∀ (l : List α), (∀ y ∈ l, f y ≤ g y) → (l.map f).sum ≤ (l.map g).sum
  | [], _ => Nat.le_refl _
  | a :: r, h => by
    simp only [List.map_cons, List.sum_cons]
    have h1 := h a (by simp)
    have h2 := sum_le f g r (fun y hy => h y (by simp [hy]))
    omega
theorem sum_filter_le {α : Type} (f : α → Nat) (q : α → Bool) : ∀ (l : List α), ((l.filter q).map f).sum ≤ (l.map f).sum
  | [] => Nat.le_refl _
  | a :: r => by
    have h2 := sum_filter_le f q r
    rw [List.filter_cons]
    split
    · simp only [List.map_cons, List.sum_cons]; omega
    · simp only [List.map_cons, List.sum_cons]; omega
theorem mem_le_sum {α : Type} (f : α → Nat) : ∀ (l : List α) (a : α), a ∈ l → f a ≤ (l.map f).sum
  | b :: r, a, h => by
    simp only [List.map_cons, List.sum_cons]
    rcases List.mem_cons.1 h with rfl | h
    · omega
    · have := mem_le_sum f r a h; omega
theorem length_le_sum {α : Type} (f : α → Nat) : ∀ (l : List α), (∀ y ∈ l, 1 ≤ f y) → l.length ≤ (l.map f).sum
  | [], _ => Nat.le_refl _
  | a :: r, h => by
    simp only [List.map_cons, List.sum_cons, List.length_cons]
    have h1 := h a (by simp)
    have h2 := length_le_sum f r (fun y hy => h y (by simp [hy]))
    omega
theorem fieldIn_mem : ∀ (f : List (ByteArray × Val)) (a : ByteArray), Bson.fieldIn f a = Bson.zero ∨ ∃ p ∈ f, Bson.fieldIn f a = p.2
  | [], _ => .inl rfl
  | (s, v) :: r, a => by
    rw [Bson.fieldIn]
    split
    · exact .inr ⟨(s, v), by simp, rfl⟩
    · rcases fieldIn_mem r a with h | ⟨p, hp, h⟩
      · exact .inl h
      · exact .inr ⟨p, by simp [hp], h⟩
theorem length_flatMap_le {α β : Type} (f : α → List β) (g : α → Nat) : ∀ (l : List α), (∀ y ∈ l, (f y).length ≤ g y) → (l.flatMap f).length ≤ (l.map g).sum
  | [], _ => Nat.le_refl _
  | a :: r, h => by
    simp only [List.flatMap_cons, List.length_append, List.map_cons, List.sum_cons]
    have h1 := h a (by simp)
    have h2 := length_flatMap_le f g r (fun y hy => h y (by simp [hy]))
    omega
theorem all_le : ∀ (n h : Nat) (x : Val) (p : List ByteArray), Hgt h x → (Bson.all n x p).length ≤ wt h x
  | n, 0, x, p, hx => hx.elim
  | n, h + 1, x, [], hx => by
    rw [Bson.all_nil, Bson.itself]
    have hl := length_le_sum (wt h) x.l (fun y hy => wt_pos (hx.2 y hy))
    rw [wt]
    split
    · rw [List.length_cons]; omega
    · simp only [List.length_cons, List.length_nil]; omega
  | 0, h + 1, x, a :: r, hx => by
    rw [Bson.all]; exact wt_pos hx
  | n + 1, h + 1, x, a :: r, hx => by
    have h1 := wt_pos hx
    rw [Bson.all]
    split
    · split
      · exact h1
      · next hk =>
        rcases fieldIn_mem x.f a with e | ⟨p, hp, e⟩
        · rw [e] at hk; exact absurd rfl hk
        · rw [e]
          refine Nat.le_trans (all_le n h p.2 r (hx.1 p hp)) ?_
          have := mem_le_sum (fun p : ByteArray × Val => p.1.size + wt h p.2) x.f p hp
          rw [wt]; omega
    · split
      · split
        · exact h1
        · refine Nat.le_trans (length_flatMap_le _ (wt h) _ (fun y hy => all_le n h y (a :: r) (hx.2 y (List.mem_filter.1 hy).1))) ?_
          have := sum_filter_le (wt h) (fun y => decide (y.kind = 6)) x.l
          rw [wt]; omega
      · exact h1
theorem VIn.hgt {w : World} {Q : Nat → Prop} : ∀ {h : Nat} {x : Val} {v : Value}, VIn w Q h x v → Hgt h x
  | 0, _, _, hv => hv.elim
  | h + 1, x, v, ⟨ba, fa, la, bc, fc, lc, e, h1, h2, h3, h4, h5, h6, h7⟩ => by
    refine ⟨fun p hp => ?_, fun y hy => ?_⟩
    · rcases h6 with h6 | ⟨g, o, _, _, h6⟩
      · rw [h6] at hp; cases hp
      · obtain ⟨i, hi, rfl⟩ := List.getElem_of_mem hp
        obtain ⟨_, _, u, _, hu⟩ := h6 i hi
        exact VIn.hgt hu
    · rcases h7 with h7 | ⟨g, o, _, _, h7⟩
      · rw [h7] at hy; cases hy
      · obtain ⟨i, hi, rfl⟩ := List.getElem_of_mem hy
        obtain ⟨u, _, hu⟩ := h7 i hi
        exact VIn.hgt hu
end Go.Proofs.YtpiookgkkaafeaaDoor
end
