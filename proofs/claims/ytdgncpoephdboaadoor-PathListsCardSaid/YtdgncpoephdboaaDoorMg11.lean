/- PathBound, PathSmall. -/
import Derived.Test.YtdgncpoephdboaaDoorMg5
import Derived.Test.YtdgncpoephdboaaDoorMg10
import Derived.Test.YtdgncpoephdboaaDoorMg8
import Derived.Test.YtdgncpoephdboaaDoorMg7
import Derived.Test.YtdgncpoephdboaaDoorMg6
set_option maxRecDepth 100000
section
namespace Go.Proofs.YtdgncpoephdboaaDoor
open Bson (Val)
/-- At most so high. -/
def Hgt : Nat → Val → Prop
  | 0, _ => False
  | h + 1, x => (∀ p ∈ x.f, Hgt h p.2) ∧ ∀ y ∈ x.l, Hgt h y
theorem wt_pos {h : Nat} {x : Val} (hx : Hgt h x) : 1 ≤ wt h x := by
  cases h with
  | zero => exact hx.elim
  | succ h => rw [wt]; omega
theorem sum_le {α : Type} (f g : α → Nat) : ∀ (l : List α), (∀ y ∈ l, f y ≤ g y) → (l.map f).sum ≤ (l.map g).sum
  | [], _ => Nat.le_refl _
  | a :: r, h => by
    simp only [List.map_cons, List.sum_cons]
    have h1 := h a (by simp)
    have h2 := sum_le f g r (fun y hy => h y (by simp [hy]))
    omega
theorem sum_filter_le {α : Type} (f : α → Nat) (q : α → Bool) : ∀ (l : List α), ((l.filter q).map f).sum ≤ (l.map f).sum
  | [] => Nat.le_refl _
  | a :: r => by
    have h2 := sum_filter_le f q r
    rw [List.filter_cons]
    split
    · simp only [List.map_cons, List.sum_cons]; omega
    · simp only [List.map_cons, List.sum_cons]; omega
theorem mem_le_sum {α : Type} (f : α → Nat) : ∀ (l : List α) (a : α), a ∈ l → f a ≤ (l.map f).sum
  | b :: r, a, h => by
    simp only [List.map_cons, List.sum_cons]
    rcases List.mem_cons.1 h with rfl | h
    · omega
    · have := mem_le_sum f r a h; omega
theorem length_le_sum {α : Type} (f : α → Nat) : ∀ (l : List α), (∀ y ∈ l, 1 ≤ f y) → l.length ≤ (l.map f).sum
  | [], _ => Nat.le_refl _
  | a :: r, h => by
    simp only [List.map_cons, List.sum_cons, List.length_cons]
    have h1 := h a (by simp)
    have h2 := length_le_sum f r (fun y hy => h y (by simp [hy]))
    omega
theorem fieldIn_mem : ∀ (f : List (ByteArray × Val)) (a : ByteArray), Bson.fieldIn f a = Bson.zero ∨ ∃ p ∈ f, Bson.fieldIn f a = p.2
  | [], _ => .inl rfl
  | (s, v) :: r, a => by
    rw [Bson.fieldIn]
    split
    · exact .inr ⟨(s, v), by simp, rfl⟩
    · rcases fieldIn_mem r a with h | ⟨p, hp, h⟩
      · exact .inl h
      · exact .inr ⟨p, by simp [hp], h⟩
theorem length_flatMap_le {α β : Type} (f : α → List β) (g : α → Nat) : ∀ (l : List α), (∀ y ∈ l, (f y).length ≤ g y) → (l.flatMap f).length ≤ (l.map g).sum
  | [], _ => Nat.le_refl _
  | a :: r, h => by
    simp only [List.flatMap_cons, List.length_append, List.map_cons, List.sum_cons]
    have h1 := h a (by simp)
    have h2 := length_flatMap_le f g r (fun y hy => h y (by simp [hy]))
    omega
theorem all_le : ∀ (n h : Nat) (x : Val) (p : List ByteArray), Hgt h x → (Bson.all n x p).length ≤ wt h x
  | n, 0, x, p, hx => hx.elim
  | n, h + 1, x, [], hx => by
    rw [Bson.all_nil, Bson.itself]
    have hl := length_le_sum (wt h) x.l (fun y hy => wt_pos (hx.2 y hy))
    rw [wt]
    split
    · rw [List.length_cons]; omega
    · simp only [List.length_cons, List.length_nil]; omega
  | 0, h + 1, x, a :: r, hx => by
    rw [Bson.all]; exact wt_pos hx
  | n + 1, h + 1, x, a :: r, hx => by
    have h1 := wt_pos hx
    rw [Bson.all]
    split
    · split
      · exact h1
      · next hk =>
        rcases fieldIn_mem x.f a with e | ⟨p, hp, e⟩
        · rw [e] at hk; exact absurd rfl hk
        · rw [e]
          refine Nat.le_trans (all_le n h p.2 r (hx.1 p hp)) ?_
          have := mem_le_sum (fun p : ByteArray × Val => p.1.size + wt h p.2) x.f p hp
          rw [wt]; omega
    · split
      · split
        · exact h1
        · refine Nat.le_trans (length_flatMap_le _ (wt h) _ (fun y hy => all_le n h y (a :: r) (hx.2 y (List.mem_filter.1 hy).1))) ?_
          have := sum_filter_le (wt h) (fun y => decide (y.kind = 6)) x.l
          rw [wt]; omega
      · exact h1
theorem VIn.hgt {w : World} {Q : Nat → Prop} : ∀ {h : Nat} {x : Val} {v : Value}, VIn w Q h x v → Hgt h x
  | 0, _, _, hv => hv.elim
  | h + 1, x, v, ⟨ba, fa, la, bc, fc, lc, e, h1, h2, h3, h4, h5, h6, h7⟩ => by
    refine ⟨fun p hp => ?_, fun y hy => ?_⟩
    · rcases h6 with h6 | ⟨g, o, _, _, h6⟩
      · rw [h6] at hp; cases hp
      · obtain ⟨i, hi, rfl⟩ := List.getElem_of_mem hp
        obtain ⟨_, _, u, _, hu⟩ := h6 i hi
        exact VIn.hgt hu
    · rcases h7 with h7 | ⟨g, o, _, _, h7⟩
      · rw [h7] at hy; cases hy
      · obtain ⟨i, hi, rfl⟩ := List.getElem_of_mem hy
        obtain ⟨u, _, hu⟩ := h7 i hi
        exact VIn.hgt hu
end Go.Proofs.YtdgncpoephdboaaDoor
end
section
namespace Go.Proofs.YtdgncpoephdboaaDoor
open Go.RowKit
open Seal
open Bson (Val)
def SmallPost (w : World) (h : Nat) (x : Val) (e : Ending) (w' : World) : Prop := ∃ b, e = .returned (.bool b) ∧ (b = true → wt h x ≤ 3000) ∧ Below w.heap.size w w'
set_option maxRecDepth 100000 in
set_option maxHeartbeats 2000000 in
theorem small_any (Q : Nat → Prop) (h : Nat) (x : Val) (v : Value) (w : World) (hv : VIn w Q (h + 1) x v) : Calls Tryd.prog 18 #[v] w (SmallPost w (h + 1) x) := by
  obtain ⟨xk, xn, xs, ba, fa, la, bn, bc, fn, fc, ln, lc, rfl, hxk, hxn, hxs, hbn, hfn, hln, hL, hF, hI⟩ := hv.letters
  have HV := Lib.hid hv
  have HV0 : Hid (VIn (w.alloc (.cells #[.int .i64 xk, .int .i64 xn, .string xs, .slice ba bn bc, .slice fa fn fc, .slice la ln lc] 27)) Q (h + 1) x (.agg #[.int .i64 xk, .int .i64 xn, .string xs, .slice ba bn bc, .slice fa fn fc, .slice la ln lc])) := VIn.keep ((Below.refl _ w).alloc (Nat.le_refl _) _) hv
  have HB0 : Hid (Below w.heap.size w (w.alloc (.cells #[.int .i64 xk, .int .i64 xn, .string xs, .slice ba bn bc, .slice fa fn fc, .slice la ln lc] 27))) := (Below.refl _ w).alloc (Nat.le_refl _) _
  have hS := SixIs.new w (.int .i64 xk) (.int .i64 xn) (.string xs) (.slice ba bn bc) (.slice fa fn fc) (.slice la ln lc) 27
  have HS0 := Lib.hid hS
  clear hv hxk hS hxn hxs hbn hfn hln hL hF hI
  generalize hW : w.alloc (.cells #[.int .i64 xk, .int .i64 xn, .string xs, .slice ba bn bc, .slice fa fn fc, .slice la ln lc] 27) = W0 at *
  obtain ⟨e0, e1, e2, e3, e4, e5⟩ := HS0.out
  go_enter Tryd.func18, Tryd.ntmps18
  go_wp2_with fail
  clear hW
  go_at_call 32
  refine (weight_any Q (h + 1) x _ 3000 W0 HV0.out (by decide) (by decide)).mono ?_
  rintro e w1 ⟨r, rfl, hr1, hr2, hr3, hb1⟩
  obtain ⟨f0, f1, f2, f3, f4, f5⟩ := HS0.out.keep hb1
  have HV1 := Lib.hid (VIn.keep hb1 HV0.out)
  have HB1 : Hid (Below w.heap.size w w1) := HB0.out.trans (hb1.mono HB0.out.size)
  have HR := Lib.hid hr3
  clear hb1 hr3 hr1 hr2
  by_cases hr : r ≤ 3000
  · have hd : decide (r ≤ 3000) = true := decide_eq_true hr
    have HW : Hid (wt (h + 1) x ≤ 3000) := by have := HR.out hr; show wt (h + 1) x ≤ 3000; omega
    go_wp2_with fail
    go_at_call 33
    refine (shallow_any Q (h + 1) x _ 60 w1 HV1.out (by decide) (by decide)).mono ?_
    rintro e w2 ⟨b, rfl, hb2⟩
    have HB2 : Hid (Below w.heap.size w w2) := HB1.out.trans (hb2.mono HB1.out.size)
    clear hb2
    go_wp2_with fail
    go_ret
    exact ⟨_, rfl, fun _ => HW.out, HB2.out⟩
  · have hd : decide (r ≤ 3000) = false := decide_eq_false hr
    go_wp2_with fail
    go_ret
    exact ⟨_, rfl, fun hb => (by cases hb), HB1.out⟩
end Go.Proofs.YtdgncpoephdboaaDoor
end
