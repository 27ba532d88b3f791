/- RefOwnAll, AccumOrderWalk. -/
import Derived.Deep.RegionHeld3
import Derived.Test.YtngllchoiffniaaGreatDoorMo34
import Derived.Test.YtngllchoiffniaaGreatDoorMo33
import Derived.Test.YtngllchoiffniaaGreatDoorMo31
import Derived.Test.YtngllchoiffniaaGreatDoorMo4
import Derived.Test.YtngllchoiffniaaGreatDoorMo23
import Derived.Test.YtngllchoiffniaaGreatDoorMo13
import Derived.Test.YtngllchoiffniaaGreatDoorMo24
import Derived.Test.YtngllchoiffniaaGreatDoorMo2
import Derived.Test.YtngllchoiffniaaGreatDoorMo7
set_option maxRecDepth 100000
set_option maxHeartbeats 20000000
section
namespace Go.Proofs.YtngllchoiffniaaGreatDoor
open Go.RowKit
open Seal
open Bson (Val)
theorem own_any (h : Nat) : OwnDo h := own_all (fun h HO d h0 h1 f => fields_do h HO d h0 h1 f) h
end Go.Proofs.YtngllchoiffniaaGreatDoor
end
section
namespace Go.Proofs.YtngllchoiffniaaGreatDoor
open Go.RowKit
open Seal
open Bson (Val)
namespace Acc
def Ints16 (w : World) (a : Option Addr) (l : List Int) : Prop := l = [] ∨ ∃ g o, a = some ⟨g, o, none⟩ ∧ ∀ i (hi : i < l.length), w.cell? ⟨g, o + i, none⟩ = some (.int .i16 l[i])
structure Sx where
 s1 : Nat
 s2 : Nat
 s3 : Nat
 s4 : Nat
 s5 : Nat
 s6 : Nat
def Sx.has (S : Sx) (g : Nat) : Prop := g = S.s1 ∨ g = S.s2 ∨ g = S.s3 ∨ g = S.s4 ∨ g = S.s5 ∨ g = S.s6
def Sx.out (S : Sx) (g : Nat) : Prop := ¬ S.has g
def KS (w : World) (s f : Nat) (Q : Nat → Prop) (h : Nat) (x : Val) : Prop := ∃ wt, St w s f Q h x wt
structure Six (w0 : World) (h : Nat) (S : Sx) (x1 x2 x3 x4 x5 x6 : Val) (w : World) : Prop where
 below : Below w0.heap.size w0 w
 tabs : TabsAt w0.heap.size w
 k1 : KS w S.s1 21 S.out h x1
 k2 : KS w S.s2 24 S.out h x2
 k3 : KS w S.s3 25 S.out h x3
 k4 : KS w S.s4 26 S.out h x4
 k5 : KS w S.s5 27 S.out h x5
 k6 : KS w S.s6 31 S.out h x6
 o0 : w0.heap.size ≤ S.s1
 o1 : S.s1 < S.s2
 o2 : S.s2 < S.s3
 o3 : S.s3 < S.s4
 o4 : S.s4 < S.s5
 o5 : S.s5 < S.s6
 o6 : S.s6 < w.heap.size
section
variable {w0 w w' : World} {h : Nat} {S : Sx} {x1 x2 x3 x4 x5 x6 y : Val}
theorem KS.rm {s f : Nat} {x : Val} {s' : Nat} (hk : KS w s f S.out h x) (hr : RM (fun g => g = s') w w') (hne : s ≠ s') (hh : S.has s') : KS w' s f S.out h x := by
 obtain ⟨wt, hk⟩ := hk
 exact ⟨wt, hk.keep hr hne (fun g hg hn => hn (by rw [hg]; exact hh))⟩
theorem KS.grow {s f : Nat} {x : Val} (hk : KS w s f S.out h x) (hb : Below w.heap.size w w') : KS w' s f S.out h x := by
 obtain ⟨wt, hk⟩ := hk
 exact ⟨wt, hk.below hb⟩
theorem Six.grow (H : Six w0 h S x1 x2 x3 x4 x5 x6 w) (hb : Below w.heap.size w w') : Six w0 h S x1 x2 x3 x4 x5 x6 w' := by
 have hb' := hb.mono H.below.size
 exact ⟨H.below.trans hb', H.tabs.mono hb', H.k1.grow hb, H.k2.grow hb, H.k3.grow hb, H.k4.grow hb, H.k5.grow hb, H.k6.grow hb, H.o0, H.o1, H.o2, H.o3, H.o4, H.o5, Nat.lt_of_lt_of_le H.o6 hb.size⟩
theorem Six.fresh (H : Six w0 h S x1 x2 x3 x4 x5 x6 w) : ∀ g, w.heap.size ≤ g → S.out g := fun g hg hh => by
 have := H.o1; have := H.o2; have := H.o3; have := H.o4; have := H.o5; have := H.o6
 rcases hh with e | e | e | e | e | e <;> omega
theorem Six.put1 {wt : Int} (H : Six w0 h S x1 x2 x3 x4 x5 x6 w) (hs : St w' S.s1 21 S.out h y wt) (hr : RM (fun g => g = S.s1) w w') : Six w0 h S y x2 x3 x4 x5 x6 w' := by
 have o0 := H.o0; have o1 := H.o1; have o2 := H.o2; have o3 := H.o3; have o4 := H.o4; have o5 := H.o5; have o6 := H.o6
 have hb : Below w0.heap.size w w' := hr.below H.below.size (fun k hk => by omega)
 exact ⟨H.below.trans hb, H.tabs.mono hb, ⟨wt, hs⟩, H.k2.rm hr (by omega) (.inl rfl), H.k3.rm hr (by omega) (.inl rfl), H.k4.rm hr (by omega) (.inl rfl), H.k5.rm hr (by omega) (.inl rfl), H.k6.rm hr (by omega) (.inl rfl), o0, o1, o2, o3, o4, o5, Nat.lt_of_lt_of_le o6 hr.size⟩
theorem Six.put2 {wt : Int} (H : Six w0 h S x1 x2 x3 x4 x5 x6 w) (hs : St w' S.s2 24 S.out h y wt) (hr : RM (fun g => g = S.s2) w w') : Six w0 h S x1 y x3 x4 x5 x6 w' := by
 have o0 := H.o0; have o1 := H.o1; have o2 := H.o2; have o3 := H.o3; have o4 := H.o4; have o5 := H.o5; have o6 := H.o6
 have hb : Below w0.heap.size w w' := hr.below H.below.size (fun k hk => by omega)
 exact ⟨H.below.trans hb, H.tabs.mono hb, H.k1.rm hr (by omega) (.inr (.inl rfl)), ⟨wt, hs⟩, H.k3.rm hr (by omega) (.inr (.inl rfl)), H.k4.rm hr (by omega) (.inr (.inl rfl)), H.k5.rm hr (by omega) (.inr (.inl rfl)), H.k6.rm hr (by omega) (.inr (.inl rfl)), o0, o1, o2, o3, o4, o5, Nat.lt_of_lt_of_le o6 hr.size⟩
theorem Six.put3 {wt : Int} (H : Six w0 h S x1 x2 x3 x4 x5 x6 w) (hs : St w' S.s3 25 S.out h y wt) (hr : RM (fun g => g = S.s3) w w') : Six w0 h S x1 x2 y x4 x5 x6 w' := by
 have o0 := H.o0; have o1 := H.o1; have o2 := H.o2; have o3 := H.o3; have o4 := H.o4; have o5 := H.o5; have o6 := H.o6
 have hb : Below w0.heap.size w w' := hr.below H.below.size (fun k hk => by omega)
 exact ⟨H.below.trans hb, H.tabs.mono hb, H.k1.rm hr (by omega) (.inr (.inr (.inl rfl))), H.k2.rm hr (by omega) (.inr (.inr (.inl rfl))), ⟨wt, hs⟩, H.k4.rm hr (by omega) (.inr (.inr (.inl rfl))), H.k5.rm hr (by omega) (.inr (.inr (.inl rfl))), H.k6.rm hr (by omega) (.inr (.inr (.inl rfl))), o0, o1, o2, o3, o4, o5, Nat.lt_of_lt_of_le o6 hr.size⟩
theorem Six.put4 {wt : Int} (H : Six w0 h S x1 x2 x3 x4 x5 x6 w) (hs : St w' S.s4 26 S.out h y wt) (hr : RM (fun g => g = S.s4) w w') : Six w0 h S x1 x2 x3 y x5 x6 w' := by
 have o0 := H.o0; have o1 := H.o1; have o2 := H.o2; have o3 := H.o3; have o4 := H.o4; have o5 := H.o5; have o6 := H.o6
 have hb : Below w0.heap.size w w' := hr.below H.below.size (fun k hk => by omega)
 exact ⟨H.below.trans hb, H.tabs.mono hb, H.k1.rm hr (by omega) (.inr (.inr (.inr (.inl rfl)))), H.k2.rm hr (by omega) (.inr (.inr (.inr (.inl rfl)))), H.k3.rm hr (by omega) (.inr (.inr (.inr (.inl rfl)))), ⟨wt, hs⟩, H.k5.rm hr (by omega) (.inr (.inr (.inr (.inl rfl)))), H.k6.rm hr (by omega) (.inr (.inr (.inr (.inl rfl)))), o0, o1, o2, o3, o4, o5, Nat.lt_of_lt_of_le o6 hr.size⟩
theorem Six.put5 {wt : Int} (H : Six w0 h S x1 x2 x3 x4 x5 x6 w) (hs : St w' S.s5 27 S.out h y wt) (hr : RM (fun g => g = S.s5) w w') : Six w0 h S x1 x2 x3 x4 y x6 w' := by
 have o0 := H.o0; have o1 := H.o1; have o2 := H.o2; have o3 := H.o3; have o4 := H.o4; have o5 := H.o5; have o6 := H.o6
 have hb : Below w0.heap.size w w' := hr.below H.below.size (fun k hk => by omega)
 exact ⟨H.below.trans hb, H.tabs.mono hb, H.k1.rm hr (by omega) (.inr (.inr (.inr (.inr (.inl rfl))))), H.k2.rm hr (by omega) (.inr (.inr (.inr (.inr (.inl rfl))))), H.k3.rm hr (by omega) (.inr (.inr (.inr (.inr (.inl rfl))))), H.k4.rm hr (by omega) (.inr (.inr (.inr (.inr (.inl rfl))))), ⟨wt, hs⟩, H.k6.rm hr (by omega) (.inr (.inr (.inr (.inr (.inl rfl))))), o0, o1, o2, o3, o4, o5, Nat.lt_of_lt_of_le o6 hr.size⟩
theorem Six.put6 {wt : Int} (H : Six w0 h S x1 x2 x3 x4 x5 x6 w) (hs : St w' S.s6 31 S.out h y wt) (hr : RM (fun g => g = S.s6) w w') : Six w0 h S x1 x2 x3 x4 x5 y w' := by
 have o0 := H.o0; have o1 := H.o1; have o2 := H.o2; have o3 := H.o3; have o4 := H.o4; have o5 := H.o5; have o6 := H.o6
 have hb : Below w0.heap.size w w' := hr.below H.below.size (fun k hk => by omega)
 exact ⟨H.below.trans hb, H.tabs.mono hb, H.k1.rm hr (by omega) (.inr (.inr (.inr (.inr (.inr (rfl)))))), H.k2.rm hr (by omega) (.inr (.inr (.inr (.inr (.inr (rfl)))))), H.k3.rm hr (by omega) (.inr (.inr (.inr (.inr (.inr (rfl)))))), H.k4.rm hr (by omega) (.inr (.inr (.inr (.inr (.inr (rfl)))))), H.k5.rm hr (by omega) (.inr (.inr (.inr (.inr (.inr (rfl)))))), ⟨wt, hs⟩, o0, o1, o2, o3, o4, o5, Nat.lt_of_lt_of_le o6 hr.size⟩
theorem cmp_33 (h : Nat) (a b : Int) : Order.cmp (h + 1) (numV 3 a) (numV 3 b) = Order.sgn a b := by
 show (if Order.sgn (Order.cls 3) (Order.cls 3) = 0 then Order.inner (Order.cmp h) (Order.cls 3) (numV 3 a) (numV 3 b) else Order.sgn (Order.cls 3) (Order.cls 3)) = _
 rw [if_pos (by decide)]
 show Order.inner (Order.cmp h) 3 (numV 3 a) (numV 3 b) = _
 unfold Order.inner
 rw [if_pos (.inl rfl)]; rfl
def leastO (h : Nat) (sd : Int) (x : Val) (v : Int) : Val := ((if (numV 3 v).kind = 0 ∨ (numV 3 v).kind = 2 then none else if x.kind = 0 ∨ Order.cmp (h + 1) (numV 3 v) x = sd then some (numV 3 v) else none) : Option Val).getD x
theorem leastO_zero (sd v : Int) : leastO h sd (numV 0 0) v = numV 3 v := by
 unfold leastO
 rw [if_neg (by show ¬ ((3 : Int) = 0 ∨ (3 : Int) = 2); omega), if_pos (.inl rfl)]; rfl
theorem leastO_min (a v : Int) : leastO h (-1) (numV 3 a) v = numV 3 (min a v) := by
 unfold leastO
 rw [if_neg (by show ¬ ((3 : Int) = 0 ∨ (3 : Int) = 2); omega), cmp_33]
 by_cases e : v < a
 ·rw [if_pos (.inr (by unfold Order.sgn; rw [if_pos e]))]
  show numV 3 v = _
  rw [Int.min_eq_right (by omega)]
 ·rw [if_neg (by
   rintro (e2 | e2)
   ·exact absurd e2 (show ¬ ((3 : Int) = 0) by omega)
   ·unfold Order.sgn at e2; rw [if_neg e] at e2; split at e2 <;> omega)]
  show numV 3 a = _
  rw [Int.min_eq_left (by omega)]
theorem leastO_max (a v : Int) : leastO h 1 (numV 3 a) v = numV 3 (max a v) := by
 unfold leastO
 rw [if_neg (by show ¬ ((3 : Int) = 0 ∨ (3 : Int) = 2); omega), cmp_33]
 by_cases e : a < v
 ·rw [if_pos (.inr (by unfold Order.sgn; rw [if_neg (by omega), if_pos e]))]
  show numV 3 v = _
  rw [Int.max_eq_right (by omega)]
 ·rw [if_neg (by
   rintro (e2 | e2)
   ·exact absurd e2 (show ¬ ((3 : Int) = 0) by omega)
   ·unfold Order.sgn at e2; split at e2 <;> first | omega | (split at e2 <;> omega))]
  show numV 3 a = _
  rw [Int.max_eq_left (by omega)]
theorem reck_33 (a b : Int) (ha : -2147483648 ≤ a + b) (hb : a + b < 2147483648) : Num.reck (Num.sumR a b) 3 3 = (3, a + b, 0) := by
 have h1 : Num.sumR a b = (a + b, 0) := by unfold Num.sumR; rw [if_pos (by unfold Num.In; omega)]
 rw [h1]
 show (if noneB 3 = true then (2, 0, 0) else if noneB 3 = true then (2, 0, 0) else if numB 3 = false then (0, 0, 12) else if numB 3 = false then (0, 0, 12) else if (0 : Int) ≠ 0 then (0, 0, (0 : Int)) else if (3 : Int) = 4 then (4, a + b, 0) else if (3 : Int) = 4 then (4, a + b, 0) else (Num.ofK (a + b), a + b, 0)) = _
 rw [if_neg (by decide), if_neg (by decide), if_neg (by decide), if_neg (by decide), if_neg (by decide), if_neg (by decide), if_neg (by decide)]
 unfold Num.ofK
 rw [if_pos ⟨ha, hb⟩]
theorem Six.sum {nn v : Int} (H : Six w0 h S (numV 3 nn) x2 x3 x4 x5 x6 w) (hv0 : -32768 ≤ v) (hv1 : v ≤ 32767) (hn0 : -2147483648 ≤ nn + v) (hn1 : nn + v < 2147483648) : Calls Tryz.prog 13 #[.pointer (some ⟨S.s1, 0, none⟩), leafA 3 v] w fun e w' => e = .returned (.int .i64 0) ∧ Six w0 h S (numV 3 (nn + v)) x2 x3 x4 x5 x6 w' ∧ RM (fun g => g = S.s1) w w' := by
 obtain ⟨wt, hs⟩ := H.k1
 have o0 := H.o0; have o1 := H.o1; have o2 := H.o2; have o3 := H.o3; have o4 := H.o4; have o5 := H.o5
 have hr := reck_33 nn v hn0 hn1
 have h1 := add_sum_num w0.heap.size S.s1 _ wt S.out (fun g => g < w0.heap.size) h (numV 3 v) (leafA 3 v) w (by omega) hs (leaf_in w (fun g => g < w0.heap.size) 3 v (by omega) (by omega) h) (by omega) H.fresh H.tabs rfl
 have e : (Num.reck (Num.sumR (numV 3 nn).n (numV 3 v).n) (numV 3 nn).kind (numV 3 v).kind) = (3, nn + v, 0) := hr
 rw [e] at h1
 refine h1.mono ?_
 rintro e w' ⟨rfl, h2, h3⟩
 exact ⟨rfl, H.put1 h2 h3, h3⟩
theorem Six.least {v : Int} (H : Six w0 h S x1 x2 x3 x4 x5 x6 w) (hv0 : -32768 ≤ v) (hv1 : v ≤ 32767) : Calls Tryz.prog 13 #[.pointer (some ⟨S.s2, 0, none⟩), leafA 3 v] w fun e w' => e = .returned (.int .i64 0) ∧ Six w0 h S x1 (leastO h (-1) x2 v) x3 x4 x5 x6 w' ∧ RM (fun g => g = S.s2) w w' := by
 obtain ⟨wt, hs⟩ := H.k2
 have o0 := H.o0; have o1 := H.o1; have o2 := H.o2; have o3 := H.o3; have o4 := H.o4; have o5 := H.o5
 refine (add_least w0.heap.size S.s2 _ wt S.out (fun g => g < w0.heap.size) h (numV 3 v) (leafA 3 v) w (by omega) hs (leaf_in w (fun g => g < w0.heap.size) 3 v (by omega) (by omega) h) (by omega) H.fresh H.tabs).mono ?_
 rintro e w' ⟨rfl, h2, h3⟩
 exact ⟨rfl, H.put2 h2 h3, h3⟩
theorem Six.greatest {v : Int} (H : Six w0 h S x1 x2 x3 x4 x5 x6 w) (hv0 : -32768 ≤ v) (hv1 : v ≤ 32767) : Calls Tryz.prog 13 #[.pointer (some ⟨S.s3, 0, none⟩), leafA 3 v] w fun e w' => e = .returned (.int .i64 0) ∧ Six w0 h S x1 x2 (leastO h 1 x3 v) x4 x5 x6 w' ∧ RM (fun g => g = S.s3) w w' := by
 obtain ⟨wt, hs⟩ := H.k3
 have o0 := H.o0; have o1 := H.o1; have o2 := H.o2; have o3 := H.o3; have o4 := H.o4; have o5 := H.o5
 refine (add_greatest w0.heap.size S.s3 _ wt S.out (fun g => g < w0.heap.size) h (numV 3 v) (leafA 3 v) w (by omega) hs (leaf_in w (fun g => g < w0.heap.size) 3 v (by omega) (by omega) h) (by omega) H.fresh H.tabs).mono ?_
 rintro e w' ⟨rfl, h2, h3⟩
 exact ⟨rfl, H.put3 h2 h3, h3⟩
theorem Six.first {v : Int} (H : Six w0 h S x1 x2 x3 x4 x5 x6 w) (hv0 : -32768 ≤ v) (hv1 : v ≤ 32767) : Calls Tryz.prog 13 #[.pointer (some ⟨S.s4, 0, none⟩), leafA 3 v] w fun e w' => e = .returned (.int .i64 0) ∧ Six w0 h S x1 x2 x3 (if x4.kind = 0 then numV 3 v else x4) x5 x6 w' ∧ RM (fun g => g = S.s4) w w' := by
 obtain ⟨wt, hs⟩ := H.k4
 have o0 := H.o0; have o1 := H.o1; have o2 := H.o2; have o3 := H.o3; have o4 := H.o4; have o5 := H.o5
 refine (add_first w0.heap.size S.s4 _ wt S.out (fun g => g < w0.heap.size) h (numV 3 v) (leafA 3 v) w (by omega) hs (leaf_in w (fun g => g < w0.heap.size) 3 v (by omega) (by omega) h) (by omega) H.fresh H.tabs).mono ?_
 rintro e w' ⟨rfl, h2, h3⟩
 have h4 := H.put4 h2 h3
 refine ⟨rfl, ?_, h3⟩
 by_cases e : x4.kind = 0
 ·rw [if_pos e] at h4 ⊢; exact h4
 ·rw [if_neg e] at h4 ⊢; exact h4
theorem Six.last {v : Int} (H : Six w0 h S x1 x2 x3 x4 x5 x6 w) (hv0 : -32768 ≤ v) (hv1 : v ≤ 32767) : Calls Tryz.prog 13 #[.pointer (some ⟨S.s5, 0, none⟩), leafA 3 v] w fun e w' => e = .returned (.int .i64 0) ∧ Six w0 h S x1 x2 x3 x4 (numV 3 v) x6 w' ∧ RM (fun g => g = S.s5) w w' := by
 obtain ⟨wt, hs⟩ := H.k5
 have o0 := H.o0; have o1 := H.o1; have o2 := H.o2; have o3 := H.o3; have o4 := H.o4; have o5 := H.o5
 refine (add_last w0.heap.size S.s5 _ wt S.out (fun g => g < w0.heap.size) h (numV 3 v) (leafA 3 v) w (by omega) hs (leaf_in w (fun g => g < w0.heap.size) 3 v (by omega) (by omega) h) (by omega) H.fresh H.tabs).mono ?_
 rintro e w' ⟨rfl, h2, h3⟩
 exact ⟨rfl, H.put5 h2 h3, h3⟩
theorem Six.count {mm : Int} (H : Six w0 h S x1 x2 x3 x4 x5 (numV 3 mm) w) {y : Val} {u : Value} (hu : VIn w (fun g => g < w0.heap.size) (h + 1) y u) (hm0 : 0 ≤ mm) (hm1 : mm ≤ 1000) : Calls Tryz.prog 13 #[.pointer (some ⟨S.s6, 0, none⟩), u] w fun e w' => e = .returned (.int .i64 0) ∧ Six w0 h S x1 x2 x3 x4 x5 (numV 3 (mm + 1)) w' ∧ RM (fun g => g = S.s6) w w' := by
 obtain ⟨wt, hs⟩ := H.k6
 have o0 := H.o0; have o1 := H.o1; have o2 := H.o2; have o3 := H.o3; have o4 := H.o4; have o5 := H.o5
 have ek : Num.ofK (mm + 1) = 3 := by unfold Num.ofK; rw [if_pos (by omega)]
 have h1 := add_count w0.heap.size S.s6 _ wt S.out (fun g => g < w0.heap.size) h (y) (u) w (by omega) hs hu (by omega) H.fresh H.tabs (by show mm + 1 ≤ _; omega)
 have e1 : (numV 3 mm).n + 1 = mm + 1 := rfl
 rw [e1, ek] at h1
 refine h1.mono ?_
 rintro e w' ⟨rfl, h2, h3⟩
 exact ⟨rfl, H.put6 h2 h3, h3⟩
theorem Six.other (H : Six w0 h S x1 x2 x3 x4 x5 x6 w) {y : Val} {u : Value} (hu : VIn w (fun g => g < w0.heap.size) (h + 1) y u) (hn : numB y.kind = false) : Calls Tryz.prog 13 #[.pointer (some ⟨S.s1, 0, none⟩), u] w fun e w' => e = .returned (.int .i64 0) ∧ Six w0 h S x1 x2 x3 x4 x5 x6 w' ∧ RM (fun g => g = S.s1) w w' := by
 obtain ⟨wt, hs⟩ := H.k1
 have o0 := H.o0; have o1 := H.o1; have o2 := H.o2; have o3 := H.o3; have o4 := H.o4; have o5 := H.o5
 refine (add_sum_not w0.heap.size S.s1 _ wt S.out (fun g => g < w0.heap.size) h (y) (u) w (by omega) hs hu (by omega) H.fresh H.tabs hn).mono ?_
 rintro e w' ⟨rfl, h2, h3⟩
 exact ⟨rfl, H.put1 h2 h3, h3⟩
end
theorem new_sum_at (s : Nat) (w : World) (hs : s = w.heap.size) (hT : Tabs w) : Calls Tryz.prog 7 #[.int .i64 1] w fun e w' => e = .returned (.pointer (some ⟨s, 0, none⟩)) ∧ (∃ wt, Cells w' s (mOf 21 s) (leafA 3 0) wt (.slice none 0 0)) ∧ Below w.heap.size w w' := by
 subst hs
 exact (new_sum w hT).mono fun _ _ ⟨h1, h2, h3⟩ => ⟨h1, ⟨_, h2⟩, h3⟩
theorem new_least_at (s : Nat) (w : World) (hs : s = w.heap.size) (hT : Tabs w) : Calls Tryz.prog 7 #[.int .i64 2] w fun e w' => e = .returned (.pointer (some ⟨s, 0, none⟩)) ∧ (∃ wt, Cells w' s (mOf 24 s) (leafA 0 0) wt (.slice none 0 0)) ∧ Below w.heap.size w w' := by
 subst hs
 exact (new_least w hT).mono fun _ _ ⟨h1, h2, h3⟩ => ⟨h1, ⟨_, h2⟩, h3⟩
theorem new_greatest_at (s : Nat) (w : World) (hs : s = w.heap.size) (hT : Tabs w) : Calls Tryz.prog 7 #[.int .i64 3] w fun e w' => e = .returned (.pointer (some ⟨s, 0, none⟩)) ∧ (∃ wt, Cells w' s (mOf 25 s) (leafA 0 0) wt (.slice none 0 0)) ∧ Below w.heap.size w w' := by
 subst hs
 exact (new_greatest w hT).mono fun _ _ ⟨h1, h2, h3⟩ => ⟨h1, ⟨_, h2⟩, h3⟩
theorem new_first_at (s : Nat) (w : World) (hs : s = w.heap.size) (hT : Tabs w) : Calls Tryz.prog 7 #[.int .i64 4] w fun e w' => e = .returned (.pointer (some ⟨s, 0, none⟩)) ∧ (∃ wt, Cells w' s (mOf 26 s) (leafA 0 0) wt (.slice none 0 0)) ∧ Below w.heap.size w w' := by
 subst hs
 exact (new_first w hT).mono fun _ _ ⟨h1, h2, h3⟩ => ⟨h1, ⟨_, h2⟩, h3⟩
theorem new_last_at (s : Nat) (w : World) (hs : s = w.heap.size) (hT : Tabs w) : Calls Tryz.prog 7 #[.int .i64 5] w fun e w' => e = .returned (.pointer (some ⟨s, 0, none⟩)) ∧ (∃ wt, Cells w' s (mOf 27 s) (leafA 0 0) wt (.slice none 0 0)) ∧ Below w.heap.size w w' := by
 subst hs
 exact (new_last w hT).mono fun _ _ ⟨h1, h2, h3⟩ => ⟨h1, ⟨_, h2⟩, h3⟩
theorem new_count_at (s : Nat) (w : World) (hs : s = w.heap.size) (hT : Tabs w) : Calls Tryz.prog 7 #[.int .i64 8] w fun e w' => e = .returned (.pointer (some ⟨s, 0, none⟩)) ∧ (∃ wt, Cells w' s (mOf 31 s) (leafA 3 0) wt (.slice none 0 0)) ∧ Below w.heap.size w w' := by
 subst hs
 exact (new_count w hT).mono fun _ _ ⟨h1, h2, h3⟩ => ⟨h1, ⟨_, h2⟩, h3⟩
structure OrdInv (l : List Int) (l0 : Int) (i : Nat) (nn lo hi mm : Int) (x2 x3 x4 x5 : Val) : Prop where
 n0 : -32768 * (i : Int) ≤ nn
 n1 : nn ≤ 32768 * (i : Int)
 lo0 : -32768 ≤ lo
 lo1 : lo ≤ 32767
 hi0 : -32768 ≤ hi
 hi1 : hi ≤ 32767
 m0 : 0 ≤ mm
 m1 : mm ≤ 2 * (i : Int)
 z : i = 0 → lo = l0 ∧ hi = l0 ∧ x2 = numV 0 0 ∧ x3 = numV 0 0 ∧ x4 = numV 0 0
 s : ∀ j, i = j + 1 → x2 = numV 3 lo ∧ x3 = numV 3 hi ∧ x4 = numV 3 l0 ∧ ∃ hj : j < l.length, x5 = numV 3 l[j]
theorem OrdInv.next {h : Nat} {l : List Int} {l0 : Int} {i : Nat} {nn lo hi mm v d : Int} {x2 x3 x4 x5 : Val} (H : OrdInv l l0 i nn lo hi mm x2 x3 x4 x5) (hil : i < l.length) (hv : v = l[i]) (hv0 : -32768 ≤ v) (hv1 : v ≤ 32767) (h00 : i = 0 → v = l0) (hd1 : 1 ≤ d) (hd2 : d ≤ 2) :
  OrdInv l l0 (i + 1) (nn + v) (min lo v) (max hi v) (mm + d) (leastO h (-1) x2 v) (leastO h 1 x3 v) (if x4.kind = 0 then numV 3 v else x4) (numV 3 v) := by
 have q1 := H.n0; have q2 := H.n1; have q3 := H.lo0; have q4 := H.lo1; have q5 := H.hi0; have q6 := H.hi1; have q7 := H.m0; have q8 := H.m1
 refine ⟨by push_cast; omega, by push_cast; omega, by omega, by omega, by omega, by omega, by omega, by push_cast; omega, fun e => by omega, fun j hj => ?_⟩
 obtain rfl : j = i := by omega
 rcases Nat.eq_zero_or_pos j with e | e
 ·obtain ⟨e1, e2, e3, e4, e5⟩ := H.z e
  have ev := h00 e
  rw [e3, e4, e5, leastO_zero, leastO_zero, if_pos (show (numV 0 0).kind = 0 from rfl), e1, e2, ← ev, Int.min_self, Int.max_self]
  exact ⟨rfl, rfl, rfl, hil, by rw [hv]⟩
 ·obtain ⟨k, rfl⟩ : ∃ k, j = k + 1 := ⟨j - 1, by omega⟩
  obtain ⟨e1, e2, e3, -⟩ := H.s k rfl
  rw [e1, e2, e3, leastO_min, leastO_max, if_neg (show ¬ ((numV 3 l0).kind = 0) by show ¬ ((3 : Int) = 0); omega)]
  exact ⟨rfl, rfl, rfl, hil, by rw [hv]⟩
theorem KS.val {w : World} {s f : Nat} {Q : Nat → Prop} {h : Nat} {z : Int} (hk : KS w s f Q h (numV 3 z)) : Calls Tryz.prog 15 #[.pointer (some ⟨s, 0, none⟩)] w fun e w' => ∃ a b c d, e = .returned (.agg #[.int .i64 3, .int .i64 z, a, b, c, d]) ∧ Below w.heap.size w w' := by
 obtain ⟨wt, u, h1, h2, -⟩ := hk
 refine (avalue_any s _ _ _ u _ wt Q h _ w h1 h2).mono ?_
 rintro e w' ⟨v', rfl, hv, hb⟩
 obtain ⟨k, n, t, b1, b2, b3, p1, p2, p3, p4, p5, p6, rfl, e1, e2, -⟩ := hv.letters
 obtain rfl : k = 3 := e1
 obtain rfl : n = z := e2
 exact ⟨_, _, _, _, rfl, hb⟩
def Fact.num (z : Int) : Fact := ⟨fun v _ => ∃ a b c d, v = .agg #[.int .i64 3, .int .i64 z, a, b, c, d], fun _ _ _ h _ => h⟩
theorem box_rm {w w' : World} {p s : Nat} {c0 c1 c2 c3 c4 c5 : Value} (hx : IsBox w p c0 c1 c2 c3 c4 c5) (hr : RM (fun g => g = s) w w') (hne : p ≠ s) : IsBox w' p c0 c1 c2 c3 c4 c5 := (hr.block p (Array.getElem?_eq_some_iff.1 hx).1 hne).trans hx
theorem order12_any (Q : Nat → Prop) (h : Nat) (la : Option Addr) (n lc : Nat) (l : List Int) (oa : Option Addr) (m oc : Nat) (ol : List Val) (w : World) (hn : l.length = n) (hb : ∀ x ∈ l, -32768 ≤ x ∧ x ≤ 32767) (hL : Ints16 w la l) (hm : ol.length = m) (hmb : m ≤ 1353245080339) (hI : ItemsIn w Q (VIn w Q (h + 1)) oa ol) (hT : Tabs w) (hN12 : Nms12 w) :
  Calls Tryz.prog 4 #[.slice la n lc, .slice oa m oc] w fun e w' => e = .returned (.bool true) ∧ Below w.heap.size w w' := by
 have HL := Lib.hid hL; have HI := Lib.hid hI; have HM := Lib.hid hm; have HN := Lib.hid hn; have HBD := Lib.hid hb; have HT := Lib.hid (TabsAt.of hT)
 have CA := Lib.hid (awake12_any w hT hN12)
 clear hL hI hm hn hb hT hN12
 go_enter Tryz.func4, Tryz.ntmps4
 go_wp2_with fail
 refine CA.out.mono ?_
 rintro e w1 ⟨rfl, hb1⟩
 have HB1 := Lib.hid hb1
 clear hb1 CA
 by_cases h40 : 40 < n
 ·skip
  have h40i : (40 : Int) < (n : Int) := by omega
  go_wp2_with fail
  go_ret
  exact ⟨rfl, HB1.out⟩
 have h40i : ¬ (40 : Int) < (n : Int) := by omega
 by_cases h0 : n = 0
 ·subst h0
  go_wp2_with fail
  go_ret
  exact ⟨rfl, HB1.out⟩
 have h0i : ((n : Int) == 0) = false := by rw [beq_eq_false_iff_ne]; omega
 have CF := Lib.hid (few_more Q h oa m oc ol w1 HM.out hmb (HI.out.kept (Kept.of_below HB1.out) (fun _ z => z) (fun _ _ z => VIn.keep HB1.out z)))
 go_wp2_with fail
 go_at_call 6
 refine CF.out.mono ?_
 rintro e w2 ⟨b, rfl, hf, hb2⟩
 have HB2 := Lib.hid (HB1.out.trans (hb2.mono HB1.out.size))
 have HF := Lib.hid hf
 clear hf hb2 CF
 cases b
 ·skip
  go_wp2_with fail
  go_ret
  exact ⟨rfl, HB2.out⟩
 by_cases hmn : n < m
 ·skip
  have hmni : (n : Int) < (m : Int) := by omega
  go_wp2_with fail
  go_ret
  exact ⟨rfl, HB2.out⟩
 have hmni : ¬ (n : Int) < (m : Int) := by omega
 go_wp2_with fail
 go_loopw [5] (fun i wr => ∃ (k : Nat), i = .int .i64 k ∧ k ≤ m ∧ Hid (Below w.heap.size w wr) ∧ Hid (∀ j (hj : j < ol.length), j < k → numB ol[j].kind = false)) (fun i _ => m - (intOf i).toNat)
 case atStart => exact ⟨0, rfl, Nat.zero_le _, HB2.out, fun j _ hj => absurd hj (Nat.not_lt_zero _)⟩
 case round =>
  obtain ⟨k, rfl, hk, HB, HK⟩ := hrel
  by_cases hlt : k < m
  ·skip
   obtain ⟨g, o, hla, hqg, hall⟩ := HI.out.resolve_left (fun e => by have := HM.out; rw [e] at this; simp at this; omega)
   have hkl : k < ol.length := by rw [HM.out]; exact hlt
   obtain ⟨v1, hsix, hV⟩ := hall k hkl
   obtain rfl := hla
   obtain ⟨ka, na, sa, ba, fa, ya, bl, bc, fl, fc, ll, yc, rfl⟩ := VIn.shape (h := h + 1) hV
   have hkind : ka = ol[k].kind := VIn.kind_is (h := h + 1) hV
   have HKD := Lib.hid hkind
   have HV := Lib.hid (VIn.keep (h := h + 1) HB.out hV)
   obtain ⟨s0, s1, s2, s3, s4, s5⟩ := (hsix.keep HB.out).cells
   have hki : (k : Int) < (m : Int) := by omega
   clear hall hsix hV hkind
   by_cases h3 : ka = 3
   ·subst h3
    go_wp2_with fail
    go_ret
    exact ⟨rfl, HB.out⟩
   by_cases h4 : ka = 4
   ·subst h4
    go_wp2_with fail
    go_ret
    exact ⟨rfl, HB.out⟩
   have e3 : ((ka : Int) == 3) = false := by rw [beq_eq_false_iff_ne]; exact h3
   have e4 : ((ka : Int) == 4) = false := by rw [beq_eq_false_iff_ne]; exact h4
   have hnk : ∀ j (hj : j < ol.length), j < k + 1 → numB ol[j].kind = false := fun j hj hjk => by
    by_cases e : j = k
    ·subst e; rw [← HKD.out]; simp [numB, h3, h4]
    ·exact HK.out j hj (by omega)
   have HNK := Lib.hid hnk
   clear hnk
   obtain ⟨W0, hW0⟩ : ∃ W, W = wr.alloc (.cells #[.string ⟨#[]⟩, .int .i64 ka, .int .i64 na, .string sa, .slice ba bl bc, .slice fa fl fc, .slice ya ll yc] 38) := ⟨_, rfl⟩
   have hb0 : Below wr.heap.size wr W0 := by rw [hW0]; exact (Below.refl _ _).alloc (Nat.le_refl _) _
   have hr0 : W0.heap[wr.heap.size]? = some (.cells #[.string ⟨#[]⟩, .int .i64 ka, .int .i64 na, .string sa, .slice ba bl bc, .slice fa fl fc, .slice ya ll yc] 38 (0, 0)) := by rw [hW0]; exact heap_alloc_new wr _
   have HC := Lib.hid (may_fits (fun _ => True) (h + 1) (own_any (h + 2)) _ _ W0 (doc_in (x := ol[k]) hr0 trivial (show (⟨#[]⟩ : ByteArray).size ≤ 140737488355328 by decide) (VIn.all (VIn.keep (h := h + 1) hb0 HV.out))))
   have HB0 := Lib.hid (HB.out.trans (hb0.mono HB.out.size))
   have HW0 := Lib.hid hW0
   clear hb0 hr0 hW0
   go_wp2_with fail
   rw [← HW0.out]
   go_at_call 12
   refine HC.out.mono ?_
   rintro e w3 ⟨b, rfl, -, hb3⟩
   have HB3 := Lib.hid (HB0.out.trans (hb3.mono HB0.out.size))
   clear hb3 HC
   cases b
   ·skip
    go_wp2_with fail
    go_ret
    exact ⟨rfl, HB3.out⟩
   ·skip
    go_wp2_with fail
    go_roundw
    case rel => exact ⟨k + 1, by go_num, by omega, HB3, HNK⟩
    case measure => simp [intOf]; omega
  obtain rfl : k = m := by omega
  have HB3a := HB
  clear hk hlt
  obtain ⟨S1, hS1⟩ : ∃ s, s = wr.heap.size := ⟨_, rfl⟩
  have HS1 := Lib.hid hS1
  have CN1 := Lib.hid (new_sum_at S1 wr hS1 (HT.out.mono HB.out).now)
  clear hS1
  go_wp2_with fail
  refine CN1.out.mono ?_
  rintro e v1 ⟨rfl, ⟨wt1, hc1⟩, hb1⟩
  have HBv1 := Lib.hid (HB.out.trans (hb1.mono HB.out.size))
  have HC1 := Lib.hid hc1
  have HG1 := Lib.hid hb1
  clear hc1 hb1 CN1
  obtain ⟨S2, hS2⟩ : ∃ s, s = v1.heap.size := ⟨_, rfl⟩
  have HS2 := Lib.hid hS2
  have CN2 := Lib.hid (new_least_at S2 v1 hS2 (HT.out.mono HBv1.out).now)
  clear hS2
  go_wp2_with fail
  refine CN2.out.mono ?_
  rintro e v2 ⟨rfl, ⟨wt2, hc2⟩, hb2⟩
  have HBv2 := Lib.hid (HBv1.out.trans (hb2.mono HBv1.out.size))
  have HC2 := Lib.hid hc2
  have HG2 := Lib.hid hb2
  clear hc2 hb2 CN2
  obtain ⟨S3, hS3⟩ : ∃ s, s = v2.heap.size := ⟨_, rfl⟩
  have HS3 := Lib.hid hS3
  have CN3 := Lib.hid (new_greatest_at S3 v2 hS3 (HT.out.mono HBv2.out).now)
  clear hS3
  go_wp2_with fail
  refine CN3.out.mono ?_
  rintro e v3 ⟨rfl, ⟨wt3, hc3⟩, hb3⟩
  have HBv3 := Lib.hid (HBv2.out.trans (hb3.mono HBv2.out.size))
  have HC3 := Lib.hid hc3
  have HG3 := Lib.hid hb3
  clear hc3 hb3 CN3
  obtain ⟨S4, hS4⟩ : ∃ s, s = v3.heap.size := ⟨_, rfl⟩
  have HS4 := Lib.hid hS4
  have CN4 := Lib.hid (new_first_at S4 v3 hS4 (HT.out.mono HBv3.out).now)
  clear hS4
  go_wp2_with fail
  refine CN4.out.mono ?_
  rintro e v4 ⟨rfl, ⟨wt4, hc4⟩, hb4⟩
  have HBv4 := Lib.hid (HBv3.out.trans (hb4.mono HBv3.out.size))
  have HC4 := Lib.hid hc4
  have HG4 := Lib.hid hb4
  clear hc4 hb4 CN4
  obtain ⟨S5, hS5⟩ : ∃ s, s = v4.heap.size := ⟨_, rfl⟩
  have HS5 := Lib.hid hS5
  have CN5 := Lib.hid (new_last_at S5 v4 hS5 (HT.out.mono HBv4.out).now)
  clear hS5
  go_wp2_with fail
  refine CN5.out.mono ?_
  rintro e v5 ⟨rfl, ⟨wt5, hc5⟩, hb5⟩
  have HBv5 := Lib.hid (HBv4.out.trans (hb5.mono HBv4.out.size))
  have HC5 := Lib.hid hc5
  have HG5 := Lib.hid hb5
  clear hc5 hb5 CN5
  obtain ⟨S6, hS6⟩ : ∃ s, s = v5.heap.size := ⟨_, rfl⟩
  have HS6 := Lib.hid hS6
  have CN6 := Lib.hid (new_count_at S6 v5 hS6 (HT.out.mono HBv5.out).now)
  clear hS6
  go_wp2_with fail
  refine CN6.out.mono ?_
  rintro e v6 ⟨rfl, ⟨wt6, hc6⟩, hb6⟩
  have HBv6 := Lib.hid (HBv5.out.trans (hb6.mono HBv5.out.size))
  have HC6 := Lib.hid hc6
  have HG6 := Lib.hid hb6
  clear hc6 hb6 CN6
  have hl1 := HC1.out.lt; have hl2 := HC2.out.lt; have hl3 := HC3.out.lt; have hl4 := HC4.out.lt; have hl5 := HC5.out.lt; have hl6 := HC6.out.lt
  have z1 := HS1.out; have z2 := HS2.out; have z3 := HS3.out; have z4 := HS4.out; have z5 := HS5.out; have z6 := HS6.out
  have zz := HB.out.size
  have HSIX : Hid (Six w h ⟨S1, S2, S3, S4, S5, S6⟩ (numV 3 0) (numV 0 0) (numV 0 0) (numV 0 0) (numV 0 0) (numV 3 0) v6) := by
   have hq : ∀ g, (Sx.mk S1 S2 S3 S4 S5 S6).has g → ¬ (Sx.mk S1 S2 S3 S4 S5 S6).out g := fun g hg hn => hn hg
   have c1 : Cells v6 S1 (mOf 21 S1) (leafA 3 0) wt1 (.slice none 0 0) := (HC1.out.keep (by have q2 := HG2.out.block S1 (by omega); have q3 := HG3.out.block S1 (by omega); have q4 := HG4.out.block S1 (by omega); have q5 := HG5.out.block S1 (by omega); have q6 := HG6.out.block S1 (by omega); rw [q6, q5, q4, q3, q2]))
   have k1 : KS v6 S1 21 (Sx.mk S1 S2 S3 S4 S5 S6).out h (numV 3 0) := ⟨wt1, st_new (by unfold Num.In; omega) (by unfold Num.In; omega) c1 _ (hq S1 (.inl rfl)) h⟩
   have c2 : Cells v6 S2 (mOf 24 S2) (leafA 0 0) wt2 (.slice none 0 0) := (HC2.out.keep (by have q3 := HG3.out.block S2 (by omega); have q4 := HG4.out.block S2 (by omega); have q5 := HG5.out.block S2 (by omega); have q6 := HG6.out.block S2 (by omega); rw [q6, q5, q4, q3]))
   have k2 : KS v6 S2 24 (Sx.mk S1 S2 S3 S4 S5 S6).out h (numV 0 0) := ⟨wt2, st_new (by unfold Num.In; omega) (by unfold Num.In; omega) c2 _ (hq S2 (.inr (.inl rfl))) h⟩
   have c3 : Cells v6 S3 (mOf 25 S3) (leafA 0 0) wt3 (.slice none 0 0) := (HC3.out.keep (by have q4 := HG4.out.block S3 (by omega); have q5 := HG5.out.block S3 (by omega); have q6 := HG6.out.block S3 (by omega); rw [q6, q5, q4]))
   have k3 : KS v6 S3 25 (Sx.mk S1 S2 S3 S4 S5 S6).out h (numV 0 0) := ⟨wt3, st_new (by unfold Num.In; omega) (by unfold Num.In; omega) c3 _ (hq S3 (.inr (.inr (.inl rfl)))) h⟩
   have c4 : Cells v6 S4 (mOf 26 S4) (leafA 0 0) wt4 (.slice none 0 0) := (HC4.out.keep (by have q5 := HG5.out.block S4 (by omega); have q6 := HG6.out.block S4 (by omega); rw [q6, q5]))
   have k4 : KS v6 S4 26 (Sx.mk S1 S2 S3 S4 S5 S6).out h (numV 0 0) := ⟨wt4, st_new (by unfold Num.In; omega) (by unfold Num.In; omega) c4 _ (hq S4 (.inr (.inr (.inr (.inl rfl))))) h⟩
   have c5 : Cells v6 S5 (mOf 27 S5) (leafA 0 0) wt5 (.slice none 0 0) := (HC5.out.keep (by have q6 := HG6.out.block S5 (by omega); rw [q6]))
   have k5 : KS v6 S5 27 (Sx.mk S1 S2 S3 S4 S5 S6).out h (numV 0 0) := ⟨wt5, st_new (by unfold Num.In; omega) (by unfold Num.In; omega) c5 _ (hq S5 (.inr (.inr (.inr (.inr (.inl rfl)))))) h⟩
   have c6 : Cells v6 S6 (mOf 31 S6) (leafA 3 0) wt6 (.slice none 0 0) := HC6.out
   have k6 : KS v6 S6 31 (Sx.mk S1 S2 S3 S4 S5 S6).out h (numV 3 0) := ⟨wt6, st_new (by unfold Num.In; omega) (by unfold Num.In; omega) c6 _ (hq S6 (.inr (.inr (.inr (.inr (.inr (rfl))))))) h⟩
   exact ⟨HBv6.out, HT.out.mono HBv6.out, k1, k2, k3, k4, k5, k6, by show _ ≤ S1; omega, by show S1 < S2; omega, by show S2 < S3; omega, by show S3 < S4; omega, by show S4 < S5; omega, by show S5 < S6; omega, by show S6 < _; omega⟩
  clear hl1 hl2 hl3 hl4 hl5 hl6 z1 z2 z3 z4 z5 z6 zz HC1 HC2 HC3 HC4 HC5 HC6 HG1 HG2 HG3 HG4 HG5 HG6 HBv1 HBv2 HBv3 HBv4 HBv5 HBv6 HS1 HS2 HS3 HS4 HS5 HS6 HB
  obtain ⟨g1, o1, rfl, hcl⟩ := HL.out.resolve_left (fun e => h0 (by rw [← HN.out, e]; rfl))
  have HCL : Hid (∀ W, Below w.heap.size w W → ∀ i (hi : i < l.length), W.cell? ⟨g1, o1 + i, none⟩ = some (.int .i16 l[i])) := fun W hb i hi => cell_keep hb (hcl i hi)
  clear hcl
  have h0l : 0 < l.length := by rw [HN.out]; omega
  obtain ⟨l0, hl0⟩ : ∃ z, z = l[0] := ⟨_, rfl⟩
  have HL0 := Lib.hid hl0
  have hc0 := HCL.out v6 HSIX.out.below 0 h0l
  rw [Nat.add_zero, ← hl0] at hc0
  have hlb := HBD.out l[0] (List.getElem_mem h0l)
  rw [← hl0] at hlb
  obtain ⟨hlb0, hlb1⟩ := hlb
  clear hl0
  have hcv : IntKind.i64.wrap l0 = l0 := IntWalk.i64_in _ (by omega)
  have h0n : 0 < n := by omega
  have h0ni : (0 : Int) < (n : Int) := by omega
  go_upto_region 12 with fail
  go_quiet (fail)
  have HSX : Hid (Six w h ⟨S1, S2, S3, S4, S5, S6⟩ (numV 3 0) (numV 0 0) (numV 0 0) (numV 0 0) (numV 0 0) (numV 3 0) (v6.drewN nq)) := HSIX.out.grow ⟨rfl, rfl, rfl, Nat.le_refl _, fun _ _ => rfl⟩
  clear hc0 HSIX
  generalize v6.drewN nq = w9 at HSX ⊢
  go_wp2_with fail
  go_loopw [12, 13, 14, 15, 16] (fun n_ lo_ hi_ mm_ i_ wr => ∃ (i : Nat) (nn lo hi mm : Int) (x2 x3 x4 x5 : Val), n_ = .int .i64 nn ∧ lo_ = .int .i64 lo ∧ hi_ = .int .i64 hi ∧ mm_ = .int .i64 mm ∧ i_ = .int .i64 i ∧ i ≤ n ∧ Hid (Six w h ⟨S1, S2, S3, S4, S5, S6⟩ (numV 3 nn) x2 x3 x4 x5 (numV 3 mm) wr) ∧ Hid (OrdInv l l0 i nn lo hi mm x2 x3 x4 x5)) (fun _ _ _ _ i_ _ => n - (intOf i_).toNat)
  case atStart => exact ⟨0, 0, l0, l0, 0, numV 0 0, numV 0 0, numV 0 0, numV 0 0, rfl, rfl, rfl, rfl, rfl, Nat.zero_le _, HSX.out, ⟨by omega, by omega, hlb0, hlb1, hlb0, hlb1, by omega, by omega, fun _ => ⟨rfl, rfl, rfl, rfl, rfl⟩, fun j hj => by omega⟩⟩
  case round =>
   obtain ⟨i, nn, lo, hi, mm, x2, x3, x4, x5, rfl, rfl, rfl, rfl, rfl, hik, HX, HO⟩ := hrel
   by_cases hin : i < n
   ·skip
    have hil : i < l.length := by rw [HN.out]; exact hin
    have hini : (i : Int) < (n : Int) := by omega
    obtain ⟨v, hv⟩ : ∃ v, v = l[i] := ⟨_, rfl⟩
    have hvb := HBD.out l[i] (List.getElem_mem hil)
    have hci := HCL.out wr HX.out.below i hil
    rw [← hv] at hvb hci
    obtain ⟨hv0, hv1⟩ := hvb
    have HVE := Lib.hid hv
    clear hv
    have hcw : IntKind.i64.wrap v = v := IntWalk.i64_in _ (by omega)
    obtain ⟨q1, q2, q3, q4, q5, q6, q7, q8, q9, q10⟩ := HO.out
    have hq1 : -1310720 ≤ nn := by omega
    have hq2 : nn ≤ 1310720 := by omega
    have hwn : IntKind.i64.wrap (nn + v) = nn + v := IntWalk.i64_in _ (by omega)
    have HOB := Lib.hid (And.intro hq1 (And.intro hq2 (And.intro q3 (And.intro q4 (And.intro q5 (And.intro q6 (And.intro q7 q8)))))))
    clear q1 q2 q3 q4 q5 q6 q7 q8 q9 q10 hq1 hq2
    obtain ⟨W1, hW1⟩ : ∃ W, W = wr.alloc (.cells #[.int .i64 3, .int .i64 v, .string ⟨#[]⟩, .slice none 0 0, .slice none 0 0, .slice none 0 0] 35) := ⟨_, rfl⟩
    obtain ⟨P1, hP1⟩ : ∃ P, P = wr.heap.size := ⟨_, rfl⟩
    have hb1 : Below wr.heap.size wr W1 := by rw [hW1]; exact (Below.refl _ _).alloc (Nat.le_refl _) _
    have hx1 : IsBox W1 P1 (.int .i64 3) (.int .i64 v) (.string ⟨#[]⟩) (.slice none 0 0) (.slice none 0 0) (.slice none 0 0) := by rw [hW1, hP1]; exact IsBox.new wr _ _ _ _ _ _
    have HX1 := Lib.hid (HX.out.grow hb1)
    have HPX := Lib.hid hx1
    have HP1 := Lib.hid (show w.heap.size ≤ P1 ∧ P1 ≠ S1 ∧ P1 ≠ S2 ∧ P1 ≠ S3 ∧ P1 ≠ S4 ∧ P1 ≠ S5 ∧ P1 ≠ S6 ∧ P1 < W1.heap.size from by have hh := HX.out.fresh P1 (by omega); have hl := HX.out.below.size; have hs : P1 < W1.heap.size := (Array.getElem?_eq_some_iff.1 hx1).1; exact ⟨by omega, fun e => hh (.inl e), fun e => hh (.inr (.inl e)), fun e => hh (.inr (.inr (.inl e))), fun e => hh (.inr (.inr (.inr (.inl e)))), fun e => hh (.inr (.inr (.inr (.inr (.inl e))))), fun e => hh (.inr (.inr (.inr (.inr (.inr e))))), hs⟩)
    have HW1 := Lib.hid hW1; have HPP := Lib.hid hP1
    clear hb1 hx1 hW1 hP1
    go_upto_region 18 with fail
    rw [← HW1.out, ← HPP.out]
    obtain ⟨y0, y1, y2, y3, y4, y5⟩ := HPX.out.cells
    go_quiet (fail)
    have HY0 : Hid (Six w h ⟨S1, S2, S3, S4, S5, S6⟩ (numV 3 nn) x2 x3 x4 x5 (numV 3 mm) (W1.drewN nq)) := HX1.out.grow ⟨rfl, rfl, rfl, Nat.le_refl _, fun _ _ => rfl⟩
    have HZ0 : Hid (IsBox (W1.drewN nq) P1 (.int .i64 3) (.int .i64 v) (.string ⟨#[]⟩) (.slice none 0 0) (.slice none 0 0) (.slice none 0 0)) := HPX.out
    clear y0 y1 y2 y3 y4 y5 HX1 HPX HW1
    generalize W1.drewN nq = w5 at HY0 HZ0 ⊢
    skip
    obtain ⟨y0, y1, y2, y3, y4, y5⟩ := HZ0.out.cells
    have CA0 := Lib.hid (HY0.out.sum hv0 hv1 (by have := HOB.out.1; omega) (by have := HOB.out.2.1; omega))
    unfold leafA at CA0
    go_wp2_with fail
    refine CA0.out.mono ?_
    rintro e c1 ⟨rfl, hy, hr⟩
    have HZ1 := Lib.hid (box_rm HZ0.out hr HP1.out.2.1)
    have HY1 := Lib.hid hy
    clear hy hr CA0 HY0 HZ0 y0 y1 y2 y3 y4 y5
    obtain ⟨y0, y1, y2, y3, y4, y5⟩ := HZ1.out.cells
    have CA1 := Lib.hid (HY1.out.least hv0 hv1)
    unfold leafA at CA1
    go_wp2_with fail
    refine CA1.out.mono ?_
    rintro e c2 ⟨rfl, hy, hr⟩
    have HZ2 := Lib.hid (box_rm HZ1.out hr HP1.out.2.2.1)
    have HY2 := Lib.hid hy
    clear hy hr CA1 HY1 HZ1 y0 y1 y2 y3 y4 y5
    obtain ⟨y0, y1, y2, y3, y4, y5⟩ := HZ2.out.cells
    have CA2 := Lib.hid (HY2.out.greatest hv0 hv1)
    unfold leafA at CA2
    go_wp2_with fail
    refine CA2.out.mono ?_
    rintro e c3 ⟨rfl, hy, hr⟩
    have HZ3 := Lib.hid (box_rm HZ2.out hr HP1.out.2.2.2.1)
    have HY3 := Lib.hid hy
    clear hy hr CA2 HY2 HZ2 y0 y1 y2 y3 y4 y5
    obtain ⟨y0, y1, y2, y3, y4, y5⟩ := HZ3.out.cells
    have CA3 := Lib.hid (HY3.out.first hv0 hv1)
    unfold leafA at CA3
    go_wp2_with fail
    refine CA3.out.mono ?_
    rintro e c4 ⟨rfl, hy, hr⟩
    have HZ4 := Lib.hid (box_rm HZ3.out hr HP1.out.2.2.2.2.1)
    have HY4 := Lib.hid hy
    clear hy hr CA3 HY3 HZ3 y0 y1 y2 y3 y4 y5
    obtain ⟨y0, y1, y2, y3, y4, y5⟩ := HZ4.out.cells
    have CA4 := Lib.hid (HY4.out.last hv0 hv1)
    unfold leafA at CA4
    go_wp2_with fail
    refine CA4.out.mono ?_
    rintro e c5 ⟨rfl, hy, hr⟩
    have HZ5 := Lib.hid (box_rm HZ4.out hr HP1.out.2.2.2.2.2.1)
    have HY5 := Lib.hid hy
    clear hy hr CA4 HY4 HZ4 y0 y1 y2 y3 y4 y5
    obtain ⟨y0, y1, y2, y3, y4, y5⟩ := HZ5.out.cells
    have CA5 := Lib.hid (HY5.out.count (y := numV 3 v) (leaf_in c5 _ 3 v (by omega) (by omega) h) (by have := HOB.out.2.2.2.2.2.2.1; omega) (by have := HOB.out.2.2.2.2.2.2.2; omega))
    skip
    go_wp2_with fail
    refine CA5.out.mono ?_
    rintro e c6 ⟨rfl, hy, hr⟩
    have HZ6 := Lib.hid (box_rm HZ5.out hr HP1.out.2.2.2.2.2.2.1)
    have HY6 := Lib.hid hy
    clear hy hr CA5 HY5 HZ5 y0 y1 y2 y3 y4 y5
    have hwm : IntKind.i64.wrap (mm + 1) = mm + 1 := IntWalk.i64_in _ (by have := HOB.out.2.2.2.2.2.2.1; have := HOB.out.2.2.2.2.2.2.2; omega)
    have hwm2 : IntKind.i64.wrap (mm + 1 + 1) = mm + 1 + 1 := IntWalk.i64_in _ (by have := HOB.out.2.2.2.2.2.2.1; have := HOB.out.2.2.2.2.2.2.2; omega)
    have h00 : i = 0 → v = l0 := fun e => by subst e; rw [HVE.out, HL0.out]
    have HN1 := Lib.hid (HO.out.next (h := h) (d := 1) hil HVE.out hv0 hv1 h00 (by omega) (by omega))
    have HN2 : Hid (OrdInv l l0 (i + 1) (nn + v) (min lo v) (max hi v) (mm + 1 + 1) (leastO h (-1) x2 v) (leastO h 1 x3 v) (if x4.kind = 0 then numV 3 v else x4) (numV 3 v)) := by
     have hh := HO.out.next (h := h) (d := 2) hil HVE.out hv0 hv1 h00 (by omega) (by omega)
     rw [show mm + 1 + 1 = mm + 2 by omega]
     exact hh
    clear h00
    have hwi : IntKind.i64.wrap ((i : Int) + 1) = (i : Int) + 1 := IntWalk.i64_in _ (by omega)
    by_cases hio : i < k
    ·skip
     have hioi : (i : Int) < (k : Int) := by omega
     have hio2 : i < ol.length := by rw [HM.out]; exact hio
     obtain ⟨g2, o2, rfl, -, hall⟩ := HI.out.resolve_left (fun e => by rw [e] at hio2; cases hio2)
     obtain ⟨u1, hsix, hV⟩ := hall i hio2
     obtain ⟨ka, na, sa, ba, fa, ya, bl, bc, fl, fc, ll, yc, rfl⟩ := VIn.shape (h := h + 1) hV
     have hu := (VIn.lt hV).kept (Kept.of_below HY6.out.below) (Q' := fun g => g < w.heap.size) (fun g hg => hg.2)
     have HSX6 := Lib.hid (hsix.keep HY6.out.below)
     have HVV := Lib.hid hV
     have HSS := Lib.hid hsix
     have CO := Lib.hid (HY6.out.other hu (HK.out i hio2 hio))
     obtain ⟨s0, s1, s2, s3, s4, s5⟩ := HSX6.out.cells
     clear hall hsix hV hu
     go_wp2_with fail
     refine CO.out.mono ?_
     rintro e c7 ⟨rfl, hy, hr⟩
     have HY7 := Lib.hid hy
     clear hy hr CO s0 s1 s2 s3 s4 s5 HSX6
     have hu := (VIn.lt HVV.out).kept (Kept.of_below HY7.out.below) (Q' := fun g => g < w.heap.size) (fun g hg => hg.2)
     obtain ⟨s0, s1, s2, s3, s4, s5⟩ := (HSS.out.keep HY7.out.below).cells
     have CC := Lib.hid (HY7.out.count hu (by have := HOB.out.2.2.2.2.2.2.1; omega) (by have := HOB.out.2.2.2.2.2.2.2; omega))
     clear hu
     go_wp2_with fail
     refine CC.out.mono ?_
     rintro e c8 ⟨rfl, hy, hr⟩
     have HY8 := Lib.hid hy
     clear hy hr CC s0 s1 s2 s3 s4 s5
     go_wp2_with fail
     go_roundw
     case rel =>
      first
      | exact ⟨i + 1, nn + v, min lo v, max hi v, mm + 1 + 1, _, _, _, _, rfl, rfl, rfl, rfl, by go_num, by omega, HY8, HN2⟩
      | (repeat apply Exists.intro; refine ⟨?_, rfl⟩; exact ⟨i + 1, nn + v, min lo v, max hi v, mm + 1 + 1, _, _, _, _, rfl, rfl, rfl, rfl, by go_num, by omega, HY8, HN2⟩)
     case measure => simp [intOf]; omega
    ·skip
     have hioi : ¬ (i : Int) < (k : Int) := by omega
     go_wp2_with fail
     go_roundw
     case rel =>
      first
      | exact ⟨i + 1, nn + v, min lo v, max hi v, mm + 1, _, _, _, _, rfl, rfl, rfl, rfl, by go_num, by omega, HY6, HN1⟩
      | (repeat apply Exists.intro; refine ⟨?_, rfl⟩; exact ⟨i + 1, nn + v, min lo v, max hi v, mm + 1, _, _, _, _, rfl, rfl, rfl, rfl, by go_num, by omega, HY6, HN1⟩)
     case measure => simp [intOf]; omega
   obtain rfl : i = n := by omega
   clear hik hin
   obtain ⟨j, hj⟩ : ∃ j, i = j + 1 := ⟨i - 1, by omega⟩
   obtain ⟨e2, e3, e4, hjl, e5⟩ := HO.out.s j hj
   obtain ⟨vl, hvl⟩ : ∃ z, z = l[j] := ⟨_, rfl⟩
   rw [← hvl] at e5
   subst e2; subst e3; subst e4; subst e5
   have hc0 := Lib.hid (fun W (hb : Below w.heap.size w W) => HCL.out W hb 0 (by rw [HN.out]; omega))
   have HCJ := Lib.hid (fun W (hb : Below w.heap.size w W) => HCL.out W hb j hjl)
   have HC0 : Hid (∀ W, Below w.heap.size w W → W.cell? ⟨g1, o1, none⟩ = some (.int .i16 l0)) := fun W hb => by have hh := hc0.out W hb; rw [Nat.add_zero, ← HL0.out] at hh; exact hh
   rw [← hvl] at HCJ
   have hlb2 := HBD.out l[j] (List.getElem_mem hjl)
   rw [← hvl] at hlb2
   obtain ⟨hlv0, hlv1⟩ := hlb2
   clear hvl hc0
   have hcv2 : IntKind.i64.wrap vl = vl := IntWalk.i64_in _ (by omega)
   have hwj : IntKind.i64.wrap ((i : Int) - 1) = (j : Int) := by rw [IntWalk.i64_in _ (by omega)]; omega
   have hji : (j : Int) < (i : Int) := by omega
   have hji2 : j < i := by omega
   have HJ := Lib.hid hj
   clear hj
   go_upto_region 26 with fail
   refine wp_region_facts (fun V => { tmps := #[Value.slice (some ⟨g1, o1, none⟩) i lc, Value.slice oa k oc, undef, undef, V 55, Value.int .i64 (k : Int), Value.pointer (some ⟨S1, 0, none⟩), Value.pointer (some ⟨S2, 0, none⟩), Value.pointer (some ⟨S3, 0, none⟩), Value.pointer (some ⟨S4, 0, none⟩), Value.pointer (some ⟨S5, 0, none⟩), Value.pointer (some ⟨S6, 0, none⟩), Value.int .i64 nn, Value.int .i64 lo, Value.int .i64 hi, Value.int .i64 mm, Value.int .i64 (i : Int), u17, Value.bool true, Value.bool false, Value.slice (some ⟨g1, o1, none⟩) i lc, Value.int .i64 (i : Int), Value.bool (decide (40 < (i : Int))), Value.bool (decide (40 < (i : Int))), Value.slice (some ⟨g1, o1, none⟩) i lc, Value.int .i64 (i : Int), Value.bool false, Value.bool (decide (40 < (i : Int))), Value.bool (decide (40 < (i : Int))), Value.slice oa k oc, Value.bool true, Value.bool false, Value.bool (decide (40 < (i : Int))), Value.bool (decide (40 < (i : Int))), Value.slice oa k oc, Value.int .i64 (k : Int), Value.slice (some ⟨g1, o1, none⟩) i lc, Value.int .i64 (i : Int), Value.bool false, Value.bool (decide (40 < (i : Int))), Value.int .i64 (k : Int), Value.slice oa k oc, Value.int .i64 (k : Int), Value.bool false, u44, u45, u46, u47, u48, u49, u50, u51, u52, u53, u54, u55, u56, u57, u58, u59, u60, u61, u62, u63, u64, u65, u66, u67, u68, u69, u70, Value.pointer (some ⟨S1, 0, none⟩), Value.pointer (some ⟨S2, 0, none⟩), Value.pointer (some ⟨S3, 0, none⟩), Value.pointer (some ⟨S4, 0, none⟩), Value.pointer (some ⟨S5, 0, none⟩), Value.pointer (some ⟨S6, 0, none⟩), Value.slice (some ⟨g1, o1, none⟩) i lc, Value.pointer (some ⟨g1, o1, none⟩), Value.int IntKind.i16 l0, Value.int .i64 l0, Value.slice (some ⟨g1, o1, none⟩) i lc, Value.pointer (some ⟨g1, o1, none⟩), Value.int IntKind.i16 l0, Value.int .i64 l0, Value.int .i64 (i : Int), Value.slice (some ⟨g1, o1, none⟩) i lc, Value.int .i64 (i : Int), Value.bool false, u89, u90, u91, u92, u93, u94, u95, u96, u97, u98, u99, u100, u101, u102, u103, u104, u105, u106, u107, u108, u109, u110, u111, u112, u113, u114, u115, u116, u117, u118, u119, u120, u121, u122, u123, u124, u125, u126, u127, u128, u129, u130, u131, u132, u133, u134, u135, u136, u137, u138, u139, u140, u141, u142, u143, u144, u145, u146, u147, u148, u149, u150, u151, u152, u153, u154, u155, u156, u157, u158, u159, u160, u161, u162, u163, u164, u165, u166, V 0, V 1, V 2, V 3, V 4, V 5, V 6, V 7, V 8, V 9, V 10, V 11, V 12, V 13, V 14, V 15, V 16, V 17, V 18, V 19, V 20, V 21, V 22, V 23, V 24, V 25, V 26, V 27, V 28, V 29, V 30, V 31, V 32, V 33, V 34, V 35, V 36, V 37, V 38, V 39, V 40, V 41, V 42, V 43, V 44, V 45, V 46, V 47, V 48, V 49, V 50, V 51, V 52, V 53, V 54], defers := [] }) [Fact.is (.pointer (some ⟨S1, 0, none⟩)), Fact.num nn, Fact.is (.int .i64 nn), Fact.is (.int .i64 nn), Fact.is (.bool true), Fact.is (.bool true), Fact.is (.pointer (some ⟨S1, 0, none⟩)), Fact.num nn, Fact.is (.int .i64 3), Fact.is (.bool true), Fact.is (.bool true), Fact.is (.bool true), Fact.is (.pointer (some ⟨S2, 0, none⟩)), Fact.num lo, Fact.is (.int .i64 lo), Fact.is (.int .i64 lo), Fact.is (.bool true), Fact.is (.bool true), Fact.is (.bool true), Fact.is (.pointer (some ⟨S3, 0, none⟩)), Fact.num hi, Fact.is (.int .i64 hi), Fact.is (.int .i64 hi), Fact.is (.bool true), Fact.is (.bool true), Fact.is (.bool true), Fact.is (.pointer (some ⟨S4, 0, none⟩)), Fact.num l0, Fact.is (.int .i64 l0), Fact.is (.slice (some ⟨g1, o1, none⟩) i lc), Fact.is (.pointer (some ⟨g1, o1, none⟩)), Fact.is (.int .i16 l0), Fact.is (.int .i64 l0), Fact.is (.bool true), Fact.is (.bool true), Fact.is (.bool true), Fact.is (.pointer (some ⟨S5, 0, none⟩)), Fact.num vl, Fact.is (.int .i64 vl), Fact.is (.slice (some ⟨g1, o1, none⟩) i lc), Fact.is (.slice (some ⟨g1, o1, none⟩) i lc), Fact.is (.int .i64 (i : Int)), Fact.is (.int .i64 (j : Int)), Fact.is (.pointer (some ⟨g1, o1 + j, none⟩)), Fact.is (.int .i16 vl), Fact.is (.int .i64 vl), Fact.is (.bool true), Fact.is (.bool true), Fact.is (.bool true), Fact.is (.pointer (some ⟨S6, 0, none⟩)), Fact.num mm, Fact.is (.int .i64 mm), Fact.is (.int .i64 mm), Fact.is (.bool true), Fact.is (.bool true), Fact.is (.bool true)] (by kernel_rfl) (by kernel_rfl) (by kernel_rfl) (fun V => by kernel_rfl) ?_ ?_
   ·refine ⟨?_, ?_⟩
    ·refine fact_free rfl (fun V w5 hB hF K hK => ?_)
     go_simp
     exact put_is (by kernel_rfl) (hK.out (.pointer (some ⟨S1, 0, none⟩)) w5 (Below.refl _ _) rfl)
    refine ⟨?_, ?_⟩
    ·refine fact_free rfl (fun V w5 hB hF K hK => ?_)
     have h0 : V 0 = .pointer (some ⟨S1, 0, none⟩) := hF.out 0 (by kernel_rfl)
     go_simp
     refine (HX.out.k1.grow hB).val.mono ?_
     rintro e w6 ⟨a, b, c, d, rfl, hb6⟩
     exact put_is (by rw [h0]; kernel_rfl) (hK.out _ w6 hb6 ⟨a, b, c, d, rfl⟩)
    refine ⟨?_, ?_⟩
    ·refine fact_free rfl (fun V w5 hB hF K hK => ?_)
     obtain ⟨za, zb, zc, zd, h1⟩ := hF.out 1 (by kernel_rfl)
     go_simp
     exact put_is (by rw [h1]; kernel_rfl) (hK.out (.int .i64 nn) w5 (Below.refl _ _) rfl)
    refine ⟨?_, ?_⟩
    ·refine fact_free rfl (fun V w5 hB hF K hK => ?_)
     go_simp
     exact put_is (by kernel_rfl) (hK.out (.int .i64 nn) w5 (Below.refl _ _) rfl)
    refine ⟨?_, ?_⟩
    ·refine fact_free rfl (fun V w5 hB hF K hK => ?_)
     have h2 : V 2 = .int .i64 nn := hF.out 2 (by kernel_rfl)
     have h3 : V 3 = .int .i64 nn := hF.out 3 (by kernel_rfl)
     go_simp
     exact put_is (by rw [h2, h3]; kernel_rfl) (hK.out (.bool true) w5 (Below.refl _ _) rfl)
    refine ⟨?_, ?_⟩
    ·refine fact_free rfl (fun V w5 hB hF K hK => ?_)
     have h4 : V 4 = .bool true := hF.out 4 (by kernel_rfl)
     go_simp
     exact put_is (by rw [h4]; kernel_rfl) (hK.out (.bool true) w5 (Below.refl _ _) rfl)
    refine ⟨?_, ?_⟩
    ·refine fact_on 5 true rfl (by kernel_rfl) (fun V => by kernel_rfl) (fun v w h => h) (fun V w5 hB hF K hK => ?_)
     go_simp
     exact put_is (by kernel_rfl) (hK.out (.pointer (some ⟨S1, 0, none⟩)) w5 (Below.refl _ _) rfl)
    refine ⟨?_, ?_⟩
    ·refine fact_on 5 true rfl (by kernel_rfl) (fun V => by kernel_rfl) (fun v w h => h) (fun V w5 hB hF K hK => ?_)
     have h6 : V 6 = .pointer (some ⟨S1, 0, none⟩) := hF.out 6 (by kernel_rfl)
     go_simp
     refine (HX.out.k1.grow hB).val.mono ?_
     rintro e w6 ⟨a, b, c, d, rfl, hb6⟩
     exact put_is (by rw [h6]; kernel_rfl) (hK.out _ w6 hb6 ⟨a, b, c, d, rfl⟩)
    refine ⟨?_, ?_⟩
    ·refine fact_on 5 true rfl (by kernel_rfl) (fun V => by kernel_rfl) (fun v w h => h) (fun V w5 hB hF K hK => ?_)
     obtain ⟨za, zb, zc, zd, h7⟩ := hF.out 7 (by kernel_rfl)
     go_simp
     exact put_is (by rw [h7]; kernel_rfl) (hK.out (.int .i64 3) w5 (Below.refl _ _) rfl)
    refine ⟨?_, ?_⟩
    ·refine fact_on 5 true rfl (by kernel_rfl) (fun V => by kernel_rfl) (fun v w h => h) (fun V w5 hB hF K hK => ?_)
     have h8 : V 8 = .int .i64 3 := hF.out 8 (by kernel_rfl)
     go_simp
     exact put_is (by rw [h8]; kernel_rfl) (hK.out (.bool true) w5 (Below.refl _ _) rfl)
    refine ⟨?_, ?_⟩
    ·refine fact_free rfl (fun V w5 hB hF K hK => ?_)
     have h5 : V 5 = .bool true := hF.out 5 (by kernel_rfl)
     have h9 : V 9 = .bool true := hF.out 9 (by kernel_rfl)
     go_simp
     exact put_is (by rw [h5, h9]; kernel_rfl) (hK.out (.bool true) w5 (Below.refl _ _) rfl)
    refine ⟨?_, ?_⟩
    ·refine fact_free rfl (fun V w5 hB hF K hK => ?_)
     have h10 : V 10 = .bool true := hF.out 10 (by kernel_rfl)
     go_simp
     exact put_is (by rw [h10]; kernel_rfl) (hK.out (.bool true) w5 (Below.refl _ _) rfl)
    refine ⟨?_, ?_⟩
    ·refine fact_on 11 true rfl (by kernel_rfl) (fun V => by kernel_rfl) (fun v w h => h) (fun V w5 hB hF K hK => ?_)
     go_simp
     exact put_is (by kernel_rfl) (hK.out (.pointer (some ⟨S2, 0, none⟩)) w5 (Below.refl _ _) rfl)
    refine ⟨?_, ?_⟩
    ·refine fact_on 11 true rfl (by kernel_rfl) (fun V => by kernel_rfl) (fun v w h => h) (fun V w5 hB hF K hK => ?_)
     have h12 : V 12 = .pointer (some ⟨S2, 0, none⟩) := hF.out 12 (by kernel_rfl)
     go_simp
     refine (HX.out.k2.grow hB).val.mono ?_
     rintro e w6 ⟨a, b, c, d, rfl, hb6⟩
     exact put_is (by rw [h12]; kernel_rfl) (hK.out _ w6 hb6 ⟨a, b, c, d, rfl⟩)
    refine ⟨?_, ?_⟩
    ·refine fact_on 11 true rfl (by kernel_rfl) (fun V => by kernel_rfl) (fun v w h => h) (fun V w5 hB hF K hK => ?_)
     obtain ⟨za, zb, zc, zd, h13⟩ := hF.out 13 (by kernel_rfl)
     go_simp
     exact put_is (by rw [h13]; kernel_rfl) (hK.out (.int .i64 lo) w5 (Below.refl _ _) rfl)
    refine ⟨?_, ?_⟩
    ·refine fact_on 11 true rfl (by kernel_rfl) (fun V => by kernel_rfl) (fun v w h => h) (fun V w5 hB hF K hK => ?_)
     go_simp
     exact put_is (by kernel_rfl) (hK.out (.int .i64 lo) w5 (Below.refl _ _) rfl)
    refine ⟨?_, ?_⟩
    ·refine fact_on 11 true rfl (by kernel_rfl) (fun V => by kernel_rfl) (fun v w h => h) (fun V w5 hB hF K hK => ?_)
     have h14 : V 14 = .int .i64 lo := hF.out 14 (by kernel_rfl)
     have h15 : V 15 = .int .i64 lo := hF.out 15 (by kernel_rfl)
     go_simp
     exact put_is (by rw [h14, h15]; kernel_rfl) (hK.out (.bool true) w5 (Below.refl _ _) rfl)
    refine ⟨?_, ?_⟩
    ·refine fact_free rfl (fun V w5 hB hF K hK => ?_)
     have h11 : V 11 = .bool true := hF.out 11 (by kernel_rfl)
     have h16 : V 16 = .bool true := hF.out 16 (by kernel_rfl)
     go_simp
     exact put_is (by rw [h11, h16]; kernel_rfl) (hK.out (.bool true) w5 (Below.refl _ _) rfl)
    refine ⟨?_, ?_⟩
    ·refine fact_free rfl (fun V w5 hB hF K hK => ?_)
     have h17 : V 17 = .bool true := hF.out 17 (by kernel_rfl)
     go_simp
     exact put_is (by rw [h17]; kernel_rfl) (hK.out (.bool true) w5 (Below.refl _ _) rfl)
    refine ⟨?_, ?_⟩
    ·refine fact_on 18 true rfl (by kernel_rfl) (fun V => by kernel_rfl) (fun v w h => h) (fun V w5 hB hF K hK => ?_)
     go_simp
     exact put_is (by kernel_rfl) (hK.out (.pointer (some ⟨S3, 0, none⟩)) w5 (Below.refl _ _) rfl)
    refine ⟨?_, ?_⟩
    ·refine fact_on 18 true rfl (by kernel_rfl) (fun V => by kernel_rfl) (fun v w h => h) (fun V w5 hB hF K hK => ?_)
     have h19 : V 19 = .pointer (some ⟨S3, 0, none⟩) := hF.out 19 (by kernel_rfl)
     go_simp
     refine (HX.out.k3.grow hB).val.mono ?_
     rintro e w6 ⟨a, b, c, d, rfl, hb6⟩
     exact put_is (by rw [h19]; kernel_rfl) (hK.out _ w6 hb6 ⟨a, b, c, d, rfl⟩)
    refine ⟨?_, ?_⟩
    ·refine fact_on 18 true rfl (by kernel_rfl) (fun V => by kernel_rfl) (fun v w h => h) (fun V w5 hB hF K hK => ?_)
     obtain ⟨za, zb, zc, zd, h20⟩ := hF.out 20 (by kernel_rfl)
     go_simp
     exact put_is (by rw [h20]; kernel_rfl) (hK.out (.int .i64 hi) w5 (Below.refl _ _) rfl)
    refine ⟨?_, ?_⟩
    ·refine fact_on 18 true rfl (by kernel_rfl) (fun V => by kernel_rfl) (fun v w h => h) (fun V w5 hB hF K hK => ?_)
     go_simp
     exact put_is (by kernel_rfl) (hK.out (.int .i64 hi) w5 (Below.refl _ _) rfl)
    refine ⟨?_, ?_⟩
    ·refine fact_on 18 true rfl (by kernel_rfl) (fun V => by kernel_rfl) (fun v w h => h) (fun V w5 hB hF K hK => ?_)
     have h21 : V 21 = .int .i64 hi := hF.out 21 (by kernel_rfl)
     have h22 : V 22 = .int .i64 hi := hF.out 22 (by kernel_rfl)
     go_simp
     exact put_is (by rw [h21, h22]; kernel_rfl) (hK.out (.bool true) w5 (Below.refl _ _) rfl)
    refine ⟨?_, ?_⟩
    ·refine fact_free rfl (fun V w5 hB hF K hK => ?_)
     have h18 : V 18 = .bool true := hF.out 18 (by kernel_rfl)
     have h23 : V 23 = .bool true := hF.out 23 (by kernel_rfl)
     go_simp
     exact put_is (by rw [h18, h23]; kernel_rfl) (hK.out (.bool true) w5 (Below.refl _ _) rfl)
    refine ⟨?_, ?_⟩
    ·refine fact_free rfl (fun V w5 hB hF K hK => ?_)
     have h24 : V 24 = .bool true := hF.out 24 (by kernel_rfl)
     go_simp
     exact put_is (by rw [h24]; kernel_rfl) (hK.out (.bool true) w5 (Below.refl _ _) rfl)
    refine ⟨?_, ?_⟩
    ·refine fact_on 25 true rfl (by kernel_rfl) (fun V => by kernel_rfl) (fun v w h => h) (fun V w5 hB hF K hK => ?_)
     go_simp
     exact put_is (by kernel_rfl) (hK.out (.pointer (some ⟨S4, 0, none⟩)) w5 (Below.refl _ _) rfl)
    refine ⟨?_, ?_⟩
    ·refine fact_on 25 true rfl (by kernel_rfl) (fun V => by kernel_rfl) (fun v w h => h) (fun V w5 hB hF K hK => ?_)
     have h26 : V 26 = .pointer (some ⟨S4, 0, none⟩) := hF.out 26 (by kernel_rfl)
     go_simp
     refine (HX.out.k4.grow hB).val.mono ?_
     rintro e w6 ⟨a, b, c, d, rfl, hb6⟩
     exact put_is (by rw [h26]; kernel_rfl) (hK.out _ w6 hb6 ⟨a, b, c, d, rfl⟩)
    refine ⟨?_, ?_⟩
    ·refine fact_on 25 true rfl (by kernel_rfl) (fun V => by kernel_rfl) (fun v w h => h) (fun V w5 hB hF K hK => ?_)
     obtain ⟨za, zb, zc, zd, h27⟩ := hF.out 27 (by kernel_rfl)
     go_simp
     exact put_is (by rw [h27]; kernel_rfl) (hK.out (.int .i64 l0) w5 (Below.refl _ _) rfl)
    refine ⟨?_, ?_⟩
    ·refine fact_on 25 true rfl (by kernel_rfl) (fun V => by kernel_rfl) (fun v w h => h) (fun V w5 hB hF K hK => ?_)
     go_simp
     exact put_is (by kernel_rfl) (hK.out (.slice (some ⟨g1, o1, none⟩) i lc) w5 (Below.refl _ _) rfl)
    refine ⟨?_, ?_⟩
    ·refine fact_on 25 true rfl (by kernel_rfl) (fun V => by kernel_rfl) (fun v w h => h) (fun V w5 hB hF K hK => ?_)
     have h29 : V 29 = .slice (some ⟨g1, o1, none⟩) i lc := hF.out 29 (by kernel_rfl)
     go_simp
     exact put_is (by rw [h29]; kernel_rfl) (hK.out (.pointer (some ⟨g1, o1, none⟩)) w5 (Below.refl _ _) rfl)
    refine ⟨?_, ?_⟩
    ·refine fact_on 25 true rfl (by kernel_rfl) (fun V => by kernel_rfl) (fun v w h => h) (fun V w5 hB hF K hK => ?_)
     have h30 : V 30 = .pointer (some ⟨g1, o1, none⟩) := hF.out 30 (by kernel_rfl)
     have hc0 := HC0.out w5 (HX.out.below.trans (hB.mono HX.out.below.size))
     go_simp
     exact put_is (by rw [h30]; kernel_rfl) (hK.out (.int .i16 l0) w5 (Below.refl _ _) rfl)
    refine ⟨?_, ?_⟩
    ·refine fact_on 25 true rfl (by kernel_rfl) (fun V => by kernel_rfl) (fun v w h => h) (fun V w5 hB hF K hK => ?_)
     have h31 : V 31 = .int .i16 l0 := hF.out 31 (by kernel_rfl)
     go_simp
     exact put_is (by rw [h31]; kernel_rfl) (hK.out (.int .i64 l0) w5 (Below.refl _ _) rfl)
    refine ⟨?_, ?_⟩
    ·refine fact_on 25 true rfl (by kernel_rfl) (fun V => by kernel_rfl) (fun v w h => h) (fun V w5 hB hF K hK => ?_)
     have h28 : V 28 = .int .i64 l0 := hF.out 28 (by kernel_rfl)
     have h32 : V 32 = .int .i64 l0 := hF.out 32 (by kernel_rfl)
     go_simp
     exact put_is (by rw [h28, h32]; kernel_rfl) (hK.out (.bool true) w5 (Below.refl _ _) rfl)
    refine ⟨?_, ?_⟩
    ·refine fact_free rfl (fun V w5 hB hF K hK => ?_)
     have h25 : V 25 = .bool true := hF.out 25 (by kernel_rfl)
     have h33 : V 33 = .bool true := hF.out 33 (by kernel_rfl)
     go_simp
     exact put_is (by rw [h25, h33]; kernel_rfl) (hK.out (.bool true) w5 (Below.refl _ _) rfl)
    refine ⟨?_, ?_⟩
    ·refine fact_free rfl (fun V w5 hB hF K hK => ?_)
     have h34 : V 34 = .bool true := hF.out 34 (by kernel_rfl)
     go_simp
     exact put_is (by rw [h34]; kernel_rfl) (hK.out (.bool true) w5 (Below.refl _ _) rfl)
    refine ⟨?_, ?_⟩
    ·refine fact_on 35 true rfl (by kernel_rfl) (fun V => by kernel_rfl) (fun v w h => h) (fun V w5 hB hF K hK => ?_)
     go_simp
     exact put_is (by kernel_rfl) (hK.out (.pointer (some ⟨S5, 0, none⟩)) w5 (Below.refl _ _) rfl)
    refine ⟨?_, ?_⟩
    ·refine fact_on 35 true rfl (by kernel_rfl) (fun V => by kernel_rfl) (fun v w h => h) (fun V w5 hB hF K hK => ?_)
     have h36 : V 36 = .pointer (some ⟨S5, 0, none⟩) := hF.out 36 (by kernel_rfl)
     go_simp
     refine (HX.out.k5.grow hB).val.mono ?_
     rintro e w6 ⟨a, b, c, d, rfl, hb6⟩
     exact put_is (by rw [h36]; kernel_rfl) (hK.out _ w6 hb6 ⟨a, b, c, d, rfl⟩)
    refine ⟨?_, ?_⟩
    ·refine fact_on 35 true rfl (by kernel_rfl) (fun V => by kernel_rfl) (fun v w h => h) (fun V w5 hB hF K hK => ?_)
     obtain ⟨za, zb, zc, zd, h37⟩ := hF.out 37 (by kernel_rfl)
     go_simp
     exact put_is (by rw [h37]; kernel_rfl) (hK.out (.int .i64 vl) w5 (Below.refl _ _) rfl)
    refine ⟨?_, ?_⟩
    ·refine fact_on 35 true rfl (by kernel_rfl) (fun V => by kernel_rfl) (fun v w h => h) (fun V w5 hB hF K hK => ?_)
     go_simp
     exact put_is (by kernel_rfl) (hK.out (.slice (some ⟨g1, o1, none⟩) i lc) w5 (Below.refl _ _) rfl)
    refine ⟨?_, ?_⟩
    ·refine fact_on 35 true rfl (by kernel_rfl) (fun V => by kernel_rfl) (fun v w h => h) (fun V w5 hB hF K hK => ?_)
     go_simp
     exact put_is (by kernel_rfl) (hK.out (.slice (some ⟨g1, o1, none⟩) i lc) w5 (Below.refl _ _) rfl)
    refine ⟨?_, ?_⟩
    ·refine fact_on 35 true rfl (by kernel_rfl) (fun V => by kernel_rfl) (fun v w h => h) (fun V w5 hB hF K hK => ?_)
     have h40 : V 40 = .slice (some ⟨g1, o1, none⟩) i lc := hF.out 40 (by kernel_rfl)
     go_simp
     exact put_is (by rw [h40]; kernel_rfl) (hK.out (.int .i64 (i : Int)) w5 (Below.refl _ _) rfl)
    refine ⟨?_, ?_⟩
    ·refine fact_on 35 true rfl (by kernel_rfl) (fun V => by kernel_rfl) (fun v w h => h) (fun V w5 hB hF K hK => ?_)
     have h41 : V 41 = .int .i64 (i : Int) := hF.out 41 (by kernel_rfl)
     go_simp
     exact put_is (by rw [h41]; kernel_rfl) (hK.out (.int .i64 (j : Int)) w5 (Below.refl _ _) rfl)
    refine ⟨?_, ?_⟩
    ·refine fact_on 35 true rfl (by kernel_rfl) (fun V => by kernel_rfl) (fun v w h => h) (fun V w5 hB hF K hK => ?_)
     have h39 : V 39 = .slice (some ⟨g1, o1, none⟩) i lc := hF.out 39 (by kernel_rfl)
     have h42 : V 42 = .int .i64 (j : Int) := hF.out 42 (by kernel_rfl)
     go_simp
     exact put_is (by rw [h39, h42]; kernel_rfl) (hK.out (.pointer (some ⟨g1, o1 + j, none⟩)) w5 (Below.refl _ _) rfl)
    refine ⟨?_, ?_⟩
    ·refine fact_on 35 true rfl (by kernel_rfl) (fun V => by kernel_rfl) (fun v w h => h) (fun V w5 hB hF K hK => ?_)
     have h43 : V 43 = .pointer (some ⟨g1, o1 + j, none⟩) := hF.out 43 (by kernel_rfl)
     have hcj := HCJ.out w5 (HX.out.below.trans (hB.mono HX.out.below.size))
     go_simp
     exact put_is (by rw [h43]; kernel_rfl) (hK.out (.int .i16 vl) w5 (Below.refl _ _) rfl)
    refine ⟨?_, ?_⟩
    ·refine fact_on 35 true rfl (by kernel_rfl) (fun V => by kernel_rfl) (fun v w h => h) (fun V w5 hB hF K hK => ?_)
     have h44 : V 44 = .int .i16 vl := hF.out 44 (by kernel_rfl)
     go_simp
     exact put_is (by rw [h44]; kernel_rfl) (hK.out (.int .i64 vl) w5 (Below.refl _ _) rfl)
    refine ⟨?_, ?_⟩
    ·refine fact_on 35 true rfl (by kernel_rfl) (fun V => by kernel_rfl) (fun v w h => h) (fun V w5 hB hF K hK => ?_)
     have h38 : V 38 = .int .i64 vl := hF.out 38 (by kernel_rfl)
     have h45 : V 45 = .int .i64 vl := hF.out 45 (by kernel_rfl)
     go_simp
     exact put_is (by rw [h38, h45]; kernel_rfl) (hK.out (.bool true) w5 (Below.refl _ _) rfl)
    refine ⟨?_, ?_⟩
    ·refine fact_free rfl (fun V w5 hB hF K hK => ?_)
     have h35 : V 35 = .bool true := hF.out 35 (by kernel_rfl)
     have h46 : V 46 = .bool true := hF.out 46 (by kernel_rfl)
     go_simp
     exact put_is (by rw [h35, h46]; kernel_rfl) (hK.out (.bool true) w5 (Below.refl _ _) rfl)
    refine ⟨?_, ?_⟩
    ·refine fact_free rfl (fun V w5 hB hF K hK => ?_)
     have h47 : V 47 = .bool true := hF.out 47 (by kernel_rfl)
     go_simp
     exact put_is (by rw [h47]; kernel_rfl) (hK.out (.bool true) w5 (Below.refl _ _) rfl)
    refine ⟨?_, ?_⟩
    ·refine fact_on 48 true rfl (by kernel_rfl) (fun V => by kernel_rfl) (fun v w h => h) (fun V w5 hB hF K hK => ?_)
     go_simp
     exact put_is (by kernel_rfl) (hK.out (.pointer (some ⟨S6, 0, none⟩)) w5 (Below.refl _ _) rfl)
    refine ⟨?_, ?_⟩
    ·refine fact_on 48 true rfl (by kernel_rfl) (fun V => by kernel_rfl) (fun v w h => h) (fun V w5 hB hF K hK => ?_)
     have h49 : V 49 = .pointer (some ⟨S6, 0, none⟩) := hF.out 49 (by kernel_rfl)
     go_simp
     refine (HX.out.k6.grow hB).val.mono ?_
     rintro e w6 ⟨a, b, c, d, rfl, hb6⟩
     exact put_is (by rw [h49]; kernel_rfl) (hK.out _ w6 hb6 ⟨a, b, c, d, rfl⟩)
    refine ⟨?_, ?_⟩
    ·refine fact_on 48 true rfl (by kernel_rfl) (fun V => by kernel_rfl) (fun v w h => h) (fun V w5 hB hF K hK => ?_)
     obtain ⟨za, zb, zc, zd, h50⟩ := hF.out 50 (by kernel_rfl)
     go_simp
     exact put_is (by rw [h50]; kernel_rfl) (hK.out (.int .i64 mm) w5 (Below.refl _ _) rfl)
    refine ⟨?_, ?_⟩
    ·refine fact_on 48 true rfl (by kernel_rfl) (fun V => by kernel_rfl) (fun v w h => h) (fun V w5 hB hF K hK => ?_)
     go_simp
     exact put_is (by kernel_rfl) (hK.out (.int .i64 mm) w5 (Below.refl _ _) rfl)
    refine ⟨?_, ?_⟩
    ·refine fact_on 48 true rfl (by kernel_rfl) (fun V => by kernel_rfl) (fun v w h => h) (fun V w5 hB hF K hK => ?_)
     have h51 : V 51 = .int .i64 mm := hF.out 51 (by kernel_rfl)
     have h52 : V 52 = .int .i64 mm := hF.out 52 (by kernel_rfl)
     go_simp
     exact put_is (by rw [h51, h52]; kernel_rfl) (hK.out (.bool true) w5 (Below.refl _ _) rfl)
    refine ⟨?_, ?_⟩
    ·refine fact_free rfl (fun V w5 hB hF K hK => ?_)
     have h48 : V 48 = .bool true := hF.out 48 (by kernel_rfl)
     have h53 : V 53 = .bool true := hF.out 53 (by kernel_rfl)
     go_simp
     exact put_is (by rw [h48, h53]; kernel_rfl) (hK.out (.bool true) w5 (Below.refl _ _) rfl)
    refine ⟨?_, ?_⟩
    ·refine fact_free rfl (fun V w5 hB hF K hK => ?_)
     have h54 : V 54 = .bool true := hF.out 54 (by kernel_rfl)
     go_simp
     exact put_is (by rw [h54]; kernel_rfl) (hK.out (.bool true) w5 (Below.refl _ _) rfl)
    trivial
   intro V w5 hB hF
   have h55 : V 55 = .bool true := hF 55 (by decide)
   rw [h55]
   have HEND := Lib.hid (HX.out.below.trans (hB.mono HX.out.below.size))
   clear hB hF h55
   go_wp2_with fail
   go_ret
   exact ⟨rfl, HEND.out⟩
end Acc
end Go.Proofs.YtngllchoiffniaaGreatDoor
end
