/- PathField, PathAcc, PathFAcc, PathItems, PathAccMany, PathAItems. -/
import Derived.Test.YtiajjgehnmkokaaGreatDoorMl8
import Derived.Test.YtiajjgehnmkokaaGreatDoorMl1
import Derived.Test.YtiajjgehnmkokaaGreatDoorMl2
import Derived.Test.YtiajjgehnmkokaaGreatDoorMl0
set_option maxRecDepth 100000
set_option maxHeartbeats 20000000
section
namespace Go.Proofs.YtiajjgehnmkokaaGreatDoor
open Go.RowKit
open Seal
open Bson (Val)
theorem fieldIn_none : ∀ (f : List (ByteArray × Val)) (a : ByteArray), (∀ i (hi : i < f.length), f[i].1 ≠ a) → Bson.fieldIn f a = Bson.zero
 | [], _, _ => rfl
 | (s, v) :: r, a, h => by
  rw [Bson.fieldIn, if_neg (show ¬ s = a from h 0 (by simp))]
  exact fieldIn_none r a (fun i hi => h (i + 1) (by simpa using hi))
theorem fieldIn_at : ∀ (f : List (ByteArray × Val)) (a : ByteArray) (k : Nat) (hk : k < f.length), (∀ i (hi : i < f.length), i < k → f[i].1 ≠ a) → f[k].1 = a → Bson.fieldIn f a = f[k].2
 | (s, v) :: r, a, 0, _, _, e => by rw [Bson.fieldIn, if_pos (show s = a from e)]; rfl
 | (s, v) :: r, a, k + 1, hk, h, e => by
  rw [Bson.fieldIn, if_neg (show ¬ s = a from h 0 (by simp) (by omega))]
  exact fieldIn_at r a k (by simpa using hk) (fun i hi hik => h (i + 1) (by simpa using hi) (by omega)) e
theorem field_any (Q : Nat → Prop) (h : Nat) (x : Val) (v : Value) (nm : ByteArray) (w : World) (hv : VIn w Q (h + 1) x v) :
  Calls Tryz.prog 197 #[v, .string nm] w (ValPost Q w (h + 1) (Bson.fieldIn x.f nm)) := by
 obtain ⟨xk, xn, xs, ba, fa, la, bn, bc, fn, fc, ln, lc, rfl, hxk, hxn, hxs, hbn, hfn, hln, hL, hF, hI⟩ := hv.letters
 have hfl := hL.f
 rw [← hfn] at hfl
 have HN := Lib.hid hfn
 have HF := Lib.hid hF
 clear hv hxk hxn hxs hbn hfn hln hL hF hI
 have HW0 := Lib.hid (BoxV.new (.int .i64 xk) (.int .i64 xn) (.string xs) (.slice ba bn bc) (.slice fa fn fc) (.slice la ln lc) w)
 go_enter Tryz.func197, Tryz.ntmps197
 go_wp2_with fail
 go_loopw [9] (fun i wr => ∃ k : Nat, i = .int .i64 k ∧ k ≤ fn ∧ Hid (∀ i (hi : i < x.f.length), i < k → x.f[i].1 ≠ nm) ∧ Hid (BoxV (.int .i64 xk) (.int .i64 xn) (.string xs) (.slice ba bn bc) (.slice fa fn fc) (.slice la ln lc) w wr)) (fun i _ => fn - (intOf i).toNat)
 case atStart => exact ⟨0, rfl, Nat.zero_le _, fun _ _ h => absurd h (Nat.not_lt_zero _), HW0⟩
 case round =>
  obtain ⟨k, rfl, hk, HNO, HX⟩ := hrel
  obtain ⟨c0, c1, c2, c3, c4, c5⟩ := HX.out.cells
  by_cases hlt : k < fn
  ·obtain ⟨g, o, hfa, _, hall⟩ := HF.out.resolve_left (fun e => by have := HN.out; rw [e] at this; simp at this; omega)
   obtain ⟨hnm, _, v', hsix, hV⟩ := hall k (by have := HN.out; omega)
   subst hfa
   obtain ⟨ka, na, sa, bd, fd, ld, bl, bz, fl, fz, ll, lz, rfl⟩ := hV.shape
   have HVL := Lib.hid (VIn.keep HX.out.2.2.1 hV.lt)
   obtain ⟨s0, s1, s2, s3, s4, s5⟩ := (hsix.keep HX.out.2.2.1).cells
   obtain ⟨ns, hns⟩ : ∃ ns, ns = (x.f[k]'(by have := HN.out; omega)).1 := ⟨_, rfl⟩
   have s6 : wr.cell? ⟨g, o + k * 7, none⟩ = some (.string ns) := by rw [hns]; exact cell_keep HX.out.2.2.1 hnm
   have HNS := Lib.hid hns
   obtain ⟨z0, z1, z2, z3, z4, z5, g0, g1, g2, g3, g4, g5⟩ := HX.out.zeros
   clear hall hsix hV hnm hns
   by_cases he : ns = nm
   ·have hc : (ns.toList == nm.toList) = true := by rw [he]; simp
    have hres : Bson.fieldIn x.f nm = (x.f[k]'(by have := HN.out; omega)).2 := fieldIn_at _ _ _ (by have := HN.out; omega) (fun i hi hik => HNO.out i hi hik) (by rw [← HNS.out]; exact he)
    have HRES := Lib.hid hres
    have HB9 := Lib.hid (puts_below HX.out.2.2.1 (G := w.heap.size + 1) (by omega) [.int .i64 ka, .int .i64 na, .string sa, .slice bd bl bz, .slice fd fl fz, .slice ld ll lz] 0)
    have HV9 := Lib.hid (((VIn.kept (Q' := fun g => Q g ∧ g < w.heap.size) (Kept.of_below (Below.refl _ _)) (fun g hg => hg) HVL.out).kept ((puts_kept (fun g => Q g ∧ g < w.heap.size) (w := wr) (G := w.heap.size + 1) (by omega) 0 [.int .i64 ka, .int .i64 na, .string sa, .slice bd bl bz, .slice fd fl fz, .slice ld ll lz])) (Q' := Q) (fun g hg => hg.1)).up (Nat.le_succ h))
    clear he hres
    go_wp2_with fail
    exact bodyPost_ret (v := .agg #[.int .i64 ka, .int .i64 na, .string sa, .slice bd bl bz, .slice fd fl fz, .slice ld ll lz]) (by simp [results, Tryz.results197, go_sem, z0, z1, z2, z3, z4, z5]) rfl ⟨_, rfl, by rw [HRES.out]; exact HV9.out, HB9.out⟩
   ·have hc : (ns.toList == nm.toList) = false := str_ne he
    have HNO2 : Hid (∀ i (hi : i < x.f.length), i < k + 1 → x.f[i].1 ≠ nm) := by
     intro i hi hik
     rcases Nat.lt_or_ge i k with h1 | h1
     ·exact HNO.out i hi h1
     ·obtain rfl : i = k := by omega
      rw [← HNS.out]; exact he
    clear he
    go_wp2_with fail
    go_roundw
    case rel => exact ⟨k + 1, by go_num, by omega, HNO2, HX⟩
    case measure => simp [intOf]; omega
  ·have hkk : k = fn := by omega
   subst hkk
   have hres : Bson.fieldIn x.f nm = Bson.zero := fieldIn_none _ _ (fun i hi => HNO.out i hi (by rw [HN.out]; exact hi))
   have HRES := Lib.hid hres
   obtain ⟨z0, z1, z2, z3, z4, z5, g0, g1, g2, g3, g4, g5⟩ := HX.out.zeros
   have HB9 := Lib.hid (puts_below HX.out.2.2.1 (G := w.heap.size + 1) (by omega) [.int .i64 0, .int .i64 0, .string ⟨#[]⟩, .slice none 0 0, .slice none 0 0, .slice none 0 0] 0)
   clear hres hk
   go_wp2_with fail
   exact bodyPost_ret (v := .agg #[.int .i64 0, .int .i64 0, .string ⟨#[]⟩, .slice none 0 0, .slice none 0 0, .slice none 0 0]) (by simp [results, Tryz.results197, go_sem, z0, z1, z2, z3, z4, z5]) rfl ⟨_, rfl, by rw [HRES.out]; exact (zero_in _ Q).up (by omega), HB9.out⟩
end Go.Proofs.YtiajjgehnmkokaaGreatDoor
end
section
namespace Go.Proofs.YtiajjgehnmkokaaGreatDoor
open Go.RowKit
open Seal
open Bson (Val)
structure Acc (w : World) (base : Nat) (v : Value) (QA : Nat → Prop) (h : Nat) (ys : List Val) (xs : List Value) : Prop where
 own : w.ownsRow base 26 6 v ys.length xs
 at' : ∀ i (hi : i < ys.length), ∃ c0 c1 c2 c3 c4 c5, xs[i * 6]? = some c0 ∧ xs[i * 6 + 1]? = some c1 ∧ xs[i * 6 + 2]? = some c2 ∧ xs[i * 6 + 3]? = some c3 ∧ xs[i * 6 + 4]? = some c4 ∧ xs[i * 6 + 5]? = some c5 ∧ VIn w (fun g => QA g ∧ v.ownBlock ≠ some g) h ys[i] (.agg #[c0, c1, c2, c3, c4, c5])
section
variable {w w' : World} {base : Nat} {v v' : Value} {QA : Nat → Prop} {h : Nat} {ys : List Val} {xs : List Value}
theorem Acc.nil (w : World) (base : Nat) (QA : Nat → Prop) (h : Nat) : Acc w base (.slice none 0 0) QA h [] [] :=
 ⟨World.ownsRow_nil _ _ _ _, fun i hi => by simp at hi⟩
theorem Acc.keep (ha : Acc w base v QA h ys xs) (hb : Below w.heap.size w w') : Acc w' base v QA h ys xs :=
 ⟨owns_below ha.own hb, fun i hi => by
  obtain ⟨c0, c1, c2, c3, c4, c5, h0, h1, h2, h3, h4, h5, hv⟩ := ha.at' i hi
  exact ⟨c0, c1, c2, c3, c4, c5, h0, h1, h2, h3, h4, h5, hv.keep hb⟩⟩
theorem Wrote.vin {x : Val} {u : Value} (hw : Wrote w w' v v') (hv : VIn w (fun g => QA g ∧ v.ownBlock ≠ some g) h x u) : VIn w' (fun g => QA g ∧ v'.ownBlock ≠ some g) h x u := by
 refine hv.lt.kept (fun g hg hl => hw.1.block g hl (fun e => hg.1.2 e.symm)) (fun g hg => ⟨hg.1.1, ?_⟩)
 rcases hw.2 with h2 | ⟨b, h2, h3⟩
 ·rw [h2]; exact hg.1.2
 ·rw [h2]; intro e; have := Option.some.inj e; have := hg.2; omega
theorem Acc.push {y : Val} {c0 c1 c2 c3 c4 c5 : Value} (ha : Acc w base v QA h ys xs) (hw : Wrote w w' v v') (hown : w'.ownsRow base 26 6 v' (ys.length + 1) (xs ++ [c0, c1, c2, c3, c4, c5]))
  (hv : VIn w (fun g => QA g ∧ v.ownBlock ≠ some g) h y (.agg #[c0, c1, c2, c3, c4, c5])) : Acc w' base v' QA h (ys ++ [y]) (xs ++ [c0, c1, c2, c3, c4, c5]) := by
 have hxl : xs.length = ys.length * 6 := ha.own.1
 refine ⟨by rw [List.length_append]; exact hown, fun i hi => ?_⟩
 rw [List.length_append, List.length_singleton] at hi
 rcases Nat.lt_or_ge i ys.length with hlt | hge
 ·obtain ⟨d0, d1, d2, d3, d4, d5, h0, h1, h2, h3, h4, h5, hd⟩ := ha.at' i hlt
  have e : ∀ j, j < 6 → (xs ++ [c0, c1, c2, c3, c4, c5])[i * 6 + j]? = xs[i * 6 + j]? := fun j hj => List.getElem?_append_left (by omega)
  refine ⟨d0, d1, d2, d3, d4, d5, (e 0 (by omega)).trans h0, (e 1 (by omega)).trans h1, (e 2 (by omega)).trans h2, (e 3 (by omega)).trans h3, (e 4 (by omega)).trans h4, (e 5 (by omega)).trans h5, ?_⟩
  rw [List.getElem_append_left hlt]
  exact hw.vin hd
 ·obtain rfl : i = ys.length := by omega
  have e : ∀ j, (xs ++ [c0, c1, c2, c3, c4, c5])[ys.length * 6 + j]? = [c0, c1, c2, c3, c4, c5][j]? := fun j => by
   rw [List.getElem?_append_right (by omega)]; congr 1; omega
  refine ⟨c0, c1, c2, c3, c4, c5, e 0, e 1, e 2, e 3, e 4, e 5, ?_⟩
  rw [List.getElem_append_right (Nat.le_refl _)]
  simp only [Nat.sub_self, List.getElem_cons_zero]
  exact hw.vin hv
theorem Acc.items {Q' : Nat → Prop} (ha : Acc w base v QA h ys xs) (hQ : ∀ g, QA g → Q' g) (hb : ∀ g, base ≤ g → g < w.heap.size → Q' g) :
  ∃ a c, v = .slice a ys.length c ∧ (ys.length ≤ c ∧ c ≤ 9223372036854775807) ∧ ItemsIn w Q' (VIn w Q' h) a ys := by
 obtain ⟨hxl, ⟨rfl, hn⟩ | ⟨g, cap, cur, rfl, hbg, hrow, hc, hm, hsz, htake⟩⟩ := ha.own
 ·have hn' := List.eq_nil_of_length_eq_zero hn
  refine ⟨none, 0, by rw [hn], by rw [hn]; exact ⟨Nat.le_refl _, by omega⟩, .inl hn'⟩
 ·refine ⟨some ⟨g, 0, none⟩, cap, rfl, ⟨hc, by unfold maxLen at hm; omega⟩, .inr ⟨g, 0, rfl, hb g hbg (Array.getElem?_eq_some_iff.1 hrow).1, fun i hi => ?_⟩⟩
  obtain ⟨c0, c1, c2, c3, c4, c5, h0, h1, h2, h3, h4, h5, hv⟩ := ha.at' i hi
  have e : ∀ j c, xs[j]? = some c → w.cell? ⟨g, 0 + j, none⟩ = some c := fun j c hj => by
   have hl : j < xs.length := (List.getElem?_eq_some_iff.1 hj).1
   rw [Nat.zero_add, cell_of_row w g j _ _ _ hrow, ← Array.getElem?_toList, ← hj, ← htake, List.getElem?_take_of_lt (by omega)]
  exact ⟨_, ⟨c0, c1, c2, c3, c4, c5, rfl, e _ _ h0, e _ _ h1, e _ _ h2, e _ _ h3, e _ _ h4, e _ _ h5⟩, hv.kept (Kept.of_below (Below.refl _ _)) (fun g hg => hQ g hg.1)⟩
end
def StrsIn (w : World) (a : Option Addr) (p : List ByteArray) : Prop := p = [] ∨ ∃ g o, a = some ⟨g, o, none⟩ ∧ ∀ i (hi : i < p.length), w.cell? ⟨g, o + i, none⟩ = some (.string p[i])
theorem StrsIn.keep {w w' : World} {a : Option Addr} {p : List ByteArray} (h : StrsIn w a p) (hb : Below w.heap.size w w') : StrsIn w' a p := by
 rcases h with h | ⟨g, o, e, h⟩
 ·exact .inl h
 ·exact .inr ⟨g, o, e, fun i hi => cell_keep hb (h i hi)⟩
end Go.Proofs.YtiajjgehnmkokaaGreatDoor
end
section
namespace Go.Proofs.YtiajjgehnmkokaaGreatDoor
open Go.RowKit
open Seal
open Bson (Val)
structure FAcc (w : World) (base : Nat) (v : Value) (QA : Nat → Prop) (h : Nat) (ys : List (ByteArray × Val)) (xs : List Value) : Prop where
 own : w.ownsRow base 40 7 v ys.length xs
 at' : ∀ i (hi : i < ys.length), xs[i * 7]? = some (.string ys[i].1) ∧ ys[i].1.size ≤ 140737488355328 ∧ ∃ c0 c1 c2 c3 c4 c5, xs[i * 7 + 1]? = some c0 ∧ xs[i * 7 + 2]? = some c1 ∧ xs[i * 7 + 3]? = some c2 ∧ xs[i * 7 + 4]? = some c3 ∧ xs[i * 7 + 5]? = some c4 ∧ xs[i * 7 + 6]? = some c5 ∧ VIn w (fun g => QA g ∧ v.ownBlock ≠ some g) h ys[i].2 (.agg #[c0, c1, c2, c3, c4, c5])
section
variable {w w' : World} {base : Nat} {v v' : Value} {QA : Nat → Prop} {h : Nat} {ys : List (ByteArray × Val)} {xs : List Value}
theorem FAcc.nil (w : World) (base : Nat) (QA : Nat → Prop) (h : Nat) : FAcc w base (.slice none 0 0) QA h [] [] :=
 ⟨World.ownsRow_nil _ _ _ _, fun i hi => by simp at hi⟩
theorem FAcc.keep (ha : FAcc w base v QA h ys xs) (hb : Below w.heap.size w w') : FAcc w' base v QA h ys xs :=
 ⟨owns_below ha.own hb, fun i hi => by
  obtain ⟨hn, hs, c0, c1, c2, c3, c4, c5, h0, h1, h2, h3, h4, h5, hv⟩ := ha.at' i hi
  exact ⟨hn, hs, c0, c1, c2, c3, c4, c5, h0, h1, h2, h3, h4, h5, hv.keep hb⟩⟩
theorem FAcc.push {nm : ByteArray} {y : Val} {c0 c1 c2 c3 c4 c5 : Value} (ha : FAcc w base v QA h ys xs) (hw : Wrote w w' v v') (hown : w'.ownsRow base 40 7 v' (ys.length + 1) (xs ++ [.string nm, c0, c1, c2, c3, c4, c5]))
  (hs : nm.size ≤ 140737488355328) (hv : VIn w (fun g => QA g ∧ v.ownBlock ≠ some g) h y (.agg #[c0, c1, c2, c3, c4, c5])) : FAcc w' base v' QA h (ys ++ [(nm, y)]) (xs ++ [.string nm, c0, c1, c2, c3, c4, c5]) := by
 have hxl : xs.length = ys.length * 7 := ha.own.1
 refine ⟨by rw [List.length_append]; exact hown, fun i hi => ?_⟩
 rw [List.length_append, List.length_singleton] at hi
 rcases Nat.lt_or_ge i ys.length with hlt | hge
 ·obtain ⟨hn, hs', d0, d1, d2, d3, d4, d5, h0, h1, h2, h3, h4, h5, hd⟩ := ha.at' i hlt
  have e : ∀ j, j < 7 → (xs ++ [.string nm, c0, c1, c2, c3, c4, c5])[i * 7 + j]? = xs[i * 7 + j]? := fun j hj => List.getElem?_append_left (by omega)
  rw [List.getElem_append_left hlt]
  exact ⟨(e 0 (by omega)).trans hn, hs', d0, d1, d2, d3, d4, d5, (e 1 (by omega)).trans h0, (e 2 (by omega)).trans h1, (e 3 (by omega)).trans h2, (e 4 (by omega)).trans h3, (e 5 (by omega)).trans h4, (e 6 (by omega)).trans h5, hw.vin hd⟩
 ·obtain rfl : i = ys.length := by omega
  have e : ∀ j, (xs ++ [.string nm, c0, c1, c2, c3, c4, c5])[ys.length * 7 + j]? = [.string nm, c0, c1, c2, c3, c4, c5][j]? := fun j => by
   rw [List.getElem?_append_right (by omega)]; congr 1; omega
  rw [List.getElem_append_right (Nat.le_refl _)]
  simp only [Nat.sub_self, List.getElem_cons_zero]
  exact ⟨e 0, hs, c0, c1, c2, c3, c4, c5, e 1, e 2, e 3, e 4, e 5, e 6, hw.vin hv⟩
theorem FAcc.fields {Q' : Nat → Prop} (ha : FAcc w base v QA h ys xs) (hQ : ∀ g, QA g → Q' g) (hb : ∀ g, base ≤ g → g < w.heap.size → Q' g) :
  ∃ a c, v = .slice a ys.length c ∧ (ys.length ≤ c ∧ c ≤ 9223372036854775807) ∧ FieldsIn w Q' (VIn w Q' h) a ys := by
 obtain ⟨hxl, ⟨rfl, hn⟩ | ⟨g, cap, cur, rfl, hbg, hrow, hc, hm, hsz, htake⟩⟩ := ha.own
 ·have hn' := List.eq_nil_of_length_eq_zero hn
  refine ⟨none, 0, by rw [hn], by rw [hn]; exact ⟨Nat.le_refl _, by omega⟩, .inl hn'⟩
 ·refine ⟨some ⟨g, 0, none⟩, cap, rfl, ⟨hc, by unfold maxLen at hm; omega⟩, .inr ⟨g, 0, rfl, hb g hbg (Array.getElem?_eq_some_iff.1 hrow).1, fun i hi => ?_⟩⟩
  obtain ⟨hn, hs, c0, c1, c2, c3, c4, c5, h0, h1, h2, h3, h4, h5, hv⟩ := ha.at' i hi
  have e : ∀ j c, xs[j]? = some c → w.cell? ⟨g, 0 + j, none⟩ = some c := fun j c hj => by
   have hl : j < xs.length := (List.getElem?_eq_some_iff.1 hj).1
   rw [Nat.zero_add, cell_of_row w g j _ _ _ hrow, ← Array.getElem?_toList, ← hj, ← htake, List.getElem?_take_of_lt (by omega)]
  exact ⟨e _ _ hn, hs, _, ⟨c0, c1, c2, c3, c4, c5, rfl, e _ _ h0, e _ _ h1, e _ _ h2, e _ _ h3, e _ _ h4, e _ _ h5⟩, hv.kept (Kept.of_below (Below.refl _ _)) (fun g hg => hQ g hg.1)⟩
end
end Go.Proofs.YtiajjgehnmkokaaGreatDoor
end
section
namespace Go.Proofs.YtiajjgehnmkokaaGreatDoor
open Go.RowKit
open Seal
open Bson (Val)
def ReachAt (h : Nat) (p : List ByteArray) (pa : Option Addr) (pn pc : Nat) (fn : Val → Val) : Prop :=
 ∀ (Q : Nat → Prop) (x : Val) (v : Value) (w : World), VIn w Q h x v → StrsIn w pa p → Calls Tryz.prog 196 #[v, .slice pa pn pc] w (ValPost (fun g => Q g ∨ w.heap.size ≤ g) w h (fn x))
def gather (fn : Val → Val) (l : List Val) : List Val := (l.map fn).filter fun y => decide (y.kind ≠ 0)
theorem gather_yes (fn : Val → Val) (l : List Val) (k : Nat) (hk : k < l.length) (h : (fn l[k]).kind ≠ 0) : gather fn (l.take (k + 1)) = gather fn (l.take k) ++ [fn l[k]] := by
 have e : l.take (k + 1) = l.take k ++ [l[k]] := by rw [List.take_add_one, List.getElem?_eq_getElem hk]; rfl
 unfold gather; rw [e, List.map_append, List.filter_append]; simp [h]
theorem gather_no (fn : Val → Val) (l : List Val) (k : Nat) (hk : k < l.length) (h : (fn l[k]).kind = 0) : gather fn (l.take (k + 1)) = gather fn (l.take k) := by
 have e : l.take (k + 1) = l.take k ++ [l[k]] := by rw [List.take_add_one, List.getElem?_eq_getElem hk]; rfl
 unfold gather; rw [e, List.map_append, List.filter_append]; simp [h]
theorem gather_le (fn : Val → Val) (l : List Val) (k : Nat) : (gather fn (l.take k)).length ≤ k := by
 refine Nat.le_trans (List.length_filter_le _ _) ?_
 simp; omega
theorem VIn.kind {w : World} {Q : Nat → Prop} {h : Nat} {x : Val} {k n : Int} {s : ByteArray} {v3 v4 v5 : Value} (hv : VIn w Q h x (.agg #[.int .i64 k, .int .i64 n, .string s, v3, v4, v5])) : k = x.kind := by
 cases h with
 | zero => exact hv.elim
 | succ h =>
  obtain ⟨ba, fa, la, bc, fc, lc, e, _⟩ := hv
  unfold agg at e
  injection e with e; injection e with e; injection e with e _; injection e with _ e
theorem six_new (w : World) (c0 c1 c2 c3 c4 c5 : Value) (t : TypeId) : ∀ j u, ([c0, c1, c2, c3, c4, c5] : List Value)[j]? = some u → (w.alloc (.cells #[c0, c1, c2, c3, c4, c5] t)).cell? (Addr.add ⟨w.heap.size, 0, none⟩ j) = some u := by
 intro j u hj
 rw [Addr.add_mid, Nat.zero_add, cell_of_row _ _ j _ _ _ (heap_alloc_new w _)]
 simpa using hj
theorem six_one (k n : Int) (s : ByteArray) (ba fa la : Option Addr) (bl bc fl fc ll lc : Nat) : ∀ u ∈ ([.int .i64 k, .int .i64 n, .string s, .slice ba bl bc, .slice fa fl fc, .slice la ll lc] : List Value), u.oneCell' = true := by
 intro u hu
 simp at hu
 rcases hu with rfl | rfl | rfl | rfl | rfl | rfl <;> rfl
theorem items_any (h : Nat) (p : List ByteArray) (pa : Option Addr) (pn pc : Nat) (fn : Val → Val) (IH0 : ReachAt h p pa pn pc fn) (Q : Nat → Prop) (la : Option Addr) (ln lc : Nat) (l : List Val) (w : World) (hn : l.length = ln) (hlb : ln ≤ 1353245080339)
  (hI : ItemsIn w Q (VIn w Q h) la l) (hp : StrsIn w pa p) :
  Calls Tryz.prog 198 #[.slice la ln lc, .slice pa pn pc] w fun e w' => ∃ a' c', e = .returned (.slice a' (gather fn l).length c') ∧ ((gather fn l).length ≤ c' ∧ c' ≤ 9223372036854775807) ∧
   ItemsIn w' (fun g => Q g ∨ w.heap.size ≤ g) (VIn w' (fun g => Q g ∨ w.heap.size ≤ g) h) a' (gather fn l) ∧ Below w.heap.size w w' := by
 obtain ⟨i0, hi, hz0, hz1, hz2⟩ := info_parts infoV6
 obtain ⟨QA, hQA⟩ : ∃ QA : Nat → Prop, QA = fun g => (Q g ∧ g < w.heap.size) ∨ w.heap.size ≤ g := ⟨_, rfl⟩
 have HQA := Lib.hid hQA
 have IH := Lib.hid IH0
 have HI := Lib.hid hI
 have HP := Lib.hid hp
 have HN := Lib.hid hn
 clear IH0 hI hp hn hQA
 go_enter Tryz.func198, Tryz.ntmps198
 go_wp2_with fail
 go_loopw [5, 11] (fun vv i wr => ∃ (k : Nat) (v : Value) (xs : List Value), k ≤ ln ∧ i = .int .i64 k ∧ v = vv ∧ Hid (Acc wr w.heap.size v QA h (gather fn (l.take k)) xs) ∧ Hid (Below w.heap.size w wr)) (fun _ i _ => ln - (intOf i).toNat)
 case atStart => exact ⟨0, _, [], Nat.zero_le _, rfl, rfl, Acc.nil _ _ _ _, Below.refl _ _⟩
 case round =>
  obtain ⟨k, v, xs, hk, rfl, rfl, HA, HB⟩ := hrel
  by_cases hlt : k < ln
  ·obtain ⟨g, o, hla, _, hall⟩ := HI.out.resolve_left (fun e => by have := HN.out; rw [e] at this; simp at this; omega)
   obtain ⟨v', hsix, hV⟩ := hall k (by have := HN.out; omega)
   subst hla
   obtain ⟨ka, na, sa, ba, fa, la, bl, bc, fl, fc, ll, lc, rfl⟩ := hV.shape
   obtain ⟨y, hy⟩ : ∃ y, y = l[k]'(by have := HN.out; omega) := ⟨_, rfl⟩
   rw [← hy] at hV
   have HY := Lib.hid hy
   have HV := Lib.hid (VIn.keep ((Below.refl _ wr).alloc (Nat.le_refl _) (.cells #[.int .i64 ka, .int .i64 na, .string sa, .slice ba bl bc, .slice fa fl fc, .slice la ll lc] 26)) (VIn.keep HB.out hV.lt))
   obtain ⟨s0, s1, s2, s3, s4, s5⟩ := (hsix.keep HB.out).cells
   have HPw := Lib.hid ((HP.out.keep HB.out).keep ((Below.refl _ wr).alloc (Nat.le_refl _) (.cells #[.int .i64 ka, .int .i64 na, .string sa, .slice ba bl bc, .slice fa fl fc, .slice la ll lc] 26)))
   clear hall hsix hV hy
   go_wp2_with fail
   refine (IH.out _ y _ _ HV.out HPw.out).mono ?_
   rintro e w2 ⟨v2, rfl, hv2, hb2⟩
   obtain ⟨kd, nd, sd, bd, fd, ld, bm, bz, fm, fz, lm, lz, rfl⟩ := hv2.shape
   have HB2 : Hid (Below wr.heap.size wr w2) := ((Below.refl _ wr).alloc (Nat.le_refl _) _).trans (hb2.mono (by simp))
   have HA2 := Lib.hid (HA.out.keep HB2.out)
   have HBw2 : Hid (Below w.heap.size w w2) := HB.out.trans (HB2.out.mono HB.out.size)
   have HV2 : Hid (VIn w2 (fun g => QA g ∧ v.ownBlock ≠ some g) h (fn y) (.agg #[.int .i64 kd, .int .i64 nd, .string sd, .slice bd bm bz, .slice fd fm fz, .slice ld lm lz])) := by
    refine hv2.kept (Kept.of_below (Below.refl _ _)) (fun g hg => ?_)
    rw [HQA.out]
    have hs := HB.out.size
    rcases hg with ⟨_, hg⟩ | hg
    ·refine ⟨.inl ⟨by assumption, hg⟩, fun e => ?_⟩
     have := owns_block HA.out.own e; omega
    ·simp at hg
     refine ⟨.inr (by omega), fun e => ?_⟩
     have := owns_block HA.out.own e; omega
   have hkd : kd = (fn y).kind := hv2.kind
   have HKD := Lib.hid hkd
   clear s0 s1 s2 s3 s4 s5 hv2 hb2 HV HA HB HPw hkd
   by_cases h0 : kd = 0
   ·subst h0
    have hg1 : gather fn (l.take (k + 1)) = gather fn (l.take k) := gather_no _ _ _ (by have := HN.out; omega) (by rw [← HY.out]; exact HKD.out.symm)
    have HA3 : Hid (Acc (w2.alloc (.cells #[.int .i64 0, .int .i64 nd, .string sd, .slice bd bm bz, .slice fd fm fz, .slice ld lm lz] 26)) w.heap.size v QA h (gather fn (l.take (k + 1))) xs) := by
     rw [hg1]; exact HA2.out.keep ((Below.refl _ w2).alloc (Nat.le_refl _) _)
    have HB3 : Hid (Below w.heap.size w (w2.alloc (.cells #[.int .i64 0, .int .i64 nd, .string sd, .slice bd bm bz, .slice fd fm fz, .slice ld lm lz] 26))) := HBw2.out.alloc HBw2.out.size _
    clear hg1
    go_wp2_with fail
    go_roundw
    case rel => exact ⟨k + 1, _, _, by omega, by go_num, rfl, HA3, HB3⟩
    case measure => simp [intOf]; omega
   ·have hkb : (kd == 0) = false := by simpa using h0
    have hg1 : gather fn (l.take (k + 1)) = gather fn (l.take k) ++ [fn y] := by
     have := gather_yes fn l k (by have := HN.out; omega) (by rw [← HY.out, ← HKD.out]; exact h0)
     rw [← HY.out] at this; exact this
    have HG1 := Lib.hid hg1
    have hle := gather_le fn l k
    obtain ⟨gn, hgn⟩ : ∃ n, n = (gather fn (l.take k)).length := ⟨_, rfl⟩
    rw [← hgn] at hle
    have HGN := Lib.hid hgn
    clear hg1 hgn
    have HA3 : Hid (Acc ((w2.alloc (.cells #[.int .i64 kd, .int .i64 nd, .string sd, .slice bd bm bz, .slice fd fm fz, .slice ld lm lz] 26)).alloc (.cells #[.int .i64 kd, .int .i64 nd, .string sd, .slice bd bm bz, .slice fd fm fz, .slice ld lm lz] 26)) w.heap.size v QA h (gather fn (l.take k)) xs) := (HA2.out.keep ((Below.refl _ w2).alloc (Nat.le_refl _) _)).keep ((Below.refl _ _).alloc (Nat.le_refl _) _)
    have HV3 : Hid (VIn ((w2.alloc (.cells #[.int .i64 kd, .int .i64 nd, .string sd, .slice bd bm bz, .slice fd fm fz, .slice ld lm lz] 26)).alloc (.cells #[.int .i64 kd, .int .i64 nd, .string sd, .slice bd bm bz, .slice fd fm fz, .slice ld lm lz] 26)) (fun g => QA g ∧ v.ownBlock ≠ some g) h (fn y) (.agg #[.int .i64 kd, .int .i64 nd, .string sd, .slice bd bm bz, .slice fd fm fz, .slice ld lm lz])) := (VIn.keep ((Below.refl _ w2).alloc (Nat.le_refl _) _) HV2.out).keep ((Below.refl _ _).alloc (Nat.le_refl _) _)
    have HB3 : Hid (Below w.heap.size w ((w2.alloc (.cells #[.int .i64 kd, .int .i64 nd, .string sd, .slice bd bm bz, .slice fd fm fz, .slice ld lm lz] 26)).alloc (.cells #[.int .i64 kd, .int .i64 nd, .string sd, .slice bd bm bz, .slice fd fm fz, .slice ld lm lz] 26))) := (HBw2.out.alloc HBw2.out.size _).alloc (by have := HBw2.out.size; simp; omega) _
    have HOWN : Hid (((w2.alloc (.cells #[.int .i64 kd, .int .i64 nd, .string sd, .slice bd bm bz, .slice fd fm fz, .slice ld lm lz] 26)).alloc (.cells #[.int .i64 kd, .int .i64 nd, .string sd, .slice bd bm bz, .slice fd fm fz, .slice ld lm lz] 26)).ownsRow w.heap.size 26 6 v gn xs) := by have := HA3.out.own; rw [← HGN.out] at this; exact this
    have HNW : Hid (∀ j u, ([.int .i64 kd, .int .i64 nd, .string sd, .slice bd bm bz, .slice fd fm fz, .slice ld lm lz] : List Value)[j]? = some u → ((w2.alloc (.cells #[.int .i64 kd, .int .i64 nd, .string sd, .slice bd bm bz, .slice fd fm fz, .slice ld lm lz] 26)).alloc (.cells #[.int .i64 kd, .int .i64 nd, .string sd, .slice bd bm bz, .slice fd fm fz, .slice ld lm lz] 26)).cell? (Addr.add ⟨w2.heap.size + 1, 0, none⟩ j) = some u) := by
     have hh := six_new (w2.alloc (.cells #[.int .i64 kd, .int .i64 nd, .string sd, .slice bd bm bz, .slice fd fm fz, .slice ld lm lz] 26)) (.int .i64 kd) (.int .i64 nd) (.string sd) (.slice bd bm bz) (.slice fd fm fz) (.slice ld lm lz) 26
     have e : (w2.alloc (.cells #[.int .i64 kd, .int .i64 nd, .string sd, .slice bd bm bz, .slice fd fm fz, .slice ld lm lz] 26)).heap.size = w2.heap.size + 1 := by simp
     rw [e] at hh; exact hh
    have hsz3 : w.heap.size ≤ ((w2.alloc (.cells #[.int .i64 kd, .int .i64 nd, .string sd, .slice bd bm bz, .slice fd fm fz, .slice ld lm lz] 26)).alloc (.cells #[.int .i64 kd, .int .i64 nd, .string sd, .slice bd bm bz, .slice fd fm fz, .slice ld lm lz] 26)).heap.size := HB3.out.size
    have HSZ := Lib.hid hsz3
    clear HA2 HV2 HBw2 hsz3
    go_wp2_with (at_builtin; refine wpList_append_sz _ rfl (.tmp 21) (.tmp 23) 24 rfl w.heap.size 26 i0 (.agg #[.int .i64 0, .int .i64 0, .string ⟨#[]⟩, .slice none 0 0, .slice none 0 0, .slice none 0 0]) 6 104 Tryz.underlying24 hi hz0 hz1 hz2 rfl v gn xs rfl HOWN.out ⟨w2.heap.size + 1, 0, none⟩ 1 1 [.int .i64 kd, .int .i64 nd, .string sd, .slice bd bm bz, .slice fd fm fz, .slice ld lm lz] rfl rfl (by decide) (by decide) HNW.out (six_one _ _ _ _ _ _ _ _ _ _ _ _) (by unfold maxLen; omega) (by omega) HSZ.out ?_)
    intro v5 w5 hown5 hlies5
    have hw5 := Wrote.of_lies hlies5
    have HB5 : Hid (Below w.heap.size w w5) := HB3.out.grown hw5.1 HSZ.out (fun j hj => (owns_block HOWN.out hj).1)
    have HA5 : Hid (Acc w5 w.heap.size v5 QA h (gather fn (l.take (k + 1))) (xs ++ [.int .i64 kd, .int .i64 nd, .string sd, .slice bd bm bz, .slice fd fm fz, .slice ld lm lz])) := by
     rw [HG1.out]; exact HA3.out.push hw5 (by rw [← HGN.out]; exact hown5) HV3.out
    clear hown5 hlies5 hw5 HA3 HV3 HB3 HOWN HNW HSZ HGN HG1
    go_wp2_with fail
    go_roundw
    case rel => exact ⟨k + 1, _, _, by omega, by go_num, rfl, HA5, HB5⟩
    case measure => simp [intOf]; omega
  ·have hkk : k = ln := by omega
   subst hkk
   have htk : l.take k = l := List.take_of_length_le (by rw [HN.out]; exact Nat.le_refl _)
   have hfin := HA.out
   rw [htk] at hfin
   obtain ⟨a', c', rfl, hc, hit⟩ := hfin.items (Q' := fun g => Q g ∨ w.heap.size ≤ g) (fun g hg => by rw [HQA.out] at hg; rcases hg with hg | hg; exact .inl hg.1; exact .inr hg) (fun g hg _ => .inr hg)
   have HC := Lib.hid hc; have HIT := Lib.hid hit
   clear hc hit hfin htk HA
   go_wp2_with fail
   go_ret
   exact ⟨a', c', rfl, HC.out, HIT.out, HB.out⟩
end Go.Proofs.YtiajjgehnmkokaaGreatDoor
end
section
namespace Go.Proofs.YtiajjgehnmkokaaGreatDoor
open Go.RowKit
open Seal
open Bson (Val)
def CellsAt (w : World) (Q : Nat → Prop) (h : Nat) (l : List Val) (news : List Value) : Prop := ∀ i (hi : i < l.length), ∃ c0 c1 c2 c3 c4 c5, news[i * 6]? = some c0 ∧ news[i * 6 + 1]? = some c1 ∧ news[i * 6 + 2]? = some c2 ∧ news[i * 6 + 3]? = some c3 ∧ news[i * 6 + 4]? = some c4 ∧ news[i * 6 + 5]? = some c5 ∧ VIn w Q h l[i] (.agg #[c0, c1, c2, c3, c4, c5])
theorem Acc.append {w w' : World} {base : Nat} {v v' : Value} {QA : Nat → Prop} {h : Nat} {ys zs : List Val} {xs news : List Value} (ha : Acc w base v QA h ys xs) (hw : Wrote w w' v v') (hown : w'.ownsRow base 26 6 v' (ys.length + zs.length) (xs ++ news))
  (hv : CellsAt w (fun g => QA g ∧ v.ownBlock ≠ some g) h zs news) (_hl : news.length = zs.length * 6) : Acc w' base v' QA h (ys ++ zs) (xs ++ news) := by
 have hxl : xs.length = ys.length * 6 := ha.own.1
 refine ⟨by rw [List.length_append]; exact hown, fun i hi => ?_⟩
 rw [List.length_append] at hi
 rcases Nat.lt_or_ge i ys.length with hlt | hge
 ·obtain ⟨d0, d1, d2, d3, d4, d5, h0, h1, h2, h3, h4, h5, hd⟩ := ha.at' i hlt
  have e : ∀ j, j < 6 → (xs ++ news)[i * 6 + j]? = xs[i * 6 + j]? := fun j hj => List.getElem?_append_left (by omega)
  refine ⟨d0, d1, d2, d3, d4, d5, (e 0 (by omega)).trans h0, (e 1 (by omega)).trans h1, (e 2 (by omega)).trans h2, (e 3 (by omega)).trans h3, (e 4 (by omega)).trans h4, (e 5 (by omega)).trans h5, ?_⟩
  rw [List.getElem_append_left hlt]
  exact hw.vin hd
 ·obtain ⟨j, rfl⟩ : ∃ j, i = ys.length + j := ⟨i - ys.length, by omega⟩
  obtain ⟨d0, d1, d2, d3, d4, d5, h0, h1, h2, h3, h4, h5, hd⟩ := hv j (by omega)
  have e : ∀ r, (xs ++ news)[(ys.length + j) * 6 + r]? = news[j * 6 + r]? := fun r => by
   rw [List.getElem?_append_right (by omega)]; congr 1; omega
  refine ⟨d0, d1, d2, d3, d4, d5, (e 0).trans h0, (e 1).trans h1, (e 2).trans h2, (e 3).trans h3, (e 4).trans h4, (e 5).trans h5, ?_⟩
  rw [List.getElem_append_right (by omega)]
  simp only [Nat.add_sub_cancel_left]
  exact hw.vin hd
theorem VIn.items {w : World} {Q : Nat → Prop} {h : Nat} {x : Val} {c0 c1 c2 c3 c4 : Value} {la : Option Addr} {ln lc : Nat} (hv : VIn w Q (h + 1) x (.agg #[c0, c1, c2, c3, c4, .slice la ln lc])) : ln = x.l.length ∧ ItemsIn w Q (VIn w Q h) la x.l := by
 obtain ⟨ba, fa, la', bc, fc, lc', e, _, _, _, _, _, _, hI⟩ := hv
 unfold agg at e
 injection e with e; injection e with e
 injection e with _ e; injection e with _ e; injection e with _ e; injection e with _ e; injection e with _ e; injection e with e _
 injection e with e1 e2 _
 subst e1
 exact ⟨e2, hI⟩
section
variable {P : Program}
end
end Go.Proofs.YtiajjgehnmkokaaGreatDoor
end
section
namespace Go.Proofs.YtiajjgehnmkokaaGreatDoor
open Go.RowKit
open Seal
open Bson (Val)
def StrsBy (w : World) (v : Value) (a : Option Addr) (p : List ByteArray) : Prop := p = [] ∨ ∃ g o, a = some ⟨g, o, none⟩ ∧ v.ownBlock ≠ some g ∧ ∀ i (hi : i < p.length), w.cell? ⟨g, o + i, none⟩ = some (.string p[i])
theorem StrsBy.strs {w : World} {v : Value} {a : Option Addr} {p : List ByteArray} (h : StrsBy w v a p) : StrsIn w a p := by
 rcases h with h | ⟨g, o, e, _, h⟩
 ·exact .inl h
 ·exact .inr ⟨g, o, e, h⟩
theorem StrsBy.keep {w w' : World} {v : Value} {a : Option Addr} {p : List ByteArray} (h : StrsBy w v a p) (hb : Below w.heap.size w w') : StrsBy w' v a p := by
 rcases h with h | ⟨g, o, e, hg, h⟩
 ·exact .inl h
 ·exact .inr ⟨g, o, e, hg, fun i hi => cell_keep hb (h i hi)⟩
theorem StrsBy.wrote {w w' : World} {v v' : Value} {a : Option Addr} {p : List ByteArray} (hw : Wrote w w' v v') (h : StrsBy w v a p) : StrsBy w' v' a p := by
 rcases h with h | ⟨g, o, rfl, hg, h⟩
 ·exact .inl h
 ·cases p with
  | nil => exact .inl rfl
  | cons s r =>
   refine .inr ⟨g, o, rfl, ?_, fun i hi => ?_⟩
   ·have hlt := World.block_lt_of_cell? w _ (h 0 (by simp))
    rcases hw.2 with h2 | ⟨b, h2, h3⟩
    ·rw [h2]; exact hg
    ·rw [h2]; intro e; have := Option.some.inj e; simp at hlt; omega
   ·have hc := h i hi
    exact (World.cell?_of_block (a := ⟨g, o + i, none⟩) (hw.1.block g (World.block_lt_of_cell? w _ hc) (fun e => hg e.symm))).trans hc
theorem owns_shape {w : World} {base : Nat} {e : TypeId} {size : Nat} {v : Value} {n : Nat} {xs : List Value} (h : w.ownsRow base e size v n xs) : ∃ a c, v = .slice a n c := by
 obtain ⟨_, ⟨rfl, rfl⟩ | ⟨g, cap, cur, rfl, _⟩⟩ := h
 ·exact ⟨none, 0, rfl⟩
 ·exact ⟨_, cap, rfl⟩
end Go.Proofs.YtiajjgehnmkokaaGreatDoor
end
