/- Sums taken off, quotients put back (plain); the two values of the law in memory. -/
import Derived.Test.YtkmibpjhfgbckaaNumBox
import Derived.Test.YtkmibpjhfgbckaaBoxes
namespace Go.Proofs.Ytkmibpjhfgbckaa
open Go.RowKit
open Seal
namespace Num
def Kn (k : Int) : Prop := k = 3 ∨ k = 4
theorem ofK_kn (n : Int) : Kn (ofK n) := by unfold ofK Kn; split <;> simp
theorem reck_ok (n : Int) {ak bk : Int} (ha : Kn ak) (hb : Kn bk) : ∃ k, reck (n, 0) ak bk = (k, n, 0) ∧ Kn k ∧ (ak = 4 → k = 4) := by
  have h1 : noneB ak = false := by rcases ha with rfl | rfl <;> rfl
  have h2 : noneB bk = false := by rcases hb with rfl | rfl <;> rfl
  have h3 : numB ak = true := by rcases ha with rfl | rfl <;> rfl
  have h4 : numB bk = true := by rcases hb with rfl | rfl <;> rfl
  unfold reck
  rw [h1, h2, h3, h4]
  by_cases c6 : ak = 4
  · exact ⟨4, by simp [c6], .inr rfl, fun _ => rfl⟩
  by_cases c7 : bk = 4
  · exact ⟨4, by simp [c7], .inr rfl, fun _ => rfl⟩
  exact ⟨ofK n, by simp [c6, c7], ofK_kn n, fun h => absurd h c6⟩
theorem reck_err (n e : Int) {ak bk : Int} (ha : Kn ak) (hb : Kn bk) (he : e ≠ 0) : reck (n, e) ak bk = (0, 0, e) := by
  have h1 : noneB ak = false := by rcases ha with rfl | rfl <;> rfl
  have h2 : noneB bk = false := by rcases hb with rfl | rfl <;> rfl
  have h3 : numB ak = true := by rcases ha with rfl | rfl <;> rfl
  have h4 : numB bk = true := by rcases hb with rfl | rfl <;> rfl
  unfold reck
  rw [h1, h2, h3, h4]
  simp [he]
/-- A sum: it fits, and less b it is a again; or it does not. -/
theorem back_sum {a b : Int} (ha : In a) {ak bk : Int} (ka : Kn ak) (kb : Kn bk) :
    (∃ ks kd, reck (sumR a b) ak bk = (ks, a + b, 0) ∧ In (a + b) ∧ reck (difR (a + b) b) ks bk = (kd, a, 0) ∧ (ak = 4 → kd = 4)) ∨ reck (sumR a b) ak bk = (0, 0, 10) := by
  by_cases h : In (a + b)
  · have e : sumR a b = (a + b, 0) := if_pos h
    have e2 : difR (a + b) b = (a, 0) := by rw [difR, Int.add_sub_cancel, if_pos ha]
    obtain ⟨ks, h1, h2, h3⟩ := reck_ok (a + b) ka kb
    obtain ⟨kd, h4, _, h5⟩ := reck_ok a h2 kb
    exact .inl ⟨ks, kd, by rw [e, h1], h, by rw [e2, h4], fun x => h5 (h3 x)⟩
  · have e : sumR a b = (0, 10) := if_neg h
    exact .inr (by rw [e]; exact reck_err 0 10 ka kb (by decide))
theorem back_nought (a : Int) {ak bk : Int} (ka : Kn ak) (kb : Kn bk) : reck (quoR a 0) ak bk = (0, 0, 11) ∧ reck (remR a 0) ak bk = (0, 0, 11) :=
  ⟨reck_err 0 11 ka kb (by decide), reck_err 0 11 ka kb (by decide)⟩
theorem back_least {ak bk : Int} (ka : Kn ak) (kb : Kn bk) : ∃ kr, reck (quoR (-9223372036854775808) (-1)) ak bk = (0, 0, 10) ∧ reck (remR (-9223372036854775808) (-1)) ak bk = (kr, 0, 0) := by
  obtain ⟨kr, h, _⟩ := reck_ok 0 ka kb
  exact ⟨kr, reck_err 0 10 ka kb (by decide), h⟩
/-- A quotient times b, and the rest: a again. -/
theorem back_quo {a b : Int} (ha : In a) (h0 : b ≠ 0) (hl : ¬ (a = -9223372036854775808 ∧ b = -1)) {ak bk : Int} (ka : Kn ak) (kb : Kn bk) :
    ∃ kq kr kp kt, reck (quoR a b) ak bk = (kq, a.tdiv b, 0) ∧ reck (remR a b) ak bk = (kr, a.tmod b, 0) ∧ reck (mulR (a.tdiv b) b) kq bk = (kp, a.tdiv b * b, 0) ∧ reck (sumR (a.tdiv b * b) (a.tmod b)) kp kr = (kt, a, 0) ∧ In (a.tdiv b) ∧ In (a.tdiv b * b) ∧ In (a.tmod b) := by
  have hq := tdiv_in ha hl
  have hr : In (a.tmod b) := tmod_in ha
  have hd := Int.mul_tdiv_add_tmod a b
  have hp : In (a.tdiv b * b) := by
    rw [Int.mul_comm]
    generalize b * a.tdiv b = p at *
    unfold In at *
    have h1 : (a.tmod b).natAbs ≤ a.natAbs := by
      rw [Int.natAbs_tmod]; exact Nat.mod_le _ _
    rcases Int.le_total 0 a with h | h
    · have := Int.tmod_nonneg b h
      omega
    · have := Int.tmod_nonneg b (a := -a) (by omega)
      rw [Int.neg_tmod] at this
      omega
  have e1 : quoR a b = (a.tdiv b, 0) := by rw [quoR, if_neg h0, if_pos hq]
  have e2 : remR a b = (a.tmod b, 0) := if_neg h0
  have e3 : mulR (a.tdiv b) b = (a.tdiv b * b, 0) := if_pos hp
  have hs : a.tdiv b * b + a.tmod b = a := by rw [Int.mul_comm]; exact hd
  have e4 : sumR (a.tdiv b * b) (a.tmod b) = (a, 0) := by rw [sumR, hs, if_pos ha]
  obtain ⟨kq, q1, q2, _⟩ := reck_ok (a.tdiv b) ka kb
  obtain ⟨kr, r1, r2, _⟩ := reck_ok (a.tmod b) ka kb
  obtain ⟨kp, p1, p2, _⟩ := reck_ok (a.tdiv b * b) q2 kb
  obtain ⟨kt, t1, t2, _⟩ := reck_ok a p2 r2
  exact ⟨kq, kr, kp, kt, by rw [e1, q1], by rw [e2, r1], by rw [e3, p1], by rw [e4, t1], hq, hp, hr⟩
theorem tmod_sign (a b : Int) (h : a.tmod b ≠ 0) : decide (a.tmod b < 0) = decide (a < 0) := by
  rcases Int.le_total 0 a with h' | h'
  · have := Int.tmod_nonneg b h'
    have e1 : ¬ a.tmod b < 0 := by omega
    have e2 : ¬ a < 0 := by omega
    simp [e1, e2]
  · have := Int.tmod_nonneg b (a := -a) (by omega)
    rw [Int.neg_tmod] at this
    have e1 : a.tmod b < 0 := by omega
    have e2 : a < 0 := by
      rcases Int.lt_or_eq_of_le h' with h2 | h2
      · exact h2
      · subst h2; simp at h
    simp [e1, e2]
end Num
open Num
/-- The two values of the law, wide where it is asked. -/
def BX (w : World) (gx gy : Nat) (a b : Int) (p0 p1 : Bool) (W : World) : Prop :=
  ∃ kx ky, Kn kx ∧ Kn ky ∧ (p0 = true → kx = 4) ∧ IsBox W gx (.int .i64 kx) (.int .i64 a) (.string ⟨#[]⟩) (.slice none 0 0) (.slice none 0 0) (.slice none 0 0) ∧ IsBox W gy (.int .i64 ky) (.int .i64 b) (.string ⟨#[]⟩) (.slice none 0 0) (.slice none 0 0) (.slice none 0 0) ∧
    W.cell? ⟨w.heap.size, 0, none⟩ = some (.bool p0) ∧ W.cell? ⟨w.heap.size, 1, none⟩ = some (.bool p1) ∧ w.heap.size < gx ∧ gx < gy ∧ Below w.heap.size w W
theorem IsBox.first {W : World} {n : Nat} {c0 c1 c2 c3 c4 c5 : Value} (h : IsBox W n c0 c1 c2 c3 c4 c5) (d0 : Value) : IsBox (W.setCell ⟨n, 0, none⟩ d0) n d0 c1 c2 c3 c4 c5 := heap_setCell_same W n 0 _ _ d0 h
section
variable {w W : World} {gx gy : Nat} {a b : Int} {p0 p1 : Bool}
theorem BX.set0 (h : BX w gx gy a b true p1 W) : BX w gx gy a b true p1 (W.setCell ⟨gx, 0, none⟩ (.int .i64 4)) := by
  obtain ⟨kx, ky, h1, h2, h3, hx, hy, c0, c1, l1, l2, hb⟩ := h
  refine ⟨4, ky, .inr rfl, h2, fun _ => rfl, hx.first _, hy.other (by omega) 0 [.int .i64 4], ?_, ?_, l1, l2, hb.setCell (by show w.heap.size ≤ gx; omega) _⟩
  · exact (Below.cell ((Below.refl gx W).setCell (Nat.le_refl _) _) (p := ⟨w.heap.size, 0, none⟩) l1).trans c0
  · exact (Below.cell ((Below.refl gx W).setCell (Nat.le_refl _) _) (p := ⟨w.heap.size, 1, none⟩) l1).trans c1
theorem BX.set1 (h : BX w gx gy a b p0 p1 W) : BX w gx gy a b p0 p1 (W.setCell ⟨gy, 0, none⟩ (.int .i64 4)) := by
  obtain ⟨kx, ky, h1, h2, h3, hx, hy, c0, c1, l1, l2, hb⟩ := h
  have l3 : w.heap.size < gy := by omega
  refine ⟨kx, 4, h1, .inr rfl, h3, hx.other (by omega) 0 [.int .i64 4], hy.first _, ?_, ?_, l1, l2, hb.setCell (by show w.heap.size ≤ gy; omega) _⟩
  · exact (Below.cell ((Below.refl gy W).setCell (Nat.le_refl _) _) (p := ⟨w.heap.size, 0, none⟩) l3).trans c0
  · exact (Below.cell ((Below.refl gy W).setCell (Nat.le_refl _) _) (p := ⟨w.heap.size, 1, none⟩) l3).trans c1
theorem BX.to0 {kx ky : Int} (h1 : Kn kx) (h2 : Kn ky) (hx : IsBox W gx (.int .i64 kx) (.int .i64 a) (.string ⟨#[]⟩) (.slice none 0 0) (.slice none 0 0) (.slice none 0 0)) (hy : IsBox W gy (.int .i64 ky) (.int .i64 b) (.string ⟨#[]⟩) (.slice none 0 0) (.slice none 0 0) (.slice none 0 0)) (c0 : W.cell? ⟨w.heap.size, 0, none⟩ = some (.bool p0)) (c1 : W.cell? ⟨w.heap.size, 1, none⟩ = some (.bool p1)) (l1 : w.heap.size < gx) (l2 : gx < gy) (hb : Below w.heap.size w W) :
    BX w gx gy a b p0 p1 (if p0 = true then W.setCell ⟨gx, 0, none⟩ (.int .i64 4) else W) := by
  cases p0 with
  | true =>
    rw [if_pos rfl]
    refine ⟨4, ky, .inr rfl, h2, fun _ => rfl, hx.first _, hy.other (by omega) 0 [.int .i64 4], ?_, ?_, l1, l2, hb.setCell (by show w.heap.size ≤ gx; omega) _⟩
    · exact (Below.cell ((Below.refl gx W).setCell (Nat.le_refl _) _) (p := ⟨w.heap.size, 0, none⟩) l1).trans c0
    · exact (Below.cell ((Below.refl gx W).setCell (Nat.le_refl _) _) (p := ⟨w.heap.size, 1, none⟩) l1).trans c1
  | false =>
    rw [if_neg (by decide)]
    exact ⟨kx, ky, h1, h2, (fun h => by cases h), hx, hy, c0, c1, l1, l2, hb⟩
end
end Go.Proofs.Ytkmibpjhfgbckaa
