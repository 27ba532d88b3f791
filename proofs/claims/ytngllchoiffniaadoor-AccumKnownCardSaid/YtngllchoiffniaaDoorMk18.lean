/- PathAll. -/
import Derived.Deep.RegionHeld3
import Derived.Test.YtngllchoiffniaaDoorMk11
set_option maxRecDepth 100000
set_option maxHeartbeats 20000000
section
namespace Go.Proofs.YtngllchoiffniaaDoor
open Go.RowKit
open Seal
open Bson (Val)
def Held (w : World) (g H : Nat) (Q : Nat → Prop) (zs : List Val) : Prop := ∀ i (hi : i < zs.length), ∃ v, SixAt w g (i * 6) v ∧ VIn w (fun b => Q b ∧ b ≠ g) H zs[i] v
theorem Held.keep {w w' : World} {g H : Nat} {Q : Nat → Prop} {zs : List Val} (h : Held w g H Q zs) (hb : Below w.heap.size w w') : Held w' g H Q zs := fun i hi => by
 obtain ⟨v, h1, h2⟩ := h i hi
 exact ⟨v, h1.keep hb, h2.keep hb⟩
theorem Held.put {w : World} {g H len : Nat} {Q : Nat → Prop} {zs : List Val} {t : TypeId} (h : Held w g H Q zs) (hr : Row6 w g t len) (hl : zs.length * 6 ≤ len) {k : Nat} (hk : k < zs.length) {c0 c1 c2 c3 c4 c5 : Value} (hn : VIn w (fun b => Q b ∧ b ≠ g) H zs[k] (.agg #[c0, c1, c2, c3, c4, c5])) :
  Held (puts w g (k * 6) [c0, c1, c2, c3, c4, c5]) g H Q zs := by
 intro i hi
 have hkp : Kept (fun b => Q b ∧ b ≠ g) w (puts w g (k * 6) [c0, c1, c2, c3, c4, c5]) := puts_kept _ (fun e => e.2 rfl) _ _
 have hfit : k * 6 + [c0, c1, c2, c3, c4, c5].length ≤ len := by simp; omega
 by_cases hik : i = k
 ·subst hik
  exact ⟨_, SixAt.of_puts hr (i * 6) 0 _ hfit c0 c1 c2 c3 c4 c5 rfl rfl rfl rfl rfl rfl, hn.kept hkp (fun _ hg => hg)⟩
 ·obtain ⟨v, h1, h2⟩ := h i hi
  refine ⟨v, ?_, h2.kept hkp (fun _ hg => hg)⟩
  obtain ⟨d0, d1, d2, d3, d4, d5, e, h0, h1, h2, h3, h4, h5⟩ := h1
  obtain ⟨_, h6, _⟩ := hr.puts (k * 6) [c0, c1, c2, c3, c4, c5] hfit
  have q : ∀ j, j < 6 → (i * 6 + j < k * 6 ∨ k * 6 + [c0, c1, c2, c3, c4, c5].length ≤ i * 6 + j) := fun j hj => by simp; omega
  exact ⟨d0, d1, d2, d3, d4, d5, e, (h6 (i * 6) (q 0 (by omega))).trans h0, (h6 _ (q 1 (by omega))).trans h1, (h6 _ (q 2 (by omega))).trans h2, (h6 _ (q 3 (by omega))).trans h3, (h6 _ (q 4 (by omega))).trans h4, (h6 _ (q 5 (by omega))).trans h5⟩
theorem Acc.held {w : World} {base : Nat} {v : Value} {QA : Nat → Prop} {H : Nat} {ys : List Val} {xs : List Value} (ha : Acc w base v QA H ys xs) (hne : ys ≠ []) :
  ∃ g cap, v = .slice (some ⟨g, 0, none⟩) ys.length cap ∧ ys.length ≤ cap ∧ cap ≤ 9223372036854775807 ∧ base ≤ g ∧ Row6 w g 32 (cap * 6) ∧ Held w g H QA ys := by
 obtain ⟨hxl, ⟨rfl, hn⟩ | ⟨g, cap, cur, rfl, hbg, hrow, hc, hm, hsz, htake⟩⟩ := ha.own
 ·exact absurd (List.eq_nil_of_length_eq_zero hn) hne
 ·refine ⟨g, cap, rfl, hc, by unfold maxLen at hm; omega, hbg, ⟨cur, hrow, hsz⟩, fun i hi => ?_⟩
  obtain ⟨c0, c1, c2, c3, c4, c5, h0, h1, h2, h3, h4, h5, hv⟩ := ha.at' i hi
  have e : ∀ j c, xs[j]? = some c → w.cell? ⟨g, j, none⟩ = some c := fun j c hj => by
   have hl : j < xs.length := (List.getElem?_eq_some_iff.1 hj).1
   rw [cell_of_row w g j _ _ _ hrow, ← Array.getElem?_toList, ← hj, ← htake, List.getElem?_take_of_lt (by omega)]
  exact ⟨_, ⟨c0, c1, c2, c3, c4, c5, rfl, e _ _ h0, e _ _ h1, e _ _ h2, e _ _ h3, e _ _ h4, e _ _ h5⟩, hv.kept (Kept.of_below (Below.refl _ _)) (fun b hb => ⟨hb.1, fun e => hb.2 (by rw [e]; rfl)⟩)⟩
end Go.Proofs.YtngllchoiffniaaDoor
end
