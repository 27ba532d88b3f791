/- aqueductlaw13.Sorted. -/
import Derived.Test.YtfkkckadnookoaaTopFew
import Derived.BigRegion
import Derived.BigQuiet
import Derived.Deep.QuietTactic
namespace Go.Proofs.Ytfkkckadnookoaa
open Go.RowKit
open Seal
/-- An item of the law: its slices, what they hold. -/
structure La where
  kv : Value
  dv : Value
  k : List Nat
  d : List Nat
def La.it (r : La) : List Nat × List Nat := (r.k, r.d)
def cl (a b : La) : Int := Order.octs a.k b.k
theorem cl_cmp : Order.IsCmp cl := Order.octs_cmp.on La.k
structure LaIn (w : World) (B : Nat) (r : La) : Prop where
  k : SlQ w (fun g => g < B) r.kv r.k
  d : SlQ w (fun g => g < B) r.dv r.d
theorem LaIn.shapes {w : World} {B : Nat} {r : La} (h : LaIn w B r) : (∃ a c, r.kv = .slice a r.k.length c) ∧ (∃ a c, r.dv = .slice a r.d.length c) := ⟨h.k.shape, h.d.shape⟩
theorem LaIn.keep {w w' : World} {B : Nat} {r : La} (h : LaIn w B r) (hb : Below B w w') : LaIn w' B r := ⟨h.k.keep (fun g hg _ => hb.block g hg) (fun _ h _ => h), h.d.keep (fun g hg _ => hb.block g hg) (fun _ h _ => h)⟩
/-- A row of the law's items in block g. -/
structure RowL (w : World) (g : Nat) (D : List La) : Prop where
  cur : ∃ cs n, w.heap[g]? = some (.cells cs 32 (0, 0)) ∧ cs.size = n ∧ D.length * 2 ≤ n ∧ ∀ k (hk : k < D.length), cs[k * 2]? = some D[k].kv ∧ cs[k * 2 + 1]? = some D[k].dv
section
variable {w w' : World} {g : Nat} {D : List La}
theorem RowL.cell (h : RowL w g D) {i : Nat} (hi : i < D.length) : w.cell? ⟨g, i * 2, none⟩ = some D[i].kv ∧ w.cell? ⟨g, i * 2 + 1, none⟩ = some D[i].dv := by
  obtain ⟨cs, n, hr, hs, _, ha⟩ := h.cur
  exact ⟨(cell_of_row w g _ _ _ _ hr).trans (ha i hi).1, (cell_of_row w g _ _ _ _ hr).trans (ha i hi).2⟩
theorem RowL.frozen (h : RowL w g D) (o : Nat) : w.frozen? ⟨g, o, none⟩ = false := by
  obtain ⟨cs, n, hr, _⟩ := h.cur
  exact frozen_of_row w g o _ _ hr
theorem RowL.same (h : RowL w g D) (e : w'.heap[g]? = w.heap[g]?) : RowL w' g D := by
  obtain ⟨cs, n, hr, h1⟩ := h.cur
  exact ⟨cs, n, e.trans hr, h1⟩
theorem RowL.lt (h : RowL w g D) : g < w.heap.size := by
  obtain ⟨cs, n, hr, h1⟩ := h.cur
  exact (Array.getElem?_eq_some_iff.1 hr).1
theorem RowL.set (h : RowL w g D) {i : Nat} (hi : i < D.length) (r : La) : RowL (puts w g (i * 2) [r.kv, r.dv]) g (D.set i r) := by
  obtain ⟨cs, n, hr, hs, hn, ha⟩ := h.cur
  obtain ⟨ds, h1, h2, h3, h4, h5⟩ := puts_same g 32 [r.kv, r.dv] w (i * 2) cs hr
  refine ⟨ds, n, h1, h2.trans hs, by rw [List.length_set]; exact hn, fun k hk => ?_⟩
  rw [List.length_set] at hk
  rw [List.getElem_set]
  by_cases e : i = k
  · subst e
    rw [if_pos rfl]
    have q := h5 (by rw [hs]; show i * 2 + 2 ≤ _; omega)
    exact ⟨q 0 (by simp), q 1 (by simp)⟩
  · rw [if_neg e]
    rcases Nat.lt_or_ge k i with hlt | hge
    · rw [h3 _ (by omega), h3 _ (by omega)]; exact ha k hk
    · rw [h4 _ (by show i * 2 + 2 ≤ _; omega), h4 _ (by show i * 2 + 2 ≤ _; omega)]; exact ha k hk
end
theorem swapL_mem {w W : World} {g i j : Nat} {D : List La} (h : RowL w g D) (hi : i < D.length) (hj : j < D.length)
    (hW : W = (puts (puts w g (i * 2) [D[j].kv, D[j].dv]) g (j * 2) [D[i].kv, D[i].dv]).drew) : RowL W g (Top.swp D i j hi hj) ∧ RM (fun k => k = g) w W := by
  have h1 := h.set hi D[j]
  have h2 := h1.set (i := j) (by rw [List.length_set]; exact hj) D[i]
  have e0 : Below 0 w w := Below.refl _ _
  have e1 := puts_below (G := g) e0 (Nat.zero_le _) [D[j].kv, D[j].dv] (i * 2)
  have hb0 := puts_below (G := g) e1 (Nat.zero_le _) [D[i].kv, D[i].dv] (j * 2)
  have q1 := fun k (hk : k ≠ g) => puts_other g k hk [D[i].kv, D[i].dv] (puts w g (i * 2) [D[j].kv, D[j].dv]) (j * 2)
  have q2 := fun k (hk : k ≠ g) => puts_other g k hk [D[j].kv, D[j].dv] w (i * 2)
  generalize puts (puts w g (i * 2) [D[j].kv, D[j].dv]) g (j * 2) [D[i].kv, D[i].dv] = W1 at hW h2 hb0 q1
  subst hW
  exact ⟨h2.same rfl, ⟨hb0.os, hb0.tape, hb0.output, hb0.size, fun k _ hk => (q1 k hk).trans (q2 k hk)⟩⟩
/-- One item on its way down: A ahead of it, B behind it, R not looked at yet. -/
structure Ins (P : List La) (x : La) (R : List La) (D : List La) (k : Nat) : Prop where
  ex : ∃ A B, D = A ++ x :: (B ++ R) ∧ A.length = k ∧ A ++ B = P ∧ ∀ b ∈ B, cl x b < 0
theorem Ins.get {P R D : List La} {x : La} {k : Nat} (h : Ins P x R D k) : ∃ hk : k < D.length, D[k] = x := by
  obtain ⟨A, B, rfl, rfl, _⟩ := h.ex
  exact ⟨by simp, by simp⟩
theorem Ins.next {P R D : List La} {x : La} {k : Nat} (h : Ins P x R D (k + 1)) (hk : k < D.length) (hk1 : k + 1 < D.length) (hc : cl x D[k] < 0) : Ins P x R (Top.swp D (k + 1) k hk1 hk) k := by
  obtain ⟨A, B, e, hA, hP, hB⟩ := h.ex
  obtain ⟨A', y, rfl⟩ : ∃ A' y, A = A' ++ [y] := by
    rcases List.eq_nil_or_concat A with rfl | ⟨t, z, rfl⟩
    · cases hA
    · exact ⟨t, z, List.concat_eq_append ..⟩
  have hA' : A'.length = k := by simpa using hA
  subst e
  have hy : (A' ++ [y] ++ x :: (B ++ R))[k] = y := by subst hA'; simp
  rw [hy] at hc
  refine ⟨A', y :: B, ?_, hA', by rw [← hP]; simp, fun b hb => ?_⟩
  · apply List.ext_getElem?
    intro i
    rw [Top.swp_get?]
    have hx : (A' ++ [y] ++ x :: (B ++ R))[k + 1] = x := by subst hA'; simp
    rw [hx, hy]
    subst hA'
    by_cases e1 : i = A'.length
    · subst e1; simp
    · rw [if_neg e1]
      by_cases e2 : i = A'.length + 1
      · subst e2; simp
      · rw [if_neg e2]
        rcases Nat.lt_or_ge i A'.length with hlt | hge
        · rw [List.append_assoc, List.getElem?_append_left hlt, List.getElem?_append_left hlt]
        · rw [List.append_assoc, List.getElem?_append_right hge, List.getElem?_append_right hge]
          obtain ⟨j, hj⟩ : ∃ j, i - A'.length = j + 2 := ⟨i - A'.length - 2, by omega⟩
          rw [hj]; simp
  · rcases List.mem_cons.1 hb with rfl | hb
    · exact hc
    · exact hB b hb
theorem Ins.done {P R D : List La} {x : La} {k : Nat} (h : Ins P x R D k) (hP : Top.Asc cl P) (hc : k = 0 ∨ ∃ hk : k - 1 < D.length, ¬ cl x D[k - 1] < 0) : D = Top.ins cl x P ++ R := by
  obtain ⟨A, B, rfl, rfl, rfl, hB⟩ := h.ex
  have h1 : ∀ a ∈ A, cl a x ≤ 0 := fun a ha => by
    rcases List.eq_nil_or_concat A with rfl | ⟨t, z, rfl⟩
    · cases ha
    · rw [List.concat_eq_append] at *
      have hc2 := hc.resolve_left (by simp)
      obtain ⟨hk, hc3⟩ := hc2
      have hz : (t ++ [z] ++ x :: (B ++ R))[(t ++ [z]).length - 1] = z := by simp
      rw [hz] at hc3
      have hzx : cl z x ≤ 0 := by have := cl_cmp.anti x z; omega
      have ht : Top.Asc cl (t ++ [z]) := (List.pairwise_append.1 hP).1
      exact cl_cmp.trans _ _ _ (Top.last_le cl_cmp ht a ha) hzx
  rw [Top.ins_at x A B h1 (fun b hb => by
    have := hB b (List.mem_of_head? hb)
    have := cl_cmp.anti x b
    omega), List.append_assoc]
  rfl
def flatL (d : List La) : List Value := d.flatMap fun r => [r.kv, r.dv]
theorem flatL_length : ∀ d : List La, (flatL d).length = d.length * 2
  | [] => rfl
  | r :: d => by
    show ([r.kv, r.dv] ++ flatL d).length = _
    rw [List.length_append, flatL_length d, List.length_cons]
    show 2 + d.length * 2 = (d.length + 1) * 2
    omega
theorem flatL_get : ∀ (d : List La) (k j : Nat), j < 2 → (flatL d)[k * 2 + j]? = d[k]?.bind fun r => [r.kv, r.dv][j]?
  | [], _, _, _ => rfl
  | r :: d, 0, j, hj => by
    show ([r.kv, r.dv] ++ flatL d)[0 * 2 + j]? = _
    rw [Nat.zero_mul, Nat.zero_add, List.getElem?_append_left (show j < 2 from hj)]; rfl
  | r :: d, k + 1, j, hj => by
    show ([r.kv, r.dv] ++ flatL d)[(k + 1) * 2 + j]? = _
    rw [List.getElem?_append_right (show (2 : Nat) ≤ _ by omega), show (k + 1) * 2 + j - [r.kv, r.dv].length = k * 2 + j by show _ - 2 = _; omega, flatL_get d k j hj]
    rfl
theorem rowL_of {w : World} {base n : Nat} {v : Value} {X : List La} (h : w.ownsRow base 32 2 v n (flatL X)) (hn : X.length = n) : ∃ a c, v = .slice a n c ∧ (n ≤ c ∧ c ≤ 9223372036854775807) ∧ (n = 0 ∨ ∃ g, a = some ⟨g, 0, none⟩ ∧ base ≤ g ∧ RowL w g X) := by
  obtain ⟨hx, ⟨rfl, rfl⟩ | ⟨g, cap, cs, rfl, hg, hr, hc, hm, hs, ht⟩⟩ := h
  · exact ⟨none, 0, rfl, ⟨Nat.le_refl _, by omega⟩, .inl rfl⟩
  · refine ⟨_, cap, rfl, ⟨hc, by unfold maxLen at hm; omega⟩, .inr ⟨g, rfl, hg, ⟨cs, cap * 2, hr, hs, by rw [hn]; omega, fun k hk => ?_⟩⟩⟩
    have e : ∀ j, j < 2 → cs[k * 2 + j]? = some ([X[k].kv, X[k].dv][j]!) := fun j hj => by
      have q := flatL_get X k j hj
      rw [← ht, List.getElem?_take_of_lt (by omega), Array.getElem?_toList, List.getElem?_eq_getElem hk] at q
      rw [q]
      have : j = 0 ∨ j = 1 := by omega
      rcases this with rfl | rfl <;> rfl
    exact ⟨e 0 (by omega), e 1 (by omega)⟩
set_option maxRecDepth 100000 in
theorem infoL : (Try.prog.info? 32).map (fun i => (i.zero, i.size, i.bytes)) = some (some (.agg #[.slice none 0 0, .slice none 0 0]), 2, 48) := by kernel_rfl
/-- The items that came in, each with its slices. -/
theorem items_la {w : World} {a : Option Addr} {L : List (List Nat × List Nat)} (h : ItemsA w a L) (hl : ∀ x ∈ L, x.1.length ≤ 10000 ∧ x.2.length ≤ 10000) :
    ∃ X : List La, X.map La.it = L ∧ (∀ r ∈ X, LaIn w w.heap.size r) ∧ Src w a L.length (flatL X) := by
  rcases h with rfl | ⟨g, o, rfl, hall⟩
  · exact ⟨[], rfl, fun r hr => (by cases hr), fun _ => rfl, fun ad _ j u hu => (by cases hu)⟩
  · haveI : Inhabited La := ⟨⟨.slice none 0 0, .slice none 0 0, [], []⟩⟩
    obtain ⟨X, hX, hp⟩ := pick_row (β := La) (n := L.length) (p := fun i r => ∃ hi : i < L.length, r.it = L[i] ∧ w.cell? ⟨g, o + i * 2, none⟩ = some r.kv ∧ w.cell? ⟨g, o + i * 2 + 1, none⟩ = some r.dv ∧ LaIn w w.heap.size r) (fun i hi => by
      obtain ⟨kv, dv, q1, q2, q3, q4⟩ := hall i hi
      have hb := hl L[i] (List.getElem_mem hi)
      exact ⟨⟨kv, dv, L[i].1, L[i].2⟩, hi, rfl, q1, q2, q3.sl hb.1, q4.sl hb.2⟩)
    refine ⟨X, ?_, fun r hr => ?_, fun e => (by cases e), fun ad e j u hu => ?_⟩
    · refine List.ext_getElem (by rw [List.length_map, hX]) fun i h1 h2 => ?_
      rw [List.getElem_map]
      obtain ⟨_, q, _⟩ := hp i (by simpa using h1)
      exact q
    · obtain ⟨i, hi, rfl⟩ := List.getElem_of_mem hr
      obtain ⟨_, _, _, _, q⟩ := hp i hi
      exact q
    · cases e
      have hj : j < X.length * 2 := by have := (List.getElem?_eq_some_iff.1 hu).1; rwa [flatL_length] at this
      obtain ⟨_, _, q1, q2, _⟩ := hp (j / 2) (by omega)
      have hf := flatL_get X (j / 2) (j % 2) (by omega)
      rw [show j / 2 * 2 + j % 2 = j by omega, hu, List.getElem?_eq_getElem (show j / 2 < X.length by omega)] at hf
      rw [add_plain13]
      have h2 : j % 2 = 0 ∨ j % 2 = 1 := by omega
      rcases h2 with h2 | h2 <;> rw [h2] at hf
      · rw [show o + j = o + j / 2 * 2 by omega, q1]; exact hf.symm
      · rw [show o + j = o + j / 2 * 2 + 1 by omega, q2]; exact hf.symm
end Go.Proofs.Ytfkkckadnookoaa
