/- MANY VALUES APPENDED AT ONCE (no walk). -/
import Derived.Test.YtfhbjinajloecaaDoorPathItems
import Derived.Test.YtfhbjinajloecaaDoorBsonApp
namespace Go.Proofs.YtfhbjinajloecaaDoor
open Go.RowKit
open Seal
open Bson (Val)
/-- Six cells of a list of cells, as a value. -/
def CellsAt (w : World) (Q : Nat → Prop) (h : Nat) (l : List Val) (news : List Value) : Prop := ∀ i (hi : i < l.length), ∃ c0 c1 c2 c3 c4 c5, news[i * 6]? = some c0 ∧ news[i * 6 + 1]? = some c1 ∧ news[i * 6 + 2]? = some c2 ∧ news[i * 6 + 3]? = some c3 ∧ news[i * 6 + 4]? = some c4 ∧ news[i * 6 + 5]? = some c5 ∧ VIn w Q h l[i] (.agg #[c0, c1, c2, c3, c4, c5])
theorem Acc.append {w w' : World} {base : Nat} {v v' : Value} {QA : Nat → Prop} {h : Nat} {ys zs : List Val} {xs news : List Value} (ha : Acc w base v QA h ys xs) (hw : Wrote w w' v v') (hown : w'.ownsRow base 32 6 v' (ys.length + zs.length) (xs ++ news))
    (hv : CellsAt w (fun g => QA g ∧ v.ownBlock ≠ some g) h zs news) (_hl : news.length = zs.length * 6) : Acc w' base v' QA h (ys ++ zs) (xs ++ news) := by
  have hxl : xs.length = ys.length * 6 := ha.own.1
  refine ⟨by rw [List.length_append]; exact hown, fun i hi => ?_⟩
  rw [List.length_append] at hi
  rcases Nat.lt_or_ge i ys.length with hlt | hge
  · obtain ⟨d0, d1, d2, d3, d4, d5, h0, h1, h2, h3, h4, h5, hd⟩ := ha.at' i hlt
    have e : ∀ j, j < 6 → (xs ++ news)[i * 6 + j]? = xs[i * 6 + j]? := fun j hj => List.getElem?_append_left (by omega)
    refine ⟨d0, d1, d2, d3, d4, d5, (e 0 (by omega)).trans h0, (e 1 (by omega)).trans h1, (e 2 (by omega)).trans h2, (e 3 (by omega)).trans h3, (e 4 (by omega)).trans h4, (e 5 (by omega)).trans h5, ?_⟩
    rw [List.getElem_append_left hlt]
    exact hw.vin hd
  · obtain ⟨j, rfl⟩ : ∃ j, i = ys.length + j := ⟨i - ys.length, by omega⟩
    obtain ⟨d0, d1, d2, d3, d4, d5, h0, h1, h2, h3, h4, h5, hd⟩ := hv j (by omega)
    have e : ∀ r, (xs ++ news)[(ys.length + j) * 6 + r]? = news[j * 6 + r]? := fun r => by
      rw [List.getElem?_append_right (by omega)]; congr 1; omega
    refine ⟨d0, d1, d2, d3, d4, d5, (e 0).trans h0, (e 1).trans h1, (e 2).trans h2, (e 3).trans h3, (e 4).trans h4, (e 5).trans h5, ?_⟩
    rw [List.getElem_append_right (by omega)]
    simp only [Nat.add_sub_cancel_left]
    exact hw.vin hd
/-- The cells of a row of values in memory. -/
theorem items_src {w : World} {Q : Nat → Prop} {h : Nat} {ad : Addr} {l : List Val} (hI : ItemsIn w Q (VIn w Q h) (some ad) l) (hl : l ≠ []) :
    ∃ news : List Value, news.length = l.length * 6 ∧ (∀ j u, news[j]? = some u → w.cell? (ad.add j) = some u) ∧ (∀ u ∈ news, u.oneCell' = true) ∧ CellsAt w Q h l news := by
  obtain ⟨g, o, e, _, hall⟩ := hI.resolve_left hl
  obtain rfl := Option.some.inj e
  have hc : ∀ i (hi : i < l.length), ∃ c0 c1 c2 c3 c4 c5, (w.cell? ⟨g, o + (i * 6), none⟩ = some c0 ∧ w.cell? ⟨g, o + (i * 6 + 1), none⟩ = some c1 ∧ w.cell? ⟨g, o + (i * 6 + 2), none⟩ = some c2 ∧ w.cell? ⟨g, o + (i * 6 + 3), none⟩ = some c3 ∧ w.cell? ⟨g, o + (i * 6 + 4), none⟩ = some c4 ∧ w.cell? ⟨g, o + (i * 6 + 5), none⟩ = some c5) ∧ VIn w Q h l[i] (.agg #[c0, c1, c2, c3, c4, c5]) ∧ (c0.oneCell' = true ∧ c1.oneCell' = true ∧ c2.oneCell' = true ∧ c3.oneCell' = true ∧ c4.oneCell' = true ∧ c5.oneCell' = true) := by
    intro i hi
    obtain ⟨v, hs, hv⟩ := hall i hi
    obtain ⟨k, n, s, ba, fa, la, bl, bc, fl, fc, ll, lc, rfl⟩ := hv.shape
    obtain ⟨h0, h1, h2, h3, h4, h5⟩ := hs.cells
    refine ⟨_, _, _, _, _, _, ⟨h0, ?_, ?_, ?_, ?_, ?_⟩, hv, rfl, rfl, rfl, rfl, rfl, rfl⟩
    all_goals rw [← Nat.add_assoc]; assumption
  refine ⟨(List.range (l.length * 6)).map fun j => (w.cell? ⟨g, o + j, none⟩).getD undef, by simp, ?_, ?_, ?_⟩
  · intro j u hj
    rw [List.getElem?_map] at hj
    have hjl : j < l.length * 6 := by
      rcases Nat.lt_or_ge j (l.length * 6) with h1 | h1
      · exact h1
      · rw [List.getElem?_eq_none (by simpa using h1)] at hj; cases hj
    rw [List.getElem?_range hjl] at hj
    have hu : (w.cell? ⟨g, o + j, none⟩).getD undef = u := Option.some.inj hj
    obtain ⟨c0, c1, c2, c3, c4, c5, ⟨h0, h1, h2, h3, h4, h5⟩, _⟩ := hc (j / 6) (by omega)
    rw [Addr.add_mid]
    have hr : j % 6 = 0 ∨ j % 6 = 1 ∨ j % 6 = 2 ∨ j % 6 = 3 ∨ j % 6 = 4 ∨ j % 6 = 5 := by omega
    rcases hr with hr | hr | hr | hr | hr | hr
    · rw [show j = j / 6 * 6 by omega, h0] at hu ⊢; rw [← hu]; rfl
    · rw [show j = j / 6 * 6 + 1 by omega, h1] at hu ⊢; rw [← hu]; rfl
    · rw [show j = j / 6 * 6 + 2 by omega, h2] at hu ⊢; rw [← hu]; rfl
    · rw [show j = j / 6 * 6 + 3 by omega, h3] at hu ⊢; rw [← hu]; rfl
    · rw [show j = j / 6 * 6 + 4 by omega, h4] at hu ⊢; rw [← hu]; rfl
    · rw [show j = j / 6 * 6 + 5 by omega, h5] at hu ⊢; rw [← hu]; rfl
  · intro u hu
    obtain ⟨j, hj, rfl⟩ := List.mem_map.1 hu
    rw [List.mem_range] at hj
    obtain ⟨c0, c1, c2, c3, c4, c5, ⟨h0, h1, h2, h3, h4, h5⟩, _, o0, o1, o2, o3, o4, o5⟩ := hc (j / 6) (by omega)
    have hr : j % 6 = 0 ∨ j % 6 = 1 ∨ j % 6 = 2 ∨ j % 6 = 3 ∨ j % 6 = 4 ∨ j % 6 = 5 := by omega
    rcases hr with hr | hr | hr | hr | hr | hr
    · rw [show j = j / 6 * 6 by omega, h0]; exact o0
    · rw [show j = j / 6 * 6 + 1 by omega, h1]; exact o1
    · rw [show j = j / 6 * 6 + 2 by omega, h2]; exact o2
    · rw [show j = j / 6 * 6 + 3 by omega, h3]; exact o3
    · rw [show j = j / 6 * 6 + 4 by omega, h4]; exact o4
    · rw [show j = j / 6 * 6 + 5 by omega, h5]; exact o5
  · intro i hi
    obtain ⟨c0, c1, c2, c3, c4, c5, ⟨h0, h1, h2, h3, h4, h5⟩, hv, _⟩ := hc i hi
    have e : ∀ j c, j < 6 → w.cell? ⟨g, o + (i * 6 + j), none⟩ = some c → ((List.range (l.length * 6)).map fun j => (w.cell? ⟨g, o + j, none⟩).getD undef)[i * 6 + j]? = some c := fun j c hj hcell => by
      rw [List.getElem?_map, List.getElem?_range (by omega)]
      simp [hcell]
    exact ⟨c0, c1, c2, c3, c4, c5, e 0 _ (by omega) h0, e 1 _ (by omega) h1, e 2 _ (by omega) h2, e 3 _ (by omega) h3, e 4 _ (by omega) h4, e 5 _ (by omega) h5, hv⟩
theorem items_src' {w : World} {Q : Nat → Prop} {h H : Nat} {la : Option Addr} {l : List Val} (hI : ItemsIn w Q (VIn w Q h) la l) (hH : h ≤ H) :
    ∃ news : List Value, news.length = l.length * 6 ∧ (l.length = 0 ∨ ∃ b, la = some b ∧ ∀ j u, news[j]? = some u → w.cell? (b.add j) = some u) ∧ (∀ u ∈ news, u.oneCell' = true) ∧ CellsAt w Q H l news := by
  cases l with
  | nil => exact ⟨[], rfl, .inl rfl, by simp, fun i hi => by simp at hi⟩
  | cons y t =>
    obtain ⟨g, o, rfl, _⟩ := id hI |>.resolve_left (by simp)
    obtain ⟨news, h1, h2, h3, h4⟩ := items_src hI (by simp)
    refine ⟨news, h1, .inr ⟨_, rfl, h2⟩, h3, fun i hi => ?_⟩
    obtain ⟨c0, c1, c2, c3, c4, c5, e0, e1, e2, e3, e4, e5, hv⟩ := h4 i hi
    exact ⟨c0, c1, c2, c3, c4, c5, e0, e1, e2, e3, e4, e5, hv.up hH⟩
theorem VIn.items {w : World} {Q : Nat → Prop} {h : Nat} {x : Val} {c0 c1 c2 c3 c4 : Value} {la : Option Addr} {ln lc : Nat} (hv : VIn w Q (h + 1) x (.agg #[c0, c1, c2, c3, c4, .slice la ln lc])) : ln = x.l.length ∧ ItemsIn w Q (VIn w Q h) la x.l := by
  obtain ⟨ba, fa, la', bc, fc, lc', e, _, _, _, _, _, _, hI⟩ := hv
  unfold agg at e
  injection e with e; injection e with e
  injection e with _ e; injection e with _ e; injection e with _ e; injection e with _ e; injection e with _ e; injection e with e _
  injection e with e1 e2 _
  subst e1
  exact ⟨e2, hI⟩
section
variable {P : Program}
/-- Nothing appended: the row stays. -/
theorem run_zero (w : World) (base : Nat) (t ty e : TypeId) (i : TypeInfo) (ht : P.underlying t = some (.slice e)) (hi : P.info? e = some i) (size : Nat) (a : Option Addr) (c : Nat)
    (v : Value) (n : Nat) (xs : List Value) (hown : w.ownsRow base e size v n xs) : (Builtin.append_ #[t, t] ty #[v, .slice a 0 c]).run P w = .ok v w := by
  obtain ⟨_, ⟨rfl, rfl⟩ | ⟨g, cap, cur, rfl, _, _, hnc, _⟩⟩ := hown
  · cases a with
    | none => simp [Builtin.append_, run_underlying ht, sizeOf, typeInfo, hi, Builtin.lenOf, Builtin.firstCells]
    | some p => simp [Builtin.append_, run_underlying ht, sizeOf, typeInfo, hi, Builtin.lenOf, Builtin.firstCells, loadCells, loadCellsFrom]
  · cases a with
    | none => simp [Builtin.append_, run_underlying ht, sizeOf, typeInfo, hi, Builtin.lenOf, Builtin.firstCells, hnc, storeCells]
    | some p => simp [Builtin.append_, run_underlying ht, sizeOf, typeInfo, hi, Builtin.lenOf, Builtin.firstCells, hnc, loadCells, loadCellsFrom, storeCells]
/-- append of m elements, m whatever, whatever the source's address. -/
theorem wpList_append_any {w : World} {ops : Array Oper} {rest : List Oper} {o : Oper} {a : Act} {Q : Exit → Act → World → Prop} (hgd : o.guard = none) (s x : Operand) (t : TypeId)
    (ho : o.op = .call { callee := .builtin .append, args := #[s, x], argTypes := #[t, t] })
    (base : Nat) (e : TypeId) (i : TypeInfo) (z : Value) (size bytes : Nat) (ht : P.underlying t = some (.slice e)) (hi : P.info? e = some i) (hz : i.zero = some z)
    (hsize : i.size = size) (hby : i.bytes = bytes) (hzs : z.cells.size = size) (v : Value) (n : Nat) (xs : List Value) (hs : a.eval s = v) (hown : w.ownsRow base e size v n xs)
    (ad : Option Addr) (m c : Nat) (news : List Value) (hx : a.eval x = .slice ad m c) (hl : news.length = m * size) (hsz : 0 < size) (hnews : m = 0 ∨ ∃ b, ad = some b ∧ ∀ j u, news[j]? = some u → w.cell? (b.add j) = some u) (h1 : ∀ u ∈ news, u.oneCell' = true)
    (h63 : n + m ≤ maxLen) (hbytes : (n + m) * bytes ≤ 140737488355328) (hbase : base ≤ w.heap.size)
    (h : ∀ v' w', w'.ownsRow base e size v' (n + m) (xs ++ news) → Wrote w w' v v' → wpList P ops Q rest (a.put o.dst v') w') : wpList P ops Q (o :: rest) a w := by
  refine wpList_plain hgd fun K hK => ?_
  obtain ⟨v', w', hr, h2, h3⟩ : ∃ v' w', (Builtin.append_ #[t, t] o.type #[v, .slice ad m c]).run P w = .ok v' w' ∧ w'.ownsRow base e size v' (n + m) (xs ++ news) ∧ Wrote w w' v v' := by
    rcases Nat.eq_zero_or_pos m with rfl | hm
    · obtain rfl : news = [] := List.eq_nil_of_length_eq_zero (by simpa using hl)
      exact ⟨v, w, run_zero w base t o.type e i ht hi size ad c v n xs hown, by simpa using hown, Wrote.refl _ _⟩
    · obtain ⟨b, rfl, hcell⟩ := hnews.resolve_left (by omega)
      obtain ⟨v', w', hr, h2, h3⟩ := run_append_sz (P := P) w base t o.type e i z size bytes ht hi hz hsize hby hzs v n xs hown b m c news hl hm hsz hcell h1 h63 hbytes hbase
      exact ⟨v', w', hr, h2, Wrote.of_lies h3⟩
  unfold Oper.wp execOp
  simp only [ho, resolve, invoke, builtin, Sem.run_bind, Sem.run_pure, Result.andThen_ok, List.map_toArray, List.map_cons, List.map_nil, hs, hx, hr]
  exact hK _ _ (h v' w' h2 h3)
end
end Go.Proofs.YtfhbjinajloecaaDoor
