/- PathAccMany, PathItself, PathAItems. -/
import Derived.Test.YtpklnhmhbaakhaaDoorMk19
import Derived.Test.YtpklnhmhbaakhaaDoorMk0
set_option maxRecDepth 100000
section
namespace Go.Proofs.YtpklnhmhbaakhaaDoor
open Go.RowKit
open Seal
open Bson (Val)
/-- Six cells of a list of cells, as a value. -/
def CellsAt (w : World) (Q : Nat → Prop) (h : Nat) (l : List Val) (news : List Value) : Prop := ∀ i (hi : i < l.length), ∃ c0 c1 c2 c3 c4 c5, news[i * 6]? = some c0 ∧ news[i * 6 + 1]? = some c1 ∧ news[i * 6 + 2]? = some c2 ∧ news[i * 6 + 3]? = some c3 ∧ news[i * 6 + 4]? = some c4 ∧ news[i * 6 + 5]? = some c5 ∧ VIn w Q h l[i] (.agg #[c0, c1, c2, c3, c4, c5])
theorem Acc.append {w w' : World} {base : Nat} {v v' : Value} {QA : Nat → Prop} {h : Nat} {ys zs : List Val} {xs news : List Value} (ha : Acc w base v QA h ys xs) (hw : Wrote w w' v v') (hown : w'.ownsRow base 27 6 v' (ys.length + zs.length) (xs ++ news))
    (hv : CellsAt w (fun g => QA g ∧ v.ownBlock ≠ some g) h zs news) (_hl : news.length = zs.length * 6) : Acc w' base v' QA h (ys ++ zs) (xs ++ news) := by
  have hxl : xs.length = ys.length * 6 := ha.own.1
  refine ⟨by rw [List.length_append]; exact hown, fun i hi => ?_⟩
  rw [List.length_append] at hi
  rcases Nat.lt_or_ge i ys.length with hlt | hge
  · obtain ⟨d0, d1, d2, d3, d4, d5, h0, h1, h2, h3, h4, h5, hd⟩ := ha.at' i hlt
    have e : ∀ j, j < 6 → (xs ++ news)[i * 6 + j]? = xs[i * 6 + j]? := fun j hj => List.getElem?_append_left (by omega)
    refine ⟨d0, d1, d2, d3, d4, d5, (e 0 (by omega)).trans h0, (e 1 (by omega)).trans h1, (e 2 (by omega)).trans h2, (e 3 (by omega)).trans h3, (e 4 (by omega)).trans h4, (e 5 (by omega)).trans h5, ?_⟩
    rw [List.getElem_append_left hlt]
    exact hw.vin hd
  · obtain ⟨j, rfl⟩ : ∃ j, i = ys.length + j := ⟨i - ys.length, by omega⟩
    obtain ⟨d0, d1, d2, d3, d4, d5, h0, h1, h2, h3, h4, h5, hd⟩ := hv j (by omega)
    have e : ∀ r, (xs ++ news)[(ys.length + j) * 6 + r]? = news[j * 6 + r]? := fun r => by
      rw [List.getElem?_append_right (by omega)]; congr 1; omega
    refine ⟨d0, d1, d2, d3, d4, d5, (e 0).trans h0, (e 1).trans h1, (e 2).trans h2, (e 3).trans h3, (e 4).trans h4, (e 5).trans h5, ?_⟩
    rw [List.getElem_append_right (by omega)]
    simp only [Nat.add_sub_cancel_left]
    exact hw.vin hd
/-- The cells of a row of values in memory. -/
theorem items_src {w : World} {Q : Nat → Prop} {h : Nat} {ad : Addr} {l : List Val} (hI : ItemsIn w Q (VIn w Q h) (some ad) l) (hl : l ≠ []) :
    ∃ news : List Value, news.length = l.length * 6 ∧ (∀ j u, news[j]? = some u → w.cell? (ad.add j) = some u) ∧ (∀ u ∈ news, u.oneCell' = true) ∧ CellsAt w Q h l news := by
  obtain ⟨g, o, e, _, hall⟩ := hI.resolve_left hl
  obtain rfl := Option.some.inj e
  have hc : ∀ i (hi : i < l.length), ∃ c0 c1 c2 c3 c4 c5, (w.cell? ⟨g, o + (i * 6), none⟩ = some c0 ∧ w.cell? ⟨g, o + (i * 6 + 1), none⟩ = some c1 ∧ w.cell? ⟨g, o + (i * 6 + 2), none⟩ = some c2 ∧ w.cell? ⟨g, o + (i * 6 + 3), none⟩ = some c3 ∧ w.cell? ⟨g, o + (i * 6 + 4), none⟩ = some c4 ∧ w.cell? ⟨g, o + (i * 6 + 5), none⟩ = some c5) ∧ VIn w Q h l[i] (.agg #[c0, c1, c2, c3, c4, c5]) ∧ (c0.oneCell' = true ∧ c1.oneCell' = true ∧ c2.oneCell' = true ∧ c3.oneCell' = true ∧ c4.oneCell' = true ∧ c5.oneCell' = true) := by
    intro i hi
    obtain ⟨v, hs, hv⟩ := hall i hi
    obtain ⟨k, n, s, ba, fa, la, bl, bc, fl, fc, ll, lc, rfl⟩ := hv.shape
    obtain ⟨h0, h1, h2, h3, h4, h5⟩ := hs.cells
    refine ⟨_, _, _, _, _, _, ⟨h0, ?_, ?_, ?_, ?_, ?_⟩, hv, rfl, rfl, rfl, rfl, rfl, rfl⟩
    all_goals rw [← Nat.add_assoc]; assumption
  refine ⟨(List.range (l.length * 6)).map fun j => (w.cell? ⟨g, o + j, none⟩).getD undef, by simp, ?_, ?_, ?_⟩
  · intro j u hj
    rw [List.getElem?_map] at hj
    have hjl : j < l.length * 6 := by
      rcases Nat.lt_or_ge j (l.length * 6) with h1 | h1
      · exact h1
      · rw [List.getElem?_eq_none (by simpa using h1)] at hj; cases hj
    rw [List.getElem?_range hjl] at hj
    have hu : (w.cell? ⟨g, o + j, none⟩).getD undef = u := Option.some.inj hj
    obtain ⟨c0, c1, c2, c3, c4, c5, ⟨h0, h1, h2, h3, h4, h5⟩, _⟩ := hc (j / 6) (by omega)
    rw [Addr.add_mid]
    have hr : j % 6 = 0 ∨ j % 6 = 1 ∨ j % 6 = 2 ∨ j % 6 = 3 ∨ j % 6 = 4 ∨ j % 6 = 5 := by omega
    rcases hr with hr | hr | hr | hr | hr | hr
    · rw [show j = j / 6 * 6 by omega, h0] at hu ⊢; rw [← hu]; rfl
    · rw [show j = j / 6 * 6 + 1 by omega, h1] at hu ⊢; rw [← hu]; rfl
    · rw [show j = j / 6 * 6 + 2 by omega, h2] at hu ⊢; rw [← hu]; rfl
    · rw [show j = j / 6 * 6 + 3 by omega, h3] at hu ⊢; rw [← hu]; rfl
    · rw [show j = j / 6 * 6 + 4 by omega, h4] at hu ⊢; rw [← hu]; rfl
    · rw [show j = j / 6 * 6 + 5 by omega, h5] at hu ⊢; rw [← hu]; rfl
  · intro u hu
    obtain ⟨j, hj, rfl⟩ := List.mem_map.1 hu
    rw [List.mem_range] at hj
    obtain ⟨c0, c1, c2, c3, c4, c5, ⟨h0, h1, h2, h3, h4, h5⟩, _, o0, o1, o2, o3, o4, o5⟩ := hc (j / 6) (by omega)
    have hr : j % 6 = 0 ∨ j % 6 = 1 ∨ j % 6 = 2 ∨ j % 6 = 3 ∨ j % 6 = 4 ∨ j % 6 = 5 := by omega
    rcases hr with hr | hr | hr | hr | hr | hr
    · rw [show j = j / 6 * 6 by omega, h0]; exact o0
    · rw [show j = j / 6 * 6 + 1 by omega, h1]; exact o1
    · rw [show j = j / 6 * 6 + 2 by omega, h2]; exact o2
    · rw [show j = j / 6 * 6 + 3 by omega, h3]; exact o3
    · rw [show j = j / 6 * 6 + 4 by omega, h4]; exact o4
    · rw [show j = j / 6 * 6 + 5 by omega, h5]; exact o5
  · intro i hi
    obtain ⟨c0, c1, c2, c3, c4, c5, ⟨h0, h1, h2, h3, h4, h5⟩, hv, _⟩ := hc i hi
    have e : ∀ j c, j < 6 → w.cell? ⟨g, o + (i * 6 + j), none⟩ = some c → ((List.range (l.length * 6)).map fun j => (w.cell? ⟨g, o + j, none⟩).getD undef)[i * 6 + j]? = some c := fun j c hj hcell => by
      rw [List.getElem?_map, List.getElem?_range (by omega)]
      simp [hcell]
    exact ⟨c0, c1, c2, c3, c4, c5, e 0 _ (by omega) h0, e 1 _ (by omega) h1, e 2 _ (by omega) h2, e 3 _ (by omega) h3, e 4 _ (by omega) h4, e 5 _ (by omega) h5, hv⟩
theorem items_src' {w : World} {Q : Nat → Prop} {h H : Nat} {la : Option Addr} {l : List Val} (hI : ItemsIn w Q (VIn w Q h) la l) (hH : h ≤ H) :
    ∃ news : List Value, news.length = l.length * 6 ∧ (l.length = 0 ∨ ∃ b, la = some b ∧ ∀ j u, news[j]? = some u → w.cell? (b.add j) = some u) ∧ (∀ u ∈ news, u.oneCell' = true) ∧ CellsAt w Q H l news := by
  cases l with
  | nil => exact ⟨[], rfl, .inl rfl, by simp, fun i hi => by simp at hi⟩
  | cons y t =>
    obtain ⟨g, o, rfl, _⟩ := id hI |>.resolve_left (by simp)
    obtain ⟨news, h1, h2, h3, h4⟩ := items_src hI (by simp)
    refine ⟨news, h1, .inr ⟨_, rfl, h2⟩, h3, fun i hi => ?_⟩
    obtain ⟨c0, c1, c2, c3, c4, c5, e0, e1, e2, e3, e4, e5, hv⟩ := h4 i hi
    exact ⟨c0, c1, c2, c3, c4, c5, e0, e1, e2, e3, e4, e5, hv.up hH⟩
theorem VIn.items {w : World} {Q : Nat → Prop} {h : Nat} {x : Val} {c0 c1 c2 c3 c4 : Value} {la : Option Addr} {ln lc : Nat} (hv : VIn w Q (h + 1) x (.agg #[c0, c1, c2, c3, c4, .slice la ln lc])) : ln = x.l.length ∧ ItemsIn w Q (VIn w Q h) la x.l := by
  obtain ⟨ba, fa, la', bc, fc, lc', e, _, _, _, _, _, _, hI⟩ := hv
  unfold agg at e
  injection e with e; injection e with e
  injection e with _ e; injection e with _ e; injection e with _ e; injection e with _ e; injection e with _ e; injection e with e _
  injection e with e1 e2 _
  subst e1
  exact ⟨e2, hI⟩
section
variable {P : Program}
/-- Nothing appended: the row stays. -/
theorem run_zero (w : World) (base : Nat) (t ty e : TypeId) (i : TypeInfo) (ht : P.underlying t = some (.slice e)) (hi : P.info? e = some i) (size : Nat) (a : Option Addr) (c : Nat)
    (v : Value) (n : Nat) (xs : List Value) (hown : w.ownsRow base e size v n xs) : (Builtin.append_ #[t, t] ty #[v, .slice a 0 c]).run P w = .ok v w := by
  obtain ⟨_, ⟨rfl, rfl⟩ | ⟨g, cap, cur, rfl, _, _, hnc, _⟩⟩ := hown
  · cases a with
    | none => simp [Builtin.append_, run_underlying ht, sizeOf, typeInfo, hi, Builtin.lenOf, Builtin.firstCells]
    | some p => simp [Builtin.append_, run_underlying ht, sizeOf, typeInfo, hi, Builtin.lenOf, Builtin.firstCells, loadCells, loadCellsFrom]
  · cases a with
    | none => simp [Builtin.append_, run_underlying ht, sizeOf, typeInfo, hi, Builtin.lenOf, Builtin.firstCells, hnc, storeCells]
    | some p => simp [Builtin.append_, run_underlying ht, sizeOf, typeInfo, hi, Builtin.lenOf, Builtin.firstCells, hnc, loadCells, loadCellsFrom, storeCells]
/-- append of m elements, m whatever, whatever the source's address. -/
theorem wpList_append_any {w : World} {ops : Array Oper} {rest : List Oper} {o : Oper} {a : Act} {Q : Exit → Act → World → Prop} (hgd : o.guard = none) (s x : Operand) (t : TypeId)
    (ho : o.op = .call { callee := .builtin .append, args := #[s, x], argTypes := #[t, t] })
    (base : Nat) (e : TypeId) (i : TypeInfo) (z : Value) (size bytes : Nat) (ht : P.underlying t = some (.slice e)) (hi : P.info? e = some i) (hz : i.zero = some z)
    (hsize : i.size = size) (hby : i.bytes = bytes) (hzs : z.cells.size = size) (v : Value) (n : Nat) (xs : List Value) (hs : a.eval s = v) (hown : w.ownsRow base e size v n xs)
    (ad : Option Addr) (m c : Nat) (news : List Value) (hx : a.eval x = .slice ad m c) (hl : news.length = m * size) (hsz : 0 < size) (hnews : m = 0 ∨ ∃ b, ad = some b ∧ ∀ j u, news[j]? = some u → w.cell? (b.add j) = some u) (h1 : ∀ u ∈ news, u.oneCell' = true)
    (h63 : n + m ≤ maxLen) (hbytes : (n + m) * bytes ≤ 140737488355328) (hbase : base ≤ w.heap.size)
    (h : ∀ v' w', w'.ownsRow base e size v' (n + m) (xs ++ news) → Wrote w w' v v' → wpList P ops Q rest (a.put o.dst v') w') : wpList P ops Q (o :: rest) a w := by
  refine wpList_plain hgd fun K hK => ?_
  obtain ⟨v', w', hr, h2, h3⟩ : ∃ v' w', (Builtin.append_ #[t, t] o.type #[v, .slice ad m c]).run P w = .ok v' w' ∧ w'.ownsRow base e size v' (n + m) (xs ++ news) ∧ Wrote w w' v v' := by
    rcases Nat.eq_zero_or_pos m with rfl | hm
    · obtain rfl : news = [] := List.eq_nil_of_length_eq_zero (by simpa using hl)
      exact ⟨v, w, run_zero w base t o.type e i ht hi size ad c v n xs hown, by simpa using hown, Wrote.refl _ _⟩
    · obtain ⟨b, rfl, hcell⟩ := hnews.resolve_left (by omega)
      obtain ⟨v', w', hr, h2, h3⟩ := run_append_sz (P := P) w base t o.type e i z size bytes ht hi hz hsize hby hzs v n xs hown b m c news hl hm hsz hcell h1 h63 hbytes hbase
      exact ⟨v', w', hr, h2, Wrote.of_lies h3⟩
  unfold Oper.wp execOp
  simp only [ho, resolve, invoke, builtin, Sem.run_bind, Sem.run_pure, Result.andThen_ok, List.map_toArray, List.map_cons, List.map_nil, hs, hx, hr]
  exact hK _ _ (h v' w' h2 h3)
end
end Go.Proofs.YtpklnhmhbaakhaaDoor
end
section
namespace Go.Proofs.YtpklnhmhbaakhaaDoor
open Go.RowKit
open Seal
open Bson (Val)
/-- What a function that gathers values leaves: the row with more behind. -/
def AllPost (w : World) (base : Nat) (v : Value) (QA : Nat → Prop) (H : Nat) (zs : List Val) (e : Ending) (w' : World) : Prop := ∃ v' xs', e = .returned v' ∧ Acc w' base v' QA H zs xs' ∧ Wrote w w' v v'
set_option maxRecDepth 100000 in
set_option maxHeartbeats 1000000 in
theorem itself_any (H h base : Nat) (hh : h + 1 ≤ H) (v : Value) (QA : Nat → Prop) (ys : List Val) (xs : List Value) (x : Val) (u : Value) (w : World) (ha : Acc w base v QA H ys xs) (hbase : base ≤ w.heap.size)
    (hv : VIn w (fun g => QA g ∧ v.ownBlock ≠ some g) (h + 1) x u) (hN : ys.length + (Bson.itself x).length ≤ 1353245080339) :
    Calls Tryd.prog 35 #[v, u] w (AllPost w base v QA H (ys ++ Bson.itself x)) := by
  obtain ⟨i0, hi, hz0, hz1, hz2⟩ := info_parts infoV6
  obtain ⟨xk, xn, xs0, ba, fa, la, bn, bc, fn, fc, ln, lc, rfl, hxk, hrest⟩ := hv.letters
  clear hrest
  obtain ⟨yn, hyn⟩ : ∃ n, n = ys.length := ⟨_, rfl⟩
  have hlen : (Bson.itself x).length = 1 + (if x.kind = 7 then x.l.length else 0) := by
    unfold Bson.itself
    split <;> simp <;> omega
  rw [hlen, ← hyn] at hN
  have hN1 : yn + 1 ≤ 1353245080339 := by omega
  have HN := Lib.hid hN
  have HA : Hid (Acc ((w.alloc (.cells #[.int .i64 xk, .int .i64 xn, .string xs0, .slice ba bn bc, .slice fa fn fc, .slice la ln lc] 27)).alloc (.cells #[.int .i64 xk, .int .i64 xn, .string xs0, .slice ba bn bc, .slice fa fn fc, .slice la ln lc] 27)) base v QA H ys xs) := (ha.keep ((Below.refl _ w).alloc (Nat.le_refl _) _)).keep ((Below.refl _ _).alloc (Nat.le_refl _) _)
  have HOWN : Hid (((w.alloc (.cells #[.int .i64 xk, .int .i64 xn, .string xs0, .slice ba bn bc, .slice fa fn fc, .slice la ln lc] 27)).alloc (.cells #[.int .i64 xk, .int .i64 xn, .string xs0, .slice ba bn bc, .slice fa fn fc, .slice la ln lc] 27)).ownsRow base 27 6 v yn xs) := by have := HA.out.own; rw [← hyn] at this; exact this
  have HV : Hid (VIn ((w.alloc (.cells #[.int .i64 xk, .int .i64 xn, .string xs0, .slice ba bn bc, .slice fa fn fc, .slice la ln lc] 27)).alloc (.cells #[.int .i64 xk, .int .i64 xn, .string xs0, .slice ba bn bc, .slice fa fn fc, .slice la ln lc] 27)) (fun g => QA g ∧ v.ownBlock ≠ some g) (h + 1) x (.agg #[.int .i64 xk, .int .i64 xn, .string xs0, .slice ba bn bc, .slice fa fn fc, .slice la ln lc])) := (VIn.keep ((Below.refl _ w).alloc (Nat.le_refl _) _) hv).keep ((Below.refl _ _).alloc (Nat.le_refl _) _)
  have HNW : Hid (∀ j u, ([.int .i64 xk, .int .i64 xn, .string xs0, .slice ba bn bc, .slice fa fn fc, .slice la ln lc] : List Value)[j]? = some u → ((w.alloc (.cells #[.int .i64 xk, .int .i64 xn, .string xs0, .slice ba bn bc, .slice fa fn fc, .slice la ln lc] 27)).alloc (.cells #[.int .i64 xk, .int .i64 xn, .string xs0, .slice ba bn bc, .slice fa fn fc, .slice la ln lc] 27)).cell? (Addr.add ⟨w.heap.size + 1, 0, none⟩ j) = some u) := by
    have hh := six_new (w.alloc (.cells #[.int .i64 xk, .int .i64 xn, .string xs0, .slice ba bn bc, .slice fa fn fc, .slice la ln lc] 27)) (.int .i64 xk) (.int .i64 xn) (.string xs0) (.slice ba bn bc) (.slice fa fn fc) (.slice la ln lc) 27
    have e : (w.alloc (.cells #[.int .i64 xk, .int .i64 xn, .string xs0, .slice ba bn bc, .slice fa fn fc, .slice la ln lc] 27)).heap.size = w.heap.size + 1 := by simp
    rw [e] at hh; exact hh
  have HSZ : Hid (base ≤ ((w.alloc (.cells #[.int .i64 xk, .int .i64 xn, .string xs0, .slice ba bn bc, .slice fa fn fc, .slice la ln lc] 27)).alloc (.cells #[.int .i64 xk, .int .i64 xn, .string xs0, .slice ba bn bc, .slice fa fn fc, .slice la ln lc] 27)).heap.size) := by show _ ≤ _; simp; omega
  have HB2 : Hid (Below w.heap.size w ((w.alloc (.cells #[.int .i64 xk, .int .i64 xn, .string xs0, .slice ba bn bc, .slice fa fn fc, .slice la ln lc] 27)).alloc (.cells #[.int .i64 xk, .int .i64 xn, .string xs0, .slice ba bn bc, .slice fa fn fc, .slice la ln lc] 27))) := ((Below.refl _ w).alloc (Nat.le_refl _) _).alloc (by simp) _
  have HOB : Hid (v.ownBlock ≠ some w.heap.size) := fun e => by have := owns_block ha.own e; omega
  have HXK := Lib.hid hxk
  have HYN := Lib.hid hyn
  clear ha hv hN hlen hxk hyn
  go_enter Tryd.func35, Tryd.ntmps35
  go_wp2_with (at_builtin; refine wpList_append_sz _ rfl (.tmp 5) (.tmp 7) 25 rfl base 27 i0 (.agg #[.int .i64 0, .int .i64 0, .string ⟨#[]⟩, .slice none 0 0, .slice none 0 0, .slice none 0 0]) 6 104 Tryd.underlying25 hi hz0 hz1 hz2 rfl v yn xs rfl HOWN.out ⟨w.heap.size + 1, 0, none⟩ 1 1 [.int .i64 xk, .int .i64 xn, .string xs0, .slice ba bn bc, .slice fa fn fc, .slice la ln lc] rfl rfl (by decide) (by decide) HNW.out (six_one _ _ _ _ _ _ _ _ _ _ _ _) (by unfold maxLen; omega) (by omega) HSZ.out ?_)
  intro v5 w5 hown5 hlies5
  have hw5 := Wrote.of_lies hlies5
  have HW5 : Hid (Wrote w w5 v v5) := Wrote.of_below HB2.out hw5
  obtain ⟨xs5, hA5⟩ : ∃ xs5, Acc w5 base v5 QA H (ys ++ [x]) xs5 := ⟨_, HA.out.push hw5 (by rw [← HYN.out]; exact hown5) (HV.out.up hh)⟩
  have HA5 := Lib.hid hA5
  clear hA5
  have HV5 := Lib.hid (hw5.vin HV.out)
  have hk : ∀ j c, ([.int .i64 xk, .int .i64 xn, .string xs0, .slice ba bn bc, .slice fa fn fc, .slice la ln lc] : List Value)[j]? = some c → w5.cell? ⟨w.heap.size, j, none⟩ = some c := by
    intro j c hj
    have e1 : ((w.alloc (.cells #[.int .i64 xk, .int .i64 xn, .string xs0, .slice ba bn bc, .slice fa fn fc, .slice la ln lc] 27)).alloc (.cells #[.int .i64 xk, .int .i64 xn, .string xs0, .slice ba bn bc, .slice fa fn fc, .slice la ln lc] 27)).heap[w.heap.size]? = some (.cells #[.int .i64 xk, .int .i64 xn, .string xs0, .slice ba bn bc, .slice fa fn fc, .slice la ln lc] 27 (0, 0)) := (Below.heap_alloc _ _ _ (by simp)).trans (heap_alloc_new w _)
    have e2 := (hw5.1.block w.heap.size (by simp; omega) (fun e => HOB.out e.symm)).trans e1
    rw [cell_of_row w5 _ j _ _ _ e2]
    simpa using hj
  have c0 := hk 0 _ rfl
  have c5 := hk 5 _ rfl
  have HS5 : Hid (base ≤ w5.heap.size) := Nat.le_trans HSZ.out hw5.1.size
  clear hk hown5 hlies5 hw5 HA HV HOWN HNW HSZ HB2 HOB
  by_cases h7 : xk = 7
  · subst h7
    obtain ⟨hln, hI5⟩ := HV5.out.items
    obtain ⟨news, hn1, hn2, hn3, hn4⟩ := items_src' hI5 (show h ≤ H by omega)
    have hyl : (ys ++ [x]).length = yn + 1 := by rw [List.length_append, ← HYN.out]; rfl
    have HO5 : Hid (w5.ownsRow base 27 6 v5 (yn + 1) xs5) := by have := HA5.out.own; rw [hyl] at this; exact this
    have hNl : yn + (1 + ln) ≤ 1353245080339 := by have := HN.out; rw [if_pos HXK.out.symm] at this; omega
    have hit : Bson.itself x = [x] ++ x.l := by unfold Bson.itself; rw [if_pos HXK.out.symm]; rfl
    have HIT := Lib.hid hit
    rw [← hln] at hn1 hn2
    have HN1 := Lib.hid hn1; have HN2 := Lib.hid hn2; have HN3 := Lib.hid hn3; have HN4 := Lib.hid hn4; have HLN := Lib.hid hln; have HYL := Lib.hid hyl
    clear hn1 hn2 hn3 hn4 hln hI5 hyl hit
    go_wp2_with (at_builtin; refine wpList_append_any rfl (.tmp 12) (.tmp 14) 25 rfl base 27 i0 (.agg #[.int .i64 0, .int .i64 0, .string ⟨#[]⟩, .slice none 0 0, .slice none 0 0, .slice none 0 0]) 6 104 Tryd.underlying25 hi hz0 hz1 hz2 rfl v5 (yn + 1) _ rfl HO5.out la ln lc news rfl HN1.out (by decide) HN2.out HN3.out (by unfold maxLen; omega) (by omega) HS5.out ?_)
    intro v6 w6 hown6 hw6
    have HA6 : Hid (Acc w6 base v6 QA H (ys ++ [x] ++ x.l) (xs5 ++ news)) := HA5.out.append hw6 (by rw [HYL.out, ← HLN.out]; exact hown6) HN4.out (by rw [← HLN.out]; exact HN1.out)
    have HW6 : Hid (Wrote w w6 v v6) := HW5.out.trans hw6
    clear hown6 hw6
    go_wp2_with fail
    go_ret
    exact ⟨v6, _, rfl, by rw [HIT.out, ← List.append_assoc]; exact HA6.out, HW6.out⟩
  · have hkb : (xk == 7) = false := by simpa using h7
    have hit : Bson.itself x = [x] := by unfold Bson.itself; rw [if_neg (by rw [← HXK.out]; exact h7)]
    have HA5b : Hid (Acc w5 base v5 QA H (ys ++ Bson.itself x) xs5) := by rw [hit]; exact HA5.out
    clear hit h7
    go_wp2_with fail
    go_ret
    exact ⟨v5, _, rfl, HA5b.out, HW5.out⟩
end Go.Proofs.YtpklnhmhbaakhaaDoor
end
section
namespace Go.Proofs.YtpklnhmhbaakhaaDoor
open Go.RowKit
open Seal
open Bson (Val)
/-- A row of texts in memory, beside the row v of one's own. -/
def StrsBy (w : World) (v : Value) (a : Option Addr) (p : List ByteArray) : Prop := p = [] ∨ ∃ g o, a = some ⟨g, o, none⟩ ∧ v.ownBlock ≠ some g ∧ ∀ i (hi : i < p.length), w.cell? ⟨g, o + i, none⟩ = some (.string p[i])
theorem StrsBy.strs {w : World} {v : Value} {a : Option Addr} {p : List ByteArray} (h : StrsBy w v a p) : StrsIn w a p := by
  rcases h with h | ⟨g, o, e, _, h⟩
  · exact .inl h
  · exact .inr ⟨g, o, e, h⟩
theorem StrsBy.keep {w w' : World} {v : Value} {a : Option Addr} {p : List ByteArray} (h : StrsBy w v a p) (hb : Below w.heap.size w w') : StrsBy w' v a p := by
  rcases h with h | ⟨g, o, e, hg, h⟩
  · exact .inl h
  · exact .inr ⟨g, o, e, hg, fun i hi => cell_keep hb (h i hi)⟩
theorem StrsBy.wrote {w w' : World} {v v' : Value} {a : Option Addr} {p : List ByteArray} (hw : Wrote w w' v v') (h : StrsBy w v a p) : StrsBy w' v' a p := by
  rcases h with h | ⟨g, o, rfl, hg, h⟩
  · exact .inl h
  · cases p with
    | nil => exact .inl rfl
    | cons s r =>
      refine .inr ⟨g, o, rfl, ?_, fun i hi => ?_⟩
      · have hlt := World.block_lt_of_cell? w _ (h 0 (by simp))
        rcases hw.2 with h2 | ⟨b, h2, h3⟩
        · rw [h2]; exact hg
        · rw [h2]; intro e; have := Option.some.inj e; simp at hlt; omega
      · have hc := h i hi
        exact (World.cell?_of_block (a := ⟨g, o + i, none⟩) (hw.1.block g (World.block_lt_of_cell? w _ hc) (fun e => hg e.symm))).trans hc
/-- appendAll, of values at most so high, along these names. -/
def AllAt (H h : Nat) (p : List ByteArray) (pa : Option Addr) (pn pc : Nat) (fnA : Val → List Val) : Prop :=
  ∀ (base : Nat) (v : Value) (QA : Nat → Prop) (ys : List Val) (xs : List Value) (x : Val) (u : Value) (w : World), Acc w base v QA H ys xs → base ≤ w.heap.size → VIn w (fun g => QA g ∧ v.ownBlock ≠ some g) h x u → StrsBy w v pa p →
    ys.length + (fnA x).length ≤ 1353245080339 → Calls Tryd.prog 20 #[v, u, .slice pa pn pc] w (AllPost w base v QA H (ys ++ fnA x))
theorem owns_shape {w : World} {base : Nat} {e : TypeId} {size : Nat} {v : Value} {n : Nat} {xs : List Value} (h : w.ownsRow base e size v n xs) : ∃ a c, v = .slice a n c := by
  obtain ⟨_, ⟨rfl, rfl⟩ | ⟨g, cap, cur, rfl, _⟩⟩ := h
  · exact ⟨none, 0, rfl⟩
  · exact ⟨_, cap, rfl⟩
/-- The Docs of a row. -/
def docsOf (l : List Val) : List Val := l.filter fun y => decide (y.kind = 6)
def flat (fnA : Val → List Val) (l : List Val) : List Val := (docsOf l).flatMap fnA
theorem flat_yes (fnA : Val → List Val) (l : List Val) (k : Nat) (hk : k < l.length) (h : l[k].kind = 6) : flat fnA (l.take (k + 1)) = flat fnA (l.take k) ++ fnA l[k] := by
  have e : l.take (k + 1) = l.take k ++ [l[k]] := by rw [List.take_add_one, List.getElem?_eq_getElem hk]; rfl
  unfold flat docsOf; rw [e, List.filter_append, List.flatMap_append]; simp [h]
theorem flat_no (fnA : Val → List Val) (l : List Val) (k : Nat) (hk : k < l.length) (h : l[k].kind ≠ 6) : flat fnA (l.take (k + 1)) = flat fnA (l.take k) := by
  have e : l.take (k + 1) = l.take k ++ [l[k]] := by rw [List.take_add_one, List.getElem?_eq_getElem hk]; rfl
  unfold flat docsOf; rw [e, List.filter_append, List.flatMap_append]; simp [h]
theorem flat_le (fnA : Val → List Val) (l : List Val) (k : Nat) : (flat fnA (l.take k)).length ≤ (flat fnA l).length := by
  have e : flat fnA l = flat fnA (l.take k) ++ flat fnA (l.drop k) := by
    unfold flat docsOf
    rw [← List.flatMap_append, ← List.filter_append, List.take_append_drop]
  rw [e, List.length_append]; omega
theorem flat_ne (fnA : Val → List Val) (hne : ∀ x, fnA x ≠ []) (l : List Val) (h : docsOf l ≠ []) : 0 < (flat fnA l).length := by
  unfold flat
  cases hd : docsOf l with
  | nil => exact absurd hd h
  | cons y r =>
    rw [List.flatMap_cons, List.length_append]
    have := List.length_pos_iff.2 (hne y)
    omega
/-- What is gathered of items. -/
def ofItems (fnA : Val → List Val) (l : List Val) : List Val := if (docsOf l).isEmpty then [Bson.zero] else flat fnA l
theorem six_at {w w' : World} {v v' : Value} {g p : Nat} {u : Value} (hw : Wrote w w' v v') (hs : SixAt w g p u) (hg : v.ownBlock ≠ some g) : SixAt w' g p u := by
  obtain ⟨c0, c1, c2, c3, c4, c5, e, h0, h1, h2, h3, h4, h5⟩ := hs
  have k : ∀ j c, w.cell? ⟨g, j, none⟩ = some c → w'.cell? ⟨g, j, none⟩ = some c := fun j c hc =>
    (World.cell?_of_block (a := ⟨g, j, none⟩) (hw.1.block g (World.block_lt_of_cell? w _ hc) (fun e => hg e.symm))).trans hc
  exact ⟨c0, c1, c2, c3, c4, c5, e, k _ _ h0, k _ _ h1, k _ _ h2, k _ _ h3, k _ _ h4, k _ _ h5⟩
set_option maxRecDepth 100000 in
set_option maxHeartbeats 1000000 in
theorem aitems_any (H h : Nat) (hH : 1 ≤ H) (p : List ByteArray) (pa : Option Addr) (pn pc : Nat) (fnA : Val → List Val) (IH0 : AllAt H h p pa pn pc fnA) (hne : ∀ x, fnA x ≠ [])
    (base : Nat) (v : Value) (QA : Nat → Prop) (ys : List Val) (xs : List Value) (la : Option Addr) (ln lc : Nat) (l : List Val) (w : World) (ha : Acc w base v QA H ys xs) (hbase : base ≤ w.heap.size)
    (hI : ItemsIn w (fun g => QA g ∧ v.ownBlock ≠ some g) (VIn w (fun g => QA g ∧ v.ownBlock ≠ some g) h) la l) (hn : l.length = ln) (hlb : ln ≤ 1353245080339) (hp : StrsBy w v pa p) (hN : ys.length + (ofItems fnA l).length ≤ 1353245080339) :
    Calls Tryd.prog 37 #[v, .slice la ln lc, .slice pa pn pc] w (AllPost w base v QA H (ys ++ ofItems fnA l)) := by
  obtain ⟨i0, hi, hz0, hz1, hz2⟩ := info_parts infoV6
  obtain ⟨yn, hyn⟩ : ∃ n, n = ys.length := ⟨_, rfl⟩
  have hyb : yn + 1 ≤ 1353245080339 := by
    have : 1 ≤ (ofItems fnA l).length := by
      unfold ofItems
      split
      · exact Nat.le_refl _
      · rename_i h; exact flat_ne fnA hne l (by simpa using h)
    omega
  obtain ⟨a0, cc0, hv0⟩ : ∃ a c, v = .slice a yn c := by rw [hyn]; exact owns_shape ha.own
  subst hv0
  have HFB : Hid (docsOf l ≠ [] → yn + (flat fnA l).length ≤ 1353245080339) := fun hd => by
    have e : ofItems fnA l = flat fnA l := by unfold ofItems; rw [if_neg (by simpa using hd)]
    rw [e, ← hyn] at hN; exact hN
  have IH := Lib.hid IH0
  have HA0 := Lib.hid ha
  have HI := Lib.hid hI
  have HP := Lib.hid hp
  have HN := Lib.hid hn
  have HYN := Lib.hid hyn
  have HBASE := Lib.hid hbase
  have HNE := Lib.hid hne
  clear IH0 hI hp hn ha hN hyn hbase hne
  go_enter Tryd.func37, Tryd.ntmps37
  go_wp2_with fail
  go_loopw [0, 14] (fun vv i wr => ∃ (k : Nat) (v' : Value) (xs' : List Value), k ≤ ln ∧ i = .int .i64 k ∧ v' = vv ∧ Hid (Acc wr base v' QA H (ys ++ flat fnA (l.take k)) xs') ∧ Hid (Wrote w wr (.slice a0 yn cc0) v')) (fun _ i _ => ln - (intOf i).toNat)
  case atStart => exact ⟨0, _, xs, Nat.zero_le _, rfl, rfl, by have := HA0.out; simp only [List.take_zero]; show Acc w base _ QA H (ys ++ []) xs; rw [List.append_nil]; exact this, Wrote.refl _ _⟩
  case round =>
    obtain ⟨k, v', xs', hk, rfl, rfl, HA, HW⟩ := hrel
    by_cases hlt : k < ln
    · obtain ⟨g, o, hla, hq, hall⟩ := HI.out.resolve_left (fun e => by have := HN.out; rw [e] at this; simp at this; omega)
      obtain ⟨u', hsix, hV⟩ := hall k (by have := HN.out; omega)
      subst hla
      obtain ⟨ka, na, sa, ba, fa, ld, bl, bc, fl, fc, ll, lz, rfl⟩ := hV.shape
      obtain ⟨y, hy⟩ : ∃ y, y = l[k]'(by have := HN.out; omega) := ⟨_, rfl⟩
      rw [← hy] at hV
      have hka : ka = y.kind := hV.kind
      have HV := Lib.hid (VIn.keep ((Below.refl _ wr).alloc (Nat.le_refl _) (.cells #[.int .i64 ka, .int .i64 na, .string sa, .slice ba bl bc, .slice fa fl fc, .slice ld ll lz] 27)) (HW.out.vin hV))
      obtain ⟨s0, s1, s2, s3, s4, s5⟩ := (six_at HW.out hsix hq.2).cells
      have HPw := Lib.hid (((HP.out.wrote HW.out).keep ((Below.refl _ wr).alloc (Nat.le_refl _) (.cells #[.int .i64 ka, .int .i64 na, .string sa, .slice ba bl bc, .slice fa fl fc, .slice ld ll lz] 27))))
      have HA1 := Lib.hid (HA.out.keep ((Below.refl _ wr).alloc (Nat.le_refl _) (.cells #[.int .i64 ka, .int .i64 na, .string sa, .slice ba bl bc, .slice fa fl fc, .slice ld ll lz] 27)))
      have HW1 : Hid (Wrote w (wr.alloc (.cells #[.int .i64 ka, .int .i64 na, .string sa, .slice ba bl bc, .slice fa fl fc, .slice ld ll lz] 27)) (.slice a0 yn cc0) v') := HW.out.below ((Below.refl _ wr).alloc (Nat.le_refl _) _)
      have HSZ : Hid (base ≤ (wr.alloc (.cells #[.int .i64 ka, .int .i64 na, .string sa, .slice ba bl bc, .slice fa fl fc, .slice ld ll lz] 27)).heap.size) := Nat.le_trans HBASE.out HW1.out.1.size
      have HKA := Lib.hid hka
      have HY := Lib.hid hy
      clear hall hsix hV hy hq hka
      by_cases h6 : ka = 6
      · subst h6
        have hfl := flat_yes fnA l k (by have := HN.out; omega) (by rw [← HY.out]; exact HKA.out.symm)
        rw [← HY.out] at hfl
        have hdn : docsOf l ≠ [] := fun e => by
          have hm : y ∈ docsOf l := List.mem_filter.2 ⟨by rw [HY.out]; exact List.getElem_mem _, by simpa using HKA.out.symm⟩
          rw [e] at hm; simp at hm
        have hbd : (ys ++ flat fnA (l.take k)).length + (fnA y).length ≤ 1353245080339 := by
          have h1 := HFB.out hdn
          have h2 := flat_le fnA l (k + 1)
          rw [hfl, List.length_append] at h2
          rw [List.length_append, ← HYN.out]; omega
        have HBD := Lib.hid hbd
        have HFL := Lib.hid hfl
        clear hfl hdn hbd
        go_wp2_with fail
        refine (IH.out base v' QA _ _ y _ _ HA1.out HSZ.out HV.out HPw.out HBD.out).mono ?_
        rintro e w2 ⟨v2, xs2, rfl, hA2, hW2⟩
        have HA2 : Hid (Acc w2 base v2 QA H (ys ++ flat fnA (l.take (k + 1))) xs2) := by rw [HFL.out, ← List.append_assoc]; exact hA2
        have HW2 : Hid (Wrote w w2 (.slice a0 yn cc0) v2) := HW1.out.trans hW2
        clear hA2 hW2 s0 s1 s2 s3 s4 s5 HA HW HA1 HW1 HV HPw HSZ HBD HFL
        go_wp2_with fail
        go_roundw
        case rel => exact ⟨k + 1, v2, _, by omega, by go_num, rfl, HA2, HW2⟩
        case measure => simp [intOf]; omega
      · have hkb : (ka == 6) = false := by simpa using h6
        have hfl := flat_no fnA l k (by have := HN.out; omega) (by rw [← HY.out, ← HKA.out]; exact h6)
        have HA2 : Hid (Acc (wr.alloc (.cells #[.int .i64 ka, .int .i64 na, .string sa, .slice ba bl bc, .slice fa fl fc, .slice ld ll lz] 27)) base v' QA H (ys ++ flat fnA (l.take (k + 1))) xs') := by rw [hfl]; exact HA1.out
        clear hfl h6
        go_wp2_with fail
        go_roundw
        case rel => exact ⟨k + 1, v', _, by omega, by go_num, rfl, HA2, HW1⟩
        case measure => simp [intOf]; omega
    · have hkk : k = ln := by omega
      subst hkk
      have htk : l.take k = l := List.take_of_length_le (by rw [HN.out]; exact Nat.le_refl _)
      have hfin := HA.out
      rw [htk] at hfin
      by_cases hd : docsOf l = []
      · have hfl : flat fnA l = [] := by unfold flat; rw [hd]; rfl
        rw [hfl, List.append_nil] at hfin
        have hof : ofItems fnA l = [Bson.zero] := by unfold ofItems; rw [hd]; rfl
        obtain ⟨a1, c1, hv1⟩ : ∃ a c, v' = .slice a yn c := by rw [HYN.out]; exact owns_shape hfin.own
        subst hv1
        have HOF := Lib.hid hof
        have HA1 : Hid (Acc (wr.alloc (.cells #[.int .i64 0, .int .i64 0, .string ⟨#[]⟩, .slice none 0 0, .slice none 0 0, .slice none 0 0] 27)) base (.slice a1 yn c1) QA H ys xs') := hfin.keep ((Below.refl _ wr).alloc (Nat.le_refl _) _)
        have HOWN : Hid ((wr.alloc (.cells #[.int .i64 0, .int .i64 0, .string ⟨#[]⟩, .slice none 0 0, .slice none 0 0, .slice none 0 0] 27)).ownsRow base 27 6 (.slice a1 yn c1) yn xs') := by have := HA1.out.own; rw [← HYN.out] at this; exact this
        have HNW : Hid (∀ j u, ([.int .i64 0, .int .i64 0, .string ⟨#[]⟩, .slice none 0 0, .slice none 0 0, .slice none 0 0] : List Value)[j]? = some u → (wr.alloc (.cells #[.int .i64 0, .int .i64 0, .string ⟨#[]⟩, .slice none 0 0, .slice none 0 0, .slice none 0 0] 27)).cell? (Addr.add ⟨wr.heap.size, 0, none⟩ j) = some u) := six_new wr _ _ _ _ _ _ _
        have HW1 : Hid (Wrote w (wr.alloc (.cells #[.int .i64 0, .int .i64 0, .string ⟨#[]⟩, .slice none 0 0, .slice none 0 0, .slice none 0 0] 27)) (.slice a0 yn cc0) (.slice a1 yn c1)) := HW.out.below ((Below.refl _ wr).alloc (Nat.le_refl _) _)
        have HSZ : Hid (base ≤ (wr.alloc (.cells #[.int .i64 0, .int .i64 0, .string ⟨#[]⟩, .slice none 0 0, .slice none 0 0, .slice none 0 0] 27)).heap.size) := Nat.le_trans HBASE.out HW1.out.1.size
        clear hfin htk hfl hof HA hd
        go_wp2_with (at_builtin; refine wpList_append_sz _ rfl (.tmp 30) (.tmp 32) 25 rfl base 27 i0 (.agg #[.int .i64 0, .int .i64 0, .string ⟨#[]⟩, .slice none 0 0, .slice none 0 0, .slice none 0 0]) 6 104 Tryd.underlying25 hi hz0 hz1 hz2 rfl (.slice a1 yn c1) yn xs' rfl HOWN.out ⟨wr.heap.size, 0, none⟩ 1 1 [.int .i64 0, .int .i64 0, .string ⟨#[]⟩, .slice none 0 0, .slice none 0 0, .slice none 0 0] rfl rfl (by decide) (by decide) HNW.out (six_one _ _ _ _ _ _ _ _ _ _ _ _) (by unfold maxLen; omega) (by omega) HSZ.out ?_)
        intro v5 w5 hown5 hlies5
        have hw5 := Wrote.of_lies hlies5
        obtain ⟨xs5, hA5⟩ : ∃ xs5, Acc w5 base v5 QA H (ys ++ ofItems fnA l) xs5 := ⟨_, by rw [HOF.out]; exact HA1.out.push hw5 (by rw [← HYN.out]; exact hown5) ((zero_in _ _).up hH)⟩
        have HA5 := Lib.hid hA5
        have HW5 : Hid (Wrote w w5 (.slice a0 yn cc0) v5) := HW1.out.trans hw5
        clear hown5 hlies5 hw5 hA5 HA1 HOWN HNW HW1 HSZ HOF
        go_wp2_with fail
        go_ret
        exact ⟨v5, _, rfl, HA5.out, HW5.out⟩
      · have hof : ofItems fnA l = flat fnA l := by unfold ofItems; rw [if_neg (by simpa using hd)]
        rw [← hof] at hfin
        obtain ⟨m, hm⟩ : ∃ m, m = (ys ++ ofItems fnA l).length := ⟨_, rfl⟩
        obtain ⟨a1, c1, hv1⟩ : ∃ a c, v' = .slice a m c := by rw [hm]; exact owns_shape hfin.own
        have hmy : yn < m := by
          rw [hm, List.length_append, hof, HYN.out]
          have := flat_ne fnA HNE.out l hd
          omega
        have hmb : ((m : Int) == (yn : Int)) = false := by simp; omega
        subst hv1
        have HA5 := Lib.hid hfin
        clear hfin htk hof HA hd hm
        go_wp2_with fail
        go_ret
        exact ⟨_, _, rfl, HA5.out, HW.out⟩
end Go.Proofs.YtpklnhmhbaakhaaDoor
end
