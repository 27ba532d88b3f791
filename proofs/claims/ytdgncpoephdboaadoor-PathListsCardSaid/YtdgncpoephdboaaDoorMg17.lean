/- PathDocsEnd, PathItself, PathAItems. -/
import Derived.Laws.OwnMore
import Derived.Test.YtdgncpoephdboaaDoorMg9
import Derived.Test.YtdgncpoephdboaaDoorMg16
set_option maxRecDepth 100000
section
namespace Go.Proofs.YtdgncpoephdboaaDoor
open Go.RowKit
open Seal
open Bson (Val)
theorem wrote_below {B : Nat} {w0 w w' : World} {v v' : Value} (hb : Below B w0 w) (hB : B ≤ w0.heap.size) (hw : Wrote w w' v v') (hg : ∀ g, v.ownBlock = some g → B ≤ g) : Below B w0 w' :=
  ⟨hw.1.os.trans hb.os, hw.1.tape.trans hb.tape, hw.1.output.trans hb.output, Nat.le_trans hb.size hw.1.size, fun k hk => (hw.1.block k (by have := hb.size; omega) (fun e => by have := hg k e.symm; omega)).trans (hb.block k hk)⟩
theorem acc_one {w : World} {QA : Nat → Prop} {h : Nat} {x : Val} {c0 c1 c2 c3 c4 c5 : Value} (hv : VIn w QA h x (.agg #[c0, c1, c2, c3, c4, c5])) (hq : ∀ g, QA g → g ≠ w.heap.size) :
    Acc (w.alloc (.cells #[c0, c1, c2, c3, c4, c5] 27)) w.heap.size (.slice (some ⟨w.heap.size, 0, none⟩) 1 1) QA h [x] [c0, c1, c2, c3, c4, c5] := by
  refine ⟨⟨rfl, .inr ⟨w.heap.size, 1, #[c0, c1, c2, c3, c4, c5], rfl, Nat.le_refl _, heap_alloc_new w _, Nat.le_refl _, by unfold maxLen; omega, rfl, rfl⟩⟩, fun i hi => ?_⟩
  obtain rfl : i = 0 := by simp at hi; omega
  exact ⟨c0, c1, c2, c3, c4, c5, rfl, rfl, rfl, rfl, rfl, rfl, (VIn.keep ((Below.refl _ w).alloc (Nat.le_refl _) _) hv).kept (Kept.of_below (Below.refl _ _)) (fun g hg => ⟨hg, fun e => hq g hg (by simpa [Value.ownBlock] using e.symm)⟩)⟩
/-- The row that is wanted. -/
def WantIs (wa : World) (x : Val) (H : Nat) (u : Value) (W : World) : Prop := ∃ a c, u = .slice a (Bson.itself x).length c ∧ ItemsIn W (fun _ => True) (VIn W (fun _ => True) H) a (Bson.itself x) ∧ Below wa.heap.size wa W
theorem want_of {wa W : World} {x : Val} {H base : Nat} {v : Value} {QA : Nat → Prop} {xs : List Value} (h : Acc W base v QA H (Bson.itself x) xs) (hb : Below wa.heap.size wa W) : WantIs wa x H v W := by
  obtain ⟨a, c, e, _, hi⟩ := h.items (Q' := fun _ => True) (fun _ _ => trivial) (fun _ _ _ => trivial)
  exact ⟨a, c, e, hi, hb⟩
theorem strs_src {w : World} {a : Option Addr} {p : List ByteArray} (h : StrsIn w a p) : p.length = 0 ∨ ∃ b, a = some b ∧ ∀ j u, (p.map Value.string)[j]? = some u → w.cell? (b.add j) = some u := by
  rcases h with h | ⟨g, o, rfl, h⟩
  · exact .inl (by rw [h]; rfl)
  · refine .inr ⟨_, rfl, fun j u hu => ?_⟩
    obtain ⟨hj, e⟩ := List.getElem?_eq_some_iff.1 hu
    rw [List.length_map] at hj
    rw [List.getElem_map] at e
    have e2 : (⟨g, o, none⟩ : Addr).add j = ⟨g, o + j, none⟩ := by unfold Addr.add; split <;> simp_all
    rw [e2, h j hj, e]
theorem strs_one (p : List ByteArray) : ∀ u ∈ p.map Value.string, u.oneCell' = true := by
  intro u hu
  obtain ⟨s, _, rfl⟩ := List.mem_map.1 hu
  rfl
/-- A row of texts of one's own. -/
theorem strs_row {w : World} {base : Nat} {v : Value} {n : Nat} {p : List ByteArray} (ho : w.ownsRow base 9 1 v n (p.map Value.string)) :
    (v = .slice none 0 0 ∧ n = 0) ∨ ∃ g c, v = .slice (some ⟨g, 0, none⟩) n c ∧ base ≤ g ∧ n ≤ c ∧ c ≤ 9223372036854775807 ∧ w.ownsRow base 9 1 (.slice (some ⟨g, 0, none⟩) n c) n (p.map Value.string) := by
  obtain ⟨hl, hn | ⟨g, cap, cur, rfl, h1, h2, h3, h4, h5, h6⟩⟩ := id ho
  · exact .inl hn
  · exact .inr ⟨g, cap, rfl, h1, h3, by unfold maxLen at h4; omega, ho⟩
theorem strs_in {w : World} {base g n c : Nat} {p : List ByteArray} (ho : w.ownsRow base 9 1 (.slice (some ⟨g, 0, none⟩) n c) n (p.map Value.string)) : StrsIn w (some ⟨g, 0, none⟩) p := by
  refine .inr ⟨g, 0, rfl, fun i hi => ?_⟩
  have hl : p.length = n := by have := ho.1; rw [List.length_map] at this; omega
  rw [Nat.zero_add, ho.cellAt i (by omega), List.getElem?_map, List.getElem?_eq_getElem hi]
  rfl
end Go.Proofs.YtdgncpoephdboaaDoor
end
section
namespace Go.Proofs.YtdgncpoephdboaaDoor
open Go.RowKit
open Seal
open Bson (Val)
/-- What a function that gathers values leaves: the row with more behind. -/
def AllPost (w : World) (base : Nat) (v : Value) (QA : Nat → Prop) (H : Nat) (zs : List Val) (e : Ending) (w' : World) : Prop := ∃ v' xs', e = .returned v' ∧ Acc w' base v' QA H zs xs' ∧ Wrote w w' v v'
set_option maxRecDepth 100000 in
set_option maxHeartbeats 1000000 in
theorem itself_any (H h base : Nat) (hh : h + 1 ≤ H) (v : Value) (QA : Nat → Prop) (ys : List Val) (xs : List Value) (x : Val) (u : Value) (w : World) (ha : Acc w base v QA H ys xs) (hbase : base ≤ w.heap.size)
    (hv : VIn w (fun g => QA g ∧ v.ownBlock ≠ some g) (h + 1) x u) (hN : ys.length + (Bson.itself x).length ≤ 1353245080339) :
    Calls Tryd.prog 35 #[v, u] w (AllPost w base v QA H (ys ++ Bson.itself x)) := by
  obtain ⟨i0, hi, hz0, hz1, hz2⟩ := info_parts infoV6
  obtain ⟨xk, xn, xs0, ba, fa, la, bn, bc, fn, fc, ln, lc, rfl, hxk, hrest⟩ := hv.letters
  clear hrest
  obtain ⟨yn, hyn⟩ : ∃ n, n = ys.length := ⟨_, rfl⟩
  have hlen : (Bson.itself x).length = 1 + (if x.kind = 7 then x.l.length else 0) := by
    unfold Bson.itself
    split <;> simp <;> omega
  rw [hlen, ← hyn] at hN
  have hN1 : yn + 1 ≤ 1353245080339 := by omega
  have HN := Lib.hid hN
  have HA : Hid (Acc ((w.alloc (.cells #[.int .i64 xk, .int .i64 xn, .string xs0, .slice ba bn bc, .slice fa fn fc, .slice la ln lc] 27)).alloc (.cells #[.int .i64 xk, .int .i64 xn, .string xs0, .slice ba bn bc, .slice fa fn fc, .slice la ln lc] 27)) base v QA H ys xs) := (ha.keep ((Below.refl _ w).alloc (Nat.le_refl _) _)).keep ((Below.refl _ _).alloc (Nat.le_refl _) _)
  have HOWN : Hid (((w.alloc (.cells #[.int .i64 xk, .int .i64 xn, .string xs0, .slice ba bn bc, .slice fa fn fc, .slice la ln lc] 27)).alloc (.cells #[.int .i64 xk, .int .i64 xn, .string xs0, .slice ba bn bc, .slice fa fn fc, .slice la ln lc] 27)).ownsRow base 27 6 v yn xs) := by have := HA.out.own; rw [← hyn] at this; exact this
  have HV : Hid (VIn ((w.alloc (.cells #[.int .i64 xk, .int .i64 xn, .string xs0, .slice ba bn bc, .slice fa fn fc, .slice la ln lc] 27)).alloc (.cells #[.int .i64 xk, .int .i64 xn, .string xs0, .slice ba bn bc, .slice fa fn fc, .slice la ln lc] 27)) (fun g => QA g ∧ v.ownBlock ≠ some g) (h + 1) x (.agg #[.int .i64 xk, .int .i64 xn, .string xs0, .slice ba bn bc, .slice fa fn fc, .slice la ln lc])) := (VIn.keep ((Below.refl _ w).alloc (Nat.le_refl _) _) hv).keep ((Below.refl _ _).alloc (Nat.le_refl _) _)
  have HNW : Hid (∀ j u, ([.int .i64 xk, .int .i64 xn, .string xs0, .slice ba bn bc, .slice fa fn fc, .slice la ln lc] : List Value)[j]? = some u → ((w.alloc (.cells #[.int .i64 xk, .int .i64 xn, .string xs0, .slice ba bn bc, .slice fa fn fc, .slice la ln lc] 27)).alloc (.cells #[.int .i64 xk, .int .i64 xn, .string xs0, .slice ba bn bc, .slice fa fn fc, .slice la ln lc] 27)).cell? (Addr.add ⟨w.heap.size + 1, 0, none⟩ j) = some u) := by
    have hh := six_new (w.alloc (.cells #[.int .i64 xk, .int .i64 xn, .string xs0, .slice ba bn bc, .slice fa fn fc, .slice la ln lc] 27)) (.int .i64 xk) (.int .i64 xn) (.string xs0) (.slice ba bn bc) (.slice fa fn fc) (.slice la ln lc) 27
    have e : (w.alloc (.cells #[.int .i64 xk, .int .i64 xn, .string xs0, .slice ba bn bc, .slice fa fn fc, .slice la ln lc] 27)).heap.size = w.heap.size + 1 := by simp
    rw [e] at hh; exact hh
  have HSZ : Hid (base ≤ ((w.alloc (.cells #[.int .i64 xk, .int .i64 xn, .string xs0, .slice ba bn bc, .slice fa fn fc, .slice la ln lc] 27)).alloc (.cells #[.int .i64 xk, .int .i64 xn, .string xs0, .slice ba bn bc, .slice fa fn fc, .slice la ln lc] 27)).heap.size) := by show _ ≤ _; simp; omega
  have HB2 : Hid (Below w.heap.size w ((w.alloc (.cells #[.int .i64 xk, .int .i64 xn, .string xs0, .slice ba bn bc, .slice fa fn fc, .slice la ln lc] 27)).alloc (.cells #[.int .i64 xk, .int .i64 xn, .string xs0, .slice ba bn bc, .slice fa fn fc, .slice la ln lc] 27))) := ((Below.refl _ w).alloc (Nat.le_refl _) _).alloc (by simp) _
  have HOB : Hid (v.ownBlock ≠ some w.heap.size) := fun e => by have := owns_block ha.own e; omega
  have HXK := Lib.hid hxk
  have HYN := Lib.hid hyn
  clear ha hv hN hlen hxk hyn
  go_enter Tryd.func35, Tryd.ntmps35
  go_wp2_with (at_builtin; refine wpList_append_sz _ rfl (.tmp 5) (.tmp 7) 25 rfl base 27 i0 (.agg #[.int .i64 0, .int .i64 0, .string ⟨#[]⟩, .slice none 0 0, .slice none 0 0, .slice none 0 0]) 6 104 Tryd.underlying25 hi hz0 hz1 hz2 rfl v yn xs rfl HOWN.out ⟨w.heap.size + 1, 0, none⟩ 1 1 [.int .i64 xk, .int .i64 xn, .string xs0, .slice ba bn bc, .slice fa fn fc, .slice la ln lc] rfl rfl (by decide) (by decide) HNW.out (six_one _ _ _ _ _ _ _ _ _ _ _ _) (by unfold maxLen; omega) (by omega) HSZ.out ?_)
  intro v5 w5 hown5 hlies5
  have hw5 := Wrote.of_lies hlies5
  have HW5 : Hid (Wrote w w5 v v5) := Wrote.of_below HB2.out hw5
  obtain ⟨xs5, hA5⟩ : ∃ xs5, Acc w5 base v5 QA H (ys ++ [x]) xs5 := ⟨_, HA.out.push hw5 (by rw [← HYN.out]; exact hown5) (HV.out.up hh)⟩
  have HA5 := Lib.hid hA5
  clear hA5
  have HV5 := Lib.hid (hw5.vin HV.out)
  have hk : ∀ j c, ([.int .i64 xk, .int .i64 xn, .string xs0, .slice ba bn bc, .slice fa fn fc, .slice la ln lc] : List Value)[j]? = some c → w5.cell? ⟨w.heap.size, j, none⟩ = some c := by
    intro j c hj
    have e1 : ((w.alloc (.cells #[.int .i64 xk, .int .i64 xn, .string xs0, .slice ba bn bc, .slice fa fn fc, .slice la ln lc] 27)).alloc (.cells #[.int .i64 xk, .int .i64 xn, .string xs0, .slice ba bn bc, .slice fa fn fc, .slice la ln lc] 27)).heap[w.heap.size]? = some (.cells #[.int .i64 xk, .int .i64 xn, .string xs0, .slice ba bn bc, .slice fa fn fc, .slice la ln lc] 27 (0, 0)) := (Below.heap_alloc _ _ _ (by simp)).trans (heap_alloc_new w _)
    have e2 := (hw5.1.block w.heap.size (by simp; omega) (fun e => HOB.out e.symm)).trans e1
    rw [cell_of_row w5 _ j _ _ _ e2]
    simpa using hj
  have c0 := hk 0 _ rfl
  have c5 := hk 5 _ rfl
  have HS5 : Hid (base ≤ w5.heap.size) := Nat.le_trans HSZ.out hw5.1.size
  clear hk hown5 hlies5 hw5 HA HV HOWN HNW HSZ HB2 HOB
  by_cases h7 : xk = 7
  · subst h7
    obtain ⟨hln, hI5⟩ := HV5.out.items
    obtain ⟨news, hn1, hn2, hn3, hn4⟩ := items_src' hI5 (show h ≤ H by omega)
    have hyl : (ys ++ [x]).length = yn + 1 := by rw [List.length_append, ← HYN.out]; rfl
    have HO5 : Hid (w5.ownsRow base 27 6 v5 (yn + 1) xs5) := by have := HA5.out.own; rw [hyl] at this; exact this
    have hNl : yn + (1 + ln) ≤ 1353245080339 := by have := HN.out; rw [if_pos HXK.out.symm] at this; omega
    have hit : Bson.itself x = [x] ++ x.l := by unfold Bson.itself; rw [if_pos HXK.out.symm]; rfl
    have HIT := Lib.hid hit
    rw [← hln] at hn1 hn2
    have HN1 := Lib.hid hn1; have HN2 := Lib.hid hn2; have HN3 := Lib.hid hn3; have HN4 := Lib.hid hn4; have HLN := Lib.hid hln; have HYL := Lib.hid hyl
    clear hn1 hn2 hn3 hn4 hln hI5 hyl hit
    go_wp2_with (at_builtin; refine wpList_append_any rfl (.tmp 12) (.tmp 14) 25 rfl base 27 i0 (.agg #[.int .i64 0, .int .i64 0, .string ⟨#[]⟩, .slice none 0 0, .slice none 0 0, .slice none 0 0]) 6 104 Tryd.underlying25 hi hz0 hz1 hz2 rfl v5 (yn + 1) _ rfl HO5.out la ln lc news rfl HN1.out (by decide) HN2.out HN3.out (by unfold maxLen; omega) (by omega) HS5.out ?_)
    intro v6 w6 hown6 hw6
    have HA6 : Hid (Acc w6 base v6 QA H (ys ++ [x] ++ x.l) (xs5 ++ news)) := HA5.out.append hw6 (by rw [HYL.out, ← HLN.out]; exact hown6) HN4.out (by rw [← HLN.out]; exact HN1.out)
    have HW6 : Hid (Wrote w w6 v v6) := HW5.out.trans hw6
    clear hown6 hw6
    go_wp2_with fail
    go_ret
    exact ⟨v6, _, rfl, by rw [HIT.out, ← List.append_assoc]; exact HA6.out, HW6.out⟩
  · have hkb : (xk == 7) = false := by simpa using h7
    have hit : Bson.itself x = [x] := by unfold Bson.itself; rw [if_neg (by rw [← HXK.out]; exact h7)]
    have HA5b : Hid (Acc w5 base v5 QA H (ys ++ Bson.itself x) xs5) := by rw [hit]; exact HA5.out
    clear hit h7
    go_wp2_with fail
    go_ret
    exact ⟨v5, _, rfl, HA5b.out, HW5.out⟩
end Go.Proofs.YtdgncpoephdboaaDoor
end
section
namespace Go.Proofs.YtdgncpoephdboaaDoor
open Go.RowKit
open Seal
open Bson (Val)
/-- A row of texts in memory, beside the row v of one's own. -/
def StrsBy (w : World) (v : Value) (a : Option Addr) (p : List ByteArray) : Prop := p = [] ∨ ∃ g o, a = some ⟨g, o, none⟩ ∧ v.ownBlock ≠ some g ∧ ∀ i (hi : i < p.length), w.cell? ⟨g, o + i, none⟩ = some (.string p[i])
theorem StrsBy.strs {w : World} {v : Value} {a : Option Addr} {p : List ByteArray} (h : StrsBy w v a p) : StrsIn w a p := by
  rcases h with h | ⟨g, o, e, _, h⟩
  · exact .inl h
  · exact .inr ⟨g, o, e, h⟩
theorem StrsBy.keep {w w' : World} {v : Value} {a : Option Addr} {p : List ByteArray} (h : StrsBy w v a p) (hb : Below w.heap.size w w') : StrsBy w' v a p := by
  rcases h with h | ⟨g, o, e, hg, h⟩
  · exact .inl h
  · exact .inr ⟨g, o, e, hg, fun i hi => cell_keep hb (h i hi)⟩
theorem StrsBy.wrote {w w' : World} {v v' : Value} {a : Option Addr} {p : List ByteArray} (hw : Wrote w w' v v') (h : StrsBy w v a p) : StrsBy w' v' a p := by
  rcases h with h | ⟨g, o, rfl, hg, h⟩
  · exact .inl h
  · cases p with
    | nil => exact .inl rfl
    | cons s r =>
      refine .inr ⟨g, o, rfl, ?_, fun i hi => ?_⟩
      · have hlt := World.block_lt_of_cell? w _ (h 0 (by simp))
        rcases hw.2 with h2 | ⟨b, h2, h3⟩
        · rw [h2]; exact hg
        · rw [h2]; intro e; have := Option.some.inj e; simp at hlt; omega
      · have hc := h i hi
        exact (World.cell?_of_block (a := ⟨g, o + i, none⟩) (hw.1.block g (World.block_lt_of_cell? w _ hc) (fun e => hg e.symm))).trans hc
/-- appendAll, of values at most so high, along these names. -/
def AllAt (H h : Nat) (p : List ByteArray) (pa : Option Addr) (pn pc : Nat) (fnA : Val → List Val) : Prop :=
  ∀ (base : Nat) (v : Value) (QA : Nat → Prop) (ys : List Val) (xs : List Value) (x : Val) (u : Value) (w : World), Acc w base v QA H ys xs → base ≤ w.heap.size → VIn w (fun g => QA g ∧ v.ownBlock ≠ some g) h x u → StrsBy w v pa p →
    ys.length + (fnA x).length ≤ 1353245080339 → Calls Tryd.prog 20 #[v, u, .slice pa pn pc] w (AllPost w base v QA H (ys ++ fnA x))
theorem owns_shape {w : World} {base : Nat} {e : TypeId} {size : Nat} {v : Value} {n : Nat} {xs : List Value} (h : w.ownsRow base e size v n xs) : ∃ a c, v = .slice a n c := by
  obtain ⟨_, ⟨rfl, rfl⟩ | ⟨g, cap, cur, rfl, _⟩⟩ := h
  · exact ⟨none, 0, rfl⟩
  · exact ⟨_, cap, rfl⟩
/-- The Docs of a row. -/
def docsOf (l : List Val) : List Val := l.filter fun y => decide (y.kind = 6)
def flat (fnA : Val → List Val) (l : List Val) : List Val := (docsOf l).flatMap fnA
theorem flat_yes (fnA : Val → List Val) (l : List Val) (k : Nat) (hk : k < l.length) (h : l[k].kind = 6) : flat fnA (l.take (k + 1)) = flat fnA (l.take k) ++ fnA l[k] := by
  have e : l.take (k + 1) = l.take k ++ [l[k]] := by rw [List.take_add_one, List.getElem?_eq_getElem hk]; rfl
  unfold flat docsOf; rw [e, List.filter_append, List.flatMap_append]; simp [h]
theorem flat_no (fnA : Val → List Val) (l : List Val) (k : Nat) (hk : k < l.length) (h : l[k].kind ≠ 6) : flat fnA (l.take (k + 1)) = flat fnA (l.take k) := by
  have e : l.take (k + 1) = l.take k ++ [l[k]] := by rw [List.take_add_one, List.getElem?_eq_getElem hk]; rfl
  unfold flat docsOf; rw [e, List.filter_append, List.flatMap_append]; simp [h]
theorem flat_le (fnA : Val → List Val) (l : List Val) (k : Nat) : (flat fnA (l.take k)).length ≤ (flat fnA l).length := by
  have e : flat fnA l = flat fnA (l.take k) ++ flat fnA (l.drop k) := by
    unfold flat docsOf
    rw [← List.flatMap_append, ← List.filter_append, List.take_append_drop]
  rw [e, List.length_append]; omega
theorem flat_ne (fnA : Val → List Val) (hne : ∀ x, fnA x ≠ []) (l : List Val) (h : docsOf l ≠ []) : 0 < (flat fnA l).length := by
  unfold flat
  cases hd : docsOf l with
  | nil => exact absurd hd h
  | cons y r =>
    rw [List.flatMap_cons, List.length_append]
    have := List.length_pos_iff.2 (hne y)
    omega
/-- What is gathered of items. -/
def ofItems (fnA : Val → List Val) (l : List Val) : List Val := if (docsOf l).isEmpty then [Bson.zero] else flat fnA l
theorem six_at {w w' : World} {v v' : Value} {g p : Nat} {u : Value} (hw : Wrote w w' v v') (hs : SixAt w g p u) (hg : v.ownBlock ≠ some g) : SixAt w' g p u := by
  obtain ⟨c0, c1, c2, c3, c4, c5, e, h0, h1, h2, h3, h4, h5⟩ := hs
  have k : ∀ j c, w.cell? ⟨g, j, none⟩ = some c → w'.cell? ⟨g, j, none⟩ = some c := fun j c hc =>
    (World.cell?_of_block (a := ⟨g, j, none⟩) (hw.1.block g (World.block_lt_of_cell? w _ hc) (fun e => hg e.symm))).trans hc
  exact ⟨c0, c1, c2, c3, c4, c5, e, k _ _ h0, k _ _ h1, k _ _ h2, k _ _ h3, k _ _ h4, k _ _ h5⟩
set_option maxRecDepth 100000 in
set_option maxHeartbeats 1000000 in
theorem aitems_any (H h : Nat) (hH : 1 ≤ H) (p : List ByteArray) (pa : Option Addr) (pn pc : Nat) (fnA : Val → List Val) (IH0 : AllAt H h p pa pn pc fnA) (hne : ∀ x, fnA x ≠ [])
    (base : Nat) (v : Value) (QA : Nat → Prop) (ys : List Val) (xs : List Value) (la : Option Addr) (ln lc : Nat) (l : List Val) (w : World) (ha : Acc w base v QA H ys xs) (hbase : base ≤ w.heap.size)
    (hI : ItemsIn w (fun g => QA g ∧ v.ownBlock ≠ some g) (VIn w (fun g => QA g ∧ v.ownBlock ≠ some g) h) la l) (hn : l.length = ln) (hlb : ln ≤ 1353245080339) (hp : StrsBy w v pa p) (hN : ys.length + (ofItems fnA l).length ≤ 1353245080339) :
    Calls Tryd.prog 37 #[v, .slice la ln lc, .slice pa pn pc] w (AllPost w base v QA H (ys ++ ofItems fnA l)) := by
  obtain ⟨i0, hi, hz0, hz1, hz2⟩ := info_parts infoV6
  obtain ⟨yn, hyn⟩ : ∃ n, n = ys.length := ⟨_, rfl⟩
  have hyb : yn + 1 ≤ 1353245080339 := by
    have : 1 ≤ (ofItems fnA l).length := by
      unfold ofItems
      split
      · exact Nat.le_refl _
      · rename_i h; exact flat_ne fnA hne l (by simpa using h)
    omega
  obtain ⟨a0, cc0, hv0⟩ : ∃ a c, v = .slice a yn c := by rw [hyn]; exact owns_shape ha.own
  subst hv0
  have HFB : Hid (docsOf l ≠ [] → yn + (flat fnA l).length ≤ 1353245080339) := fun hd => by
    have e : ofItems fnA l = flat fnA l := by unfold ofItems; rw [if_neg (by simpa using hd)]
    rw [e, ← hyn] at hN; exact hN
  have IH := Lib.hid IH0
  have HA0 := Lib.hid ha
  have HI := Lib.hid hI
  have HP := Lib.hid hp
  have HN := Lib.hid hn
  have HYN := Lib.hid hyn
  have HBASE := Lib.hid hbase
  have HNE := Lib.hid hne
  clear IH0 hI hp hn ha hN hyn hbase hne
  go_enter Tryd.func37, Tryd.ntmps37
  go_wp2_with fail
  go_loopw [0, 14] (fun vv i wr => ∃ (k : Nat) (v' : Value) (xs' : List Value), k ≤ ln ∧ i = .int .i64 k ∧ v' = vv ∧ Hid (Acc wr base v' QA H (ys ++ flat fnA (l.take k)) xs') ∧ Hid (Wrote w wr (.slice a0 yn cc0) v')) (fun _ i _ => ln - (intOf i).toNat)
  case atStart => exact ⟨0, _, xs, Nat.zero_le _, rfl, rfl, by have := HA0.out; simp only [List.take_zero]; show Acc w base _ QA H (ys ++ []) xs; rw [List.append_nil]; exact this, Wrote.refl _ _⟩
  case round =>
    obtain ⟨k, v', xs', hk, rfl, rfl, HA, HW⟩ := hrel
    by_cases hlt : k < ln
    · obtain ⟨g, o, hla, hq, hall⟩ := HI.out.resolve_left (fun e => by have := HN.out; rw [e] at this; simp at this; omega)
      obtain ⟨u', hsix, hV⟩ := hall k (by have := HN.out; omega)
      subst hla
      obtain ⟨ka, na, sa, ba, fa, ld, bl, bc, fl, fc, ll, lz, rfl⟩ := hV.shape
      obtain ⟨y, hy⟩ : ∃ y, y = l[k]'(by have := HN.out; omega) := ⟨_, rfl⟩
      rw [← hy] at hV
      have hka : ka = y.kind := hV.kind
      have HV := Lib.hid (VIn.keep ((Below.refl _ wr).alloc (Nat.le_refl _) (.cells #[.int .i64 ka, .int .i64 na, .string sa, .slice ba bl bc, .slice fa fl fc, .slice ld ll lz] 27)) (HW.out.vin hV))
      obtain ⟨s0, s1, s2, s3, s4, s5⟩ := (six_at HW.out hsix hq.2).cells
      have HPw := Lib.hid (((HP.out.wrote HW.out).keep ((Below.refl _ wr).alloc (Nat.le_refl _) (.cells #[.int .i64 ka, .int .i64 na, .string sa, .slice ba bl bc, .slice fa fl fc, .slice ld ll lz] 27))))
      have HA1 := Lib.hid (HA.out.keep ((Below.refl _ wr).alloc (Nat.le_refl _) (.cells #[.int .i64 ka, .int .i64 na, .string sa, .slice ba bl bc, .slice fa fl fc, .slice ld ll lz] 27)))
      have HW1 : Hid (Wrote w (wr.alloc (.cells #[.int .i64 ka, .int .i64 na, .string sa, .slice ba bl bc, .slice fa fl fc, .slice ld ll lz] 27)) (.slice a0 yn cc0) v') := HW.out.below ((Below.refl _ wr).alloc (Nat.le_refl _) _)
      have HSZ : Hid (base ≤ (wr.alloc (.cells #[.int .i64 ka, .int .i64 na, .string sa, .slice ba bl bc, .slice fa fl fc, .slice ld ll lz] 27)).heap.size) := Nat.le_trans HBASE.out HW1.out.1.size
      have HKA := Lib.hid hka
      have HY := Lib.hid hy
      clear hall hsix hV hy hq hka
      by_cases h6 : ka = 6
      · subst h6
        have hfl := flat_yes fnA l k (by have := HN.out; omega) (by rw [← HY.out]; exact HKA.out.symm)
        rw [← HY.out] at hfl
        have hdn : docsOf l ≠ [] := fun e => by
          have hm : y ∈ docsOf l := List.mem_filter.2 ⟨by rw [HY.out]; exact List.getElem_mem _, by simpa using HKA.out.symm⟩
          rw [e] at hm; simp at hm
        have hbd : (ys ++ flat fnA (l.take k)).length + (fnA y).length ≤ 1353245080339 := by
          have h1 := HFB.out hdn
          have h2 := flat_le fnA l (k + 1)
          rw [hfl, List.length_append] at h2
          rw [List.length_append, ← HYN.out]; omega
        have HBD := Lib.hid hbd
        have HFL := Lib.hid hfl
        clear hfl hdn hbd
        go_wp2_with fail
        refine (IH.out base v' QA _ _ y _ _ HA1.out HSZ.out HV.out HPw.out HBD.out).mono ?_
        rintro e w2 ⟨v2, xs2, rfl, hA2, hW2⟩
        have HA2 : Hid (Acc w2 base v2 QA H (ys ++ flat fnA (l.take (k + 1))) xs2) := by rw [HFL.out, ← List.append_assoc]; exact hA2
        have HW2 : Hid (Wrote w w2 (.slice a0 yn cc0) v2) := HW1.out.trans hW2
        clear hA2 hW2 s0 s1 s2 s3 s4 s5 HA HW HA1 HW1 HV HPw HSZ HBD HFL
        go_wp2_with fail
        go_roundw
        case rel => exact ⟨k + 1, v2, _, by omega, by go_num, rfl, HA2, HW2⟩
        case measure => simp [intOf]; omega
      · have hkb : (ka == 6) = false := by simpa using h6
        have hfl := flat_no fnA l k (by have := HN.out; omega) (by rw [← HY.out, ← HKA.out]; exact h6)
        have HA2 : Hid (Acc (wr.alloc (.cells #[.int .i64 ka, .int .i64 na, .string sa, .slice ba bl bc, .slice fa fl fc, .slice ld ll lz] 27)) base v' QA H (ys ++ flat fnA (l.take (k + 1))) xs') := by rw [hfl]; exact HA1.out
        clear hfl h6
        go_wp2_with fail
        go_roundw
        case rel => exact ⟨k + 1, v', _, by omega, by go_num, rfl, HA2, HW1⟩
        case measure => simp [intOf]; omega
    · have hkk : k = ln := by omega
      subst hkk
      have htk : l.take k = l := List.take_of_length_le (by rw [HN.out]; exact Nat.le_refl _)
      have hfin := HA.out
      rw [htk] at hfin
      by_cases hd : docsOf l = []
      · have hfl : flat fnA l = [] := by unfold flat; rw [hd]; rfl
        rw [hfl, List.append_nil] at hfin
        have hof : ofItems fnA l = [Bson.zero] := by unfold ofItems; rw [hd]; rfl
        obtain ⟨a1, c1, hv1⟩ : ∃ a c, v' = .slice a yn c := by rw [HYN.out]; exact owns_shape hfin.own
        subst hv1
        have HOF := Lib.hid hof
        have HA1 : Hid (Acc (wr.alloc (.cells #[.int .i64 0, .int .i64 0, .string ⟨#[]⟩, .slice none 0 0, .slice none 0 0, .slice none 0 0] 27)) base (.slice a1 yn c1) QA H ys xs') := hfin.keep ((Below.refl _ wr).alloc (Nat.le_refl _) _)
        have HOWN : Hid ((wr.alloc (.cells #[.int .i64 0, .int .i64 0, .string ⟨#[]⟩, .slice none 0 0, .slice none 0 0, .slice none 0 0] 27)).ownsRow base 27 6 (.slice a1 yn c1) yn xs') := by have := HA1.out.own; rw [← HYN.out] at this; exact this
        have HNW : Hid (∀ j u, ([.int .i64 0, .int .i64 0, .string ⟨#[]⟩, .slice none 0 0, .slice none 0 0, .slice none 0 0] : List Value)[j]? = some u → (wr.alloc (.cells #[.int .i64 0, .int .i64 0, .string ⟨#[]⟩, .slice none 0 0, .slice none 0 0, .slice none 0 0] 27)).cell? (Addr.add ⟨wr.heap.size, 0, none⟩ j) = some u) := six_new wr _ _ _ _ _ _ _
        have HW1 : Hid (Wrote w (wr.alloc (.cells #[.int .i64 0, .int .i64 0, .string ⟨#[]⟩, .slice none 0 0, .slice none 0 0, .slice none 0 0] 27)) (.slice a0 yn cc0) (.slice a1 yn c1)) := HW.out.below ((Below.refl _ wr).alloc (Nat.le_refl _) _)
        have HSZ : Hid (base ≤ (wr.alloc (.cells #[.int .i64 0, .int .i64 0, .string ⟨#[]⟩, .slice none 0 0, .slice none 0 0, .slice none 0 0] 27)).heap.size) := Nat.le_trans HBASE.out HW1.out.1.size
        clear hfin htk hfl hof HA hd
        go_wp2_with (at_builtin; refine wpList_append_sz _ rfl (.tmp 30) (.tmp 32) 25 rfl base 27 i0 (.agg #[.int .i64 0, .int .i64 0, .string ⟨#[]⟩, .slice none 0 0, .slice none 0 0, .slice none 0 0]) 6 104 Tryd.underlying25 hi hz0 hz1 hz2 rfl (.slice a1 yn c1) yn xs' rfl HOWN.out ⟨wr.heap.size, 0, none⟩ 1 1 [.int .i64 0, .int .i64 0, .string ⟨#[]⟩, .slice none 0 0, .slice none 0 0, .slice none 0 0] rfl rfl (by decide) (by decide) HNW.out (six_one _ _ _ _ _ _ _ _ _ _ _ _) (by unfold maxLen; omega) (by omega) HSZ.out ?_)
        intro v5 w5 hown5 hlies5
        have hw5 := Wrote.of_lies hlies5
        obtain ⟨xs5, hA5⟩ : ∃ xs5, Acc w5 base v5 QA H (ys ++ ofItems fnA l) xs5 := ⟨_, by rw [HOF.out]; exact HA1.out.push hw5 (by rw [← HYN.out]; exact hown5) ((zero_in _ _).up hH)⟩
        have HA5 := Lib.hid hA5
        have HW5 : Hid (Wrote w w5 (.slice a0 yn cc0) v5) := HW1.out.trans hw5
        clear hown5 hlies5 hw5 hA5 HA1 HOWN HNW HW1 HSZ HOF
        go_wp2_with fail
        go_ret
        exact ⟨v5, _, rfl, HA5.out, HW5.out⟩
      · have hof : ofItems fnA l = flat fnA l := by unfold ofItems; rw [if_neg (by simpa using hd)]
        rw [← hof] at hfin
        obtain ⟨m, hm⟩ : ∃ m, m = (ys ++ ofItems fnA l).length := ⟨_, rfl⟩
        obtain ⟨a1, c1, hv1⟩ : ∃ a c, v' = .slice a m c := by rw [hm]; exact owns_shape hfin.own
        have hmy : yn < m := by
          rw [hm, List.length_append, hof, HYN.out]
          have := flat_ne fnA HNE.out l hd
          omega
        have hmb : ((m : Int) == (yn : Int)) = false := by simp; omega
        subst hv1
        have HA5 := Lib.hid hfin
        clear hfin htk hof HA hd hm
        go_wp2_with fail
        go_ret
        exact ⟨_, _, rfl, HA5.out, HW.out⟩
end Go.Proofs.YtdgncpoephdboaaDoor
end
