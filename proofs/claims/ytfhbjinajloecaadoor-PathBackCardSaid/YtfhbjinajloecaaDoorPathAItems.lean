/- path.appendItems, from appendAll. -/
import Derived.Test.YtfhbjinajloecaaDoorPathItself
namespace Go.Proofs.YtfhbjinajloecaaDoor
open Go.RowKit
open Seal
open Bson (Val)
/-- A row of texts in memory, beside the row v of one's own. -/
def StrsBy (w : World) (v : Value) (a : Option Addr) (p : List ByteArray) : Prop := p = [] ∨ ∃ g o, a = some ⟨g, o, none⟩ ∧ v.ownBlock ≠ some g ∧ ∀ i (hi : i < p.length), w.cell? ⟨g, o + i, none⟩ = some (.string p[i])
theorem StrsBy.strs {w : World} {v : Value} {a : Option Addr} {p : List ByteArray} (h : StrsBy w v a p) : StrsIn w a p := by
  rcases h with h | ⟨g, o, e, _, h⟩
  · exact .inl h
  · exact .inr ⟨g, o, e, h⟩
theorem StrsBy.keep {w w' : World} {v : Value} {a : Option Addr} {p : List ByteArray} (h : StrsBy w v a p) (hb : Below w.heap.size w w') : StrsBy w' v a p := by
  rcases h with h | ⟨g, o, e, hg, h⟩
  · exact .inl h
  · exact .inr ⟨g, o, e, hg, fun i hi => cell_keep hb (h i hi)⟩
theorem StrsBy.wrote {w w' : World} {v v' : Value} {a : Option Addr} {p : List ByteArray} (hw : Wrote w w' v v') (h : StrsBy w v a p) : StrsBy w' v' a p := by
  rcases h with h | ⟨g, o, rfl, hg, h⟩
  · exact .inl h
  · cases p with
    | nil => exact .inl rfl
    | cons s r =>
      refine .inr ⟨g, o, rfl, ?_, fun i hi => ?_⟩
      · have hlt := World.block_lt_of_cell? w _ (h 0 (by simp))
        rcases hw.2 with h2 | ⟨b, h2, h3⟩
        · rw [h2]; exact hg
        · rw [h2]; intro e; have := Option.some.inj e; simp at hlt; omega
      · have hc := h i hi
        exact (World.cell?_of_block (a := ⟨g, o + i, none⟩) (hw.1.block g (World.block_lt_of_cell? w _ hc) (fun e => hg e.symm))).trans hc
/-- appendAll, of values at most so high, along these names. -/
def AllAt (H h : Nat) (p : List ByteArray) (pa : Option Addr) (pn pc : Nat) (fnA : Val → List Val) : Prop :=
  ∀ (base : Nat) (v : Value) (QA : Nat → Prop) (ys : List Val) (xs : List Value) (x : Val) (u : Value) (w : World), Acc w base v QA H ys xs → base ≤ w.heap.size → VIn w (fun g => QA g ∧ v.ownBlock ≠ some g) h x u → StrsBy w v pa p →
    ys.length + (fnA x).length ≤ 1353245080339 → Calls Tryd.prog 32 #[v, u, .slice pa pn pc] w (AllPost w base v QA H (ys ++ fnA x))
theorem owns_shape {w : World} {base : Nat} {e : TypeId} {size : Nat} {v : Value} {n : Nat} {xs : List Value} (h : w.ownsRow base e size v n xs) : ∃ a c, v = .slice a n c := by
  obtain ⟨_, ⟨rfl, rfl⟩ | ⟨g, cap, cur, rfl, _⟩⟩ := h
  · exact ⟨none, 0, rfl⟩
  · exact ⟨_, cap, rfl⟩
/-- The Docs of a row. -/
def docsOf (l : List Val) : List Val := l.filter fun y => decide (y.kind = 6)
def flat (fnA : Val → List Val) (l : List Val) : List Val := (docsOf l).flatMap fnA
theorem flat_yes (fnA : Val → List Val) (l : List Val) (k : Nat) (hk : k < l.length) (h : l[k].kind = 6) : flat fnA (l.take (k + 1)) = flat fnA (l.take k) ++ fnA l[k] := by
  have e : l.take (k + 1) = l.take k ++ [l[k]] := by rw [List.take_add_one, List.getElem?_eq_getElem hk]; rfl
  unfold flat docsOf; rw [e, List.filter_append, List.flatMap_append]; simp [h]
theorem flat_no (fnA : Val → List Val) (l : List Val) (k : Nat) (hk : k < l.length) (h : l[k].kind ≠ 6) : flat fnA (l.take (k + 1)) = flat fnA (l.take k) := by
  have e : l.take (k + 1) = l.take k ++ [l[k]] := by rw [List.take_add_one, List.getElem?_eq_getElem hk]; rfl
  unfold flat docsOf; rw [e, List.filter_append, List.flatMap_append]; simp [h]
theorem flat_le (fnA : Val → List Val) (l : List Val) (k : Nat) : (flat fnA (l.take k)).length ≤ (flat fnA l).length := by
  have e : flat fnA l = flat fnA (l.take k) ++ flat fnA (l.drop k) := by
    unfold flat docsOf
    rw [← List.flatMap_append, ← List.filter_append, List.take_append_drop]
  rw [e, List.length_append]; omega
theorem flat_ne (fnA : Val → List Val) (hne : ∀ x, fnA x ≠ []) (l : List Val) (h : docsOf l ≠ []) : 0 < (flat fnA l).length := by
  unfold flat
  cases hd : docsOf l with
  | nil => exact absurd hd h
  | cons y r =>
    rw [List.flatMap_cons, List.length_append]
    have := List.length_pos_iff.2 (hne y)
    omega
/-- What is gathered of items. -/
def ofItems (fnA : Val → List Val) (l : List Val) : List Val := if (docsOf l).isEmpty then [Bson.zero] else flat fnA l
theorem six_at {w w' : World} {v v' : Value} {g p : Nat} {u : Value} (hw : Wrote w w' v v') (hs : SixAt w g p u) (hg : v.ownBlock ≠ some g) : SixAt w' g p u := by
  obtain ⟨c0, c1, c2, c3, c4, c5, e, h0, h1, h2, h3, h4, h5⟩ := hs
  have k : ∀ j c, w.cell? ⟨g, j, none⟩ = some c → w'.cell? ⟨g, j, none⟩ = some c := fun j c hc =>
    (World.cell?_of_block (a := ⟨g, j, none⟩) (hw.1.block g (World.block_lt_of_cell? w _ hc) (fun e => hg e.symm))).trans hc
  exact ⟨c0, c1, c2, c3, c4, c5, e, k _ _ h0, k _ _ h1, k _ _ h2, k _ _ h3, k _ _ h4, k _ _ h5⟩
set_option maxRecDepth 100000 in
set_option maxHeartbeats 1000000 in
theorem aitems_any (H h : Nat) (hH : 1 ≤ H) (p : List ByteArray) (pa : Option Addr) (pn pc : Nat) (fnA : Val → List Val) (IH0 : AllAt H h p pa pn pc fnA) (hne : ∀ x, fnA x ≠ [])
    (base : Nat) (v : Value) (QA : Nat → Prop) (ys : List Val) (xs : List Value) (la : Option Addr) (ln lc : Nat) (l : List Val) (w : World) (ha : Acc w base v QA H ys xs) (hbase : base ≤ w.heap.size)
    (hI : ItemsIn w (fun g => QA g ∧ v.ownBlock ≠ some g) (VIn w (fun g => QA g ∧ v.ownBlock ≠ some g) h) la l) (hn : l.length = ln) (hlb : ln ≤ 1353245080339) (hp : StrsBy w v pa p) (hN : ys.length + (ofItems fnA l).length ≤ 1353245080339) :
    Calls Tryd.prog 49 #[v, .slice la ln lc, .slice pa pn pc] w (AllPost w base v QA H (ys ++ ofItems fnA l)) := by
  obtain ⟨i0, hi, hz0, hz1, hz2⟩ := info_parts infoV6
  obtain ⟨yn, hyn⟩ : ∃ n, n = ys.length := ⟨_, rfl⟩
  have hyb : yn + 1 ≤ 1353245080339 := by
    have : 1 ≤ (ofItems fnA l).length := by
      unfold ofItems
      split
      · exact Nat.le_refl _
      · rename_i h; exact flat_ne fnA hne l (by simpa using h)
    omega
  obtain ⟨a0, cc0, hv0⟩ : ∃ a c, v = .slice a yn c := by rw [hyn]; exact owns_shape ha.own
  subst hv0
  have HFB : Hid (docsOf l ≠ [] → yn + (flat fnA l).length ≤ 1353245080339) := fun hd => by
    have e : ofItems fnA l = flat fnA l := by unfold ofItems; rw [if_neg (by simpa using hd)]
    rw [e, ← hyn] at hN; exact hN
  have IH := Lib.hid IH0
  have HA0 := Lib.hid ha
  have HI := Lib.hid hI
  have HP := Lib.hid hp
  have HN := Lib.hid hn
  have HYN := Lib.hid hyn
  have HBASE := Lib.hid hbase
  have HNE := Lib.hid hne
  clear IH0 hI hp hn ha hN hyn hbase hne
  go_enter Tryd.func49, Tryd.ntmps49
  go_wp2_with fail
  go_loopw [0, 14] (fun vv i wr => ∃ (k : Nat) (v' : Value) (xs' : List Value), k ≤ ln ∧ i = .int .i64 k ∧ v' = vv ∧ Hid (Acc wr base v' QA H (ys ++ flat fnA (l.take k)) xs') ∧ Hid (Wrote w wr (.slice a0 yn cc0) v')) (fun _ i _ => ln - (intOf i).toNat)
  case atStart => exact ⟨0, _, xs, Nat.zero_le _, rfl, rfl, by have := HA0.out; simp only [List.take_zero]; show Acc w base _ QA H (ys ++ []) xs; rw [List.append_nil]; exact this, Wrote.refl _ _⟩
  case round =>
    obtain ⟨k, v', xs', hk, rfl, rfl, HA, HW⟩ := hrel
    by_cases hlt : k < ln
    · obtain ⟨g, o, hla, hq, hall⟩ := HI.out.resolve_left (fun e => by have := HN.out; rw [e] at this; simp at this; omega)
      obtain ⟨u', hsix, hV⟩ := hall k (by have := HN.out; omega)
      subst hla
      obtain ⟨ka, na, sa, ba, fa, ld, bl, bc, fl, fc, ll, lz, rfl⟩ := hV.shape
      obtain ⟨y, hy⟩ : ∃ y, y = l[k]'(by have := HN.out; omega) := ⟨_, rfl⟩
      rw [← hy] at hV
      have hka : ka = y.kind := hV.kind
      have HV := Lib.hid (VIn.keep ((Below.refl _ wr).alloc (Nat.le_refl _) (.cells #[.int .i64 ka, .int .i64 na, .string sa, .slice ba bl bc, .slice fa fl fc, .slice ld ll lz] 32)) (HW.out.vin hV))
      obtain ⟨s0, s1, s2, s3, s4, s5⟩ := (six_at HW.out hsix hq.2).cells
      have HPw := Lib.hid (((HP.out.wrote HW.out).keep ((Below.refl _ wr).alloc (Nat.le_refl _) (.cells #[.int .i64 ka, .int .i64 na, .string sa, .slice ba bl bc, .slice fa fl fc, .slice ld ll lz] 32))))
      have HA1 := Lib.hid (HA.out.keep ((Below.refl _ wr).alloc (Nat.le_refl _) (.cells #[.int .i64 ka, .int .i64 na, .string sa, .slice ba bl bc, .slice fa fl fc, .slice ld ll lz] 32)))
      have HW1 : Hid (Wrote w (wr.alloc (.cells #[.int .i64 ka, .int .i64 na, .string sa, .slice ba bl bc, .slice fa fl fc, .slice ld ll lz] 32)) (.slice a0 yn cc0) v') := HW.out.below ((Below.refl _ wr).alloc (Nat.le_refl _) _)
      have HSZ : Hid (base ≤ (wr.alloc (.cells #[.int .i64 ka, .int .i64 na, .string sa, .slice ba bl bc, .slice fa fl fc, .slice ld ll lz] 32)).heap.size) := Nat.le_trans HBASE.out HW1.out.1.size
      have HKA := Lib.hid hka
      have HY := Lib.hid hy
      clear hall hsix hV hy hq hka
      by_cases h6 : ka = 6
      · subst h6
        have hfl := flat_yes fnA l k (by have := HN.out; omega) (by rw [← HY.out]; exact HKA.out.symm)
        rw [← HY.out] at hfl
        have hdn : docsOf l ≠ [] := fun e => by
          have hm : y ∈ docsOf l := List.mem_filter.2 ⟨by rw [HY.out]; exact List.getElem_mem _, by simpa using HKA.out.symm⟩
          rw [e] at hm; simp at hm
        have hbd : (ys ++ flat fnA (l.take k)).length + (fnA y).length ≤ 1353245080339 := by
          have h1 := HFB.out hdn
          have h2 := flat_le fnA l (k + 1)
          rw [hfl, List.length_append] at h2
          rw [List.length_append, ← HYN.out]; omega
        have HBD := Lib.hid hbd
        have HFL := Lib.hid hfl
        clear hfl hdn hbd
        go_wp2_with fail
        refine (IH.out base v' QA _ _ y _ _ HA1.out HSZ.out HV.out HPw.out HBD.out).mono ?_
        rintro e w2 ⟨v2, xs2, rfl, hA2, hW2⟩
        have HA2 : Hid (Acc w2 base v2 QA H (ys ++ flat fnA (l.take (k + 1))) xs2) := by rw [HFL.out, ← List.append_assoc]; exact hA2
        have HW2 : Hid (Wrote w w2 (.slice a0 yn cc0) v2) := HW1.out.trans hW2
        clear hA2 hW2 s0 s1 s2 s3 s4 s5 HA HW HA1 HW1 HV HPw HSZ HBD HFL
        go_wp2_with fail
        go_roundw
        case rel => exact ⟨k + 1, v2, _, by omega, by go_num, rfl, HA2, HW2⟩
        case measure => simp [intOf]; omega
      · have hkb : (ka == 6) = false := by simpa using h6
        have hfl := flat_no fnA l k (by have := HN.out; omega) (by rw [← HY.out, ← HKA.out]; exact h6)
        have HA2 : Hid (Acc (wr.alloc (.cells #[.int .i64 ka, .int .i64 na, .string sa, .slice ba bl bc, .slice fa fl fc, .slice ld ll lz] 32)) base v' QA H (ys ++ flat fnA (l.take (k + 1))) xs') := by rw [hfl]; exact HA1.out
        clear hfl h6
        go_wp2_with fail
        go_roundw
        case rel => exact ⟨k + 1, v', _, by omega, by go_num, rfl, HA2, HW1⟩
        case measure => simp [intOf]; omega
    · have hkk : k = ln := by omega
      subst hkk
      have htk : l.take k = l := List.take_of_length_le (by rw [HN.out]; exact Nat.le_refl _)
      have hfin := HA.out
      rw [htk] at hfin
      by_cases hd : docsOf l = []
      · have hfl : flat fnA l = [] := by unfold flat; rw [hd]; rfl
        rw [hfl, List.append_nil] at hfin
        have hof : ofItems fnA l = [Bson.zero] := by unfold ofItems; rw [hd]; rfl
        obtain ⟨a1, c1, hv1⟩ : ∃ a c, v' = .slice a yn c := by rw [HYN.out]; exact owns_shape hfin.own
        subst hv1
        have HOF := Lib.hid hof
        have HA1 : Hid (Acc (wr.alloc (.cells #[.int .i64 0, .int .i64 0, .string ⟨#[]⟩, .slice none 0 0, .slice none 0 0, .slice none 0 0] 32)) base (.slice a1 yn c1) QA H ys xs') := hfin.keep ((Below.refl _ wr).alloc (Nat.le_refl _) _)
        have HOWN : Hid ((wr.alloc (.cells #[.int .i64 0, .int .i64 0, .string ⟨#[]⟩, .slice none 0 0, .slice none 0 0, .slice none 0 0] 32)).ownsRow base 32 6 (.slice a1 yn c1) yn xs') := by have := HA1.out.own; rw [← HYN.out] at this; exact this
        have HNW : Hid (∀ j u, ([.int .i64 0, .int .i64 0, .string ⟨#[]⟩, .slice none 0 0, .slice none 0 0, .slice none 0 0] : List Value)[j]? = some u → (wr.alloc (.cells #[.int .i64 0, .int .i64 0, .string ⟨#[]⟩, .slice none 0 0, .slice none 0 0, .slice none 0 0] 32)).cell? (Addr.add ⟨wr.heap.size, 0, none⟩ j) = some u) := six_new wr _ _ _ _ _ _ _
        have HW1 : Hid (Wrote w (wr.alloc (.cells #[.int .i64 0, .int .i64 0, .string ⟨#[]⟩, .slice none 0 0, .slice none 0 0, .slice none 0 0] 32)) (.slice a0 yn cc0) (.slice a1 yn c1)) := HW.out.below ((Below.refl _ wr).alloc (Nat.le_refl _) _)
        have HSZ : Hid (base ≤ (wr.alloc (.cells #[.int .i64 0, .int .i64 0, .string ⟨#[]⟩, .slice none 0 0, .slice none 0 0, .slice none 0 0] 32)).heap.size) := Nat.le_trans HBASE.out HW1.out.1.size
        clear hfin htk hfl hof HA hd
        go_wp2_with (at_builtin; refine wpList_append_sz _ rfl (.tmp 30) (.tmp 32) 30 rfl base 32 i0 (.agg #[.int .i64 0, .int .i64 0, .string ⟨#[]⟩, .slice none 0 0, .slice none 0 0, .slice none 0 0]) 6 104 Tryd.underlying30 hi hz0 hz1 hz2 rfl (.slice a1 yn c1) yn xs' rfl HOWN.out ⟨wr.heap.size, 0, none⟩ 1 1 [.int .i64 0, .int .i64 0, .string ⟨#[]⟩, .slice none 0 0, .slice none 0 0, .slice none 0 0] rfl rfl (by decide) (by decide) HNW.out (six_one _ _ _ _ _ _ _ _ _ _ _ _) (by unfold maxLen; omega) (by omega) HSZ.out ?_)
        intro v5 w5 hown5 hlies5
        have hw5 := Wrote.of_lies hlies5
        obtain ⟨xs5, hA5⟩ : ∃ xs5, Acc w5 base v5 QA H (ys ++ ofItems fnA l) xs5 := ⟨_, by rw [HOF.out]; exact HA1.out.push hw5 (by rw [← HYN.out]; exact hown5) ((zero_in _ _).up hH)⟩
        have HA5 := Lib.hid hA5
        have HW5 : Hid (Wrote w w5 (.slice a0 yn cc0) v5) := HW1.out.trans hw5
        clear hown5 hlies5 hw5 hA5 HA1 HOWN HNW HW1 HSZ HOF
        go_wp2_with fail
        go_ret
        exact ⟨v5, _, rfl, HA5.out, HW5.out⟩
      · have hof : ofItems fnA l = flat fnA l := by unfold ofItems; rw [if_neg (by simpa using hd)]
        rw [← hof] at hfin
        obtain ⟨m, hm⟩ : ∃ m, m = (ys ++ ofItems fnA l).length := ⟨_, rfl⟩
        obtain ⟨a1, c1, hv1⟩ : ∃ a c, v' = .slice a m c := by rw [hm]; exact owns_shape hfin.own
        have hmy : yn < m := by
          rw [hm, List.length_append, hof, HYN.out]
          have := flat_ne fnA HNE.out l hd
          omega
        have hmb : ((m : Int) == (yn : Int)) = false := by simp; omega
        subst hv1
        have HA5 := Lib.hid hfin
        clear hfin htk hof HA hd hm
        go_wp2_with fail
        go_ret
        exact ⟨_, _, rfl, HA5.out, HW.out⟩
end Go.Proofs.YtfhbjinajloecaaDoor
