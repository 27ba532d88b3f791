/- path.reachItems, from reach. -/
import Derived.Test.YtfhbjinajloecaaDoorPathAcc
namespace Go.Proofs.YtfhbjinajloecaaDoor
open Go.RowKit
open Seal
open Bson (Val)
/-- reach, of values at most so high, along these names. -/
def ReachAt (h : Nat) (p : List ByteArray) (pa : Option Addr) (pn pc : Nat) (fn : Val → Val) : Prop :=
  ∀ (Q : Nat → Prop) (x : Val) (v : Value) (w : World), VIn w Q h x v → StrsIn w pa p → Calls Tryd.prog 31 #[v, .slice pa pn pc] w (ValPost (fun g => Q g ∨ w.heap.size ≤ g) w h (fn x))
/-- What is reached in items. -/
def gather (fn : Val → Val) (l : List Val) : List Val := (l.map fn).filter fun y => decide (y.kind ≠ 0)
theorem gather_yes (fn : Val → Val) (l : List Val) (k : Nat) (hk : k < l.length) (h : (fn l[k]).kind ≠ 0) : gather fn (l.take (k + 1)) = gather fn (l.take k) ++ [fn l[k]] := by
  have e : l.take (k + 1) = l.take k ++ [l[k]] := by rw [List.take_add_one, List.getElem?_eq_getElem hk]; rfl
  unfold gather; rw [e, List.map_append, List.filter_append]; simp [h]
theorem gather_no (fn : Val → Val) (l : List Val) (k : Nat) (hk : k < l.length) (h : (fn l[k]).kind = 0) : gather fn (l.take (k + 1)) = gather fn (l.take k) := by
  have e : l.take (k + 1) = l.take k ++ [l[k]] := by rw [List.take_add_one, List.getElem?_eq_getElem hk]; rfl
  unfold gather; rw [e, List.map_append, List.filter_append]; simp [h]
theorem gather_le (fn : Val → Val) (l : List Val) (k : Nat) : (gather fn (l.take k)).length ≤ k := by
  refine Nat.le_trans (List.length_filter_le _ _) ?_
  simp; omega
theorem VIn.kind {w : World} {Q : Nat → Prop} {h : Nat} {x : Val} {k n : Int} {s : ByteArray} {v3 v4 v5 : Value} (hv : VIn w Q h x (.agg #[.int .i64 k, .int .i64 n, .string s, v3, v4, v5])) : k = x.kind := by
  cases h with
  | zero => exact hv.elim
  | succ h =>
    obtain ⟨ba, fa, la, bc, fc, lc, e, _⟩ := hv
    unfold agg at e
    injection e with e; injection e with e; injection e with e _; injection e with _ e
theorem six_new (w : World) (c0 c1 c2 c3 c4 c5 : Value) (t : TypeId) : ∀ j u, ([c0, c1, c2, c3, c4, c5] : List Value)[j]? = some u → (w.alloc (.cells #[c0, c1, c2, c3, c4, c5] t)).cell? (Addr.add ⟨w.heap.size, 0, none⟩ j) = some u := by
  intro j u hj
  rw [Addr.add_mid, Nat.zero_add, cell_of_row _ _ j _ _ _ (heap_alloc_new w _)]
  simpa using hj
theorem six_one (k n : Int) (s : ByteArray) (ba fa la : Option Addr) (bl bc fl fc ll lc : Nat) : ∀ u ∈ ([.int .i64 k, .int .i64 n, .string s, .slice ba bl bc, .slice fa fl fc, .slice la ll lc] : List Value), u.oneCell' = true := by
  intro u hu
  simp at hu
  rcases hu with rfl | rfl | rfl | rfl | rfl | rfl <;> rfl
set_option maxRecDepth 100000 in
set_option maxHeartbeats 1000000 in
theorem items_any (h : Nat) (p : List ByteArray) (pa : Option Addr) (pn pc : Nat) (fn : Val → Val) (IH0 : ReachAt h p pa pn pc fn) (Q : Nat → Prop) (la : Option Addr) (ln lc : Nat) (l : List Val) (w : World) (hn : l.length = ln) (hlb : ln ≤ 1353245080339)
    (hI : ItemsIn w Q (VIn w Q h) la l) (hp : StrsIn w pa p) :
    Calls Tryd.prog 47 #[.slice la ln lc, .slice pa pn pc] w fun e w' => ∃ a' c', e = .returned (.slice a' (gather fn l).length c') ∧ ((gather fn l).length ≤ c' ∧ c' ≤ 9223372036854775807) ∧
      ItemsIn w' (fun g => Q g ∨ w.heap.size ≤ g) (VIn w' (fun g => Q g ∨ w.heap.size ≤ g) h) a' (gather fn l) ∧ Below w.heap.size w w' := by
  obtain ⟨i0, hi, hz0, hz1, hz2⟩ := info_parts infoV6
  obtain ⟨QA, hQA⟩ : ∃ QA : Nat → Prop, QA = fun g => (Q g ∧ g < w.heap.size) ∨ w.heap.size ≤ g := ⟨_, rfl⟩
  have HQA := Lib.hid hQA
  have IH := Lib.hid IH0
  have HI := Lib.hid hI
  have HP := Lib.hid hp
  have HN := Lib.hid hn
  clear IH0 hI hp hn hQA
  go_enter Tryd.func47, Tryd.ntmps47
  go_wp2_with fail
  go_loopw [5, 11] (fun vv i wr => ∃ (k : Nat) (v : Value) (xs : List Value), k ≤ ln ∧ i = .int .i64 k ∧ v = vv ∧ Hid (Acc wr w.heap.size v QA h (gather fn (l.take k)) xs) ∧ Hid (Below w.heap.size w wr)) (fun _ i _ => ln - (intOf i).toNat)
  case atStart => exact ⟨0, _, [], Nat.zero_le _, rfl, rfl, Acc.nil _ _ _ _, Below.refl _ _⟩
  case round =>
    obtain ⟨k, v, xs, hk, rfl, rfl, HA, HB⟩ := hrel
    by_cases hlt : k < ln
    · obtain ⟨g, o, hla, _, hall⟩ := HI.out.resolve_left (fun e => by have := HN.out; rw [e] at this; simp at this; omega)
      obtain ⟨v', hsix, hV⟩ := hall k (by have := HN.out; omega)
      subst hla
      obtain ⟨ka, na, sa, ba, fa, la, bl, bc, fl, fc, ll, lc, rfl⟩ := hV.shape
      obtain ⟨y, hy⟩ : ∃ y, y = l[k]'(by have := HN.out; omega) := ⟨_, rfl⟩
      rw [← hy] at hV
      have HY := Lib.hid hy
      have HV := Lib.hid (VIn.keep ((Below.refl _ wr).alloc (Nat.le_refl _) (.cells #[.int .i64 ka, .int .i64 na, .string sa, .slice ba bl bc, .slice fa fl fc, .slice la ll lc] 32)) (VIn.keep HB.out hV.lt))
      obtain ⟨s0, s1, s2, s3, s4, s5⟩ := (hsix.keep HB.out).cells
      have HPw := Lib.hid ((HP.out.keep HB.out).keep ((Below.refl _ wr).alloc (Nat.le_refl _) (.cells #[.int .i64 ka, .int .i64 na, .string sa, .slice ba bl bc, .slice fa fl fc, .slice la ll lc] 32)))
      clear hall hsix hV hy
      go_wp2_with fail
      refine (IH.out _ y _ _ HV.out HPw.out).mono ?_
      rintro e w2 ⟨v2, rfl, hv2, hb2⟩
      obtain ⟨kd, nd, sd, bd, fd, ld, bm, bz, fm, fz, lm, lz, rfl⟩ := hv2.shape
      have HB2 : Hid (Below wr.heap.size wr w2) := ((Below.refl _ wr).alloc (Nat.le_refl _) _).trans (hb2.mono (by simp))
      have HA2 := Lib.hid (HA.out.keep HB2.out)
      have HBw2 : Hid (Below w.heap.size w w2) := HB.out.trans (HB2.out.mono HB.out.size)
      have HV2 : Hid (VIn w2 (fun g => QA g ∧ v.ownBlock ≠ some g) h (fn y) (.agg #[.int .i64 kd, .int .i64 nd, .string sd, .slice bd bm bz, .slice fd fm fz, .slice ld lm lz])) := by
        refine hv2.kept (Kept.of_below (Below.refl _ _)) (fun g hg => ?_)
        rw [HQA.out]
        have hs := HB.out.size
        rcases hg with ⟨_, hg⟩ | hg
        · refine ⟨.inl ⟨by assumption, hg⟩, fun e => ?_⟩
          have := owns_block HA.out.own e; omega
        · simp at hg
          refine ⟨.inr (by omega), fun e => ?_⟩
          have := owns_block HA.out.own e; omega
      have hkd : kd = (fn y).kind := hv2.kind
      have HKD := Lib.hid hkd
      clear s0 s1 s2 s3 s4 s5 hv2 hb2 HV HA HB HPw hkd
      by_cases h0 : kd = 0
      · subst h0
        have hg1 : gather fn (l.take (k + 1)) = gather fn (l.take k) := gather_no _ _ _ (by have := HN.out; omega) (by rw [← HY.out]; exact HKD.out.symm)
        have HA3 : Hid (Acc (w2.alloc (.cells #[.int .i64 0, .int .i64 nd, .string sd, .slice bd bm bz, .slice fd fm fz, .slice ld lm lz] 32)) w.heap.size v QA h (gather fn (l.take (k + 1))) xs) := by
          rw [hg1]; exact HA2.out.keep ((Below.refl _ w2).alloc (Nat.le_refl _) _)
        have HB3 : Hid (Below w.heap.size w (w2.alloc (.cells #[.int .i64 0, .int .i64 nd, .string sd, .slice bd bm bz, .slice fd fm fz, .slice ld lm lz] 32))) := HBw2.out.alloc HBw2.out.size _
        clear hg1
        go_wp2_with fail
        go_roundw
        case rel => exact ⟨k + 1, _, _, by omega, by go_num, rfl, HA3, HB3⟩
        case measure => simp [intOf]; omega
      · have hkb : (kd == 0) = false := by simpa using h0
        have hg1 : gather fn (l.take (k + 1)) = gather fn (l.take k) ++ [fn y] := by
          have := gather_yes fn l k (by have := HN.out; omega) (by rw [← HY.out, ← HKD.out]; exact h0)
          rw [← HY.out] at this; exact this
        have HG1 := Lib.hid hg1
        have hle := gather_le fn l k
        obtain ⟨gn, hgn⟩ : ∃ n, n = (gather fn (l.take k)).length := ⟨_, rfl⟩
        rw [← hgn] at hle
        have HGN := Lib.hid hgn
        clear hg1 hgn
        have HA3 : Hid (Acc ((w2.alloc (.cells #[.int .i64 kd, .int .i64 nd, .string sd, .slice bd bm bz, .slice fd fm fz, .slice ld lm lz] 32)).alloc (.cells #[.int .i64 kd, .int .i64 nd, .string sd, .slice bd bm bz, .slice fd fm fz, .slice ld lm lz] 32)) w.heap.size v QA h (gather fn (l.take k)) xs) := (HA2.out.keep ((Below.refl _ w2).alloc (Nat.le_refl _) _)).keep ((Below.refl _ _).alloc (Nat.le_refl _) _)
        have HV3 : Hid (VIn ((w2.alloc (.cells #[.int .i64 kd, .int .i64 nd, .string sd, .slice bd bm bz, .slice fd fm fz, .slice ld lm lz] 32)).alloc (.cells #[.int .i64 kd, .int .i64 nd, .string sd, .slice bd bm bz, .slice fd fm fz, .slice ld lm lz] 32)) (fun g => QA g ∧ v.ownBlock ≠ some g) h (fn y) (.agg #[.int .i64 kd, .int .i64 nd, .string sd, .slice bd bm bz, .slice fd fm fz, .slice ld lm lz])) := (VIn.keep ((Below.refl _ w2).alloc (Nat.le_refl _) _) HV2.out).keep ((Below.refl _ _).alloc (Nat.le_refl _) _)
        have HB3 : Hid (Below w.heap.size w ((w2.alloc (.cells #[.int .i64 kd, .int .i64 nd, .string sd, .slice bd bm bz, .slice fd fm fz, .slice ld lm lz] 32)).alloc (.cells #[.int .i64 kd, .int .i64 nd, .string sd, .slice bd bm bz, .slice fd fm fz, .slice ld lm lz] 32))) := (HBw2.out.alloc HBw2.out.size _).alloc (by have := HBw2.out.size; simp; omega) _
        have HOWN : Hid (((w2.alloc (.cells #[.int .i64 kd, .int .i64 nd, .string sd, .slice bd bm bz, .slice fd fm fz, .slice ld lm lz] 32)).alloc (.cells #[.int .i64 kd, .int .i64 nd, .string sd, .slice bd bm bz, .slice fd fm fz, .slice ld lm lz] 32)).ownsRow w.heap.size 32 6 v gn xs) := by have := HA3.out.own; rw [← HGN.out] at this; exact this
        have HNW : Hid (∀ j u, ([.int .i64 kd, .int .i64 nd, .string sd, .slice bd bm bz, .slice fd fm fz, .slice ld lm lz] : List Value)[j]? = some u → ((w2.alloc (.cells #[.int .i64 kd, .int .i64 nd, .string sd, .slice bd bm bz, .slice fd fm fz, .slice ld lm lz] 32)).alloc (.cells #[.int .i64 kd, .int .i64 nd, .string sd, .slice bd bm bz, .slice fd fm fz, .slice ld lm lz] 32)).cell? (Addr.add ⟨w2.heap.size + 1, 0, none⟩ j) = some u) := by
          have hh := six_new (w2.alloc (.cells #[.int .i64 kd, .int .i64 nd, .string sd, .slice bd bm bz, .slice fd fm fz, .slice ld lm lz] 32)) (.int .i64 kd) (.int .i64 nd) (.string sd) (.slice bd bm bz) (.slice fd fm fz) (.slice ld lm lz) 32
          have e : (w2.alloc (.cells #[.int .i64 kd, .int .i64 nd, .string sd, .slice bd bm bz, .slice fd fm fz, .slice ld lm lz] 32)).heap.size = w2.heap.size + 1 := by simp
          rw [e] at hh; exact hh
        have hsz3 : w.heap.size ≤ ((w2.alloc (.cells #[.int .i64 kd, .int .i64 nd, .string sd, .slice bd bm bz, .slice fd fm fz, .slice ld lm lz] 32)).alloc (.cells #[.int .i64 kd, .int .i64 nd, .string sd, .slice bd bm bz, .slice fd fm fz, .slice ld lm lz] 32)).heap.size := HB3.out.size
        have HSZ := Lib.hid hsz3
        clear HA2 HV2 HBw2 hsz3
        go_wp2_with (at_builtin; refine wpList_append_sz _ rfl (.tmp 21) (.tmp 23) 30 rfl w.heap.size 32 i0 (.agg #[.int .i64 0, .int .i64 0, .string ⟨#[]⟩, .slice none 0 0, .slice none 0 0, .slice none 0 0]) 6 104 Tryd.underlying30 hi hz0 hz1 hz2 rfl v gn xs rfl HOWN.out ⟨w2.heap.size + 1, 0, none⟩ 1 1 [.int .i64 kd, .int .i64 nd, .string sd, .slice bd bm bz, .slice fd fm fz, .slice ld lm lz] rfl rfl (by decide) (by decide) HNW.out (six_one _ _ _ _ _ _ _ _ _ _ _ _) (by unfold maxLen; omega) (by omega) HSZ.out ?_)
        intro v5 w5 hown5 hlies5
        have hw5 := Wrote.of_lies hlies5
        have HB5 : Hid (Below w.heap.size w w5) := HB3.out.grown hw5.1 HSZ.out (fun j hj => (owns_block HOWN.out hj).1)
        have HA5 : Hid (Acc w5 w.heap.size v5 QA h (gather fn (l.take (k + 1))) (xs ++ [.int .i64 kd, .int .i64 nd, .string sd, .slice bd bm bz, .slice fd fm fz, .slice ld lm lz])) := by
          rw [HG1.out]; exact HA3.out.push hw5 (by rw [← HGN.out]; exact hown5) HV3.out
        clear hown5 hlies5 hw5 HA3 HV3 HB3 HOWN HNW HSZ HGN HG1
        go_wp2_with fail
        go_roundw
        case rel => exact ⟨k + 1, _, _, by omega, by go_num, rfl, HA5, HB5⟩
        case measure => simp [intOf]; omega
    · have hkk : k = ln := by omega
      subst hkk
      have htk : l.take k = l := List.take_of_length_le (by rw [HN.out]; exact Nat.le_refl _)
      have hfin := HA.out
      rw [htk] at hfin
      obtain ⟨a', c', rfl, hc, hit⟩ := hfin.items (Q' := fun g => Q g ∨ w.heap.size ≤ g) (fun g hg => by rw [HQA.out] at hg; rcases hg with hg | hg; exact .inl hg.1; exact .inr hg) (fun g hg _ => .inr hg)
      have HC := Lib.hid hc; have HIT := Lib.hid hit
      clear hc hit hfin htk HA
      go_wp2_with fail
      go_ret
      exact ⟨a', c', rfl, HC.out, HIT.out, HB.out⟩
end Go.Proofs.YtfhbjinajloecaaDoor
