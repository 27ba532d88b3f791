/- path.appendItself. -/
import Derived.Test.YtfhbjinajloecaaDoorPathAccMany
namespace Go.Proofs.YtfhbjinajloecaaDoor
open Go.RowKit
open Seal
open Bson (Val)
/-- What a function that gathers values leaves: the row with more behind. -/
def AllPost (w : World) (base : Nat) (v : Value) (QA : Nat → Prop) (H : Nat) (zs : List Val) (e : Ending) (w' : World) : Prop := ∃ v' xs', e = .returned v' ∧ Acc w' base v' QA H zs xs' ∧ Wrote w w' v v'
set_option maxRecDepth 100000 in
set_option maxHeartbeats 1000000 in
theorem itself_any (H h base : Nat) (hh : h + 1 ≤ H) (v : Value) (QA : Nat → Prop) (ys : List Val) (xs : List Value) (x : Val) (u : Value) (w : World) (ha : Acc w base v QA H ys xs) (hbase : base ≤ w.heap.size)
    (hv : VIn w (fun g => QA g ∧ v.ownBlock ≠ some g) (h + 1) x u) (hN : ys.length + (Bson.itself x).length ≤ 1353245080339) :
    Calls Tryd.prog 48 #[v, u] w (AllPost w base v QA H (ys ++ Bson.itself x)) := by
  obtain ⟨i0, hi, hz0, hz1, hz2⟩ := info_parts infoV6
  obtain ⟨xk, xn, xs0, ba, fa, la, bn, bc, fn, fc, ln, lc, rfl, hxk, hrest⟩ := hv.letters
  clear hrest
  obtain ⟨yn, hyn⟩ : ∃ n, n = ys.length := ⟨_, rfl⟩
  have hlen : (Bson.itself x).length = 1 + (if x.kind = 7 then x.l.length else 0) := by
    unfold Bson.itself
    split <;> simp <;> omega
  rw [hlen, ← hyn] at hN
  have hN1 : yn + 1 ≤ 1353245080339 := by omega
  have HN := Lib.hid hN
  have HA : Hid (Acc ((w.alloc (.cells #[.int .i64 xk, .int .i64 xn, .string xs0, .slice ba bn bc, .slice fa fn fc, .slice la ln lc] 32)).alloc (.cells #[.int .i64 xk, .int .i64 xn, .string xs0, .slice ba bn bc, .slice fa fn fc, .slice la ln lc] 32)) base v QA H ys xs) := (ha.keep ((Below.refl _ w).alloc (Nat.le_refl _) _)).keep ((Below.refl _ _).alloc (Nat.le_refl _) _)
  have HOWN : Hid (((w.alloc (.cells #[.int .i64 xk, .int .i64 xn, .string xs0, .slice ba bn bc, .slice fa fn fc, .slice la ln lc] 32)).alloc (.cells #[.int .i64 xk, .int .i64 xn, .string xs0, .slice ba bn bc, .slice fa fn fc, .slice la ln lc] 32)).ownsRow base 32 6 v yn xs) := by have := HA.out.own; rw [← hyn] at this; exact this
  have HV : Hid (VIn ((w.alloc (.cells #[.int .i64 xk, .int .i64 xn, .string xs0, .slice ba bn bc, .slice fa fn fc, .slice la ln lc] 32)).alloc (.cells #[.int .i64 xk, .int .i64 xn, .string xs0, .slice ba bn bc, .slice fa fn fc, .slice la ln lc] 32)) (fun g => QA g ∧ v.ownBlock ≠ some g) (h + 1) x (.agg #[.int .i64 xk, .int .i64 xn, .string xs0, .slice ba bn bc, .slice fa fn fc, .slice la ln lc])) := (VIn.keep ((Below.refl _ w).alloc (Nat.le_refl _) _) hv).keep ((Below.refl _ _).alloc (Nat.le_refl _) _)
  have HNW : Hid (∀ j u, ([.int .i64 xk, .int .i64 xn, .string xs0, .slice ba bn bc, .slice fa fn fc, .slice la ln lc] : List Value)[j]? = some u → ((w.alloc (.cells #[.int .i64 xk, .int .i64 xn, .string xs0, .slice ba bn bc, .slice fa fn fc, .slice la ln lc] 32)).alloc (.cells #[.int .i64 xk, .int .i64 xn, .string xs0, .slice ba bn bc, .slice fa fn fc, .slice la ln lc] 32)).cell? (Addr.add ⟨w.heap.size + 1, 0, none⟩ j) = some u) := by
    have hh := six_new (w.alloc (.cells #[.int .i64 xk, .int .i64 xn, .string xs0, .slice ba bn bc, .slice fa fn fc, .slice la ln lc] 32)) (.int .i64 xk) (.int .i64 xn) (.string xs0) (.slice ba bn bc) (.slice fa fn fc) (.slice la ln lc) 32
    have e : (w.alloc (.cells #[.int .i64 xk, .int .i64 xn, .string xs0, .slice ba bn bc, .slice fa fn fc, .slice la ln lc] 32)).heap.size = w.heap.size + 1 := by simp
    rw [e] at hh; exact hh
  have HSZ : Hid (base ≤ ((w.alloc (.cells #[.int .i64 xk, .int .i64 xn, .string xs0, .slice ba bn bc, .slice fa fn fc, .slice la ln lc] 32)).alloc (.cells #[.int .i64 xk, .int .i64 xn, .string xs0, .slice ba bn bc, .slice fa fn fc, .slice la ln lc] 32)).heap.size) := by show _ ≤ _; simp; omega
  have HB2 : Hid (Below w.heap.size w ((w.alloc (.cells #[.int .i64 xk, .int .i64 xn, .string xs0, .slice ba bn bc, .slice fa fn fc, .slice la ln lc] 32)).alloc (.cells #[.int .i64 xk, .int .i64 xn, .string xs0, .slice ba bn bc, .slice fa fn fc, .slice la ln lc] 32))) := ((Below.refl _ w).alloc (Nat.le_refl _) _).alloc (by simp) _
  have HOB : Hid (v.ownBlock ≠ some w.heap.size) := fun e => by have := owns_block ha.own e; omega
  have HXK := Lib.hid hxk
  have HYN := Lib.hid hyn
  clear ha hv hN hlen hxk hyn
  go_enter Tryd.func48, Tryd.ntmps48
  go_wp2_with (at_builtin; refine wpList_append_sz _ rfl (.tmp 5) (.tmp 7) 30 rfl base 32 i0 (.agg #[.int .i64 0, .int .i64 0, .string ⟨#[]⟩, .slice none 0 0, .slice none 0 0, .slice none 0 0]) 6 104 Tryd.underlying30 hi hz0 hz1 hz2 rfl v yn xs rfl HOWN.out ⟨w.heap.size + 1, 0, none⟩ 1 1 [.int .i64 xk, .int .i64 xn, .string xs0, .slice ba bn bc, .slice fa fn fc, .slice la ln lc] rfl rfl (by decide) (by decide) HNW.out (six_one _ _ _ _ _ _ _ _ _ _ _ _) (by unfold maxLen; omega) (by omega) HSZ.out ?_)
  intro v5 w5 hown5 hlies5
  have hw5 := Wrote.of_lies hlies5
  have HW5 : Hid (Wrote w w5 v v5) := Wrote.of_below HB2.out hw5
  obtain ⟨xs5, hA5⟩ : ∃ xs5, Acc w5 base v5 QA H (ys ++ [x]) xs5 := ⟨_, HA.out.push hw5 (by rw [← HYN.out]; exact hown5) (HV.out.up hh)⟩
  have HA5 := Lib.hid hA5
  clear hA5
  have HV5 := Lib.hid (hw5.vin HV.out)
  have hk : ∀ j c, ([.int .i64 xk, .int .i64 xn, .string xs0, .slice ba bn bc, .slice fa fn fc, .slice la ln lc] : List Value)[j]? = some c → w5.cell? ⟨w.heap.size, j, none⟩ = some c := by
    intro j c hj
    have e1 : ((w.alloc (.cells #[.int .i64 xk, .int .i64 xn, .string xs0, .slice ba bn bc, .slice fa fn fc, .slice la ln lc] 32)).alloc (.cells #[.int .i64 xk, .int .i64 xn, .string xs0, .slice ba bn bc, .slice fa fn fc, .slice la ln lc] 32)).heap[w.heap.size]? = some (.cells #[.int .i64 xk, .int .i64 xn, .string xs0, .slice ba bn bc, .slice fa fn fc, .slice la ln lc] 32 (0, 0)) := (Below.heap_alloc _ _ _ (by simp)).trans (heap_alloc_new w _)
    have e2 := (hw5.1.block w.heap.size (by simp; omega) (fun e => HOB.out e.symm)).trans e1
    rw [cell_of_row w5 _ j _ _ _ e2]
    simpa using hj
  have c0 := hk 0 _ rfl
  have c5 := hk 5 _ rfl
  have HS5 : Hid (base ≤ w5.heap.size) := Nat.le_trans HSZ.out hw5.1.size
  clear hk hown5 hlies5 hw5 HA HV HOWN HNW HSZ HB2 HOB
  by_cases h7 : xk = 7
  · subst h7
    obtain ⟨hln, hI5⟩ := HV5.out.items
    obtain ⟨news, hn1, hn2, hn3, hn4⟩ := items_src' hI5 (show h ≤ H by omega)
    have hyl : (ys ++ [x]).length = yn + 1 := by rw [List.length_append, ← HYN.out]; rfl
    have HO5 : Hid (w5.ownsRow base 32 6 v5 (yn + 1) xs5) := by have := HA5.out.own; rw [hyl] at this; exact this
    have hNl : yn + (1 + ln) ≤ 1353245080339 := by have := HN.out; rw [if_pos HXK.out.symm] at this; omega
    have hit : Bson.itself x = [x] ++ x.l := by unfold Bson.itself; rw [if_pos HXK.out.symm]; rfl
    have HIT := Lib.hid hit
    rw [← hln] at hn1 hn2
    have HN1 := Lib.hid hn1; have HN2 := Lib.hid hn2; have HN3 := Lib.hid hn3; have HN4 := Lib.hid hn4; have HLN := Lib.hid hln; have HYL := Lib.hid hyl
    clear hn1 hn2 hn3 hn4 hln hI5 hyl hit
    go_wp2_with (at_builtin; refine wpList_append_any rfl (.tmp 12) (.tmp 14) 30 rfl base 32 i0 (.agg #[.int .i64 0, .int .i64 0, .string ⟨#[]⟩, .slice none 0 0, .slice none 0 0, .slice none 0 0]) 6 104 Tryd.underlying30 hi hz0 hz1 hz2 rfl v5 (yn + 1) _ rfl HO5.out la ln lc news rfl HN1.out (by decide) HN2.out HN3.out (by unfold maxLen; omega) (by omega) HS5.out ?_)
    intro v6 w6 hown6 hw6
    have HA6 : Hid (Acc w6 base v6 QA H (ys ++ [x] ++ x.l) (xs5 ++ news)) := HA5.out.append hw6 (by rw [HYL.out, ← HLN.out]; exact hown6) HN4.out (by rw [← HLN.out]; exact HN1.out)
    have HW6 : Hid (Wrote w w6 v v6) := HW5.out.trans hw6
    clear hown6 hw6
    go_wp2_with fail
    go_ret
    exact ⟨v6, _, rfl, by rw [HIT.out, ← List.append_assoc]; exact HA6.out, HW6.out⟩
  · have hkb : (xk == 7) = false := by simpa using h7
    have hit : Bson.itself x = [x] := by unfold Bson.itself; rw [if_neg (by rw [← HXK.out]; exact h7)]
    have HA5b : Hid (Acc w5 base v5 QA H (ys ++ Bson.itself x) xs5) := by rw [hit]; exact HA5.out
    clear hit h7
    go_wp2_with fail
    go_ret
    exact ⟨v5, _, rfl, HA5b.out, HW5.out⟩
end Go.Proofs.YtfhbjinajloecaaDoor
