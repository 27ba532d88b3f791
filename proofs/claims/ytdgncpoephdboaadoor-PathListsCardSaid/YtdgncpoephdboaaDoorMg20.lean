/- PathAAll. -/
import Derived.Test.YtdgncpoephdboaaDoorMg17
import Derived.Test.YtdgncpoephdboaaDoorMg18
set_option maxRecDepth 100000
section
namespace Go.Proofs.YtdgncpoephdboaaDoor
open Go.RowKit
open Seal
open Bson (Val)
set_option maxRecDepth 100000 in
set_option maxHeartbeats 300000 in
theorem aall_empty (H h : Nat) (hh : h + 1 ≤ H) (pa : Option Addr) (pc m : Nat) : AllAt H (h + 1) [] pa 0 pc (fun x => Bson.all m x []) := by
  intro base v QA ys xs x u w ha hbase hv hp hN
  simp only [Bson.all_nil] at hN ⊢
  obtain ⟨xk, xn, xs0, ba, fa, la, bn, bc, fn, fc, ln, lc, rfl, hxk, hrest⟩ := hv.letters
  clear hrest
  obtain ⟨yn, hyn⟩ : ∃ n, n = ys.length := ⟨_, rfl⟩
  have HA : Hid (Acc (w.alloc (.cells #[.int .i64 xk, .int .i64 xn, .string xs0, .slice ba bn bc, .slice fa fn fc, .slice la ln lc] 27)) base v QA H ys xs) := ha.keep ((Below.refl _ w).alloc (Nat.le_refl _) _)
  have HV : Hid (VIn (w.alloc (.cells #[.int .i64 xk, .int .i64 xn, .string xs0, .slice ba bn bc, .slice fa fn fc, .slice la ln lc] 27)) (fun g => QA g ∧ v.ownBlock ≠ some g) (h + 1) x (.agg #[.int .i64 xk, .int .i64 xn, .string xs0, .slice ba bn bc, .slice fa fn fc, .slice la ln lc])) := VIn.keep ((Below.refl _ w).alloc (Nat.le_refl _) _) hv
  have HB1 : Hid (Below w.heap.size w (w.alloc (.cells #[.int .i64 xk, .int .i64 xn, .string xs0, .slice ba bn bc, .slice fa fn fc, .slice la ln lc] 27))) := (Below.refl _ w).alloc (Nat.le_refl _) _
  have HSZ : Hid (base ≤ (w.alloc (.cells #[.int .i64 xk, .int .i64 xn, .string xs0, .slice ba bn bc, .slice fa fn fc, .slice la ln lc] 27)).heap.size) := by show _ ≤ _; simp; omega
  have CI := Lib.hid (itself_any H h base hh v QA ys xs x _ (w.alloc (.cells #[.int .i64 xk, .int .i64 xn, .string xs0, .slice ba bn bc, .slice fa fn fc, .slice la ln lc] 27)) HA.out HSZ.out HV.out hN)
  clear ha hv hp hN hxk hyn
  go_enter Tryd.func20, Tryd.ntmps20
  go_wp2_with fail
  refine CI.out.mono ?_
  rintro e w2 ⟨v2, xs2, rfl, hA2, hW2⟩
  have HA2 := Lib.hid hA2
  have HW2 : Hid (Wrote w w2 v v2) := Wrote.of_below HB1.out hW2
  clear hA2 hW2
  go_wp2_with fail
  go_ret
  exact ⟨v2, _, rfl, HA2.out, HW2.out⟩
set_option maxRecDepth 100000 in
set_option maxHeartbeats 300000 in
theorem aall_else (H h : Nat) (hH : 1 ≤ H) (p : List ByteArray) (pa : Option Addr) (pn pc m base : Nat) (v : Value) (QA : Nat → Prop) (ys : List Val) (xs : List Value) (x : Val) (u : Value) (w : World) (hp0 : p ≠ []) (hpn : p.length = pn) (h6 : x.kind ≠ 6) (h7 : x.kind ≠ 7)
    (ha : Acc w base v QA H ys xs) (hbase : base ≤ w.heap.size) (hv : VIn w (fun g => QA g ∧ v.ownBlock ≠ some g) (h + 1) x u) (hN : ys.length + (Bson.all m x p).length ≤ 1353245080339) :
    Calls Tryd.prog 20 #[v, u, .slice pa pn pc] w (AllPost w base v QA H (ys ++ Bson.all m x p)) := by
  obtain ⟨i0, hi, hz0, hz1, hz2⟩ := info_parts infoV6
  obtain ⟨xk, xn, xs0, ba, fa, la, bn, bc, fn, fc, ln, lc, rfl, hxk, hrest⟩ := hv.letters
  clear hrest
  have hpos : 0 < pn := by rw [← hpn]; exact List.length_pos_iff.2 hp0
  have hpe : ((pn : Int) == 0) = false := by simp; omega
  have k6 : (xk == 6) = false := by rw [hxk]; simpa using h6
  have k7 : (xk == 7) = false := by rw [hxk]; simpa using h7
  have hres : Bson.all m x p = [Bson.zero] := by
    cases p with
    | nil => exact absurd rfl hp0
    | cons a r => exact Bson.all_other m x a r h6 h7
  rw [hres] at hN ⊢
  obtain ⟨yn, hyn⟩ : ∃ n, n = ys.length := ⟨_, rfl⟩
  have HA : Hid (Acc (w.alloc (.cells #[.int .i64 xk, .int .i64 xn, .string xs0, .slice ba bn bc, .slice fa fn fc, .slice la ln lc] 27)) base v QA H ys xs) := ha.keep ((Below.refl _ w).alloc (Nat.le_refl _) _)
  have HV : Hid (VIn (w.alloc (.cells #[.int .i64 xk, .int .i64 xn, .string xs0, .slice ba bn bc, .slice fa fn fc, .slice la ln lc] 27)) (fun g => QA g ∧ v.ownBlock ≠ some g) (h + 1) x (.agg #[.int .i64 xk, .int .i64 xn, .string xs0, .slice ba bn bc, .slice fa fn fc, .slice la ln lc])) := VIn.keep ((Below.refl _ w).alloc (Nat.le_refl _) _) hv
  have HB1 : Hid (Below w.heap.size w (w.alloc (.cells #[.int .i64 xk, .int .i64 xn, .string xs0, .slice ba bn bc, .slice fa fn fc, .slice la ln lc] 27))) := (Below.refl _ w).alloc (Nat.le_refl _) _
  have HSZ : Hid (base ≤ (w.alloc (.cells #[.int .i64 xk, .int .i64 xn, .string xs0, .slice ba bn bc, .slice fa fn fc, .slice la ln lc] 27)).heap.size) := by show _ ≤ _; simp; omega
  have hyb : yn + 1 ≤ 1353245080339 := by rw [hyn]; simpa using hN
  have HA2 : Hid (Acc ((w.alloc (.cells #[.int .i64 xk, .int .i64 xn, .string xs0, .slice ba bn bc, .slice fa fn fc, .slice la ln lc] 27)).alloc (.cells #[.int .i64 0, .int .i64 0, .string ⟨#[]⟩, .slice none 0 0, .slice none 0 0, .slice none 0 0] 27)) base v QA H ys xs) := HA.out.keep ((Below.refl _ _).alloc (Nat.le_refl _) _)
  have HOWN : Hid (((w.alloc (.cells #[.int .i64 xk, .int .i64 xn, .string xs0, .slice ba bn bc, .slice fa fn fc, .slice la ln lc] 27)).alloc (.cells #[.int .i64 0, .int .i64 0, .string ⟨#[]⟩, .slice none 0 0, .slice none 0 0, .slice none 0 0] 27)).ownsRow base 27 6 v yn xs) := by have := HA2.out.own; rw [← hyn] at this; exact this
  have HNW : Hid (∀ j u, ([.int .i64 0, .int .i64 0, .string ⟨#[]⟩, .slice none 0 0, .slice none 0 0, .slice none 0 0] : List Value)[j]? = some u → ((w.alloc (.cells #[.int .i64 xk, .int .i64 xn, .string xs0, .slice ba bn bc, .slice fa fn fc, .slice la ln lc] 27)).alloc (.cells #[.int .i64 0, .int .i64 0, .string ⟨#[]⟩, .slice none 0 0, .slice none 0 0, .slice none 0 0] 27)).cell? (Addr.add ⟨w.heap.size + 1, 0, none⟩ j) = some u) := by
    have hh := six_new (w.alloc (.cells #[.int .i64 xk, .int .i64 xn, .string xs0, .slice ba bn bc, .slice fa fn fc, .slice la ln lc] 27)) (.int .i64 0) (.int .i64 0) (.string ⟨#[]⟩) (.slice none 0 0) (.slice none 0 0) (.slice none 0 0) 27
    have e : (w.alloc (.cells #[.int .i64 xk, .int .i64 xn, .string xs0, .slice ba bn bc, .slice fa fn fc, .slice la ln lc] 27)).heap.size = w.heap.size + 1 := by simp
    rw [e] at hh; exact hh
  have HB2 : Hid (Below w.heap.size w ((w.alloc (.cells #[.int .i64 xk, .int .i64 xn, .string xs0, .slice ba bn bc, .slice fa fn fc, .slice la ln lc] 27)).alloc (.cells #[.int .i64 0, .int .i64 0, .string ⟨#[]⟩, .slice none 0 0, .slice none 0 0, .slice none 0 0] 27))) := HB1.out.alloc (by simp) _
  have HSZ2 : Hid (base ≤ ((w.alloc (.cells #[.int .i64 xk, .int .i64 xn, .string xs0, .slice ba bn bc, .slice fa fn fc, .slice la ln lc] 27)).alloc (.cells #[.int .i64 0, .int .i64 0, .string ⟨#[]⟩, .slice none 0 0, .slice none 0 0, .slice none 0 0] 27)).heap.size) := by show _ ≤ _; simp; omega
  have HYN := Lib.hid hyn
  clear ha hv hN hxk hyn hres h6 h7 hpn hp0 HA HSZ HB1
  go_enter Tryd.func20, Tryd.ntmps20
  go_wp2_with (at_builtin; refine wpList_append_sz _ rfl (.tmp 38) (.tmp 40) 25 rfl base 27 i0 (.agg #[.int .i64 0, .int .i64 0, .string ⟨#[]⟩, .slice none 0 0, .slice none 0 0, .slice none 0 0]) 6 104 Tryd.underlying25 hi hz0 hz1 hz2 rfl v yn xs rfl HOWN.out ⟨w.heap.size + 1, 0, none⟩ 1 1 [.int .i64 0, .int .i64 0, .string ⟨#[]⟩, .slice none 0 0, .slice none 0 0, .slice none 0 0] rfl rfl (by decide) (by decide) HNW.out (six_one _ _ _ _ _ _ _ _ _ _ _ _) (by unfold maxLen; omega) (by omega) HSZ2.out ?_)
  intro v5 w5 hown5 hlies5
  have hw5 := Wrote.of_lies hlies5
  obtain ⟨xs5, hA5⟩ : ∃ xs5, Acc w5 base v5 QA H (ys ++ [Bson.zero]) xs5 := ⟨_, HA2.out.push hw5 (by rw [← HYN.out]; exact hown5) ((zero_in _ _).up hH)⟩
  have HA5 := Lib.hid hA5
  have HW5 : Hid (Wrote w w5 v v5) := Wrote.of_below HB2.out hw5
  clear hown5 hlies5 hw5 hA5 HA2 HOWN HNW HB2 HSZ2
  go_wp2_with fail
  go_ret
  exact ⟨v5, _, rfl, HA5.out, HW5.out⟩
set_option maxRecDepth 100000 in
set_option maxHeartbeats 300000 in
theorem aall_items (H h : Nat) (hH : 1 ≤ H) (p : List ByteArray) (pa : Option Addr) (pn pc m : Nat) (IH0 : AllAt H h p pa pn pc (fun y => Bson.all m y p)) (base : Nat) (v : Value) (QA : Nat → Prop) (ys : List Val) (xs : List Value) (x : Val) (u : Value) (w : World) (hp0 : p ≠ []) (hpn : p.length = pn) (h7 : x.kind = 7)
    (ha : Acc w base v QA H ys xs) (hbase : base ≤ w.heap.size) (hv : VIn w (fun g => QA g ∧ v.ownBlock ≠ some g) (h + 1) x u) (hp : StrsBy w v pa p) (hN : ys.length + (Bson.all (m + 1) x p).length ≤ 1353245080339) :
    Calls Tryd.prog 20 #[v, u, .slice pa pn pc] w (AllPost w base v QA H (ys ++ Bson.all (m + 1) x p)) := by
  obtain ⟨xk, xn, xs0, ba, fa, la, bn, bc, fn, fc, ln, lc, rfl, hxk, hxn, hxs, hbn, hfn, hln, hL, hF, hI⟩ := hv.letters
  have hpos : 0 < pn := by rw [← hpn]; exact List.length_pos_iff.2 hp0
  have hpe : ((pn : Int) == 0) = false := by simp; omega
  obtain rfl : xk = 7 := by rw [hxk, h7]
  have hll := hL.l
  have hres : Bson.all (m + 1) x p = ofItems (fun y => Bson.all m y p) x.l := by
    cases p with
    | nil => exact absurd rfl hp0
    | cons a r =>
      unfold ofItems flat docsOf
      split
      · rename_i hh; exact Bson.all_none m x a r h7 (by simpa using hh)
      · rename_i hh; exact Bson.all_list m x a r h7 (by simpa using hh)
  rw [hres] at hN ⊢
  obtain ⟨yn, hyn⟩ : ∃ n, n = ys.length := ⟨_, rfl⟩
  have HA : Hid (Acc (w.alloc (.cells #[.int .i64 7, .int .i64 xn, .string xs0, .slice ba bn bc, .slice fa fn fc, .slice la ln lc] 27)) base v QA H ys xs) := ha.keep ((Below.refl _ w).alloc (Nat.le_refl _) _)
  have HV : Hid (VIn (w.alloc (.cells #[.int .i64 7, .int .i64 xn, .string xs0, .slice ba bn bc, .slice fa fn fc, .slice la ln lc] 27)) (fun g => QA g ∧ v.ownBlock ≠ some g) (h + 1) x (.agg #[.int .i64 7, .int .i64 xn, .string xs0, .slice ba bn bc, .slice fa fn fc, .slice la ln lc])) := VIn.keep ((Below.refl _ w).alloc (Nat.le_refl _) _) hv
  have HB1 : Hid (Below w.heap.size w (w.alloc (.cells #[.int .i64 7, .int .i64 xn, .string xs0, .slice ba bn bc, .slice fa fn fc, .slice la ln lc] 27))) := (Below.refl _ w).alloc (Nat.le_refl _) _
  have HSZ : Hid (base ≤ (w.alloc (.cells #[.int .i64 7, .int .i64 xn, .string xs0, .slice ba bn bc, .slice fa fn fc, .slice la ln lc] 27)).heap.size) := by show _ ≤ _; simp; omega
  have CI := Lib.hid (aitems_any H h hH p pa pn pc _ IH0 (fun y => Bson.all_ne m y p) base v QA ys xs la ln lc x.l (w.alloc (.cells #[.int .i64 7, .int .i64 xn, .string xs0, .slice ba bn bc, .slice fa fn fc, .slice la ln lc] 27)) HA.out HSZ.out (VIn.items HV.out).2 hln.symm (by omega) (hp.keep HB1.out) hN)
  clear hxn hxs hbn hfn hln hL hF hI ha hv hp hN hxk hyn hres h7 hpn hp0 IH0 hll
  go_enter Tryd.func20, Tryd.ntmps20
  go_wp2_with fail
  refine CI.out.mono ?_
  rintro e w2 ⟨v2, xs2, rfl, hA2, hW2⟩
  have HA2 := Lib.hid hA2
  have HW2 : Hid (Wrote w w2 v v2) := Wrote.of_below HB1.out hW2
  clear hA2 hW2
  go_wp2_with fail
  go_ret
  exact ⟨v2, _, rfl, HA2.out, HW2.out⟩
end Go.Proofs.YtdgncpoephdboaaDoor
end
