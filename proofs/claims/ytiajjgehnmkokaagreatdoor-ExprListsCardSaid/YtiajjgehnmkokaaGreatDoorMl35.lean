/- RefOwnAll, ExprListsWalk. -/
import Derived.BigQuiet
import Derived.Lib.QuietBelow
import Derived.RegionTactic
import Derived.Test.YtiajjgehnmkokaaGreatDoorMl34
import Derived.Test.YtiajjgehnmkokaaGreatDoorMl33
import Derived.Test.YtiajjgehnmkokaaGreatDoorMl31
import Derived.Test.YtiajjgehnmkokaaGreatDoorMl24
import Derived.Test.YtiajjgehnmkokaaGreatDoorMl7
import Derived.Test.YtiajjgehnmkokaaGreatDoorMl0
import Derived.Test.YtiajjgehnmkokaaGreatDoorMl1
import Derived.Test.YtiajjgehnmkokaaGreatDoorMl9
set_option maxRecDepth 100000
set_option maxHeartbeats 20000000
section
namespace Go.Proofs.YtiajjgehnmkokaaGreatDoor
open Go.RowKit
open Seal
open Bson (Val)
theorem own_any (h : Nat) : OwnDo h := own_all (fun h HO d h0 h1 f => fields_do h HO d h0 h1 f) h
theorem valid_does (Q : Nat → Prop) (h : Nat) (x : Val) (v : Value) (w : World) (hv : VIn w Q (h + 1) x v) :
  Calls Tryz.prog 8 #[v] w (SmallPost w (h + 1) x) := valid_any Q h (own_any (h + 2)) x v w hv
theorem want_some {l : List Val} {n : Nat} {at_ kv : Int} {b1 : Bool} (hn : l.length = n) (h1 : b1 = (decide (at_ < 0) && decide (-(n : Int) ≤ at_))) (hk : kv = if b1 = true then at_ + n else at_) (h2 : true = (decide (0 ≤ kv) && decide (kv < (n : Int)))) : ∃ i : Nat, ∃ hi : i < l.length, kv = (i : Int) ∧ itemL l at_ = l[i] := by
 have h2' := h2.symm
 rw [Bool.and_eq_true, decide_eq_true_eq, decide_eq_true_eq] at h2'
 obtain ⟨i, rfl⟩ := Int.eq_ofNat_of_zero_le h2'.1
 have hi : i < l.length := by omega
 refine ⟨i, hi, rfl, ?_⟩
 by_cases hb : b1 = true
 ·rw [if_pos hb] at hk
  rw [hb] at h1
  have h1' := h1.symm
  rw [Bool.and_eq_true, decide_eq_true_eq, decide_eq_true_eq] at h1'
  unfold itemL
  rw [if_pos h1'.1, if_pos (by omega), show (at_ + (l.length : Int)).toNat = i by omega]
  simp [List.getD_eq_getElem?_getD, hi]
 ·rw [if_neg hb] at hk
  rw [← hk]; exact itemL_at l i hi
theorem want_none {l : List Val} {n : Nat} {at_ kv : Int} {b1 : Bool} (hn : l.length = n) (h1 : b1 = (decide (at_ < 0) && decide (-(n : Int) ≤ at_))) (hk : kv = if b1 = true then at_ + n else at_) (h2 : false = (decide (0 ≤ kv) && decide (kv < (n : Int)))) : itemL l at_ = Bson.zero := by
 have h2' := h2.symm
 rw [Bool.and_eq_false_iff, decide_eq_false_iff_not, decide_eq_false_iff_not] at h2'
 have far : ∀ j : Nat, l.length ≤ j → l.getD j Bson.zero = Bson.zero := fun j hj => by simp [List.getD_eq_getElem?_getD, List.getElem?_eq_none hj]
 unfold itemL
 by_cases hneg : at_ < 0
 ·rw [if_pos hneg]
  by_cases hin : 0 ≤ at_ + (l.length : Int)
  ·have hb : b1 = true := by rw [h1, decide_eq_true hneg, decide_eq_true (by omega)]; rfl
   rw [if_pos hb] at hk
   omega
  ·rw [if_neg hin]
 ·rw [if_neg hneg]
  have hb : ¬ b1 = true := by rw [h1, decide_eq_false hneg]; simp
  rw [if_neg hb] at hk
  exact far _ (by omega)
theorem lists10_any (hh : Nat) (Q : Nat → Prop) (a : Option Addr) (n c : Nat) (l : List Val) (at_ : Int) (ta : Option Addr) (tn tc : Nat) (ts : List ByteArray) (w : World) (hG : Ground w) (hn : l.length = n) (hlb : l.length ≤ 1353245080339) (hcap : n ≤ c ∧ c ≤ 9223372036854775807) (hI : ItemsIn w Q (VIn w Q hh) a l) (hat : -9223372036854775808 ≤ at_ ∧ at_ ≤ 9223372036854775807) (htn : ts.length = tn) (hT : StrsIn w ta ts) (htm : (tn : Int) ≤ 9223372036854775807) :
  Calls Tryz.prog 5 #[.slice a n c, .int .i64 at_, .slice ta tn tc] w fun e w' => e = .returned (.bool true) ∧ Below w.heap.size w w' := by
 have HI := Lib.hid hI
 have HT := Lib.hid hT
 have HN := Lib.hid hn
 have HTN := Lib.hid htn
 have HG := Lib.hid hG
 have HAT := Lib.hid hat
 have HCAP := Lib.hid hcap
 have CA := Lib.hid (awake10_any w hG)
 have hnn : (n : Int) ≤ 1353245080339 := by have := hn; omega
 clear hI hT hn htn hG hat hcap hlb
 go_enter Tryz.func5, Tryz.ntmps5
 go_wp2_with fail
 refine CA.out.mono ?_
 rintro e w1 ⟨rfl, hb1⟩
 have HB1 : Hid (Below w.heap.size w w1) := hb1
 clear hb1 CA
 by_cases h20 : 20 < n
 ·skip
  have h20i : (20 : Int) < (n : Int) := by omega
  go_wp2_with fail
  refine bodyPost_ret (v := .bool true) ?_ rfl ?_
  ·simp [results, Tryz.results5, go_sem, *]
  ·exact ⟨rfl, HB1.out⟩
 have h20i : ¬ (20 : Int) < (n : Int) := by omega
 by_cases h21 : 20 < tn
 ·skip
  have h21i : (20 : Int) < (tn : Int) := by omega
  go_wp2_with fail
  refine bodyPost_ret (v := .bool true) ?_ rfl ?_
  ·simp [results, Tryz.results5, go_sem, *]
  ·exact ⟨rfl, HB1.out⟩
 have h21i : ¬ (20 : Int) < (tn : Int) := by omega
 go_wp2_with fail
 go_loopw [7] (fun i wr => ∃ (k : Nat), i = .int .i64 k ∧ k ≤ n ∧ Hid (Below w.heap.size w wr)) (fun i _ => n - (intOf i).toNat)
 case atStart => exact ⟨0, rfl, Nat.zero_le _, HB1.out⟩
 case round =>
  obtain ⟨k, rfl, hk, HBr⟩ := hrel
  by_cases hlt : k < n
  ·skip
   have hkl : k < l.length := by rw [HN.out]; exact hlt
   obtain ⟨g0, o0, rfl, hq0, hall⟩ := HI.out.resolve_left (fun e => by rw [e] at hkl; cases hkl)
   obtain ⟨v1, hsix, hV⟩ := hall k hkl
   obtain ⟨jk, jm, js, b1, f1, l1, bb1, bc1, fb1, fc1, lb1, lc1, rfl⟩ := hV.shape
   obtain ⟨s0, s1, s2, s3, s4, s5⟩ := (hsix.keep HBr.out).cells
   have CV := Lib.hid (valid_does Q hh l[k] _ wr ((VIn.keep HBr.out hV).up (Nat.le_succ _)))
   clear hall hsix hV hq0
   go_wp2_with fail
   refine CV.out.mono ?_
   rintro e w2 ⟨vb, rfl, -, hb2⟩
   have HB2 : Hid (Below w.heap.size w w2) := HBr.out.trans (hb2.mono HBr.out.size)
   clear hb2 CV s0 s1 s2 s3 s4 s5
   cases vb with
   | false =>
    go_wp2_with fail
    refine bodyPost_ret (v := .bool true) ?_ rfl ?_
    ·simp [results, Tryz.results5, go_sem, *]
    ·exact ⟨rfl, HB2.out⟩
   | true =>
    go_wp2_with fail
    go_roundw
    case rel => exact ⟨k + 1, by go_num, by omega, HB2.out⟩
    case measure => simp [intOf]; omega
  ·skip
   obtain rfl : n = k := by omega
   clear hk hlt
   obtain ⟨WF, hWF⟩ : ∃ W, W = wr.alloc (.cells #[.string ⟨#[108]⟩, .int .i64 7, .int .i64 0, .string ⟨#[]⟩, .slice none 0 0, .slice none 0 0, .slice a n c] 40) := ⟨_, rfl⟩
   obtain ⟨PF, hPF⟩ : ∃ P, P = wr.heap.size := ⟨_, rfl⟩
   have hbf : Below wr.heap.size wr WF := by rw [hWF]; exact (Below.refl _ _).alloc (Nat.le_refl _) _
   have hxf : WF.heap[PF]? = some (.cells #[.string ⟨#[108]⟩, .int .i64 7, .int .i64 0, .string ⟨#[]⟩, .slice none 0 0, .slice none 0 0, .slice a n c] 40 (0, 0)) := by rw [hWF, hPF]; exact heap_alloc_new wr _
   obtain ⟨WD, hWD⟩ : ∃ W, W = WF.alloc (.cells #[.int .i64 6, .int .i64 0, .string ⟨#[]⟩, .slice none 0 0, .slice (some ⟨PF, 0, none⟩) 1 1, .slice none 0 0] 26) := ⟨_, rfl⟩
   obtain ⟨PD, hPD⟩ : ∃ P, P = WF.heap.size := ⟨_, rfl⟩
   have hbd : Below WF.heap.size WF WD := by rw [hWD]; exact (Below.refl _ _).alloc (Nat.le_refl _) _
   have hxd : IsBox WD PD (.int .i64 6) (.int .i64 0) (.string ⟨#[]⟩) (.slice none 0 0) (.slice (some ⟨PF, 0, none⟩) 1 1) (.slice none 0 0) := by rw [hWD, hPD]; exact IsBox.new WF (.int .i64 6) (.int .i64 0) (.string ⟨#[]⟩) (.slice none 0 0) (.slice (some ⟨PF, 0, none⟩) 1 1) (.slice none 0 0)
   have HQPD : Hid (PD = PF + 1) := by show _ = _; rw [hPD, hWF, hPF]; simp
   have hbw : Below w.heap.size w WF := HBr.out.trans (hbf.mono HBr.out.size)
   have hlv : VIn WF Q (hh + 1) (.mk 7 0 ⟨#[]⟩ [] [] l) (.agg #[.int .i64 7, .int .i64 0, .string ⟨#[]⟩, .slice none 0 0, .slice none 0 0, .slice a n c]) := listL_in HN.out (by omega) HCAP.out (HI.out.kept (Kept.of_below hbw) (fun _ h => h) (fun _ _ h => VIn.keep hbw h))
   have hdv : VIn WF (fun _ => True) (hh + 2) (lisD l) (.agg #[.int .i64 6, .int .i64 0, .string ⟨#[]⟩, .slice none 0 0, .slice (some ⟨PF, 0, none⟩) 1 1, .slice none 0 0]) := doc_in hxf trivial (by decide) hlv.any
   obtain ⟨WT, hWT⟩ : ∃ W, W = WD.alloc (.cells #[.int .i64 5, .int .i64 0, .string ⟨#[36, 108]⟩, .slice none 0 0, .slice none 0 0, .slice none 0 0] 26) := ⟨_, rfl⟩
   obtain ⟨PT, hPT⟩ : ∃ P, P = WD.heap.size := ⟨_, rfl⟩
   have hbt : Below WD.heap.size WD WT := by rw [hWT]; exact (Below.refl _ _).alloc (Nat.le_refl _) _
   have hxt : IsBox WT PT (.int .i64 5) (.int .i64 0) (.string ⟨#[36, 108]⟩) (.slice none 0 0) (.slice none 0 0) (.slice none 0 0) := by rw [hWT, hPT]; exact IsBox.new WD (.int .i64 5) (.int .i64 0) (.string ⟨#[36, 108]⟩) (.slice none 0 0) (.slice none 0 0) (.slice none 0 0)
   have HBT : Hid (Below w.heap.size w WT) := hbw.trans ((hbd.trans (hbt.mono hbd.size)).mono hbw.size)
   have HVD := Lib.hid (VIn.keep hbt (VIn.keep hbd hdv))
   have HXD := Lib.hid (hxd.keep hbt)
   have HXT := Lib.hid hxt
   have HWF := Lib.hid hWF
   have HPF := Lib.hid hPF
   have HWD := Lib.hid hWD
   have HWT := Lib.hid hWT
   have HPT := Lib.hid hPT
   clear hWF hPF hWD hPD hWT hPT hbf hxf hbd hxd hbt hxt hbw hlv hdv
   go_upto_region 11 with fail
   rw [← HWF.out, ← HPF.out, ← HWD.out, ← HQPD.out]
   go_upto_region 12 with fail
   rw [← HWT.out, ← HPT.out]
   have HB := HBT
   clear HBT
   obtain ⟨x0, x1, x2, x3, x4, x5⟩ := HXT.out.cells
   obtain ⟨W1, hW1⟩ : ∃ W, W = WT.alloc (.cells #[.int .i64 5, .int .i64 0, .string ⟨#[36, 108]⟩, .slice none 0 0, .slice none 0 0, .slice none 0 0, .int .i64 4, .int .i64 at_, .string ⟨#[]⟩, .slice none 0 0, .slice none 0 0, .slice none 0 0] 26) := ⟨_, rfl⟩
   obtain ⟨Q1, hQ1⟩ : ∃ P, P = WT.heap.size := ⟨_, rfl⟩
   have hbr1 : Below WT.heap.size WT W1 := by rw [hW1]; exact (Below.refl _ _).alloc (Nat.le_refl _) _
   have hxr1 : W1.heap[Q1]? = some (.cells #[.int .i64 5, .int .i64 0, .string ⟨#[36, 108]⟩, .slice none 0 0, .slice none 0 0, .slice none 0 0, .int .i64 4, .int .i64 at_, .string ⟨#[]⟩, .slice none 0 0, .slice none 0 0, .slice none 0 0] 26 (0, 0)) := by rw [hW1, hQ1]; exact heap_alloc_new WT _
   have HW1 := Lib.hid hW1
   have HP1 := Lib.hid hQ1
   clear hW1 hQ1
   have HB_ := Lib.hid (HB.out.trans (hbr1.mono HB.out.size))
   clear HB
   have HB := HB_
   clear HB_
   have HXD_ := Lib.hid (HXD.out.keep hbr1)
   clear HXD
   have HXD := HXD_
   clear HXD_
   have HXT_ := Lib.hid (HXT.out.keep hbr1)
   clear HXT
   have HXT := HXT_
   clear HXT_
   have HVD_ := Lib.hid (VIn.keep hbr1 HVD.out)
   clear HVD
   have HVD := HVD_
   clear HVD_
   have hit := two_items (Q := fun _ => True) hxr1 trivial (textL_in W1 (fun _ => True) ⟨#[36, 108]⟩ (by decide) 0) (leaf_in W1 (fun _ => True) 4 at_ (by omega) HAT.out 0)
   clear hxr1 hbr1
   have CO := Lib.hid (op10_any ⟨#[36, 97, 114, 114, 97, 121, 69, 108, 101, 109, 65, 116]⟩ (by decide) (fun _ => True) 1 _ 2 2 _ W1 rfl (by omega) ⟨by omega, by omega⟩ hit)
   clear hit
   go_wp2_with fail
   clear x0 x1 x2 x3 x4 x5
   rw [← HW1.out, ← HP1.out]
   refine CO.out.mono ?_
   rintro e v2 ⟨g13, rfl, hv, hb⟩
   have HB_ := Lib.hid (HB.out.trans (hb.mono HB.out.size))
   clear HB
   have HB := HB_
   clear HB_
   have HXD_ := Lib.hid (HXD.out.keep hb)
   clear HXD
   have HXD := HXD_
   clear HXD_
   have HXT_ := Lib.hid (HXT.out.keep hb)
   clear HXT
   have HXT := HXT_
   clear HXT_
   have HVD_ := Lib.hid (VIn.keep hb HVD.out)
   clear HVD
   have HVD := HVD_
   clear HVD_
   clear hb CO
   have CE0 := evalc_any 16 9 3 (hh + 1) (by omega) (by omega) _ (fun _ => True) (elX at_) (lisD l) _ _ _ _ _ _ _ PD v2 (HG.out.keep HB.out) hv (elX_short at_) (elX_code at_) HXD.out HVD.out
   rw [elX_eval at_ (hh + 1) l] at CE0
   have CE := Lib.hid CE0
   clear CE0 hv
   obtain ⟨z0, z1, z2, z3, z4, z5⟩ := HXD.out.cells
   go_wp2_with fail
   clear z0 z1 z2 z3 z4 z5
   refine CE.out.mono ?_
   rintro e v3 ⟨av, rfl, hav, hb⟩
   have HB_ := Lib.hid (HB.out.trans (hb.mono HB.out.size))
   clear HB
   have HB := HB_
   clear HB_
   have HXD_ := Lib.hid (HXD.out.keep hb)
   clear HXD
   have HXD := HXD_
   clear HXD_
   have HXT_ := Lib.hid (HXT.out.keep hb)
   clear HXT
   have HXT := HXT_
   clear HXT_
   have HVD_ := Lib.hid (VIn.keep hb HVD.out)
   clear HVD
   have HVD := HVD_
   clear HVD_
   clear hb CE
   obtain ⟨k1, m1, s1, b1, f1, l1, bb1, bc1, fb1, fc1, lb1, lc1, rfl⟩ := hav.shape
   obtain ⟨W4, hW4⟩ : ∃ W, W = v3.alloc (.cells #[.int .i64 k1, .int .i64 m1, .string s1, .slice b1 bb1 bc1, .slice f1 fb1 fc1, .slice l1 lb1 lc1] 26) := ⟨_, rfl⟩
   obtain ⟨Q4, hQ4⟩ : ∃ P, P = v3.heap.size := ⟨_, rfl⟩
   have hbr4 : Below v3.heap.size v3 W4 := by rw [hW4]; exact (Below.refl _ _).alloc (Nat.le_refl _) _
   have hxr4 : IsBox W4 Q4 (.int .i64 k1) (.int .i64 m1) (.string s1) (.slice b1 bb1 bc1) (.slice f1 fb1 fc1) (.slice l1 lb1 lc1) := by rw [hW4, hQ4]; exact IsBox.new v3 (.int .i64 k1) (.int .i64 m1) (.string s1) (.slice b1 bb1 bc1) (.slice f1 fb1 fc1) (.slice l1 lb1 lc1)
   have HW4 := Lib.hid hW4
   have HP4 := Lib.hid hQ4
   clear hW4 hQ4
   have HB_ := Lib.hid (HB.out.trans (hbr4.mono HB.out.size))
   clear HB
   have HB := HB_
   clear HB_
   have HXD_ := Lib.hid (HXD.out.keep hbr4)
   clear HXD
   have HXD := HXD_
   clear HXD_
   have HXT_ := Lib.hid (HXT.out.keep hbr4)
   clear HXT
   have HXT := HXT_
   clear HXT_
   have HVD_ := Lib.hid (VIn.keep hbr4 HVD.out)
   clear HVD
   have HVD := HVD_
   clear HVD_
   have HA1 := Lib.hid hxr4
   have HY1 := Lib.hid (VIn.any (VIn.keep hbr4 hav))
   clear hav hxr4 hbr4
   go_upto_region 14 with fail
   rw [← HW4.out, ← HP4.out]
   obtain ⟨x0, x1, x2, x3, x4, x5⟩ := HXT.out.cells
   obtain ⟨W5, hW5⟩ : ∃ W, W = W4.alloc (.cells #[.int .i64 5, .int .i64 0, .string ⟨#[36, 108]⟩, .slice none 0 0, .slice none 0 0, .slice none 0 0] 26) := ⟨_, rfl⟩
   obtain ⟨Q5, hQ5⟩ : ∃ P, P = W4.heap.size := ⟨_, rfl⟩
   have hbr5 : Below W4.heap.size W4 W5 := by rw [hW5]; exact (Below.refl _ _).alloc (Nat.le_refl _) _
   have hxr5 : W5.heap[Q5]? = some (.cells #[.int .i64 5, .int .i64 0, .string ⟨#[36, 108]⟩, .slice none 0 0, .slice none 0 0, .slice none 0 0] 26 (0, 0)) := by rw [hW5, hQ5]; exact heap_alloc_new W4 _
   have HW5 := Lib.hid hW5
   have HP5 := Lib.hid hQ5
   clear hW5 hQ5
   have HB_ := Lib.hid (HB.out.trans (hbr5.mono HB.out.size))
   clear HB
   have HB := HB_
   clear HB_
   have HXD_ := Lib.hid (HXD.out.keep hbr5)
   clear HXD
   have HXD := HXD_
   clear HXD_
   have HXT_ := Lib.hid (HXT.out.keep hbr5)
   clear HXT
   have HXT := HXT_
   clear HXT_
   have HVD_ := Lib.hid (VIn.keep hbr5 HVD.out)
   clear HVD
   have HVD := HVD_
   clear HVD_
   have HA1_ := Lib.hid (HA1.out.keep hbr5)
   clear HA1
   have HA1 := HA1_
   clear HA1_
   have HY1_ := Lib.hid (VIn.keep hbr5 HY1.out)
   clear HY1
   have HY1 := HY1_
   clear HY1_
   have hit := one_items (Q := fun _ => True) hxr5 trivial (textL_in W5 (fun _ => True) ⟨#[36, 108]⟩ (by decide) 0)
   clear hxr5 hbr5
   have CO := Lib.hid (op10_any ⟨#[36, 115, 105, 122, 101]⟩ (by decide) (fun _ => True) 1 _ 1 1 _ W5 rfl (by omega) ⟨by omega, by omega⟩ hit)
   clear hit
   go_wp2_with fail
   clear x0 x1 x2 x3 x4 x5
   rw [← HW5.out, ← HP5.out]
   refine CO.out.mono ?_
   rintro e v6 ⟨g14, rfl, hv, hb⟩
   have HB_ := Lib.hid (HB.out.trans (hb.mono HB.out.size))
   clear HB
   have HB := HB_
   clear HB_
   have HXD_ := Lib.hid (HXD.out.keep hb)
   clear HXD
   have HXD := HXD_
   clear HXD_
   have HXT_ := Lib.hid (HXT.out.keep hb)
   clear HXT
   have HXT := HXT_
   clear HXT_
   have HVD_ := Lib.hid (VIn.keep hb HVD.out)
   clear HVD
   have HVD := HVD_
   clear HVD_
   have HA1_ := Lib.hid (HA1.out.keep hb)
   clear HA1
   have HA1 := HA1_
   clear HA1_
   have HY1_ := Lib.hid (VIn.keep hb HY1.out)
   clear HY1
   have HY1 := HY1_
   clear HY1_
   clear hb CO
   have CE0 := evalc_any 16 9 3 (hh + 1) (by omega) (by omega) _ (fun _ => True) (szX) (lisD l) _ _ _ _ _ _ _ PD v6 (HG.out.keep HB.out) hv (szX_short) (szX_code) HXD.out HVD.out
   rw [szX_eval (hh + 1) l] at CE0
   have CE := Lib.hid CE0
   clear CE0 hv
   obtain ⟨z0, z1, z2, z3, z4, z5⟩ := HXD.out.cells
   go_wp2_with fail
   clear z0 z1 z2 z3 z4 z5
   refine CE.out.mono ?_
   rintro e v7 ⟨av, rfl, hav, hb⟩
   have HB_ := Lib.hid (HB.out.trans (hb.mono HB.out.size))
   clear HB
   have HB := HB_
   clear HB_
   have HXD_ := Lib.hid (HXD.out.keep hb)
   clear HXD
   have HXD := HXD_
   clear HXD_
   have HXT_ := Lib.hid (HXT.out.keep hb)
   clear HXT
   have HXT := HXT_
   clear HXT_
   have HVD_ := Lib.hid (VIn.keep hb HVD.out)
   clear HVD
   have HVD := HVD_
   clear HVD_
   have HA1_ := Lib.hid (HA1.out.keep hb)
   clear HA1
   have HA1 := HA1_
   clear HA1_
   have HY1_ := Lib.hid (VIn.keep hb HY1.out)
   clear HY1
   have HY1 := HY1_
   clear HY1_
   clear hb CE
   obtain ⟨k2, m2, s2, b2, f2, l2, bb2, bc2, fb2, fc2, lb2, lc2, rfl⟩ := hav.shape
   obtain ⟨W8, hW8⟩ : ∃ W, W = v7.alloc (.cells #[.int .i64 k2, .int .i64 m2, .string s2, .slice b2 bb2 bc2, .slice f2 fb2 fc2, .slice l2 lb2 lc2] 26) := ⟨_, rfl⟩
   obtain ⟨Q8, hQ8⟩ : ∃ P, P = v7.heap.size := ⟨_, rfl⟩
   have hbr8 : Below v7.heap.size v7 W8 := by rw [hW8]; exact (Below.refl _ _).alloc (Nat.le_refl _) _
   have hxr8 : IsBox W8 Q8 (.int .i64 k2) (.int .i64 m2) (.string s2) (.slice b2 bb2 bc2) (.slice f2 fb2 fc2) (.slice l2 lb2 lc2) := by rw [hW8, hQ8]; exact IsBox.new v7 (.int .i64 k2) (.int .i64 m2) (.string s2) (.slice b2 bb2 bc2) (.slice f2 fb2 fc2) (.slice l2 lb2 lc2)
   have HW8 := Lib.hid hW8
   have HP8 := Lib.hid hQ8
   clear hW8 hQ8
   have HB_ := Lib.hid (HB.out.trans (hbr8.mono HB.out.size))
   clear HB
   have HB := HB_
   clear HB_
   have HXD_ := Lib.hid (HXD.out.keep hbr8)
   clear HXD
   have HXD := HXD_
   clear HXD_
   have HXT_ := Lib.hid (HXT.out.keep hbr8)
   clear HXT
   have HXT := HXT_
   clear HXT_
   have HVD_ := Lib.hid (VIn.keep hbr8 HVD.out)
   clear HVD
   have HVD := HVD_
   clear HVD_
   have HA1_ := Lib.hid (HA1.out.keep hbr8)
   clear HA1
   have HA1 := HA1_
   clear HA1_
   have HY1_ := Lib.hid (VIn.keep hbr8 HY1.out)
   clear HY1
   have HY1 := HY1_
   clear HY1_
   have HA2 := Lib.hid hxr8
   have HY2 := Lib.hid (VIn.any (VIn.keep hbr8 hav))
   clear hav hxr8 hbr8
   have hm2 : m2 = (l.length : Int) := (VIn.leaf HY2.out).2.1
   rw [HN.out] at hm2
   have HM2 := Lib.hid hm2
   clear hm2
   go_upto_region 15 with fail
   rw [← HW8.out, ← HP8.out]
   obtain ⟨bq1, hb1e⟩ : ∃ z, z = (decide (at_ < 0) && decide (-(n : Int) ≤ at_)) := ⟨_, rfl⟩
   obtain ⟨kv, hkv⟩ : ∃ z : Int, z = if bq1 = true then at_ + n else at_ := ⟨_, rfl⟩
   have HB1E := Lib.hid hb1e
   have HKV := Lib.hid hkv
   have hat1 := HAT.out.1
   have hat2 := HAT.out.2
   clear hb1e hkv
   go_upto_region 16 with fail
   go_cut [81] from 73 to 80 (fun u W => u = .bool bq1 ∧ W = W8)
   case first =>
    by_cases h1 : at_ < 0
    ·skip
     by_cases h2 : -(n : Int) ≤ at_
     ·skip
      have eb : bq1 = true := by rw [HB1E.out, decide_eq_true h1, decide_eq_true h2]; rfl
      subst eb
      go_wp2_with fail
      go_meet
      exact ⟨rfl, rfl⟩
     ·skip
      have eb : bq1 = false := by rw [HB1E.out, decide_eq_true h1, decide_eq_false h2]; rfl
      subst eb
      go_wp2_with fail
      go_meet
      exact ⟨rfl, rfl⟩
    ·skip
     have eb : bq1 = false := by rw [HB1E.out, decide_eq_false h1]; rfl
     subst eb
     go_wp2_with fail
     go_meet
     exact ⟨rfl, rfl⟩
   case rest =>
   obtain ⟨rfl, hwc⟩ := hcut
   rw [hwc]
   clear hwc
   go_upto_if 81 with fail
   go_cut [15] from 82 to 85 (fun u W => u = .int .i64 kv ∧ W = W8)
   case first =>
    cases bq1 with
    | true =>
     have hk1 : kv = at_ + n := by rw [HKV.out]; rfl
     have h1 : at_ < 0 := by have := HB1E.out; simp at this; exact this.1
     subst hk1
     go_wp2_with fail
     go_meet
     exact ⟨by go_num, rfl⟩
    | false =>
     have hk1 : kv = at_ := by rw [HKV.out]; rfl
     subst hk1
     go_wp2_with fail
     go_meet
     exact ⟨rfl, rfl⟩
   case rest =>
   obtain ⟨rfl, hwc⟩ := hcut
   rw [hwc]
   clear hwc
   obtain ⟨W9, hW9⟩ : ∃ W, W = W8.alloc (.cells #[.int .i64 0, .int .i64 0, .string ⟨#[]⟩, .slice none 0 0, .slice none 0 0, .slice none 0 0] 26) := ⟨_, rfl⟩
   obtain ⟨Q9, hQ9⟩ : ∃ P, P = W8.heap.size := ⟨_, rfl⟩
   have hbz : Below W8.heap.size W8 W9 := by rw [hW9]; exact (Below.refl _ _).alloc (Nat.le_refl _) _
   have hxz : IsBox W9 Q9 (.int .i64 0) (.int .i64 0) (.string ⟨#[]⟩) (.slice none 0 0) (.slice none 0 0) (.slice none 0 0) := by rw [hW9, hQ9]; exact IsBox.new W8 (.int .i64 0) (.int .i64 0) (.string ⟨#[]⟩) (.slice none 0 0) (.slice none 0 0) (.slice none 0 0)
   have HWZ := Lib.hid hW9
   have HQZ := Lib.hid hQ9
   have HXZ := Lib.hid hxz
   have HBZ : Hid (Below W8.heap.size W8 W9) := hbz
   clear hW9 hQ9 hxz hbz
   go_upto_region 19 with fail
   rw [← HWZ.out, ← HQZ.out]
   obtain ⟨bq2, hb2e⟩ : ∃ z, z = (decide (0 ≤ kv) && decide (kv < (n : Int))) := ⟨_, rfl⟩
   have HB2E := Lib.hid hb2e
   clear hb2e
   have hkvl : -9223372036854775808 ≤ kv ∧ kv ≤ 9223372036854775807 := by
    rw [HKV.out]
    by_cases hb : bq1 = true
    ·rw [if_pos hb]
     have h9 := HB1E.out
     rw [hb] at h9
     have h9 := h9.symm
     rw [Bool.and_eq_true, decide_eq_true_eq] at h9
     omega
    ·rw [if_neg hb]; omega
   go_cut [94] from 87 to 93 (fun u W => u = .bool bq2 ∧ W = W9)
   case first =>
    by_cases h1 : 0 ≤ kv
    ·skip
     by_cases h2 : kv < (n : Int)
     ·skip
      have eb : bq2 = true := by rw [HB2E.out, decide_eq_true h1, decide_eq_true h2]; rfl
      subst eb
      go_wp2_with fail
      go_meet
      exact ⟨rfl, rfl⟩
     ·skip
      have eb : bq2 = false := by rw [HB2E.out, decide_eq_true h1, decide_eq_false h2]; rfl
      subst eb
      go_wp2_with fail
      go_meet
      exact ⟨rfl, rfl⟩
    ·skip
     have eb : bq2 = false := by rw [HB2E.out, decide_eq_false h1]; rfl
     subst eb
     go_wp2_with fail
     go_meet
     exact ⟨rfl, rfl⟩
   case rest =>
   obtain ⟨rfl, hwc⟩ := hcut
   rw [hwc]
   clear hwc
   go_upto_if 94 with fail
   go_cut [] from 95 to 98 (fun W => Hid (Below W8.heap.size W8 W ∧ ∃ c0 c1 c2 c3 c4 c5, IsBox W Q9 c0 c1 c2 c3 c4 c5 ∧ VIn W (fun _ => True) (hh + 1) (itemL l at_) (.agg #[c0, c1, c2, c3, c4, c5])))
   case first =>
    cases bq2 with
    | false =>
     have hw : itemL l at_ = Bson.zero := want_none (HN.out) HB1E.out HKV.out HB2E.out
     have HFACT : Hid (Below W8.heap.size W8 W9 ∧ ∃ c0 c1 c2 c3 c4 c5, IsBox W9 Q9 c0 c1 c2 c3 c4 c5 ∧ VIn W9 (fun _ => True) (hh + 1) (itemL l at_) (.agg #[c0, c1, c2, c3, c4, c5])) := ⟨HBZ.out, _, _, _, _, _, _, HXZ.out, by rw [hw]; exact (zero_in _ _).up (by omega)⟩
     clear hw
     go_wp2_with fail
     go_meet
     exact HFACT
    | true =>
     obtain ⟨i, hil, hki, hw⟩ := want_some HN.out HB1E.out HKV.out HB2E.out
     obtain ⟨g0, o0, rfl, hq0, hall⟩ := HI.out.resolve_left (fun e => by rw [e] at hil; cases hil)
     obtain ⟨v1, hsix, hV⟩ := hall i hil
     obtain ⟨jk, jm, js, e1, f1, l1, ee1, ec1, fb1, fc1, lb1, lc1, rfl⟩ := hV.shape
     have hbz : Below w.heap.size w W9 := HB.out.trans (HBZ.out.mono HB.out.size)
     obtain ⟨s0, s1, s2, s3, s4, s5⟩ := (hsix.keep hbz).cells
     obtain ⟨r0, r1, r2, r3, r4, r5⟩ := HXZ.out.cells
     obtain ⟨q0, q1, q2, q3, q4, q5⟩ := HXZ.out.thaw
     have hin : (i : Int) < (n : Int) := by have := HN.out; omega
     have hbf := puts_below (G := Q9) HBZ.out (by rw [HQZ.out]; exact Nat.le_refl _) [Value.int .i64 jk, .int .i64 jm, .string js, .slice e1 ee1 ec1, .slice f1 fb1 fc1, .slice l1 lb1 lc1] 0
     have HFACT : Hid (Below W8.heap.size W8 (puts W9 Q9 0 [.int .i64 jk, .int .i64 jm, .string js, .slice e1 ee1 ec1, .slice f1 fb1 fc1, .slice l1 lb1 lc1]) ∧ ∃ c0 c1 c2 c3 c4 c5, IsBox (puts W9 Q9 0 [.int .i64 jk, .int .i64 jm, .string js, .slice e1 ee1 ec1, .slice f1 fb1 fc1, .slice l1 lb1 lc1]) Q9 c0 c1 c2 c3 c4 c5 ∧ VIn (puts W9 Q9 0 [.int .i64 jk, .int .i64 jm, .string js, .slice e1 ee1 ec1, .slice f1 fb1 fc1, .slice l1 lb1 lc1]) (fun _ => True) (hh + 1) (itemL l at_) (.agg #[c0, c1, c2, c3, c4, c5])) :=
      ⟨hbf, _, _, _, _, _, _, HXZ.out.put _ _ _ _ _ _, by rw [hw]; exact ((VIn.keep (HB.out.trans (hbf.mono HB.out.size)) hV).any).up (Nat.le_succ _)⟩
     subst hki
     clear hall hsix hV hw hq0 hbz hbf
     go_wp2_with fail
     go_meet
     exact HFACT
   case rest =>
   obtain ⟨hbw, c0, c1, c2, c3, c4, c5, hxw, hvw⟩ := hcut.out
   have HB_ := Lib.hid (HB.out.trans (hbw.mono HB.out.size))
   clear HB
   have HB := HB_
   clear HB_
   have HXD_ := Lib.hid (HXD.out.keep hbw)
   clear HXD
   have HXD := HXD_
   clear HXD_
   have HXT_ := Lib.hid (HXT.out.keep hbw)
   clear HXT
   have HXT := HXT_
   clear HXT_
   have HVD_ := Lib.hid (VIn.keep hbw HVD.out)
   clear HVD
   have HVD := HVD_
   clear HVD_
   have HA1_ := Lib.hid (HA1.out.keep hbw)
   clear HA1
   have HA1 := HA1_
   clear HA1_
   have HY1_ := Lib.hid (VIn.keep hbw HY1.out)
   clear HY1
   have HY1 := HY1_
   clear HY1_
   have HA2_ := Lib.hid (HA2.out.keep hbw)
   clear HA2
   have HA2 := HA2_
   clear HA2_
   have HY2_ := Lib.hid (VIn.keep hbw HY2.out)
   clear HY2
   have HY2 := HY2_
   clear HY2_
   have HA3 := Lib.hid hxw
   have HY3 := Lib.hid hvw
   clear hbw hxw hvw hcut
   have hsum0 : (0 : Nat) ≤ 2000 := by omega
   go_wp2_with fail
   go_loopw [17, 18, 19] (fun av sv i wq => ∃ (k : Nat) (s : ByteArray) (xs : List Value), i = .int .i64 k ∧ sv = .string s ∧ k ≤ tn ∧ Hid (s = joinB (ts.take k)) ∧ Hid (s.size ≤ k * 100) ∧ Hid (∀ i (hi : i < k) (hi2 : i < ts.length), ts[i].size ≤ 100) ∧ Hid (Acc wq wc.heap.size av (fun g => wc.heap.size ≤ g) 2 ((ts.take k).map litX) xs) ∧ Hid (Below wc.heap.size wc wq)) (fun _ _ i _ => tn - (intOf i).toNat)
   case atStart => exact ⟨0, ⟨#[]⟩, [], rfl, rfl, Nat.zero_le _, rfl, Nat.le_refl _, fun _ h => absurd h (Nat.not_lt_zero _), Acc.nil _ _ _ _, Below.refl _ _⟩
   case round =>
   obtain ⟨k, s, xs, rfl, rfl, hk, HSJ, HSZ, HSH, HAC, HBQ⟩ := hrel
   by_cases hlt : k < tn
   ·skip
    have hkt : k < ts.length := by rw [HTN.out]; exact hlt
    obtain ⟨g0, o0, rfl, hall⟩ := HT.out.resolve_left (fun e => by rw [e] at hkt; cases hkt)
    have hbq : Below w.heap.size w wr := HB.out.trans (HBQ.out.mono HB.out.size)
    have ct := cell_keep hbq (hall k hkt)
    obtain ⟨tx, htx⟩ : ∃ z, z = ts[k] := ⟨_, rfl⟩
    rw [← htx] at ct
    have HTX := Lib.hid htx
    clear hall htx
    by_cases hbig : 100 < tx.size
    ·skip
     have hbigi : (100 : Int) < (tx.size : Int) := by omega
     have HBW := Lib.hid hbq
     clear hbq
     go_wp2_with fail
     refine bodyPost_ret (v := .bool true) ?_ rfl ?_
     ·simp [results, Tryz.results5, go_sem, *]
     ·exact ⟨rfl, HBW.out⟩
    have hbigi : ¬ (100 : Int) < (tx.size : Int) := by omega
    obtain ⟨WA, hWA⟩ : ∃ W, W = wr.alloc (.cells #[.string ⟨#[36, 108, 105, 116, 101, 114, 97, 108]⟩, .int .i64 5, .int .i64 0, .string tx, .slice none 0 0, .slice none 0 0, .slice none 0 0] 40) := ⟨_, rfl⟩
    obtain ⟨QA, hQA⟩ : ∃ P, P = wr.heap.size := ⟨_, rfl⟩
    have hbla : Below wr.heap.size wr WA := by rw [hWA]; exact (Below.refl _ _).alloc (Nat.le_refl _) _
    have hxla : WA.heap[QA]? = some (.cells #[.string ⟨#[36, 108, 105, 116, 101, 114, 97, 108]⟩, .int .i64 5, .int .i64 0, .string tx, .slice none 0 0, .slice none 0 0, .slice none 0 0] 40 (0, 0)) := by rw [hWA, hQA]; exact heap_alloc_new wr _
    obtain ⟨WB, hWB⟩ : ∃ W, W = WA.alloc (.cells #[.int .i64 6, .int .i64 0, .string ⟨#[]⟩, .slice none 0 0, .slice (some ⟨QA, 0, none⟩) 1 1, .slice none 0 0] 26) := ⟨_, rfl⟩
    obtain ⟨QB, hQB⟩ : ∃ P, P = WA.heap.size := ⟨_, rfl⟩
    have hblb : Below WA.heap.size WA WB := by rw [hWB]; exact (Below.refl _ _).alloc (Nat.le_refl _) _
    have hxlb : WB.heap[QB]? = some (.cells #[.int .i64 6, .int .i64 0, .string ⟨#[]⟩, .slice none 0 0, .slice (some ⟨QA, 0, none⟩) 1 1, .slice none 0 0] 26 (0, 0)) := by rw [hWB, hQB]; exact heap_alloc_new WA _
    have HQQB : Hid (QB = QA + 1) := by show _ = _; rw [hQB, hWA, hQA]; simp
    have hqa : QA = wr.heap.size := hQA
    have hlv : VIn WB (fun g => wc.heap.size ≤ g ∧ u17.ownBlock ≠ some g) 2 (litX tx) (.agg #[.int .i64 6, .int .i64 0, .string ⟨#[]⟩, .slice none 0 0, .slice (some ⟨QA, 0, none⟩) 1 1, .slice none 0 0]) := doc_in ((hblb.block QA (Array.getElem?_eq_some_iff.1 hxla).1).trans hxla) ⟨by rw [hqa]; exact HBQ.out.size, fun e => by have := (owns_block HAC.out.own e).2; omega⟩ (by decide) (textL_in WB _ tx (by omega) 0)
    have hab := hbla.trans (hblb.mono hbla.size)
    have HACB := Lib.hid (HAC.out.keep hab)
    have HBQB : Hid (Below wc.heap.size wc WB) := HBQ.out.trans (hab.mono HBQ.out.size)
    have HLV := Lib.hid hlv
    have hml : ((ts.take k).map litX).length = k := by rw [List.length_map, List.length_take]; omega
    have hown : WB.ownsRow wc.heap.size 26 6 u17 k xs := by have := HACB.out.own; rw [hml] at this; exact this
    have HOWN := Lib.hid hown
    have HML := Lib.hid hml
    have HNW : Hid (∀ j u, ([.int .i64 6, .int .i64 0, .string ⟨#[]⟩, .slice none 0 0, .slice (some ⟨QA, 0, none⟩) 1 1, .slice none 0 0] : List Value)[j]? = some u → WB.cell? (Addr.add ⟨QB, 0, none⟩ j) = some u) := fun j u hj => by rw [Addr.add_mid, Nat.zero_add, cell_of_row _ _ j _ _ _ hxlb]; simpa using hj
    have HSB := Lib.hid HBQB.out.size
    have HWA := Lib.hid hWA
    have HQA2 := Lib.hid hQA
    have HWB := Lib.hid hWB
    clear hWA hQA hWB hQB hbla hxla hblb hxlb hqa hlv hab hown hml hbq
    obtain ⟨i0, hi0, hz0, hz1, hz2⟩ := info_parts infoV6
    go_wp2_with (at_builtin; rw [← HWA.out, ← HQA2.out, ← HWB.out, ← HQQB.out]; refine wpList_append_sz _ rfl (.tmp 111) (.tmp 120) 24 rfl wc.heap.size 26 i0 (.agg #[.int .i64 0, .int .i64 0, .string ⟨#[]⟩, .slice none 0 0, .slice none 0 0, .slice none 0 0]) 6 104 Tryz.underlying24 hi0 hz0 hz1 hz2 rfl u17 k xs rfl HOWN.out ⟨QB, 0, none⟩ 1 1 [.int .i64 6, .int .i64 0, .string ⟨#[]⟩, .slice none 0 0, .slice (some ⟨QA, 0, none⟩) 1 1, .slice none 0 0] rfl rfl (by decide) (by decide) HNW.out (six_one _ _ _ _ _ _ _ _ _ _ _ _) (by unfold maxLen; omega) (by omega) HSB.out ?_)
    intro v5 w5 hown5 hlies5
    have hw5 := Wrote.of_lies hlies5
    have HB5 : Hid (Below wc.heap.size wc w5) := HBQB.out.grown hw5.1 HSB.out (fun j hj => (owns_block HOWN.out hj).1)
    have htk : (ts.take (k + 1)).map litX = (ts.take k).map litX ++ [litX tx] := by rw [List.take_succ_eq_append_getElem hkt, List.map_append, HTX.out]; rfl
    have HA5 : Hid (Acc w5 wc.heap.size v5 (fun g => wc.heap.size ≤ g) 2 ((ts.take (k + 1)).map litX) (xs ++ [.int .i64 6, .int .i64 0, .string ⟨#[]⟩, .slice none 0 0, .slice (some ⟨QA, 0, none⟩) 1 1, .slice none 0 0])) := by rw [htk]; exact HACB.out.push hw5 (by rw [HML.out]; exact hown5) HLV.out
    have HSJ5 : Hid (s ++ tx = joinB (ts.take (k + 1))) := by show _ = _; rw [List.take_succ_eq_append_getElem hkt, joinB_snoc, ← HSJ.out, HTX.out]
    have HSZ5 : Hid ((s ++ tx).size ≤ (k + 1) * 100) := by have := HSZ.out; show _ ≤ _; rw [ByteArray.size_append]; omega
    have HSH5 : Hid (∀ i (hi : i < k + 1) (hi2 : i < ts.length), ts[i].size ≤ 100) := fun i hi hi2 => by
     by_cases e : i = k
     ·subst e; rw [← HTX.out]; omega
     ·exact HSH.out i (by omega) hi2
    have hssz : s.size + tx.size ≤ 140737488355328 := by have := HSZ.out; omega
    clear hown5 hlies5 hw5 htk HACB HBQB HOWN HNW HSB HLV
    have ct5 := cell_keep (HB.out.trans (HB5.out.mono HB.out.size)) (HT.out.resolve_left (fun e => by rw [e] at hkt; cases hkt) |> fun ⟨g1, o1, e1, h1⟩ => by injection e1 with e1; injection e1 with e1 e2; subst e1; subst e2; exact h1 k hkt)
    rw [← HTX.out] at ct5
    clear ct
    go_wp2_with fail
    go_roundw
    case rel => exact ⟨k + 1, s ++ tx, _, by go_num, rfl, by omega, HSJ5.out, HSZ5.out, HSH5.out, HA5.out, HB5.out⟩
    case measure => simp [intOf]; omega
   ·skip
    obtain rfl : tn = k := by omega
    clear hk hlt
    have HB_ := Lib.hid (HB.out.trans (HBQ.out.mono HB.out.size))
    clear HB
    have HB := HB_
    clear HB_
    have HXD_ := Lib.hid (HXD.out.keep HBQ.out)
    clear HXD
    have HXD := HXD_
    clear HXD_
    have HXT_ := Lib.hid (HXT.out.keep HBQ.out)
    clear HXT
    have HXT := HXT_
    clear HXT_
    have HVD_ := Lib.hid (VIn.keep HBQ.out HVD.out)
    clear HVD
    have HVD := HVD_
    clear HVD_
    have HA1_ := Lib.hid (HA1.out.keep HBQ.out)
    clear HA1
    have HA1 := HA1_
    clear HA1_
    have HY1_ := Lib.hid (VIn.keep HBQ.out HY1.out)
    clear HY1
    have HY1 := HY1_
    clear HY1_
    have HA2_ := Lib.hid (HA2.out.keep HBQ.out)
    clear HA2
    have HA2 := HA2_
    clear HA2_
    have HY2_ := Lib.hid (VIn.keep HBQ.out HY2.out)
    clear HY2
    have HY2 := HY2_
    clear HY2_
    have HA3_ := Lib.hid (HA3.out.keep HBQ.out)
    clear HA3
    have HA3 := HA3_
    clear HA3_
    have HY3_ := Lib.hid (VIn.keep HBQ.out HY3.out)
    clear HY3
    have HY3 := HY3_
    clear HY3_
    have hts : ts.take tn = ts := List.take_of_length_le (by rw [HTN.out]; exact Nat.le_refl _)
    have hsj := HSJ.out
    rw [hts] at hsj
    have hac := HAC.out
    rw [hts] at hac
    have hls : ts.length ≤ 20 := by rw [HTN.out]; omega
    have hsh : ∀ t ∈ ts, t.size ≤ 100 := fun t ht => by
     obtain ⟨i, hi, rfl⟩ := List.getElem_of_mem ht
     exact HSH.out i (by rw [← HTN.out]; exact hi) hi
    have HSJ2 := Lib.hid hsj
    have HLS : Hid (ts.length ≤ 20) := hls
    have HSHA : Hid (∀ t ∈ ts, t.size ≤ 100) := hsh
    obtain ⟨la, lcap, hu, hlc, hlit⟩ := hac.items (Q' := fun _ => True) (fun _ _ => trivial) (fun _ _ _ => trivial)
    rw [List.length_map, HTN.out] at hu hlc
    have HLC := Lib.hid hlc
    have HLIT := Lib.hid hlit
    subst hu
    clear hts hsj hac hls hsh hlc hlit HSJ HSZ HSH HAC
    have hit := HLIT.out
    have CO := Lib.hid (op10_any ⟨#[36, 99, 111, 110, 99, 97, 116]⟩ (by decide) (fun _ => True) 2 la tn lcap (ts.map litX) wr (by rw [List.length_map]; exact HTN.out) (by omega) HLC.out hit)
    clear hit
    go_wp2_with fail
    refine CO.out.mono ?_
    rintro e v51 ⟨g30, rfl, hv, hb⟩
    have HB_ := Lib.hid (HB.out.trans (hb.mono HB.out.size))
    clear HB
    have HB := HB_
    clear HB_
    have HXD_ := Lib.hid (HXD.out.keep hb)
    clear HXD
    have HXD := HXD_
    clear HXD_
    have HXT_ := Lib.hid (HXT.out.keep hb)
    clear HXT
    have HXT := HXT_
    clear HXT_
    have HVD_ := Lib.hid (VIn.keep hb HVD.out)
    clear HVD
    have HVD := HVD_
    clear HVD_
    have HA1_ := Lib.hid (HA1.out.keep hb)
    clear HA1
    have HA1 := HA1_
    clear HA1_
    have HY1_ := Lib.hid (VIn.keep hb HY1.out)
    clear HY1
    have HY1 := HY1_
    clear HY1_
    have HA2_ := Lib.hid (HA2.out.keep hb)
    clear HA2
    have HA2 := HA2_
    clear HA2_
    have HY2_ := Lib.hid (VIn.keep hb HY2.out)
    clear HY2
    have HY2 := HY2_
    clear HY2_
    have HA3_ := Lib.hid (HA3.out.keep hb)
    clear HA3
    have HA3 := HA3_
    clear HA3_
    have HY3_ := Lib.hid (VIn.keep hb HY3.out)
    clear HY3
    have HY3 := HY3_
    clear HY3_
    clear hb CO
    have CE0 := evalc_any 16 12 4 (hh + 1) (by omega) (by omega) _ (fun _ => True) (catX ts) (lisD l) _ _ _ _ _ _ _ PD v51 (HG.out.keep HB.out) hv (catX_short ts HSHA.out) (catX_code ts HLS.out) HXD.out HVD.out
    rw [catX_eval ts HLS.out HSHA.out (hh + 1) (lisD l)] at CE0
    have CE := Lib.hid CE0
    clear CE0 hv
    obtain ⟨z0, z1, z2, z3, z4, z5⟩ := HXD.out.cells
    go_wp2_with fail
    clear z0 z1 z2 z3 z4 z5
    refine CE.out.mono ?_
    rintro e v52 ⟨av, rfl, hav, hb⟩
    have HB_ := Lib.hid (HB.out.trans (hb.mono HB.out.size))
    clear HB
    have HB := HB_
    clear HB_
    have HXD_ := Lib.hid (HXD.out.keep hb)
    clear HXD
    have HXD := HXD_
    clear HXD_
    have HXT_ := Lib.hid (HXT.out.keep hb)
    clear HXT
    have HXT := HXT_
    clear HXT_
    have HVD_ := Lib.hid (VIn.keep hb HVD.out)
    clear HVD
    have HVD := HVD_
    clear HVD_
    have HA1_ := Lib.hid (HA1.out.keep hb)
    clear HA1
    have HA1 := HA1_
    clear HA1_
    have HY1_ := Lib.hid (VIn.keep hb HY1.out)
    clear HY1
    have HY1 := HY1_
    clear HY1_
    have HA2_ := Lib.hid (HA2.out.keep hb)
    clear HA2
    have HA2 := HA2_
    clear HA2_
    have HY2_ := Lib.hid (VIn.keep hb HY2.out)
    clear HY2
    have HY2 := HY2_
    clear HY2_
    have HA3_ := Lib.hid (HA3.out.keep hb)
    clear HA3
    have HA3 := HA3_
    clear HA3_
    have HY3_ := Lib.hid (VIn.keep hb HY3.out)
    clear HY3
    have HY3 := HY3_
    clear HY3_
    clear hb CE
    obtain ⟨k4, m4, s4, b4, f4, l4, bb4, bc4, fb4, fc4, lb4, lc4, rfl⟩ := hav.shape
    obtain ⟨W53, hW53⟩ : ∃ W, W = v52.alloc (.cells #[.int .i64 k4, .int .i64 m4, .string s4, .slice b4 bb4 bc4, .slice f4 fb4 fc4, .slice l4 lb4 lc4] 26) := ⟨_, rfl⟩
    obtain ⟨Q53, hQ53⟩ : ∃ P, P = v52.heap.size := ⟨_, rfl⟩
    have hbr53 : Below v52.heap.size v52 W53 := by rw [hW53]; exact (Below.refl _ _).alloc (Nat.le_refl _) _
    have hxr53 : IsBox W53 Q53 (.int .i64 k4) (.int .i64 m4) (.string s4) (.slice b4 bb4 bc4) (.slice f4 fb4 fc4) (.slice l4 lb4 lc4) := by rw [hW53, hQ53]; exact IsBox.new v52 (.int .i64 k4) (.int .i64 m4) (.string s4) (.slice b4 bb4 bc4) (.slice f4 fb4 fc4) (.slice l4 lb4 lc4)
    have HW53 := Lib.hid hW53
    have HP53 := Lib.hid hQ53
    clear hW53 hQ53
    have HB_ := Lib.hid (HB.out.trans (hbr53.mono HB.out.size))
    clear HB
    have HB := HB_
    clear HB_
    have HXD_ := Lib.hid (HXD.out.keep hbr53)
    clear HXD
    have HXD := HXD_
    clear HXD_
    have HXT_ := Lib.hid (HXT.out.keep hbr53)
    clear HXT
    have HXT := HXT_
    clear HXT_
    have HVD_ := Lib.hid (VIn.keep hbr53 HVD.out)
    clear HVD
    have HVD := HVD_
    clear HVD_
    have HA1_ := Lib.hid (HA1.out.keep hbr53)
    clear HA1
    have HA1 := HA1_
    clear HA1_
    have HY1_ := Lib.hid (VIn.keep hbr53 HY1.out)
    clear HY1
    have HY1 := HY1_
    clear HY1_
    have HA2_ := Lib.hid (HA2.out.keep hbr53)
    clear HA2
    have HA2 := HA2_
    clear HA2_
    have HY2_ := Lib.hid (VIn.keep hbr53 HY2.out)
    clear HY2
    have HY2 := HY2_
    clear HY2_
    have HA3_ := Lib.hid (HA3.out.keep hbr53)
    clear HA3
    have HA3 := HA3_
    clear HA3_
    have HY3_ := Lib.hid (VIn.keep hbr53 HY3.out)
    clear HY3
    have HY3 := HY3_
    clear HY3_
    have HA4 := Lib.hid hxr53
    have HY4 := Lib.hid (VIn.any (VIn.keep hbr53 hav))
    clear hav hxr53 hbr53
    obtain ⟨hk4, -, hs4⟩ := VIn.leaf HY4.out
    rw [← HSJ2.out] at hs4
    have HK4 := Lib.hid (And.intro hk4 hs4)
    clear hk4 hs4
    go_upto_region 31 with fail
    rw [← HW53.out, ← HP53.out]
    have CS := Lib.hid (same_any _ _ (fun _ => True) (fun _ => True) (itemL l at_) (itemL l at_) _ _ W53 HY1.out HY3.out)
    obtain ⟨x0, x1, x2, x3, x4, x5⟩ := HA1.out.cells
    obtain ⟨y0, y1, y2, y3, y4, y5⟩ := HA3.out.cells
    go_wp2_with fail
    clear x0 x1 x2 x3 x4 x5 y0 y1 y2 y3 y4 y5
    refine CS.out.mono ?_
    rintro e vs ⟨rr, rfl, hrr, hb⟩
    obtain rfl := hrr.2 rfl
    clear hrr
    have HB_ := Lib.hid (HB.out.trans (hb.mono HB.out.size))
    clear HB
    have HB := HB_
    clear HB_
    have HXD_ := Lib.hid (HXD.out.keep hb)
    clear HXD
    have HXD := HXD_
    clear HXD_
    have HXT_ := Lib.hid (HXT.out.keep hb)
    clear HXT
    have HXT := HXT_
    clear HXT_
    have HVD_ := Lib.hid (VIn.keep hb HVD.out)
    clear HVD
    have HVD := HVD_
    clear HVD_
    have HA1_ := Lib.hid (HA1.out.keep hb)
    clear HA1
    have HA1 := HA1_
    clear HA1_
    have HY1_ := Lib.hid (VIn.keep hb HY1.out)
    clear HY1
    have HY1 := HY1_
    clear HY1_
    have HA2_ := Lib.hid (HA2.out.keep hb)
    clear HA2
    have HA2 := HA2_
    clear HA2_
    have HY2_ := Lib.hid (VIn.keep hb HY2.out)
    clear HY2
    have HY2 := HY2_
    clear HY2_
    have HA3_ := Lib.hid (HA3.out.keep hb)
    clear HA3
    have HA3 := HA3_
    clear HA3_
    have HY3_ := Lib.hid (VIn.keep hb HY3.out)
    clear HY3
    have HY3 := HY3_
    clear HY3_
    have HA4_ := Lib.hid (HA4.out.keep hb)
    clear HA4
    have HA4 := HA4_
    clear HA4_
    have HY4_ := Lib.hid (VIn.keep hb HY4.out)
    clear HY4
    have HY4 := HY4_
    clear HY4_
    clear hb CS
    have hk4 := HK4.out.1
    have hs4 := HK4.out.2
    have hm2 := HM2.out
    obtain ⟨x0, x1, x2, x3, x4, x5⟩ := HA2.out.cells
    obtain ⟨y0, y1, y2, y3, y4, y5⟩ := HA4.out.cells
    rw [hm2] at x1
    rw [hk4] at y0
    rw [hs4] at y2
    clear hk4 hs4 hm2
    have hn1 : ((n : Int) != (n : Int)) = false := by simp
    go_wp2_with fail
    clear x0 x1 x2 x3 x4 x5 y0 y1 y2 y3 y4 y5
    go_loopw [22] (fun i wq => ∃ (k : Nat), i = .int .i64 k ∧ k ≤ n ∧ Hid (Below vs.heap.size vs wq)) (fun i _ => n - (intOf i).toNat)
    case atStart => exact ⟨0, rfl, Nat.zero_le _, Below.refl _ _⟩
    case round =>
    obtain ⟨k, rfl, hk, HBZ⟩ := hrel
    clear HA1 HA2 HA3 HA4 HY1 HY2 HY3 HY4
    by_cases hlt : k < n
    ·skip
     have hkn : (k : Int) < (n : Int) := by omega
     have HB0 := HB
     have HB_ := Lib.hid (HB.out.trans (HBZ.out.mono HB.out.size))
     clear HB
     have HB := HB_
     clear HB_
     have HXD_ := Lib.hid (HXD.out.keep HBZ.out)
     clear HXD
     have HXD := HXD_
     clear HXD_
     have HXT_ := Lib.hid (HXT.out.keep HBZ.out)
     clear HXT
     have HXT := HXT_
     clear HXT_
     have HVD_ := Lib.hid (VIn.keep HBZ.out HVD.out)
     clear HVD
     have HVD := HVD_
     clear HVD_
     go_upto_region 36 with fail
     have hkl : k < l.length := by rw [HN.out]; exact hlt
     obtain ⟨nm, hnm⟩ : ∃ z, z = Expr.kindName (itemL l (k : Int)).kind := ⟨_, rfl⟩
     have HNM := Lib.hid hnm
     clear hnm
     have hkin : -9223372036854775808 ≤ (k : Int) ∧ (k : Int) ≤ 9223372036854775807 := by omega
     have HKIN := Lib.hid hkin
     have HKL : Hid (k < l.length) := hkl
     clear hkin hkl
     refine wp_region_inv0 (fun V => { tmps := #[Value.slice a n c, Value.int .i64 at_, Value.slice ta tn tc, undef, undef, undef, u6, Value.int .i64 (n : Int), Value.pointer (some ⟨PD, 0, none⟩), Value.pointer (some ⟨PT, 0, none⟩), Value.func (Fn.func 16) #[] #[Value.pointer (some ⟨PD, 0, none⟩)], Value.pointer (some ⟨Q4, 0, none⟩), Value.int .i64 0, Value.pointer (some ⟨Q8, 0, none⟩), Value.int .i64 0, Value.int .i64 kv, Value.pointer (some ⟨Q9, 0, none⟩), Value.slice la tn lcap, Value.string s, Value.int .i64 (tn : Int), Value.pointer (some ⟨Q53, 0, none⟩), Value.int .i64 0, Value.int .i64 (k : Int), V 12, V 14, Value.bool true, Value.bool false, Value.slice a n c, Value.int .i64 (n : Int), Value.bool (decide (20 < (n : Int))), Value.bool (decide (20 < (n : Int))), Value.slice ta tn tc, Value.int .i64 (tn : Int), Value.bool (decide (20 < (tn : Int))), Value.bool (decide (20 < (n : Int)) || decide (20 < (tn : Int))), Value.int .i64 (n : Int), Value.slice a n c, Value.int .i64 (n : Int), Value.bool false, u39, u40, u41, u42, u43, u44, u45, u46, Value.slice a n c, Value.agg #[Value.int .i64 7, Value.int .i64 0, Value.string ⟨#[]⟩, Value.slice none 0 0, Value.slice none 0 0, Value.slice a n c], Value.agg #[Value.string ⟨#[108]⟩, Value.int .i64 7, Value.int .i64 0, Value.string ⟨#[]⟩, Value.slice none 0 0, Value.slice none 0 0, Value.slice a n c], Value.slice (some ⟨PF, 0, none⟩) 1 1, Value.agg #[Value.int .i64 6, Value.int .i64 0, Value.string ⟨#[]⟩, Value.slice none 0 0, Value.slice (some ⟨PF, 0, none⟩) 1 1, Value.slice none 0 0], Value.agg #[Value.int .i64 5, Value.int .i64 0, Value.string ⟨#[36, 108]⟩, Value.slice none 0 0, Value.slice none 0 0, Value.slice none 0 0], Value.func (Fn.func 16) #[] #[Value.pointer (some ⟨PD, 0, none⟩)], Value.tuple #[Value.agg #[Value.int .i64 k1, Value.int .i64 m1, Value.string s1, Value.slice b1 bb1 bc1, Value.slice f1 fb1 fc1, Value.slice l1 lb1 lc1], Value.int .i64 0], Value.func (Fn.func 16) #[] #[Value.pointer (some ⟨PD, 0, none⟩)], Value.agg #[Value.int .i64 5, Value.int .i64 0, Value.string ⟨#[36, 108]⟩, Value.slice none 0 0, Value.slice none 0 0, Value.slice none 0 0], Value.int .i64 at_, Value.agg #[Value.int .i64 4, Value.int .i64 at_, Value.string ⟨#[]⟩, Value.slice none 0 0, Value.slice none 0 0, Value.slice none 0 0], Value.slice (some ⟨Q1, 0, none⟩) 2 2, Value.agg #[Value.int .i64 6, Value.int .i64 0, Value.string ⟨#[]⟩, Value.slice none 0 0, Value.slice (some ⟨g13, 0, none⟩) 1 1, Value.slice none 0 0], Value.tuple #[Value.agg #[Value.int .i64 k1, Value.int .i64 m1, Value.string s1, Value.slice b1 bb1 bc1, Value.slice f1 fb1 fc1, Value.slice l1 lb1 lc1], Value.int .i64 0], Value.agg #[Value.int .i64 k1, Value.int .i64 m1, Value.string s1, Value.slice b1 bb1 bc1, Value.slice f1 fb1 fc1, Value.slice l1 lb1 lc1], Value.int .i64 0, Value.tuple #[Value.agg #[Value.int .i64 k2, Value.int .i64 m2, Value.string s2, Value.slice b2 bb2 bc2, Value.slice f2 fb2 fc2, Value.slice l2 lb2 lc2], Value.int .i64 0], Value.func (Fn.func 16) #[] #[Value.pointer (some ⟨PD, 0, none⟩)], Value.agg #[Value.int .i64 5, Value.int .i64 0, Value.string ⟨#[36, 108]⟩, Value.slice none 0 0, Value.slice none 0 0, Value.slice none 0 0], Value.slice (some ⟨Q5, 0, none⟩) 1 1, Value.agg #[Value.int .i64 6, Value.int .i64 0, Value.string ⟨#[]⟩, Value.slice none 0 0, Value.slice (some ⟨g14, 0, none⟩) 1 1, Value.slice none 0 0], Value.tuple #[Value.agg #[Value.int .i64 k2, Value.int .i64 m2, Value.string s2, Value.slice b2 bb2 bc2, Value.slice f2 fb2 fc2, Value.slice l2 lb2 lc2], Value.int .i64 0], Value.agg #[Value.int .i64 k2, Value.int .i64 m2, Value.string s2, Value.slice b2 bb2 bc2, Value.slice f2 fb2 fc2, Value.slice l2 lb2 lc2], Value.int .i64 0, Value.int .i64 at_, u73, u74, u75, u76, u77, u78, u79, u80, Value.bool bq1, u82, u83, u84, u85, Value.agg #[Value.int .i64 0, Value.int .i64 0, Value.string ⟨#[]⟩, Value.slice none 0 0, Value.slice none 0 0, Value.slice none 0 0], u87, u88, u89, u90, u91, u92, u93, Value.bool bq2, u95, u96, u97, u98, Value.int .i64 (tn : Int), Value.slice ta tn tc, Value.int .i64 (tn : Int), Value.bool false, u103, u104, u105, u106, u107, u108, u109, u110, u111, u112, u113, u114, u115, u116, u117, u118, u119, u120, u121, u122, u123, u124, u125, u126, u127, Value.tuple #[Value.agg #[Value.int .i64 k4, Value.int .i64 m4, Value.string s4, Value.slice b4 bb4 bc4, Value.slice f4 fb4 fc4, Value.slice l4 lb4 lc4], Value.int .i64 0], Value.func (Fn.func 16) #[] #[Value.pointer (some ⟨PD, 0, none⟩)], Value.slice la tn lcap, Value.agg #[Value.int .i64 6, Value.int .i64 0, Value.string ⟨#[]⟩, Value.slice none 0 0, Value.slice (some ⟨g30, 0, none⟩) 1 1, Value.slice none 0 0], Value.tuple #[Value.agg #[Value.int .i64 k4, Value.int .i64 m4, Value.string s4, Value.slice b4 bb4 bc4, Value.slice f4 fb4 fc4, Value.slice l4 lb4 lc4], Value.int .i64 0], Value.agg #[Value.int .i64 k4, Value.int .i64 m4, Value.string s4, Value.slice b4 bb4 bc4, Value.slice f4 fb4 fc4, Value.slice l4 lb4 lc4], Value.int .i64 0, Value.int .i64 0, Value.bool false, Value.bool false, Value.int .i64 0, Value.bool false, Value.bool false, Value.bool false, Value.int .i64 0, Value.bool false, Value.bool false, Value.bool false, Value.agg #[Value.int .i64 k1, Value.int .i64 m1, Value.string s1, Value.slice b1 bb1 bc1, Value.slice f1 fb1 fc1, Value.slice l1 lb1 lc1], Value.agg #[c0, c1, c2, c3, c4, c5], Value.bool true, Value.bool false, Value.bool false, Value.bool false, Value.pointer (some ⟨Q8, 1, none⟩), Value.int .i64 (n : Int), Value.slice a n c, Value.int .i64 (n : Int), Value.bool false, Value.bool false, Value.bool false, Value.pointer (some ⟨Q53, 0, none⟩), Value.int .i64 5, Value.bool false, Value.bool false, Value.bool false, Value.pointer (some ⟨Q53, 2, none⟩), Value.string s, Value.string s, Value.bool false, Value.bool false, Value.int .i64 (k : Int), Value.slice a n c, Value.int .i64 (n : Int), Value.bool true, u173, u174, V 9, V 0, V 1, V 2, V 3, V 4, V 5, V 6, V 7, V 8, V 10, V 11, u187, u188, u189, u190, u191, u192, u193, u194, u195, u196, u197, u198, u199], defers := [] }) (KI wr [Fact.is (.func (.func 16) #[] #[.pointer (some ⟨PD, 0, none⟩)]), Fact.is (.agg #[.int .i64 5, .int .i64 0, .string ⟨#[36, 108]⟩, .slice none 0 0, .slice none 0 0, .slice none 0 0]), Fact.is (.int .i64 (k : Int)), Fact.is (.agg #[.int .i64 3, .int .i64 (k : Int), .string ⟨#[]⟩, .slice none 0 0, .slice none 0 0, .slice none 0 0]), Fact.rowC #[.int .i64 5, .int .i64 0, .string ⟨#[36, 108]⟩, .slice none 0 0, .slice none 0 0, .slice none 0 0, .int .i64 3, .int .i64 (k : Int), .string ⟨#[]⟩, .slice none 0 0, .slice none 0 0, .slice none 0 0] 2, Fact.docH 3 (opVl ⟨#[36, 97, 114, 114, 97, 121, 69, 108, 101, 109, 65, 116]⟩ [txtL ⟨#[36, 108]⟩, .mk 3 (k : Int) ⟨#[]⟩ [] [] []]), Fact.row1 (opVl ⟨#[36, 97, 114, 114, 97, 121, 69, 108, 101, 109, 65, 116]⟩ [txtL ⟨#[36, 108]⟩, .mk 3 (k : Int) ⟨#[]⟩ [] [] []]), Fact.docH 5 (tyX (k : Int)), Fact.ans nm] nm) (by kernel_rfl) (by kernel_rfl) (by kernel_rfl) (fun V => by kernel_rfl) ?_ KI.start ?_
     ·refine ⟨?_, ?_⟩
      ·refine inv_free rfl (fun D9 V w7 hDi hpre hI K hK => ?_)
       go_simp
       exact put_is (by kernel_rfl) (hK.out (.func (.func 16) #[] #[.pointer (some ⟨PD, 0, none⟩)]) w7 (hI.step (by decide) hDi (Below.refl _ _) rfl))
      refine ⟨?_, ?_⟩
      ·refine inv_free rfl (fun D9 V w7 hDi hpre hI K hK => ?_)
       obtain ⟨x0, x1, x2, x3, x4, x5⟩ := (HXT.out.keep hI.bel).cells
       go_simp
       exact put_is (by kernel_rfl) (hK.out (.agg #[.int .i64 5, .int .i64 0, .string ⟨#[36, 108]⟩, .slice none 0 0, .slice none 0 0, .slice none 0 0]) w7 (hI.step (by decide) hDi (Below.refl _ _) rfl))
      refine ⟨?_, ?_⟩
      ·refine inv_free rfl (fun D9 V w7 hDi hpre hI K hK => ?_)
       go_simp
       exact put_is (by kernel_rfl) (hK.out (.int .i64 (k : Int)) w7 (hI.step (by decide) hDi (Below.refl _ _) rfl))
      refine ⟨?_, ?_⟩
      ·refine inv_free rfl (fun D9 V w7 hDi hpre hI K hK => ?_)
       have h13 := hI.not13 (.inl (by decide)) hDi
       have h2 : V 2 = .int .i64 (k : Int) := hI.f h13 2 (by decide) (hpre.out 2 (by kernel_rfl))
       have CK := num10_any (k : Int) w7
       go_simp
       refine CK.mono ?_
       rintro e w8 ⟨rfl, hb8⟩
       exact put_is (by rw [h2]; kernel_rfl) (hK.out (.agg #[.int .i64 3, .int .i64 (k : Int), .string ⟨#[]⟩, .slice none 0 0, .slice none 0 0, .slice none 0 0]) w8 (hI.step (by decide) hDi hb8 rfl))
      refine ⟨?_, ?_⟩
      ·refine inv_free rfl (fun D9 V w7 hDi hpre hI K hK => ?_)
       have h13 := hI.not13 (.inl (by decide)) hDi
       have h1 : V 1 = .agg #[.int .i64 5, .int .i64 0, .string ⟨#[36, 108]⟩, .slice none 0 0, .slice none 0 0, .slice none 0 0] := hI.f h13 1 (by decide) (hpre.out 1 (by kernel_rfl))
       have h3 : V 3 = .agg #[.int .i64 3, .int .i64 (k : Int), .string ⟨#[]⟩, .slice none 0 0, .slice none 0 0, .slice none 0 0] := hI.f h13 3 (by decide) (hpre.out 3 (by kernel_rfl))
       go_simp
       exact put_is (by rw [h1, h3]; kernel_rfl) (hK.out (.slice (some ⟨w7.heap.size, 0, none⟩) 2 2) _ (hI.step (by decide) hDi ((Below.refl _ _).alloc (Nat.le_refl _) _) ⟨_, rfl, heap_alloc_new w7 _⟩))
      refine ⟨?_, ?_⟩
      ·refine inv_free rfl (fun D9 V w7 hDi hpre hI K hK => ?_)
       have h13 := hI.not13 (.inl (by decide)) hDi
       obtain ⟨g4, h4, hr4⟩ := hI.f h13 4 (by decide) (hpre.out 4 (by kernel_rfl))
       have CK := op10_any ⟨#[36, 97, 114, 114, 97, 121, 69, 108, 101, 109, 65, 116]⟩ (by decide) (fun _ => True) 1 _ 2 2 _ w7 rfl (by omega) ⟨by omega, by omega⟩ (two_items (Q := fun _ => True) hr4 trivial (textL_in w7 (fun _ => True) ⟨#[36, 108]⟩ (by decide) 0) (leaf_in w7 (fun _ => True) 3 (k : Int) (by omega) HKIN.out 0))
       go_simp
       refine CK.mono ?_
       rintro e w8 ⟨g8, rfl, hv8, hb8⟩
       exact put_is (by rw [h4]; kernel_rfl) (hK.out (.agg #[.int .i64 6, .int .i64 0, .string ⟨#[]⟩, .slice none 0 0, .slice (some ⟨g8, 0, none⟩) 1 1, .slice none 0 0]) w8 (hI.step (by decide) hDi hb8 ⟨_, rfl, hv8.any⟩))
      refine ⟨?_, ?_⟩
      ·refine inv_free rfl (fun D9 V w7 hDi hpre hI K hK => ?_)
       have h13 := hI.not13 (.inl (by decide)) hDi
       obtain ⟨g5, h5, hv5⟩ := hI.f h13 5 (by decide) (hpre.out 5 (by kernel_rfl))
       have hb8 : Below w7.heap.size w7 (w7.alloc (.cells #[.int .i64 6, .int .i64 0, .string ⟨#[]⟩, .slice none 0 0, .slice (some ⟨g5, 0, none⟩) 1 1, .slice none 0 0] 26)) := (Below.refl _ _).alloc (Nat.le_refl _) _
       have hv8 := VIn.keep hb8 hv5
       have HV8 := Lib.hid hv8
       have HB8 := Lib.hid hb8
       clear hv8 hb8
       go_simp
       exact put_is (by rw [h5]; kernel_rfl) (hK.out (.slice (some ⟨w7.heap.size, 0, none⟩) 1 1) _ (hI.step (by decide) hDi HB8.out ⟨_, g5, rfl, heap_alloc_new w7 _, HV8.out⟩))
      refine ⟨?_, ?_⟩
      ·refine inv_free rfl (fun D9 V w7 hDi hpre hI K hK => ?_)
       have h13 := hI.not13 (.inl (by decide)) hDi
       obtain ⟨g6, gd, h6, hr6, hv6⟩ := hI.f h13 6 (by decide) (hpre.out 6 (by kernel_rfl))
       have CK := op10_any ⟨#[36, 116, 121, 112, 101]⟩ (by decide) (fun _ => True) 3 _ 1 1 _ w7 rfl (by omega) ⟨by omega, by omega⟩ (one_items (Q := fun _ => True) hr6 trivial hv6)
       go_simp
       refine CK.mono ?_
       rintro e w8 ⟨g8, rfl, hv8, hb8⟩
       exact put_is (by rw [h6]; kernel_rfl) (hK.out (.agg #[.int .i64 6, .int .i64 0, .string ⟨#[]⟩, .slice none 0 0, .slice (some ⟨g8, 0, none⟩) 1 1, .slice none 0 0]) w8 (hI.step (by decide) hDi hb8 ⟨_, rfl, hv8.any⟩))
      refine ⟨?_, ?_⟩
      ·refine inv_free rfl (fun D9 V w7 hDi hpre hI K hK => ?_)
       have h13 := hI.not13 (.inl (by decide)) hDi
       have h0 : V 0 = .func (.func 16) #[] #[.pointer (some ⟨PD, 0, none⟩)] := hI.f h13 0 (by decide) (hpre.out 0 (by kernel_rfl))
       obtain ⟨g7, h7, hv7⟩ := hI.f h13 7 (by decide) (hpre.out 7 (by kernel_rfl))
       have CK := evalc_any 16 15 5 (hh + 1) (by omega) (by omega) _ (fun _ => True) (tyX (k : Int)) (lisD l) _ _ _ _ _ _ _ PD w7 (HG.out.keep (HB.out.trans (hI.bel.mono HB.out.size))) hv7 (tyX_short (k : Int)) (tyX_code (k : Int)) (HXD.out.keep hI.bel) (VIn.keep hI.bel HVD.out)
       rw [tyX_eval (k : Int) (hh + 1) l, ← HNM.out] at CK
       go_simp
       refine CK.mono ?_
       rintro e w8 ⟨v8, rfl, hv8, hb8⟩
       obtain ⟨rk, rn, rs, ra, rf, rl, rab, rac, rfb, rfc, rlb, rlc, rfl⟩ := hv8.shape
       obtain ⟨e1, e2, e3⟩ := VIn.leaf hv8
       subst e1
       subst e2
       exact put_is (by rw [h0, h7]; kernel_rfl) (hK.out (.tuple #[.agg #[.int .i64 5, .int .i64 0, .string rs, .slice ra rab rac, .slice rf rfb rfc, .slice rl rlb rlc], .int .i64 0]) w8 (hI.step (by decide) hDi hb8 ⟨_, _, _, _, _, _, _, _, _, by rw [e3]⟩))
      refine ⟨?_, ?_⟩
      ·refine inv_free rfl (fun D9 V w7 hDi hpre hI K hK => ?_)
       have h13 := hI.not13 (.inl (by decide)) hDi
       obtain ⟨b1, b2, b3, f1, f2, f3, l1, l2, l3, h8⟩ := hI.f h13 8 (by decide) (hpre.out 8 (by kernel_rfl))
       go_simp
       exact put_is (by rw [h8]; kernel_rfl) (hK.out (.tuple #[.agg #[.int .i64 5, .int .i64 0, .string nm, .slice b1 b2 b3, .slice f1 f2 f3, .slice l1 l2 l3], .int .i64 0]) w7 (hI.plain (.inl rfl) (fun _ => hDi) (fun _ => ⟨_, _, _, _, _, _, _, _, _, rfl⟩) (fun h => absurd h (by decide)) (fun h => absurd h (by decide)) (fun h => absurd h (by decide))))
      refine ⟨?_, ?_⟩
      ·refine inv_free rfl (fun D9 V w7 hDi hpre hI K hK => ?_)
       obtain ⟨b1, b2, b3, f1, f2, f3, l1, l2, l3, h9⟩ := hI.t (hpre.out 9 (by kernel_rfl))
       go_simp
       exact put_is (by rw [h9]; kernel_rfl) (hK.out (.agg #[.int .i64 5, .int .i64 0, .string nm, .slice b1 b2 b3, .slice f1 f2 f3, .slice l1 l2 l3]) w7 (hI.plain (.inr (.inl rfl)) (fun _ => hDi) (fun h => absurd h (by decide)) (fun _ => ⟨hpre.out 9 (by kernel_rfl), fun y e hy => by rw [h9] at hy; injection hy with hy; injection hy with hy; injection hy with hy _⟩) (fun h => absurd h (by decide)) (fun h => absurd h (by decide))))
      refine ⟨?_, ?_⟩
      ·refine inv_free rfl (fun D9 V w7 hDi hpre hI K hK => ?_)
       obtain ⟨b1, b2, b3, f1, f2, f3, l1, l2, l3, h9⟩ := hI.t (hpre.out 9 (by kernel_rfl))
       go_simp
       exact put_is (by rw [h9]; kernel_rfl) (hK.out (.int .i64 0) w7 (hI.plain (.inr (.inr (.inl rfl))) (fun h => h.elim (fun h => absurd h (by decide)) (fun h => absurd h (by decide))) (fun h => absurd h (by decide)) (fun h => absurd h (by decide)) (fun _ => rfl) (fun h => absurd h (by decide))))
      refine ⟨?_, ?_⟩
      ·refine inv_free rfl (fun D9 V w7 hDi hpre hI K hK => ?_)
       go_simp
       exact put_is (by kernel_rfl) (hK.out (.pointer (some ⟨w7.heap.size, 0, none⟩)) _ (hI.made hDi))
      refine ⟨?_, ?_⟩
      ·refine inv_free rfl (fun D9 V w7 hDi hpre hI K hK => ?_)
       obtain ⟨p, b1, b2, b3, f1, f2, f3, l1, l2, l3, hp, hy, hbx, hk⟩ := hI.kept hDi (hpre.out 12 (by kernel_rfl)) (hpre.out 10 (by kernel_rfl)) (fun j hj => by
         match j, hj with
         | 0, _ => exact hpre.out 0 (by kernel_rfl)
         | 1, _ => exact hpre.out 1 (by kernel_rfl)
         | 2, _ => exact hpre.out 2 (by kernel_rfl)
         | 3, _ => exact hpre.out 3 (by kernel_rfl)
         | 4, _ => exact hpre.out 4 (by kernel_rfl)
         | 5, _ => exact hpre.out 5 (by kernel_rfl)
         | 6, _ => exact hpre.out 6 (by kernel_rfl)
         | 7, _ => exact hpre.out 7 (by kernel_rfl)
         | 8, _ => exact hpre.out 8 (by kernel_rfl)
         | 9, _ => exact hpre.out 9 (by kernel_rfl)
         | 10, _ => exact hpre.out 10 (by kernel_rfl)
         | j + 11, hj => omega)
       obtain ⟨z0, z1, z2, z3, z4, z5⟩ := hbx.cells
       obtain ⟨q0, q1, q2, q3, q4, q5⟩ := hbx.thaw
       go_simp
       exact put_is (by rw [hp, hy]; kernel_rfl) (hK.out undef _ hk)
      refine ⟨?_, ?_⟩
      ·refine inv_free rfl (fun D9 V w7 hDi hpre hI K hK => ?_)
       have h11 : V 11 = .int .i64 0 := hI.c11 (hpre.out 11 (by kernel_rfl))
       go_simp
       exact put_is (by rw [h11]; kernel_rfl) (hK.out (.int .i64 0) w7 (hI.plain (.inr (.inr (.inr rfl))) (fun h => h.elim (fun h => absurd h (by decide)) (fun h => absurd h (by decide))) (fun h => absurd h (by decide)) (fun h => absurd h (by decide)) (fun h => absurd h (by decide)) (fun _ => rfl)))
      trivial
     intro D9 Y0 w9 hD9 hI9
     obtain ⟨PZ, cb1, cb2, cb3, cf1, cf2, cf3, cl1, cl2, cl3, e12, e14, hbx, hb9⟩ := hI9.end hD9
     rw [e12, e14]
     have HBX := Lib.hid hbx
     have HB9 : Hid (Below vs.heap.size vs w9) := HBZ.out.trans (hb9.mono HBZ.out.size)
     have HBW9 : Hid (Below w.heap.size w w9) := HB.out.trans (hb9.mono HB.out.size)
     clear hI9 hD9 e12 e14 hbx hb9
     go_upto_region 37 with fail
     have hkl := HKL.out
     obtain ⟨g0, o0, rfl, hq0, hall⟩ := HI.out.resolve_left (fun e => by rw [e] at hkl; cases hkl)
     obtain ⟨v1, hsix, hV⟩ := hall k hkl
     obtain ⟨jk, jm, js, xb1, xf1, xl1, xb2, xb3, xf2, xf3, xl2, xl3, rfl⟩ := hV.shape
     have ej : jk = l[k].kind := hV.top.1
     have enm : Expr.kindName jk = nm := by rw [HNM.out, itemL_at l k hkl, ej]
     have CT := Lib.hid (fun w => typeName_any jk w)
     rw [enm] at CT
     have hs9 := hsix.keep HBW9.out
     obtain ⟨s0, s1, s2, s3, s4, s5⟩ := hs9.cells
     have HS0 := Lib.hid s0
     have hne : (nm.toList != nm.toList) = false := by simp
     have hne2 : (nm.toList == nm.toList) = true := by simp
     clear hq0 hall hsix hV ej enm hs9 s0 s1 s2 s3 s4 s5 hkl
     refine wp_region_facts (fun V => { tmps := #[Value.slice (some ⟨g0, o0, none⟩) n c, Value.int .i64 at_, Value.slice ta tn tc, undef, undef, undef, u6, Value.int .i64 (n : Int), Value.pointer (some ⟨PD, 0, none⟩), Value.pointer (some ⟨PT, 0, none⟩), Value.func (Fn.func 16) #[] #[Value.pointer (some ⟨PD, 0, none⟩)], Value.pointer (some ⟨Q4, 0, none⟩), Value.int .i64 0, Value.pointer (some ⟨Q8, 0, none⟩), Value.int .i64 0, Value.int .i64 kv, Value.pointer (some ⟨Q9, 0, none⟩), Value.slice la tn lcap, Value.string s, Value.int .i64 (tn : Int), Value.pointer (some ⟨Q53, 0, none⟩), Value.int .i64 0, Value.int .i64 (k : Int), Value.pointer (some ⟨PZ, 0, none⟩), Value.int .i64 0, Value.bool true, Value.bool false, Value.slice (some ⟨g0, o0, none⟩) n c, Value.int .i64 (n : Int), Value.bool (decide (20 < (n : Int))), Value.bool (decide (20 < (n : Int))), Value.slice ta tn tc, Value.int .i64 (tn : Int), Value.bool (decide (20 < (tn : Int))), Value.bool (decide (20 < (n : Int)) || decide (20 < (tn : Int))), Value.int .i64 (n : Int), Value.slice (some ⟨g0, o0, none⟩) n c, Value.int .i64 (n : Int), Value.bool false, u39, u40, u41, u42, u43, u44, u45, u46, Value.slice (some ⟨g0, o0, none⟩) n c, Value.agg #[Value.int .i64 7, Value.int .i64 0, Value.string ⟨#[]⟩, Value.slice none 0 0, Value.slice none 0 0, Value.slice (some ⟨g0, o0, none⟩) n c], Value.agg #[Value.string ⟨#[108]⟩, Value.int .i64 7, Value.int .i64 0, Value.string ⟨#[]⟩, Value.slice none 0 0, Value.slice none 0 0, Value.slice (some ⟨g0, o0, none⟩) n c], Value.slice (some ⟨PF, 0, none⟩) 1 1, Value.agg #[Value.int .i64 6, Value.int .i64 0, Value.string ⟨#[]⟩, Value.slice none 0 0, Value.slice (some ⟨PF, 0, none⟩) 1 1, Value.slice none 0 0], Value.agg #[Value.int .i64 5, Value.int .i64 0, Value.string ⟨#[36, 108]⟩, Value.slice none 0 0, Value.slice none 0 0, Value.slice none 0 0], Value.func (Fn.func 16) #[] #[Value.pointer (some ⟨PD, 0, none⟩)], Value.tuple #[Value.agg #[Value.int .i64 k1, Value.int .i64 m1, Value.string s1, Value.slice b1 bb1 bc1, Value.slice f1 fb1 fc1, Value.slice l1 lb1 lc1], Value.int .i64 0], Value.func (Fn.func 16) #[] #[Value.pointer (some ⟨PD, 0, none⟩)], Value.agg #[Value.int .i64 5, Value.int .i64 0, Value.string ⟨#[36, 108]⟩, Value.slice none 0 0, Value.slice none 0 0, Value.slice none 0 0], Value.int .i64 at_, Value.agg #[Value.int .i64 4, Value.int .i64 at_, Value.string ⟨#[]⟩, Value.slice none 0 0, Value.slice none 0 0, Value.slice none 0 0], Value.slice (some ⟨Q1, 0, none⟩) 2 2, Value.agg #[Value.int .i64 6, Value.int .i64 0, Value.string ⟨#[]⟩, Value.slice none 0 0, Value.slice (some ⟨g13, 0, none⟩) 1 1, Value.slice none 0 0], Value.tuple #[Value.agg #[Value.int .i64 k1, Value.int .i64 m1, Value.string s1, Value.slice b1 bb1 bc1, Value.slice f1 fb1 fc1, Value.slice l1 lb1 lc1], Value.int .i64 0], Value.agg #[Value.int .i64 k1, Value.int .i64 m1, Value.string s1, Value.slice b1 bb1 bc1, Value.slice f1 fb1 fc1, Value.slice l1 lb1 lc1], Value.int .i64 0, Value.tuple #[Value.agg #[Value.int .i64 k2, Value.int .i64 m2, Value.string s2, Value.slice b2 bb2 bc2, Value.slice f2 fb2 fc2, Value.slice l2 lb2 lc2], Value.int .i64 0], Value.func (Fn.func 16) #[] #[Value.pointer (some ⟨PD, 0, none⟩)], Value.agg #[Value.int .i64 5, Value.int .i64 0, Value.string ⟨#[36, 108]⟩, Value.slice none 0 0, Value.slice none 0 0, Value.slice none 0 0], Value.slice (some ⟨Q5, 0, none⟩) 1 1, Value.agg #[Value.int .i64 6, Value.int .i64 0, Value.string ⟨#[]⟩, Value.slice none 0 0, Value.slice (some ⟨g14, 0, none⟩) 1 1, Value.slice none 0 0], Value.tuple #[Value.agg #[Value.int .i64 k2, Value.int .i64 m2, Value.string s2, Value.slice b2 bb2 bc2, Value.slice f2 fb2 fc2, Value.slice l2 lb2 lc2], Value.int .i64 0], Value.agg #[Value.int .i64 k2, Value.int .i64 m2, Value.string s2, Value.slice b2 bb2 bc2, Value.slice f2 fb2 fc2, Value.slice l2 lb2 lc2], Value.int .i64 0, Value.int .i64 at_, u73, u74, u75, u76, u77, u78, u79, u80, Value.bool bq1, u82, u83, u84, u85, Value.agg #[Value.int .i64 0, Value.int .i64 0, Value.string ⟨#[]⟩, Value.slice none 0 0, Value.slice none 0 0, Value.slice none 0 0], u87, u88, u89, u90, u91, u92, u93, Value.bool bq2, u95, u96, u97, u98, Value.int .i64 (tn : Int), Value.slice ta tn tc, Value.int .i64 (tn : Int), Value.bool false, u103, u104, u105, u106, u107, u108, u109, u110, u111, u112, u113, u114, u115, u116, u117, u118, u119, u120, u121, u122, u123, u124, u125, u126, u127, Value.tuple #[Value.agg #[Value.int .i64 k4, Value.int .i64 m4, Value.string s4, Value.slice b4 bb4 bc4, Value.slice f4 fb4 fc4, Value.slice l4 lb4 lc4], Value.int .i64 0], Value.func (Fn.func 16) #[] #[Value.pointer (some ⟨PD, 0, none⟩)], Value.slice la tn lcap, Value.agg #[Value.int .i64 6, Value.int .i64 0, Value.string ⟨#[]⟩, Value.slice none 0 0, Value.slice (some ⟨g30, 0, none⟩) 1 1, Value.slice none 0 0], Value.tuple #[Value.agg #[Value.int .i64 k4, Value.int .i64 m4, Value.string s4, Value.slice b4 bb4 bc4, Value.slice f4 fb4 fc4, Value.slice l4 lb4 lc4], Value.int .i64 0], Value.agg #[Value.int .i64 k4, Value.int .i64 m4, Value.string s4, Value.slice b4 bb4 bc4, Value.slice f4 fb4 fc4, Value.slice l4 lb4 lc4], Value.int .i64 0, Value.int .i64 0, Value.bool false, Value.bool false, Value.int .i64 0, Value.bool false, Value.bool false, Value.bool false, Value.int .i64 0, Value.bool false, Value.bool false, Value.bool false, Value.agg #[Value.int .i64 k1, Value.int .i64 m1, Value.string s1, Value.slice b1 bb1 bc1, Value.slice f1 fb1 fc1, Value.slice l1 lb1 lc1], Value.agg #[c0, c1, c2, c3, c4, c5], Value.bool true, Value.bool false, Value.bool false, Value.bool false, Value.pointer (some ⟨Q8, 1, none⟩), Value.int .i64 (n : Int), Value.slice (some ⟨g0, o0, none⟩) n c, Value.int .i64 (n : Int), Value.bool false, Value.bool false, Value.bool false, Value.pointer (some ⟨Q53, 0, none⟩), Value.int .i64 5, Value.bool false, Value.bool false, Value.bool false, Value.pointer (some ⟨Q53, 2, none⟩), Value.string s, Value.string s, Value.bool false, Value.bool false, Value.int .i64 (k : Int), Value.slice (some ⟨g0, o0, none⟩) n c, Value.int .i64 (n : Int), Value.bool true, u173, u174, Y0 9, Y0 0, Y0 1, Y0 2, Y0 3, Y0 4, Y0 5, Y0 6, Y0 7, Y0 8, Y0 10, Y0 11, V 0, V 1, V 2, V 3, V 4, V 5, V 6, V 7, V 8, V 9, V 10, V 11, V 12], defers := [] }) [Fact.is (.int .i64 0), Fact.is (.bool false), Fact.is (.bool false), Fact.is (.pointer (some ⟨PZ, 2, none⟩)), Fact.is (.string nm), Fact.is (.slice (some ⟨g0, o0, none⟩) n c), Fact.is (.int .i64 (k : Int)), Fact.is (.pointer (some ⟨g0, o0 + k * 6, none⟩)), Fact.is (.pointer (some ⟨g0, o0 + k * 6, none⟩)), Fact.is (.int .i64 jk), Fact.is (.string nm), Fact.is (.bool false), Fact.is (.bool false)] (by kernel_rfl) (by kernel_rfl) (by kernel_rfl) (fun V => by kernel_rfl) ?_ ?_
     ·refine ⟨?_, ?_⟩
      ·refine fact_free rfl (fun V w7 hB hF K hK => ?_)
       go_simp
       exact put_is (by kernel_rfl) (hK.out (.int .i64 0) _ (Below.refl _ _) rfl)
      refine ⟨?_, ?_⟩
      ·refine fact_free rfl (fun V w7 hB hF K hK => ?_)
       have h0 : V 0 = .int .i64 0 := hF.out 0 (by kernel_rfl)
       go_simp
       exact put_is (by rw [h0]; kernel_rfl) (hK.out (.bool false) _ (Below.refl _ _) rfl)
      refine ⟨?_, ?_⟩
      ·refine fact_free rfl (fun V w7 hB hF K hK => ?_)
       have h1 : V 1 = .bool false := hF.out 1 (by kernel_rfl)
       go_simp
       exact put_is (by rw [h1]; kernel_rfl) (hK.out (.bool false) _ (Below.refl _ _) rfl)
      refine ⟨?_, ?_⟩
      ·refine fact_on 2 false rfl (by kernel_rfl) (fun V => by kernel_rfl) (fun v w h => h) (fun V w7 hB hF K hK => ?_)
       go_simp
       exact put_is (by kernel_rfl) (hK.out (.pointer (some ⟨PZ, 2, none⟩)) _ (Below.refl _ _) rfl)
      refine ⟨?_, ?_⟩
      ·refine fact_on 2 false rfl (by kernel_rfl) (fun V => by kernel_rfl) (fun v w h => h) (fun V w7 hB hF K hK => ?_)
       have h3 : V 3 = .pointer (some ⟨PZ, 2, none⟩) := hF.out 3 (by kernel_rfl)
       obtain ⟨x0, x1, x2, x3, x4, x5⟩ := (HBX.out.keep hB).cells
       go_simp
       exact put_is (by rw [h3]; kernel_rfl) (hK.out (.string nm) _ (Below.refl _ _) rfl)
      refine ⟨?_, ?_⟩
      ·refine fact_on 2 false rfl (by kernel_rfl) (fun V => by kernel_rfl) (fun v w h => h) (fun V w7 hB hF K hK => ?_)
       go_simp
       exact put_is (by kernel_rfl) (hK.out (.slice (some ⟨g0, o0, none⟩) n c) _ (Below.refl _ _) rfl)
      refine ⟨?_, ?_⟩
      ·refine fact_on 2 false rfl (by kernel_rfl) (fun V => by kernel_rfl) (fun v w h => h) (fun V w7 hB hF K hK => ?_)
       go_simp
       exact put_is (by kernel_rfl) (hK.out (.int .i64 (k : Int)) _ (Below.refl _ _) rfl)
      refine ⟨?_, ?_⟩
      ·refine fact_on 2 false rfl (by kernel_rfl) (fun V => by kernel_rfl) (fun v w h => h) (fun V w7 hB hF K hK => ?_)
       have h5 : V 5 = .slice (some ⟨g0, o0, none⟩) n c := hF.out 5 (by kernel_rfl)
       have h6 : V 6 = .int .i64 (k : Int) := hF.out 6 (by kernel_rfl)
       go_simp
       exact put_is (by rw [h5, h6]; kernel_rfl) (hK.out (.pointer (some ⟨g0, o0 + k * 6, none⟩)) _ (Below.refl _ _) rfl)
      refine ⟨?_, ?_⟩
      ·refine fact_on 2 false rfl (by kernel_rfl) (fun V => by kernel_rfl) (fun v w h => h) (fun V w7 hB hF K hK => ?_)
       have h7 : V 7 = .pointer (some ⟨g0, o0 + k * 6, none⟩) := hF.out 7 (by kernel_rfl)
       go_simp
       exact put_is (by rw [h7]; kernel_rfl) (hK.out (.pointer (some ⟨g0, o0 + k * 6, none⟩)) _ (Below.refl _ _) rfl)
      refine ⟨?_, ?_⟩
      ·refine fact_on 2 false rfl (by kernel_rfl) (fun V => by kernel_rfl) (fun v w h => h) (fun V w7 hB hF K hK => ?_)
       have h8 : V 8 = .pointer (some ⟨g0, o0 + k * 6, none⟩) := hF.out 8 (by kernel_rfl)
       have s0 := cell_keep hB HS0.out
       go_simp
       exact put_is (by rw [h8]; kernel_rfl) (hK.out (.int .i64 jk) _ (Below.refl _ _) rfl)
      refine ⟨?_, ?_⟩
      ·refine fact_on 2 false rfl (by kernel_rfl) (fun V => by kernel_rfl) (fun v w h => h) (fun V w7 hB hF K hK => ?_)
       have h9 : V 9 = .int .i64 jk := hF.out 9 (by kernel_rfl)
       have CK := CT.out w7
       go_simp
       refine CK.mono ?_
       rintro e w8 ⟨rfl, hb8⟩
       exact put_is (by rw [h9]; kernel_rfl) (hK.out (.string nm) _ hb8 rfl)
      refine ⟨?_, ?_⟩
      ·refine fact_on 2 false rfl (by kernel_rfl) (fun V => by kernel_rfl) (fun v w h => h) (fun V w7 hB hF K hK => ?_)
       have h4 : V 4 = .string nm := hF.out 4 (by kernel_rfl)
       have h10 : V 10 = .string nm := hF.out 10 (by kernel_rfl)
       go_simp
       exact put_is (by rw [h4, h10]; kernel_rfl) (hK.out (.bool false) _ (Below.refl _ _) rfl)
      refine ⟨?_, ?_⟩
      ·refine fact_free rfl (fun V w7 hB hF K hK => ?_)
       have h2 : V 2 = .bool false := hF.out 2 (by kernel_rfl)
       have h11 : V 11 = .bool false := hF.out 11 (by kernel_rfl)
       go_simp
       exact put_is (by rw [h2, h11]; kernel_rfl) (hK.out (.bool false) _ (Below.refl _ _) rfl)
      trivial
     intro V w10 hb10 hF10
     have h12 : V 12 = .bool false := hF10 12 (by decide)
     rw [h12]
     have HB10 : Hid (Below vs.heap.size vs w10) := HB9.out.trans (hb10.mono HB9.out.size)
     clear h12 hF10 hb10 hne hne2 CT HS0 HBX HB9 HBW9
     go_wp2_with fail
     go_roundw
     case rel =>
      repeat apply Exists.intro
      refine ⟨?_, rfl⟩
      exact ⟨k + 1, by go_num, by omega, HB10.out⟩
     case measure => simp [intOf]; omega
    ·skip
     have HEND : Hid (Below w.heap.size w wr) := HB.out.trans (HBZ.out.mono HB.out.size)
     go_wp2_with fail
     refine bodyPost_ret (v := .bool true) ?_ rfl ?_
     ·simp [results, Tryz.results5, go_sem, *]
     ·exact ⟨rfl, HEND.out⟩
end Go.Proofs.YtiajjgehnmkokaaGreatDoor
end
