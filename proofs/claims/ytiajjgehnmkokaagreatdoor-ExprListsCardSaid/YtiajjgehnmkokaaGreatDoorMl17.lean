/- ExprOpKind, ExprOpNot, ExprOpSize, ExprPlace, PathTab, ExprCompare, ExprDecide. -/
import Derived.Test.YtiajjgehnmkokaaGreatDoorCards
import Derived.Test.YtiajjgehnmkokaaGreatDoorTie
import Derived.Lib.LaidU8T
import Derived.Deep.DeepWitnessRowRef
import Derived.SizedLaws
import Derived.Lay
import Derived.Deep.Strs
import Derived.Test.YtiajjgehnmkokaaGreatDoorMl16
import Derived.Test.YtiajjgehnmkokaaGreatDoorMl15
import Derived.Test.YtiajjgehnmkokaaGreatDoorMl4
import Derived.Test.YtiajjgehnmkokaaGreatDoorMl0
import Derived.Test.YtiajjgehnmkokaaGreatDoorMl1
import Derived.Test.YtiajjgehnmkokaaGreatDoorMl14
set_option maxRecDepth 100000
set_option maxHeartbeats 20000000
section
namespace Go.Proofs.YtiajjgehnmkokaaGreatDoor
open Go.RowKit
open Seal
open Bson (Val)
theorem kindName_size (k : Int) : (Expr.kindName k).size ≤ 140737488355328 := by
 by_cases h0 : k = 0
 ·subst h0; decide
 by_cases h1 : k = 1
 ·subst h1; decide
 by_cases h2 : k = 2
 ·subst h2; decide
 by_cases h3 : k = 3
 ·subst h3; decide
 by_cases h4 : k = 4
 ·subst h4; decide
 by_cases h5 : k = 5
 ·subst h5; decide
 by_cases h6 : k = 6
 ·subst h6; decide
 by_cases h7 : k = 7
 ·subst h7; decide
 by_cases h8 : k = 8
 ·subst h8; decide
 by_cases h9 : k = 9
 ·subst h9; decide
 by_cases h10 : k = 10
 ·subst h10; decide
 by_cases h11 : k = 11
 ·subst h11; decide
 by_cases h12 : k = 12
 ·subst h12; decide
 have HR : Expr.kindName k = ⟨#[]⟩ := by unfold Expr.kindName; rw [if_neg h0, if_neg h1, if_neg h2, if_neg h3, if_neg h4, if_neg h5, if_neg h6, if_neg h7, if_neg h8, if_neg h9, if_neg h10, if_neg h11, if_neg h12]
 rw [HR]; decide
theorem textV_in (w : World) (Q : Nat → Prop) (s : ByteArray) (hs : s.size ≤ 140737488355328) (h : Nat) : VIn w Q (h + 1) (Expr.textV s) (.agg #[.int .i64 5, .int .i64 0, .string s, .slice none 0 0, .slice none 0 0, .slice none 0 0]) :=
 ⟨none, none, none, 0, 0, 0, rfl, ⟨by show (-9223372036854775808 : Int) ≤ 5; omega, by show (5 : Int) ≤ _; omega, by show (-9223372036854775808 : Int) ≤ 0; omega, by show (0 : Int) ≤ _; omega, hs, by show (0 : Nat) ≤ _; omega, by show (0 : Nat) ≤ _; omega, by show (0 : Nat) ≤ _; omega, (fun _ h => by cases h)⟩, ⟨Nat.le_refl _, by omega⟩, ⟨Nat.le_refl _, by omega⟩, ⟨Nat.le_refl _, by omega⟩, .inl rfl, .inl rfl, .inl rfl⟩
theorem nameOf_any (k : Int) (w : World) : Calls Tryz.prog 136 #[.int .i64 k] w fun e w' => e = .returned (.string (Expr.kindName k)) ∧ Below w.heap.size w w' := by
 by_cases h0 : k = 0
 ·subst h0
  go_enter Tryz.func136, Tryz.ntmps136
  go_wp2_with fail
  go_ret
  exact ⟨rfl, Below.refl _ _⟩
 have b0 : (k == 0) = false := by rw [beq_eq_false_iff_ne]; exact h0
 by_cases h1 : k = 1
 ·subst h1
  go_enter Tryz.func136, Tryz.ntmps136
  go_wp2_with fail
  go_ret
  exact ⟨rfl, Below.refl _ _⟩
 have b1 : (k == 1) = false := by rw [beq_eq_false_iff_ne]; exact h1
 by_cases h2 : k = 2
 ·subst h2
  go_enter Tryz.func136, Tryz.ntmps136
  go_wp2_with fail
  go_ret
  exact ⟨rfl, Below.refl _ _⟩
 have b2 : (k == 2) = false := by rw [beq_eq_false_iff_ne]; exact h2
 by_cases h3 : k = 3
 ·subst h3
  go_enter Tryz.func136, Tryz.ntmps136
  go_wp2_with fail
  go_ret
  exact ⟨rfl, Below.refl _ _⟩
 have b3 : (k == 3) = false := by rw [beq_eq_false_iff_ne]; exact h3
 by_cases h4 : k = 4
 ·subst h4
  go_enter Tryz.func136, Tryz.ntmps136
  go_wp2_with fail
  go_ret
  exact ⟨rfl, Below.refl _ _⟩
 have b4 : (k == 4) = false := by rw [beq_eq_false_iff_ne]; exact h4
 by_cases h5 : k = 5
 ·subst h5
  go_enter Tryz.func136, Tryz.ntmps136
  go_wp2_with fail
  go_ret
  exact ⟨rfl, Below.refl _ _⟩
 have b5 : (k == 5) = false := by rw [beq_eq_false_iff_ne]; exact h5
 by_cases h6 : k = 6
 ·subst h6
  go_enter Tryz.func136, Tryz.ntmps136
  go_wp2_with fail
  go_ret
  exact ⟨rfl, Below.refl _ _⟩
 have b6 : (k == 6) = false := by rw [beq_eq_false_iff_ne]; exact h6
 by_cases h7 : k = 7
 ·subst h7
  go_enter Tryz.func136, Tryz.ntmps136
  go_wp2_with fail
  go_ret
  exact ⟨rfl, Below.refl _ _⟩
 have b7 : (k == 7) = false := by rw [beq_eq_false_iff_ne]; exact h7
 by_cases h8 : k = 8
 ·subst h8
  go_enter Tryz.func136, Tryz.ntmps136
  go_wp2_with fail
  go_ret
  exact ⟨rfl, Below.refl _ _⟩
 have b8 : (k == 8) = false := by rw [beq_eq_false_iff_ne]; exact h8
 by_cases h9 : k = 9
 ·subst h9
  go_enter Tryz.func136, Tryz.ntmps136
  go_wp2_with fail
  go_ret
  exact ⟨rfl, Below.refl _ _⟩
 have b9 : (k == 9) = false := by rw [beq_eq_false_iff_ne]; exact h9
 by_cases h10 : k = 10
 ·subst h10
  go_enter Tryz.func136, Tryz.ntmps136
  go_wp2_with fail
  go_ret
  exact ⟨rfl, Below.refl _ _⟩
 have b10 : (k == 10) = false := by rw [beq_eq_false_iff_ne]; exact h10
 by_cases h11 : k = 11
 ·subst h11
  go_enter Tryz.func136, Tryz.ntmps136
  go_wp2_with fail
  go_ret
  exact ⟨rfl, Below.refl _ _⟩
 have b11 : (k == 11) = false := by rw [beq_eq_false_iff_ne]; exact h11
 by_cases h12 : k = 12
 ·subst h12
  go_enter Tryz.func136, Tryz.ntmps136
  go_wp2_with fail
  go_ret
  exact ⟨rfl, Below.refl _ _⟩
 have b12 : (k == 12) = false := by rw [beq_eq_false_iff_ne]; exact h12
 have HR := Lib.hid (show Expr.kindName k = ⟨#[]⟩ by unfold Expr.kindName; rw [if_neg h0, if_neg h1, if_neg h2, if_neg h3, if_neg h4, if_neg h5, if_neg h6, if_neg h7, if_neg h8, if_neg h9, if_neg h10, if_neg h11, if_neg h12])
 clear h0 h1 h2 h3 h4 h5 h6 h7 h8 h9 h10 h11 h12
 go_enter Tryz.func136, Tryz.ntmps136
 go_wp2_with fail
 go_ret
 exact ⟨ret_eq (by rw [HR.out]; rfl), Below.refl _ _⟩
theorem op_kind_any (H hd C : Nat) (a : Option Addr) (n c : Nat) (fs : List (Nat → Val → Expr.Out)) (Q : Nat → Prop) (d : Val) (dv : Value) (w : World) (hn : fs.length = n) (h1 : n = 1) (hT : TermsIn w a H fs) (hd0 : VIn w Q (hd + 1) d dv) :
  Calls Tryz.prog 107 #[.agg #[.func (.func 107) #[] #[], .slice a n c], dv] w (EvPost w (H + hd + 1) (Expr.apply (C + hd) .type_ (outsOf fs hd d))) := by
 obtain ⟨dk, dn, ds, da, df, dl, ba, bc, fa, fc, la, lc, rfl⟩ := hd0.shape
 have h0f : 0 < fs.length := by omega
 obtain ⟨g, o, t, rfl, hct, T, K, rv, rfl, hm, hme, hcall⟩ := hT.at 0 h0f
 rw [Nat.add_zero] at hct
 obtain ⟨ou, hou⟩ : ∃ z, z = Expr.outAt (outsOf fs hd d) 0 := ⟨_, rfl⟩
 have hou2 : fs[0] hd d = ou := by rw [hou, outAt_get fs hd d 0 h0f]
 have hcall2 := fun W hW => hcall W hW Q hd d
 rw [hou2] at hcall2
 obtain ⟨W0, hW0⟩ : ∃ W0, W0 = ((w.alloc (.cells #[(.func (.func 107) #[] #[]), .slice (some ⟨g, o, none⟩) n c] 126)).alloc (.cells #[.int .i64 dk, .int .i64 dn, .string ds, .slice da ba bc, .slice df fa fc, .slice dl la lc] 26)).alloc (.cells #[.int .i64 0, .int .i64 0, .string ⟨#[]⟩, .slice none 0 0, .slice none 0 0, .slice none 0 0] 26) := ⟨_, rfl⟩
 have HB := Lib.hid (CB.new w (.func (.func 107) #[] #[]) (some ⟨g, o, none⟩) n c (.int .i64 dk) (.int .i64 dn) (.string ds) (.slice da ba bc) (.slice df fa fc) (.slice dl la lc) W0 hW0)
 have HW0 := Lib.hid hW0
 have HT := Lib.hid hT
 have HD := Lib.hid hd0
 have HOU := Lib.hid hou
 have HCT := Lib.hid hct
 have HCALL := Lib.hid hcall2
 obtain ⟨res, hres⟩ : ∃ z, z = Expr.apply (C + hd) .type_ (outsOf fs hd d) := ⟨_, rfl⟩
 rw [← hres]
 have HRES := Lib.hid hres
 have HN := Lib.hid hn
 have hn0 : 0 < n := by omega
 have HN1 := Lib.hid h1
 clear hT hd0 hcall hcall2 hou hou2 hct hW0 hres hn h0f h1
 go_enter Tryz.func107, Tryz.ntmps107
 go_upto_region 1 with fail
 rw [← HW0.out]
 refine wp_region_inv0 (fun V => { tmps := #[.agg #[.func (.func 107) #[] #[], .slice (some ⟨g, o, none⟩) n c], .agg #[.int .i64 dk, .int .i64 dn, .string ds, .slice da ba bc, .slice df fa fc, .slice dl la lc], .pointer (some ⟨w.heap.size, 0, none⟩), .pointer (some ⟨w.heap.size + 1, 0, none⟩), .pointer (some ⟨w.heap.size + 1 + 1, 0, none⟩), .int .i64 0, V 9, V 11, V 6, V 0, V 1, V 2, V 3, V 4, V 5, V 7, V 8, undef, undef, undef, undef, undef, undef, undef, undef], defers := [] }) (CI W0 [.pointer (some ⟨w.heap.size, 1, none⟩), .slice (some ⟨g, o, none⟩) n c, .pointer (some ⟨g, o, none⟩), .iface T rv, .agg #[.int .i64 dk, .int .i64 dn, .string ds, .slice da ba bc, .slice df fa fc, .slice dl la lc]] (.int .i64 ou.1) (H + hd) ou.2) (by kernel_rfl) (by kernel_rfl) (by kernel_rfl) (fun V => by kernel_rfl) ?_ CI.start ?_
 ·refine ⟨?_, ?_⟩
  ·refine inv_free rfl (fun D9 V w5 hDi hpre hI K hK => ?_)
   go_simp
   exact put_is (by kernel_rfl) (hK.out (.pointer (some ⟨w.heap.size, 1, none⟩)) w5 (hI.step (by decide) rfl))
  refine ⟨?_, ?_⟩
  ·refine inv_free rfl (fun D9 V w5 hDi hpre hI K hK => ?_)
   have e0 : V 0 = .pointer (some ⟨w.heap.size, 1, none⟩) := hI.known (by decide) (hpre.out 0 (by kernel_rfl))
   have hc1 := (HB.out.keep hI.below).c1
   go_simp
   exact put_is (by rw [e0]; kernel_rfl) (hK.out (.slice (some ⟨g, o, none⟩) n c) w5 (hI.step (by decide) rfl))
  refine ⟨?_, ?_⟩
  ·refine inv_free rfl (fun D9 V w5 hDi hpre hI K hK => ?_)
   have e1 : V 1 = .slice (some ⟨g, o, none⟩) n c := hI.known (by decide) (hpre.out 1 (by kernel_rfl))
   go_simp
   exact put_is (by rw [e1]; kernel_rfl) (hK.out (.pointer (some ⟨g, o, none⟩)) w5 (hI.step (by decide) rfl))
  refine ⟨?_, ?_⟩
  ·refine inv_free rfl (fun D9 V w5 hDi hpre hI K hK => ?_)
   have e2 : V 2 = .pointer (some ⟨g, o, none⟩) := hI.known (by decide) (hpre.out 2 (by kernel_rfl))
   have hct := cell_keep (HB.out.keep hI.below).below HCT.out
   go_simp
   exact put_is (by rw [e2]; kernel_rfl) (hK.out (.iface T rv) w5 (hI.step (by decide) rfl))
  refine ⟨?_, ?_⟩
  ·refine inv_free rfl (fun D9 V w5 hDi hpre hI K hK => ?_)
   obtain ⟨x0, x1, x2, x3, x4, x5⟩ := (HB.out.keep hI.below).doc.cells
   go_simp
   exact put_is (by kernel_rfl) (hK.out (.agg #[.int .i64 dk, .int .i64 dn, .string ds, .slice da ba bc, .slice df fa fc, .slice dl la lc]) w5 (hI.step (by decide) rfl))
  refine ⟨?_, ?_⟩
  ·refine inv_free rfl (fun D9 V w5 hDi hpre hI K hK => ?_)
   have e3 : V 3 = .iface T rv := hI.known (by decide) (hpre.out 3 (by kernel_rfl))
   have e4 : V 4 = .agg #[.int .i64 dk, .int .i64 dn, .string ds, .slice da ba bc, .slice df fa fc, .slice dl la lc] := hI.known (by decide) (hpre.out 4 (by kernel_rfl))
   have hbw := (HB.out.keep hI.below).below
   have CK := HCALL.out w5 hbw _ (VIn.keep hbw HD.out)
   go_simp
   refine CK.mono ?_
   rintro e w6 ⟨v6, rfl, hv6, hb6⟩
   exact put_is (by rw [e3, e4]; kernel_rfl) (hK.out (.tuple #[v6, .int .i64 ou.1]) w6 (hI.call hDi hb6 hv6))
  refine ⟨?_, ?_⟩
  ·refine inv_free rfl (fun D9 V w5 hDi hpre hI K hK => ?_)
   have h5 := hpre.out 5 (by kernel_rfl)
   go_simp
   exact put_is (by kernel_rfl) (hK.out (V 5) w5 (hI.moved h5))
  refine ⟨?_, ?_⟩
  ·refine inv_free rfl (fun D9 V w5 hDi hpre hI K hK => ?_)
   obtain ⟨v, e6, h7, -⟩ := hI.got (hpre.out 6 (by kernel_rfl))
   go_simp
   exact put_is (by rw [e6]; kernel_rfl) (hK.out v w5 h7)
  refine ⟨?_, ?_⟩
  ·refine inv_free rfl (fun D9 V w5 hDi hpre hI K hK => ?_)
   obtain ⟨v, e6, -, h8⟩ := hI.got (hpre.out 6 (by kernel_rfl))
   go_simp
   exact put_is (by rw [e6]; kernel_rfl) (hK.out (.int .i64 ou.1) w5 h8)
  refine ⟨?_, ?_⟩
  ·refine inv_free rfl (fun D9 V w5 hDi hpre hI K hK => ?_)
   go_simp
   exact put_is (by kernel_rfl) (hK.out (.pointer (some ⟨w5.heap.size, 0, none⟩)) _ (hI.made hDi))
  refine ⟨?_, ?_⟩
  ·refine inv_free rfl (fun D9 V w5 hDi hpre hI K hK => ?_)
   obtain ⟨p, k9, n9, s9, ba9, fa9, la9, bn9, bc9, fn9, fc9, ln9, lc9, e9, e7, hbx, h10⟩ := hI.kept (hpre.out 9 (by kernel_rfl)) (hpre.out 7 (by kernel_rfl)) hDi
   obtain ⟨z0, z1, z2, z3, z4, z5⟩ := hbx.cells
   obtain ⟨q0, q1, q2, q3, q4, q5⟩ := hbx.thaw
   go_simp
   exact put_is (by rw [e9, e7]; kernel_rfl) (hK.out undef _ h10)
  refine ⟨?_, ?_⟩
  ·refine inv_free rfl (fun D9 V w5 hDi hpre hI K hK => ?_)
   obtain ⟨e8, h11⟩ := hI.err (hpre.out 8 (by kernel_rfl))
   go_simp
   exact put_is (by rw [e8]; kernel_rfl) (hK.out (.int .i64 ou.1) w5 h11)
  trivial
 intro D9 V w9 hD9 hI9
 obtain ⟨p, k, m, s, b1, f1, l1, b2, b3, f2, f3, l2, l3, lo, hi, e9, e11, hbx, hv9, hlo, hhi, hp, hb9⟩ := hI9.end hD9
 rw [e9, e11]
 have HB9 := Lib.hid (HB.out.keep hb9)
 have HX9 := Lib.hid hbx
 have HV9 := Lib.hid hv9
 have HLO := Lib.hid (And.intro hlo (And.intro hhi hp))
 obtain ⟨r0, r1, r2, r3, r4, r5⟩ := HB9.out.res.cells
 obtain ⟨q0, q1, q2, q3, q4, q5⟩ := HB9.out.res.thaw
 obtain ⟨z0, z1, z2, z3, z4, z5⟩ := HX9.out.cells
 clear hI9 hD9 e9 e11 hbx hv9 hlo hhi hp hb9
 by_cases hz : ou.1 = 0
 ·rw [hz]
  obtain ⟨e1, -, -, -, -⟩ := HV9.out.top
  have CN := Lib.hid (nameOf_any k w9)
  obtain ⟨nm, hnm⟩ : ∃ z, z = Expr.kindName k := ⟨_, rfl⟩
  rw [← hnm] at CN
  have hre : res = (0, Expr.textV nm) := by
   rw [HRES.out]
   rw [Expr.apply_type_]
   unfold Expr.one
   rw [← HOU.out, if_pos hz]
   rw [hnm, e1]
  have HRE := Lib.hid hre
  have HNM : Hid (nm.size ≤ 140737488355328) := by show _ ≤ _; rw [hnm]; exact kindName_size k
  clear hre e1 hnm hz
  go_wp2_with fail
  clear r0 r1 r2 r3 r4 r5 q0 q1 q2 q3 q4 q5 z0 z1 z2 z3 z4 z5
  refine CN.out.mono ?_
  rintro e w6 ⟨rfl, hb6⟩
  have HEND := Lib.hid (below_six (HB9.out.below.trans (hb6.mono HB9.out.below.size)) (by omega : w.heap.size ≤ w.heap.size + 1 + 1) (.int .i64 5) (.int .i64 0) (.string nm) (.slice none 0 0) (.slice none 0 0) (.slice none 0 0))
  have HK6 := Lib.hid (HB9.out.keep hb6)
  obtain ⟨r0, r1, r2, r3, r4, r5⟩ := HK6.out.res.cells
  obtain ⟨q0, q1, q2, q3, q4, q5⟩ := HK6.out.res.thaw
  clear hb6
  go_wp2_with fail
  exact bodyPost_ret (v := .tuple #[.agg #[.int .i64 5, .int .i64 0, .string nm, .slice none 0 0, .slice none 0 0, .slice none 0 0], .int .i64 0]) (by simp [results, Tryz.results107, go_sem, *]) rfl ⟨_, by rw [HRE.out], by rw [HRE.out]; exact textV_in _ _ nm HNM.out _, HEND.out⟩
 ·have hz2 : (ou.1 == 0) = false := by rw [beq_eq_false_iff_ne]; exact hz
  have hre : res = (ou.1, Bson.zero) := by
   rw [HRES.out]
   rw [Expr.apply_type_]
   unfold Expr.one
   rw [← HOU.out, if_neg hz]; rfl
  have HRE := Lib.hid hre
  have HEND := Lib.hid (below_six HB9.out.below (by omega : w.heap.size ≤ w.heap.size + 1 + 1) (.int .i64 0) (.int .i64 0) (.string ⟨#[]⟩) (.slice none 0 0) (.slice none 0 0) (.slice none 0 0))
  clear hz hre
  go_wp2_with fail
  exact bodyPost_ret (v := .tuple #[.agg #[.int .i64 0, .int .i64 0, .string ⟨#[]⟩, .slice none 0 0, .slice none 0 0, .slice none 0 0], .int .i64 ou.1]) (by simp [results, Tryz.results107, go_sem, *]) rfl ⟨_, by rw [HRE.out], by rw [HRE.out]; exact (zero_in _ _).up (by omega), HEND.out⟩
theorem op_not_any (H hd C : Nat) (a : Option Addr) (n c : Nat) (fs : List (Nat → Val → Expr.Out)) (Q : Nat → Prop) (d : Val) (dv : Value) (w : World) (hn : fs.length = n) (h1 : n = 1) (hT : TermsIn w a H fs) (hd0 : VIn w Q (hd + 1) d dv) :
  Calls Tryz.prog 101 #[.agg #[.func (.func 101) #[] #[], .slice a n c], dv] w (EvPost w (H + hd + 1) (Expr.apply (C + hd) .not_ (outsOf fs hd d))) := by
 obtain ⟨dk, dn, ds, da, df, dl, ba, bc, fa, fc, la, lc, rfl⟩ := hd0.shape
 have h0f : 0 < fs.length := by omega
 obtain ⟨g, o, t, rfl, hct, T, K, rv, rfl, hm, hme, hcall⟩ := hT.at 0 h0f
 rw [Nat.add_zero] at hct
 obtain ⟨ou, hou⟩ : ∃ z, z = Expr.outAt (outsOf fs hd d) 0 := ⟨_, rfl⟩
 have hou2 : fs[0] hd d = ou := by rw [hou, outAt_get fs hd d 0 h0f]
 have hcall2 := fun W hW => hcall W hW Q hd d
 rw [hou2] at hcall2
 obtain ⟨W0, hW0⟩ : ∃ W0, W0 = ((w.alloc (.cells #[(.func (.func 101) #[] #[]), .slice (some ⟨g, o, none⟩) n c] 126)).alloc (.cells #[.int .i64 dk, .int .i64 dn, .string ds, .slice da ba bc, .slice df fa fc, .slice dl la lc] 26)).alloc (.cells #[.int .i64 0, .int .i64 0, .string ⟨#[]⟩, .slice none 0 0, .slice none 0 0, .slice none 0 0] 26) := ⟨_, rfl⟩
 have HB := Lib.hid (CB.new w (.func (.func 101) #[] #[]) (some ⟨g, o, none⟩) n c (.int .i64 dk) (.int .i64 dn) (.string ds) (.slice da ba bc) (.slice df fa fc) (.slice dl la lc) W0 hW0)
 have HW0 := Lib.hid hW0
 have HT := Lib.hid hT
 have HD := Lib.hid hd0
 have HOU := Lib.hid hou
 have HCT := Lib.hid hct
 have HCALL := Lib.hid hcall2
 obtain ⟨res, hres⟩ : ∃ z, z = Expr.apply (C + hd) .not_ (outsOf fs hd d) := ⟨_, rfl⟩
 rw [← hres]
 have HRES := Lib.hid hres
 have HN := Lib.hid hn
 have hn0 : 0 < n := by omega
 have HN1 := Lib.hid h1
 clear hT hd0 hcall hcall2 hou hou2 hct hW0 hres hn h0f h1
 go_enter Tryz.func101, Tryz.ntmps101
 go_upto_region 1 with fail
 rw [← HW0.out]
 refine wp_region_inv0 (fun V => { tmps := #[.agg #[.func (.func 101) #[] #[], .slice (some ⟨g, o, none⟩) n c], .agg #[.int .i64 dk, .int .i64 dn, .string ds, .slice da ba bc, .slice df fa fc, .slice dl la lc], .pointer (some ⟨w.heap.size, 0, none⟩), .pointer (some ⟨w.heap.size + 1, 0, none⟩), .pointer (some ⟨w.heap.size + 1 + 1, 0, none⟩), .int .i64 0, V 9, V 11, V 6, V 0, V 1, V 2, V 3, V 4, V 5, V 7, V 8, undef, undef, undef, undef, undef, undef, undef, undef], defers := [] }) (CI W0 [.pointer (some ⟨w.heap.size, 1, none⟩), .slice (some ⟨g, o, none⟩) n c, .pointer (some ⟨g, o, none⟩), .iface T rv, .agg #[.int .i64 dk, .int .i64 dn, .string ds, .slice da ba bc, .slice df fa fc, .slice dl la lc]] (.int .i64 ou.1) (H + hd) ou.2) (by kernel_rfl) (by kernel_rfl) (by kernel_rfl) (fun V => by kernel_rfl) ?_ CI.start ?_
 ·refine ⟨?_, ?_⟩
  ·refine inv_free rfl (fun D9 V w5 hDi hpre hI K hK => ?_)
   go_simp
   exact put_is (by kernel_rfl) (hK.out (.pointer (some ⟨w.heap.size, 1, none⟩)) w5 (hI.step (by decide) rfl))
  refine ⟨?_, ?_⟩
  ·refine inv_free rfl (fun D9 V w5 hDi hpre hI K hK => ?_)
   have e0 : V 0 = .pointer (some ⟨w.heap.size, 1, none⟩) := hI.known (by decide) (hpre.out 0 (by kernel_rfl))
   have hc1 := (HB.out.keep hI.below).c1
   go_simp
   exact put_is (by rw [e0]; kernel_rfl) (hK.out (.slice (some ⟨g, o, none⟩) n c) w5 (hI.step (by decide) rfl))
  refine ⟨?_, ?_⟩
  ·refine inv_free rfl (fun D9 V w5 hDi hpre hI K hK => ?_)
   have e1 : V 1 = .slice (some ⟨g, o, none⟩) n c := hI.known (by decide) (hpre.out 1 (by kernel_rfl))
   go_simp
   exact put_is (by rw [e1]; kernel_rfl) (hK.out (.pointer (some ⟨g, o, none⟩)) w5 (hI.step (by decide) rfl))
  refine ⟨?_, ?_⟩
  ·refine inv_free rfl (fun D9 V w5 hDi hpre hI K hK => ?_)
   have e2 : V 2 = .pointer (some ⟨g, o, none⟩) := hI.known (by decide) (hpre.out 2 (by kernel_rfl))
   have hct := cell_keep (HB.out.keep hI.below).below HCT.out
   go_simp
   exact put_is (by rw [e2]; kernel_rfl) (hK.out (.iface T rv) w5 (hI.step (by decide) rfl))
  refine ⟨?_, ?_⟩
  ·refine inv_free rfl (fun D9 V w5 hDi hpre hI K hK => ?_)
   obtain ⟨x0, x1, x2, x3, x4, x5⟩ := (HB.out.keep hI.below).doc.cells
   go_simp
   exact put_is (by kernel_rfl) (hK.out (.agg #[.int .i64 dk, .int .i64 dn, .string ds, .slice da ba bc, .slice df fa fc, .slice dl la lc]) w5 (hI.step (by decide) rfl))
  refine ⟨?_, ?_⟩
  ·refine inv_free rfl (fun D9 V w5 hDi hpre hI K hK => ?_)
   have e3 : V 3 = .iface T rv := hI.known (by decide) (hpre.out 3 (by kernel_rfl))
   have e4 : V 4 = .agg #[.int .i64 dk, .int .i64 dn, .string ds, .slice da ba bc, .slice df fa fc, .slice dl la lc] := hI.known (by decide) (hpre.out 4 (by kernel_rfl))
   have hbw := (HB.out.keep hI.below).below
   have CK := HCALL.out w5 hbw _ (VIn.keep hbw HD.out)
   go_simp
   refine CK.mono ?_
   rintro e w6 ⟨v6, rfl, hv6, hb6⟩
   exact put_is (by rw [e3, e4]; kernel_rfl) (hK.out (.tuple #[v6, .int .i64 ou.1]) w6 (hI.call hDi hb6 hv6))
  refine ⟨?_, ?_⟩
  ·refine inv_free rfl (fun D9 V w5 hDi hpre hI K hK => ?_)
   have h5 := hpre.out 5 (by kernel_rfl)
   go_simp
   exact put_is (by kernel_rfl) (hK.out (V 5) w5 (hI.moved h5))
  refine ⟨?_, ?_⟩
  ·refine inv_free rfl (fun D9 V w5 hDi hpre hI K hK => ?_)
   obtain ⟨v, e6, h7, -⟩ := hI.got (hpre.out 6 (by kernel_rfl))
   go_simp
   exact put_is (by rw [e6]; kernel_rfl) (hK.out v w5 h7)
  refine ⟨?_, ?_⟩
  ·refine inv_free rfl (fun D9 V w5 hDi hpre hI K hK => ?_)
   obtain ⟨v, e6, -, h8⟩ := hI.got (hpre.out 6 (by kernel_rfl))
   go_simp
   exact put_is (by rw [e6]; kernel_rfl) (hK.out (.int .i64 ou.1) w5 h8)
  refine ⟨?_, ?_⟩
  ·refine inv_free rfl (fun D9 V w5 hDi hpre hI K hK => ?_)
   go_simp
   exact put_is (by kernel_rfl) (hK.out (.pointer (some ⟨w5.heap.size, 0, none⟩)) _ (hI.made hDi))
  refine ⟨?_, ?_⟩
  ·refine inv_free rfl (fun D9 V w5 hDi hpre hI K hK => ?_)
   obtain ⟨p, k9, n9, s9, ba9, fa9, la9, bn9, bc9, fn9, fc9, ln9, lc9, e9, e7, hbx, h10⟩ := hI.kept (hpre.out 9 (by kernel_rfl)) (hpre.out 7 (by kernel_rfl)) hDi
   obtain ⟨z0, z1, z2, z3, z4, z5⟩ := hbx.cells
   obtain ⟨q0, q1, q2, q3, q4, q5⟩ := hbx.thaw
   go_simp
   exact put_is (by rw [e9, e7]; kernel_rfl) (hK.out undef _ h10)
  refine ⟨?_, ?_⟩
  ·refine inv_free rfl (fun D9 V w5 hDi hpre hI K hK => ?_)
   obtain ⟨e8, h11⟩ := hI.err (hpre.out 8 (by kernel_rfl))
   go_simp
   exact put_is (by rw [e8]; kernel_rfl) (hK.out (.int .i64 ou.1) w5 h11)
  trivial
 intro D9 V w9 hD9 hI9
 obtain ⟨p, k, m, s, b1, f1, l1, b2, b3, f2, f3, l2, l3, lo, hi, e9, e11, hbx, hv9, hlo, hhi, hp, hb9⟩ := hI9.end hD9
 rw [e9, e11]
 have HB9 := Lib.hid (HB.out.keep hb9)
 have HX9 := Lib.hid hbx
 have HV9 := Lib.hid hv9
 have HLO := Lib.hid (And.intro hlo (And.intro hhi hp))
 obtain ⟨r0, r1, r2, r3, r4, r5⟩ := HB9.out.res.cells
 obtain ⟨q0, q1, q2, q3, q4, q5⟩ := HB9.out.res.thaw
 obtain ⟨z0, z1, z2, z3, z4, z5⟩ := HX9.out.cells
 clear hI9 hD9 e9 e11 hbx hv9 hlo hhi hp hb9
 by_cases hz : ou.1 = 0
 ·rw [hz]
  obtain ⟨e1, e2, -, -, -⟩ := HV9.out.top
  have CT := Lib.hid (true_any k m (.string s) (.slice b1 b2 b3) (.slice f1 f2 f3) (.slice l1 l2 l3) w9)
  obtain ⟨tb, htb⟩ : ∃ z, z = truthK k m := ⟨_, rfl⟩
  rw [← htb] at CT
  have hre : res = (0, Expr.boolV (!tb)) := by
   rw [HRES.out]
   rw [Expr.apply_not_]
   unfold Expr.one
   rw [← HOU.out, if_pos hz]
   rw [htb, e1, e2]; rfl
  have HRE := Lib.hid hre
  have HB1 := Lib.hid (boolean_any (!tb))
  clear hre e1 e2 htb hz
  go_wp2_with fail
  refine CT.out.mono ?_
  rintro e w5 ⟨rfl, hb5⟩
  have CB1 := Lib.hid (HB1.out w5)
  obtain ⟨bn, hbn⟩ : ∃ z : Int, z = if (!tb) = true then 1 else 0 := ⟨_, rfl⟩
  have HBN : Hid ((bn = 0 ∨ bn = 1) ∧ Expr.boolV (!tb) = Expr.leafV 10 bn) := by
   refine ⟨by rw [hbn]; cases tb <;> simp, by rw [hbn]; rfl⟩
  rw [← hbn] at CB1
  clear hbn
  clear r0 r1 r2 r3 r4 r5 q0 q1 q2 q3 q4 q5 z0 z1 z2 z3 z4 z5
  go_wp2_with fail
  refine CB1.out.mono ?_
  rintro e w6 ⟨rfl, hb7⟩
  have hb6 : Below w9.heap.size w9 w6 := hb5.trans (hb7.mono hb5.size)
  clear hb5 hb7
  have HEND := Lib.hid (below_six (HB9.out.below.trans (hb6.mono HB9.out.below.size)) (by omega : w.heap.size ≤ w.heap.size + 1 + 1) (.int .i64 10) (.int .i64 bn) (.string ⟨#[]⟩) (.slice none 0 0) (.slice none 0 0) (.slice none 0 0))
  have HK6 := Lib.hid (HB9.out.keep hb6)
  obtain ⟨r0, r1, r2, r3, r4, r5⟩ := HK6.out.res.cells
  obtain ⟨q0, q1, q2, q3, q4, q5⟩ := HK6.out.res.thaw
  clear hb6
  go_wp2_with fail
  exact bodyPost_ret (v := .tuple #[.agg #[.int .i64 10, .int .i64 bn, .string ⟨#[]⟩, .slice none 0 0, .slice none 0 0, .slice none 0 0], .int .i64 0]) (by simp [results, Tryz.results101, go_sem, *]) rfl ⟨_, by rw [HRE.out], by rw [HRE.out, HBN.out.2]; exact leafV_in _ _ 10 bn (by omega) (by have := HBN.out.1; omega) _, HEND.out⟩
 ·have hz2 : (ou.1 == 0) = false := by rw [beq_eq_false_iff_ne]; exact hz
  have hre : res = (ou.1, Bson.zero) := by
   rw [HRES.out]
   rw [Expr.apply_not_]
   unfold Expr.one
   rw [← HOU.out, if_neg hz]; rfl
  have HRE := Lib.hid hre
  have HEND := Lib.hid (below_six HB9.out.below (by omega : w.heap.size ≤ w.heap.size + 1 + 1) (.int .i64 0) (.int .i64 0) (.string ⟨#[]⟩) (.slice none 0 0) (.slice none 0 0) (.slice none 0 0))
  clear hz hre
  go_wp2_with fail
  exact bodyPost_ret (v := .tuple #[.agg #[.int .i64 0, .int .i64 0, .string ⟨#[]⟩, .slice none 0 0, .slice none 0 0, .slice none 0 0], .int .i64 ou.1]) (by simp [results, Tryz.results101, go_sem, *]) rfl ⟨_, by rw [HRE.out], by rw [HRE.out]; exact (zero_in _ _).up (by omega), HEND.out⟩
theorem op_size_any (H hd C : Nat) (a : Option Addr) (n c : Nat) (fs : List (Nat → Val → Expr.Out)) (Q : Nat → Prop) (d : Val) (dv : Value) (w : World) (hn : fs.length = n) (h1 : n = 1) (hT : TermsIn w a H fs) (hd0 : VIn w Q (hd + 1) d dv) :
  Calls Tryz.prog 105 #[.agg #[.func (.func 105) #[] #[], .slice a n c], dv] w (EvPost w (H + hd + 1) (Expr.apply (C + hd) .size_ (outsOf fs hd d))) := by
 obtain ⟨dk, dn, ds, da, df, dl, ba, bc, fa, fc, la, lc, rfl⟩ := hd0.shape
 have h0f : 0 < fs.length := by omega
 obtain ⟨g, o, t, rfl, hct, T, K, rv, rfl, hm, hme, hcall⟩ := hT.at 0 h0f
 rw [Nat.add_zero] at hct
 obtain ⟨ou, hou⟩ : ∃ z, z = Expr.outAt (outsOf fs hd d) 0 := ⟨_, rfl⟩
 have hou2 : fs[0] hd d = ou := by rw [hou, outAt_get fs hd d 0 h0f]
 have hcall2 := fun W hW => hcall W hW Q hd d
 rw [hou2] at hcall2
 obtain ⟨W0, hW0⟩ : ∃ W0, W0 = ((w.alloc (.cells #[(.func (.func 105) #[] #[]), .slice (some ⟨g, o, none⟩) n c] 126)).alloc (.cells #[.int .i64 dk, .int .i64 dn, .string ds, .slice da ba bc, .slice df fa fc, .slice dl la lc] 26)).alloc (.cells #[.int .i64 0, .int .i64 0, .string ⟨#[]⟩, .slice none 0 0, .slice none 0 0, .slice none 0 0] 26) := ⟨_, rfl⟩
 have HB := Lib.hid (CB.new w (.func (.func 105) #[] #[]) (some ⟨g, o, none⟩) n c (.int .i64 dk) (.int .i64 dn) (.string ds) (.slice da ba bc) (.slice df fa fc) (.slice dl la lc) W0 hW0)
 have HW0 := Lib.hid hW0
 have HT := Lib.hid hT
 have HD := Lib.hid hd0
 have HOU := Lib.hid hou
 have HCT := Lib.hid hct
 have HCALL := Lib.hid hcall2
 obtain ⟨res, hres⟩ : ∃ z, z = Expr.apply (C + hd) .size_ (outsOf fs hd d) := ⟨_, rfl⟩
 rw [← hres]
 have HRES := Lib.hid hres
 have HN := Lib.hid hn
 have hn0 : 0 < n := by omega
 have HN1 := Lib.hid h1
 clear hT hd0 hcall hcall2 hou hou2 hct hW0 hres hn h0f h1
 go_enter Tryz.func105, Tryz.ntmps105
 go_upto_region 1 with fail
 rw [← HW0.out]
 refine wp_region_inv0 (fun V => { tmps := #[.agg #[.func (.func 105) #[] #[], .slice (some ⟨g, o, none⟩) n c], .agg #[.int .i64 dk, .int .i64 dn, .string ds, .slice da ba bc, .slice df fa fc, .slice dl la lc], .pointer (some ⟨w.heap.size, 0, none⟩), .pointer (some ⟨w.heap.size + 1, 0, none⟩), .pointer (some ⟨w.heap.size + 1 + 1, 0, none⟩), .int .i64 0, V 9, V 11, V 6, V 0, V 1, V 2, V 3, V 4, V 5, V 7, V 8, undef, undef, undef, undef, undef, undef, undef, undef, undef, undef, undef, undef], defers := [] }) (CI W0 [.pointer (some ⟨w.heap.size, 1, none⟩), .slice (some ⟨g, o, none⟩) n c, .pointer (some ⟨g, o, none⟩), .iface T rv, .agg #[.int .i64 dk, .int .i64 dn, .string ds, .slice da ba bc, .slice df fa fc, .slice dl la lc]] (.int .i64 ou.1) (H + hd) ou.2) (by kernel_rfl) (by kernel_rfl) (by kernel_rfl) (fun V => by kernel_rfl) ?_ CI.start ?_
 ·refine ⟨?_, ?_⟩
  ·refine inv_free rfl (fun D9 V w5 hDi hpre hI K hK => ?_)
   go_simp
   exact put_is (by kernel_rfl) (hK.out (.pointer (some ⟨w.heap.size, 1, none⟩)) w5 (hI.step (by decide) rfl))
  refine ⟨?_, ?_⟩
  ·refine inv_free rfl (fun D9 V w5 hDi hpre hI K hK => ?_)
   have e0 : V 0 = .pointer (some ⟨w.heap.size, 1, none⟩) := hI.known (by decide) (hpre.out 0 (by kernel_rfl))
   have hc1 := (HB.out.keep hI.below).c1
   go_simp
   exact put_is (by rw [e0]; kernel_rfl) (hK.out (.slice (some ⟨g, o, none⟩) n c) w5 (hI.step (by decide) rfl))
  refine ⟨?_, ?_⟩
  ·refine inv_free rfl (fun D9 V w5 hDi hpre hI K hK => ?_)
   have e1 : V 1 = .slice (some ⟨g, o, none⟩) n c := hI.known (by decide) (hpre.out 1 (by kernel_rfl))
   go_simp
   exact put_is (by rw [e1]; kernel_rfl) (hK.out (.pointer (some ⟨g, o, none⟩)) w5 (hI.step (by decide) rfl))
  refine ⟨?_, ?_⟩
  ·refine inv_free rfl (fun D9 V w5 hDi hpre hI K hK => ?_)
   have e2 : V 2 = .pointer (some ⟨g, o, none⟩) := hI.known (by decide) (hpre.out 2 (by kernel_rfl))
   have hct := cell_keep (HB.out.keep hI.below).below HCT.out
   go_simp
   exact put_is (by rw [e2]; kernel_rfl) (hK.out (.iface T rv) w5 (hI.step (by decide) rfl))
  refine ⟨?_, ?_⟩
  ·refine inv_free rfl (fun D9 V w5 hDi hpre hI K hK => ?_)
   obtain ⟨x0, x1, x2, x3, x4, x5⟩ := (HB.out.keep hI.below).doc.cells
   go_simp
   exact put_is (by kernel_rfl) (hK.out (.agg #[.int .i64 dk, .int .i64 dn, .string ds, .slice da ba bc, .slice df fa fc, .slice dl la lc]) w5 (hI.step (by decide) rfl))
  refine ⟨?_, ?_⟩
  ·refine inv_free rfl (fun D9 V w5 hDi hpre hI K hK => ?_)
   have e3 : V 3 = .iface T rv := hI.known (by decide) (hpre.out 3 (by kernel_rfl))
   have e4 : V 4 = .agg #[.int .i64 dk, .int .i64 dn, .string ds, .slice da ba bc, .slice df fa fc, .slice dl la lc] := hI.known (by decide) (hpre.out 4 (by kernel_rfl))
   have hbw := (HB.out.keep hI.below).below
   have CK := HCALL.out w5 hbw _ (VIn.keep hbw HD.out)
   go_simp
   refine CK.mono ?_
   rintro e w6 ⟨v6, rfl, hv6, hb6⟩
   exact put_is (by rw [e3, e4]; kernel_rfl) (hK.out (.tuple #[v6, .int .i64 ou.1]) w6 (hI.call hDi hb6 hv6))
  refine ⟨?_, ?_⟩
  ·refine inv_free rfl (fun D9 V w5 hDi hpre hI K hK => ?_)
   have h5 := hpre.out 5 (by kernel_rfl)
   go_simp
   exact put_is (by kernel_rfl) (hK.out (V 5) w5 (hI.moved h5))
  refine ⟨?_, ?_⟩
  ·refine inv_free rfl (fun D9 V w5 hDi hpre hI K hK => ?_)
   obtain ⟨v, e6, h7, -⟩ := hI.got (hpre.out 6 (by kernel_rfl))
   go_simp
   exact put_is (by rw [e6]; kernel_rfl) (hK.out v w5 h7)
  refine ⟨?_, ?_⟩
  ·refine inv_free rfl (fun D9 V w5 hDi hpre hI K hK => ?_)
   obtain ⟨v, e6, -, h8⟩ := hI.got (hpre.out 6 (by kernel_rfl))
   go_simp
   exact put_is (by rw [e6]; kernel_rfl) (hK.out (.int .i64 ou.1) w5 h8)
  refine ⟨?_, ?_⟩
  ·refine inv_free rfl (fun D9 V w5 hDi hpre hI K hK => ?_)
   go_simp
   exact put_is (by kernel_rfl) (hK.out (.pointer (some ⟨w5.heap.size, 0, none⟩)) _ (hI.made hDi))
  refine ⟨?_, ?_⟩
  ·refine inv_free rfl (fun D9 V w5 hDi hpre hI K hK => ?_)
   obtain ⟨p, k9, n9, s9, ba9, fa9, la9, bn9, bc9, fn9, fc9, ln9, lc9, e9, e7, hbx, h10⟩ := hI.kept (hpre.out 9 (by kernel_rfl)) (hpre.out 7 (by kernel_rfl)) hDi
   obtain ⟨z0, z1, z2, z3, z4, z5⟩ := hbx.cells
   obtain ⟨q0, q1, q2, q3, q4, q5⟩ := hbx.thaw
   go_simp
   exact put_is (by rw [e9, e7]; kernel_rfl) (hK.out undef _ h10)
  refine ⟨?_, ?_⟩
  ·refine inv_free rfl (fun D9 V w5 hDi hpre hI K hK => ?_)
   obtain ⟨e8, h11⟩ := hI.err (hpre.out 8 (by kernel_rfl))
   go_simp
   exact put_is (by rw [e8]; kernel_rfl) (hK.out (.int .i64 ou.1) w5 h11)
  trivial
 intro D9 V w9 hD9 hI9
 obtain ⟨p, k, m, s, b1, f1, l1, b2, b3, f2, f3, l2, l3, lo, hi, e9, e11, hbx, hv9, hlo, hhi, hp, hb9⟩ := hI9.end hD9
 rw [e9, e11]
 have HB9 := Lib.hid (HB.out.keep hb9)
 have HX9 := Lib.hid hbx
 have HV9 := Lib.hid hv9
 have HLO := Lib.hid (And.intro hlo (And.intro hhi hp))
 obtain ⟨r0, r1, r2, r3, r4, r5⟩ := HB9.out.res.cells
 obtain ⟨q0, q1, q2, q3, q4, q5⟩ := HB9.out.res.thaw
 obtain ⟨z0, z1, z2, z3, z4, z5⟩ := HX9.out.cells
 clear hI9 hD9 e9 e11 hbx hv9 hlo hhi hp hb9
 by_cases hz : ou.1 = 0
 ·rw [hz]
  obtain ⟨e1, -, -, e4, hL⟩ := HV9.out.top
  have hll := hL.l
  rw [← e4] at hll
  by_cases h7 : k = 7
  ·subst h7
   have hre : res = (0, Expr.leafV 3 (l2 : Int)) := by
    rw [HRES.out]
    rw [Expr.apply_size_]
    unfold Expr.one
    rw [← HOU.out, if_pos hz]
    show (if ou.2.kind = 7 then _ else _) = _
    rw [if_pos e1.symm, e4]
   have HRE := Lib.hid hre
   have HEND := Lib.hid (below_six HB9.out.below (by omega : w.heap.size ≤ w.heap.size + 1 + 1) (.int .i64 3) (.int .i64 (l2 : Int)) (.string ⟨#[]⟩) (.slice none 0 0) (.slice none 0 0) (.slice none 0 0))
   have HLL := Lib.hid hll
   clear hre e1 e4 hL hz hll
   go_wp2_with fail
   exact bodyPost_ret (v := .tuple #[.agg #[.int .i64 3, .int .i64 (l2 : Int), .string ⟨#[]⟩, .slice none 0 0, .slice none 0 0, .slice none 0 0], .int .i64 0]) (by simp [results, Tryz.results105, go_sem, *]) rfl ⟨_, by rw [HRE.out], by rw [HRE.out]; exact leafV_in _ _ 3 _ (by omega) (by have := HLL.out; omega) _, HEND.out⟩
  ·have hk7 : (k == 7) = false := by rw [beq_eq_false_iff_ne]; exact h7
   have hre : res = (12, Bson.zero) := by
    rw [HRES.out]
    rw [Expr.apply_size_]
    unfold Expr.one
    rw [← HOU.out, if_pos hz]
    show (if ou.2.kind = 7 then _ else _) = _
    rw [if_neg (by rw [← e1]; exact h7)]; rfl
   have HRE := Lib.hid hre
   have HEND := Lib.hid (below_six HB9.out.below (by omega : w.heap.size ≤ w.heap.size + 1 + 1) (.int .i64 0) (.int .i64 0) (.string ⟨#[]⟩) (.slice none 0 0) (.slice none 0 0) (.slice none 0 0))
   clear hre e1 e4 hL hz hll h7
   go_wp2_with fail
   exact bodyPost_ret (v := .tuple #[.agg #[.int .i64 0, .int .i64 0, .string ⟨#[]⟩, .slice none 0 0, .slice none 0 0, .slice none 0 0], .int .i64 12]) (by simp [results, Tryz.results105, go_sem, *]) rfl ⟨_, by rw [HRE.out], by rw [HRE.out]; exact (zero_in _ _).up (by omega), HEND.out⟩
 ·have hz2 : (ou.1 == 0) = false := by rw [beq_eq_false_iff_ne]; exact hz
  have hre : res = (ou.1, Bson.zero) := by
   rw [HRES.out]
   rw [Expr.apply_size_]
   unfold Expr.one
   rw [← HOU.out, if_neg hz]; rfl
  have HRE := Lib.hid hre
  have HEND := Lib.hid (below_six HB9.out.below (by omega : w.heap.size ≤ w.heap.size + 1 + 1) (.int .i64 0) (.int .i64 0) (.string ⟨#[]⟩) (.slice none 0 0) (.slice none 0 0) (.slice none 0 0))
  clear hz hre
  go_wp2_with fail
  exact bodyPost_ret (v := .tuple #[.agg #[.int .i64 0, .int .i64 0, .string ⟨#[]⟩, .slice none 0 0, .slice none 0 0, .slice none 0 0], .int .i64 ou.1]) (by simp [results, Tryz.results105, go_sem, *]) rfl ⟨_, by rw [HRE.out], by rw [HRE.out]; exact (zero_in _ _).up (by omega), HEND.out⟩
theorem Expr.allO_len : ∀ {l : List Expr.Out}, (Expr.allO l).1 = 0 → (Expr.allO l).2.length = l.length
 | [], _ => rfl
 | x :: r, h => by
  rw [Expr.allO] at h ⊢
  by_cases h1 : x.1 = 0
  ·rw [if_pos h1] at h ⊢
   by_cases h2 : (Expr.allO r).1 = 0
   ·rw [if_pos h2]
    show (x.2 :: (Expr.allO r).2).length = _
    rw [List.length_cons, Expr.allO_len h2]; rfl
   ·rw [if_neg h2] at h; exact absurd h h2
  ·rw [if_neg h1] at h; exact absurd h h1
theorem call_boxes (w : World) (fv : Value) (a : Option Addr) (n c : Nat) (d0 d1 d2 d3 d4 d5 : Value) (W : World) (hW : W = (w.alloc (.cells #[fv, .slice a n c] 126)).alloc (.cells #[d0, d1, d2, d3, d4, d5] 26)) :
  Below w.heap.size w W ∧ W.heap[w.heap.size]? = some (.cells #[fv, .slice a n c] 126 (0, 0)) ∧ IsBox W (w.heap.size + 1) d0 d1 d2 d3 d4 d5 := by
 have b1 := (Below.refl w.heap.size w).alloc (Nat.le_refl _) (.cells #[fv, .slice a n c] 126)
 have b2 := b1.alloc b1.size (.cells #[d0, d1, d2, d3, d4, d5] 26)
 subst hW
 exact ⟨b2, (Below.heap_alloc _ _ _ (by simp)).trans (heap_alloc_new w _), IsBox.new2 w _ _ _ _ _ _ _⟩
theorem two_of {w : World} {Q : Nat → Prop} {B : Nat} {a : Option Addr} {l : List Val} (h : ItemsIn w Q (VIn w Q B) a l) (hl : l.length = 2) : ∃ g o, a = some ⟨g, o, none⟩ ∧ ∃ v0 v1, SixAt w g o v0 ∧ SixAt w g (o + 6) v1 ∧ VIn w Q B (l.getD 0 Bson.zero) v0 ∧ VIn w Q B (l.getD 1 Bson.zero) v1 := by
 obtain ⟨g, o, e, -, hall⟩ := h.resolve_left (fun e => by rw [e] at hl; cases hl)
 obtain ⟨v0, h0, h1⟩ := hall 0 (by omega)
 obtain ⟨v1, h2, h3⟩ := hall 1 (by omega)
 refine ⟨g, o, e, v0, v1, by simpa using h0, by simpa using h2, ?_, ?_⟩
 ·rw [List.getD_eq_getElem?_getD, List.getElem?_eq_getElem (by omega)]; exact h1
 ·rw [List.getD_eq_getElem?_getD, List.getElem?_eq_getElem (by omega)]; exact h3
def PlaceR (c : Nat) (r : Int × List Val) : Int × Int := if r.1 = 0 then (Expr.place c r.2, 0) else (0, r.1)
theorem place_any (H hd C : Nat) (K : FuncId) (a : Option Addr) (n c : Nat) (fs : List (Nat → Val → Expr.Out)) (Q : Nat → Prop) (d : Val) (dv : Value) (w : World) (hn : fs.length = n) (h2 : n = 2) (hC : H ≤ C) (hT : TermsIn w a H fs) (hd0 : VIn w Q (hd + 1) d dv) :
  Calls Tryz.prog 127 #[.agg #[.func (.func K) #[] #[], .slice a n c], dv] w fun e w' => e = .returned (.tuple #[.int .i64 (PlaceR (C + hd) (Expr.allO (outsOf fs hd d))).1, .int .i64 (PlaceR (C + hd) (Expr.allO (outsOf fs hd d))).2]) ∧ Below w.heap.size w w' := by
 obtain ⟨dk, dn, ds, da, df, dl, ba, bc, fa, fc, la, lc, rfl⟩ := hd0.shape
 obtain ⟨W0, hW0⟩ : ∃ W0, W0 = (w.alloc (.cells #[.func (.func K) #[] #[], .slice a n c] 126)).alloc (.cells #[.int .i64 dk, .int .i64 dn, .string ds, .slice da ba bc, .slice df fa fc, .slice dl la lc] 26) := ⟨_, rfl⟩
 obtain ⟨hb, hc, hx⟩ := call_boxes w (.func (.func K) #[] #[]) a n c (.int .i64 dk) (.int .i64 dn) (.string ds) (.slice da ba bc) (.slice df fa fc) (.slice dl la lc) W0 hW0
 have HB := Lib.hid hb
 have CA := Lib.hid (evalAll_any H hd a n c fs Q d _ W0 hn (by omega) (hT.keep hb) (VIn.keep hb hd0))
 obtain ⟨r, hr⟩ : ∃ r, r = Expr.allO (outsOf fs hd d) := ⟨_, rfl⟩
 have hrl : r.1 = 0 → r.2.length = 2 := fun h => by rw [hr] at h ⊢; rw [Expr.allO_len h, outsOf_length, hn, h2]
 rw [← hr] at CA ⊢
 have HRL := Lib.hid hrl
 have HC := Lib.hid hC
 have c1 : W0.cell? ⟨w.heap.size, 1, none⟩ = some (.slice a n c) := (cell_of_row W0 _ 1 _ _ _ hc).trans rfl
 obtain ⟨x0, x1, x2, x3, x4, x5⟩ := hx.cells
 have HW0 := Lib.hid hW0
 clear hT hd0 hb hc hx hn h2 hr hrl hC hW0
 go_enter Tryz.func127, Tryz.ntmps127
 go_upto_region 1 with fail
 rw [← HW0.out]
 go_wp2_with fail
 clear c1 x0 x1 x2 x3 x4 x5
 refine CA.out.mono ?_
 rintro e w2 ⟨v2, rfl, hA, hN, hb2⟩
 have HB2 := Lib.hid (HB.out.trans (hb2.mono HB.out.size))
 by_cases hz : r.1 = 0
 ·obtain ⟨xs, hA⟩ := hA hz
  have hl2 := HRL.out hz
  obtain ⟨a', c', rfl, hc', hit⟩ := hA.items (Q' := fun _ => True) (fun _ _ => trivial) (fun _ _ _ => trivial)
  obtain ⟨g, o, rfl, v0, v1, s0, s1, hv0, hv1⟩ := two_of hit hl2
  rw [hl2]
  obtain ⟨k0, n0, t0, b0, f0, l0, bb0, bc0, fb0, fc0, lb0, lc0, rfl⟩ := hv0.shape
  obtain ⟨k1, n1, t1, b1, f1, l1, bb1, bc1, fb1, fc1, lb1, lc1, rfl⟩ := hv1.shape
  have HP : Hid (∀ W, Below w2.heap.size w2 W → Calls Tryz.prog 148 #[.agg #[.int .i64 k0, .int .i64 n0, .string t0, .slice b0 bb0 bc0, .slice f0 fb0 fc0, .slice l0 lb0 lc0], .agg #[.int .i64 k1, .int .i64 n1, .string t1, .slice b1 bb1 bc1, .slice f1 fb1 fc1, .slice l1 lb1 lc1]] W (CmpPost (Expr.place (C + hd) r.2) W)) :=
   fun W hb => compare_any (C + hd) _ _ _ _ _ _ W ((VIn.keep hb hv0).up (by have := HC.out; omega)) ((VIn.keep hb hv1).up (by have := HC.out; omega))
  have HS0 := Lib.hid s0
  have HS1 := Lib.hid s1
  have hres : PlaceR (C + hd) r = (Expr.place (C + hd) r.2, 0) := by unfold PlaceR; rw [if_pos hz]
  obtain ⟨pl, hpl⟩ : ∃ z, z = Expr.place (C + hd) r.2 := ⟨_, rfl⟩
  rw [← hpl] at HP hres
  have HRES := Lib.hid hres
  rw [hz]
  clear hA hN hb2 hc' hit hl2 hv0 hv1 s0 s1 hz hres hpl
  go_upto_region 4 with fail
  refine wp_region_facts (fun V => { tmps := #[Value.agg #[Value.func (Fn.func K) #[] #[], Value.slice a n c], Value.agg #[Value.int .i64 dk, Value.int .i64 dn, Value.string ds, Value.slice da ba bc, Value.slice df fa fc, Value.slice dl la lc], Value.pointer (some ⟨w.heap.size, 0, none⟩), Value.pointer (some ⟨w.heap.size + 1, 0, none⟩), V 7, V 8, Value.slice (some ⟨g, o, none⟩) 2 c', Value.int .i64 0, Value.tuple #[Value.slice (some ⟨g, o, none⟩) 2 c', Value.int .i64 0], Value.pointer (some ⟨w.heap.size, 1, none⟩), Value.slice a n c, Value.agg #[Value.int .i64 dk, Value.int .i64 dn, Value.string ds, Value.slice da ba bc, Value.slice df fa fc, Value.slice dl la lc], Value.tuple #[Value.slice (some ⟨g, o, none⟩) 2 c', Value.int .i64 0], Value.slice (some ⟨g, o, none⟩) 2 c', Value.int .i64 0, Value.int .i64 0, Value.bool false, undef, V 0, V 1, V 2, V 3, V 4, V 5, V 6], defers := [] }) [Fact.is (.slice (some ⟨g, o, none⟩) 2 c'), Fact.is (.pointer (some ⟨g, o, none⟩)), Fact.is (.agg #[.int .i64 k0, .int .i64 n0, .string t0, .slice b0 bb0 bc0, .slice f0 fb0 fc0, .slice l0 lb0 lc0]), Fact.is (.slice (some ⟨g, o, none⟩) 2 c'), Fact.is (.pointer (some ⟨g, o + 6, none⟩)), Fact.is (.agg #[.int .i64 k1, .int .i64 n1, .string t1, .slice b1 bb1 bc1, .slice f1 fb1 fc1, .slice l1 lb1 lc1]), Fact.is (.int .i64 pl), Fact.is (.int .i64 pl), Fact.is (.int .i64 0)] (by kernel_rfl) (by kernel_rfl) (by kernel_rfl) (fun V => by kernel_rfl) ?_ ?_
  ·refine ⟨?_, ?_⟩
   ·refine fact_free rfl (fun V w5 hB hF K hK => ?_)
    go_simp
    exact put_is (by kernel_rfl) (hK.out (.slice (some ⟨g, o, none⟩) 2 c') w5 (Below.refl _ _) rfl)
   refine ⟨?_, ?_⟩
   ·refine fact_free rfl (fun V w5 hB hF K hK => ?_)
    have h0 : V 0 = .slice (some ⟨g, o, none⟩) 2 c' := hF.out 0 (by kernel_rfl)
    go_simp
    exact put_is (by rw [h0]; kernel_rfl) (hK.out (.pointer (some ⟨g, o, none⟩)) w5 (Below.refl _ _) rfl)
   refine ⟨?_, ?_⟩
   ·refine fact_free rfl (fun V w5 hB hF K hK => ?_)
    have h1 : V 1 = .pointer (some ⟨g, o, none⟩) := hF.out 1 (by kernel_rfl)
    obtain ⟨y0, y1, y2, y3, y4, y5⟩ := (HS0.out.keep hB).cells
    go_simp
    exact put_is (by rw [h1]; kernel_rfl) (hK.out (.agg #[.int .i64 k0, .int .i64 n0, .string t0, .slice b0 bb0 bc0, .slice f0 fb0 fc0, .slice l0 lb0 lc0]) w5 (Below.refl _ _) rfl)
   refine ⟨?_, ?_⟩
   ·refine fact_free rfl (fun V w5 hB hF K hK => ?_)
    go_simp
    exact put_is (by kernel_rfl) (hK.out (.slice (some ⟨g, o, none⟩) 2 c') w5 (Below.refl _ _) rfl)
   refine ⟨?_, ?_⟩
   ·refine fact_free rfl (fun V w5 hB hF K hK => ?_)
    have h3 : V 3 = .slice (some ⟨g, o, none⟩) 2 c' := hF.out 3 (by kernel_rfl)
    go_simp
    exact put_is (by rw [h3]; kernel_rfl) (hK.out (.pointer (some ⟨g, o + 6, none⟩)) w5 (Below.refl _ _) rfl)
   refine ⟨?_, ?_⟩
   ·refine fact_free rfl (fun V w5 hB hF K hK => ?_)
    have h4 : V 4 = .pointer (some ⟨g, o + 6, none⟩) := hF.out 4 (by kernel_rfl)
    obtain ⟨y0, y1, y2, y3, y4, y5⟩ := (HS1.out.keep hB).cells
    go_simp
    exact put_is (by rw [h4]; kernel_rfl) (hK.out (.agg #[.int .i64 k1, .int .i64 n1, .string t1, .slice b1 bb1 bc1, .slice f1 fb1 fc1, .slice l1 lb1 lc1]) w5 (Below.refl _ _) rfl)
   refine ⟨?_, ?_⟩
   ·refine fact_free rfl (fun V w5 hB hF K hK => ?_)
    have h2 : V 2 = .agg #[.int .i64 k0, .int .i64 n0, .string t0, .slice b0 bb0 bc0, .slice f0 fb0 fc0, .slice l0 lb0 lc0] := hF.out 2 (by kernel_rfl)
    have h5 : V 5 = .agg #[.int .i64 k1, .int .i64 n1, .string t1, .slice b1 bb1 bc1, .slice f1 fb1 fc1, .slice l1 lb1 lc1] := hF.out 5 (by kernel_rfl)
    go_simp
    go_at_call 148
    refine (HP.out w5 hB).mono ?_
    rintro e w6 ⟨rfl, hb6⟩
    exact put_is (by rw [h2, h5]; kernel_rfl) (hK.out (.int .i64 pl) w6 hb6 rfl)
   refine ⟨?_, ?_⟩
   ·refine fact_free rfl (fun V w5 hB hF K hK => ?_)
    have h6 : V 6 = .int .i64 pl := hF.out 6 (by kernel_rfl)
    go_simp
    exact put_is (by rw [h6]; kernel_rfl) (hK.out (.int .i64 pl) w5 (Below.refl _ _) rfl)
   refine ⟨?_, ?_⟩
   ·refine fact_free rfl (fun V w5 hB hF K hK => ?_)
    go_simp
    exact put_is (by kernel_rfl) (hK.out (.int .i64 0) w5 (Below.refl _ _) rfl)
   trivial
  intro V w5 hB hF
  have h7 : V 7 = .int .i64 pl := hF 7 (by decide)
  have h8 : V 8 = .int .i64 0 := hF 8 (by decide)
  rw [h7, h8]
  have HB5 := Lib.hid (HB2.out.trans (hB.mono HB2.out.size))
  clear hF h7 h8 hB
  go_wp2_with fail
  go_ret2
  exact ⟨by rw [HRES.out]; rfl, HB5.out⟩
 ·have hz2 : (r.1 == 0) = false := by rw [beq_eq_false_iff_ne]; exact hz
  have hres : PlaceR (C + hd) r = (0, r.1) := by unfold PlaceR; rw [if_neg hz]
  have HRES := Lib.hid hres
  obtain rfl := hN hz
  clear hA hN hb2 hz hres
  go_wp2_with fail
  go_ret2
  exact ⟨by rw [HRES.out]; rfl, HB2.out⟩
end Go.Proofs.YtiajjgehnmkokaaGreatDoor
end
section
namespace Go.Proofs.YtiajjgehnmkokaaGreatDoor
open Go.ChangeShapes Go.WideShapes Go.ChangeAt Go.RowKit
open Go.ChangeMaps (open_string)
theorem ground_of {W : World} (h : laidMetH Tryz.prog laidList W) (hs : W.ShapedOpen Tryz.prog) : Ground W := by
 rw [laidList_eq] at h
 refine ⟨utf8Tabs_of_readsT (Go.Proofs.U8Types.of196 Tryz.lays196) ⟨by kernel_rfl, by kernel_rfl, by kernel_rfl, by kernel_rfl, by kernel_rfl, by kernel_rfl, by kernel_rfl⟩ (Lib.laidMet.reads h (.tail _ (.head _))) (Lib.laidMet.reads h (.head _)), ?_⟩
 exact Tryz.laysM145.s1_3 W hs
end Go.Proofs.YtiajjgehnmkokaaGreatDoor
end
section
namespace Go.Proofs.YtiajjgehnmkokaaGreatDoor
open Go.RowKit
open Seal
open Bson (Val)
theorem isAlike_any (p : Int) (w : World) : Calls Tryz.prog 121 #[.int .i64 p] w (BoolBe (decide (p = 0)) w) := by
 go_enter Tryz.func121, Tryz.ntmps121
 go_wp2_with fail
 go_ret
 exact ⟨ret_eq (show Value.bool (p == 0) = _ from by rw [show (p == 0) = decide (p = 0) from by rw [Bool.eq_iff_iff]; simp]), Below.refl _ _⟩
theorem isUnlike_any (p : Int) (w : World) : Calls Tryz.prog 122 #[.int .i64 p] w (BoolBe (decide (p ≠ 0)) w) := by
 go_enter Tryz.func122, Tryz.ntmps122
 go_wp2_with fail
 go_ret
 exact ⟨ret_eq (show Value.bool (p != 0) = _ from by rw [show (p != 0) = decide (p ≠ 0) from by rw [Bool.eq_iff_iff]; simp]), Below.refl _ _⟩
theorem isBehind_any (p : Int) (w : World) : Calls Tryz.prog 123 #[.int .i64 p] w (BoolBe (decide (p > 0)) w) := by
 go_enter Tryz.func123, Tryz.ntmps123
 go_wp2_with fail
 go_ret
 exact ⟨ret_eq (rfl), Below.refl _ _⟩
theorem notAhead_any (p : Int) (w : World) : Calls Tryz.prog 124 #[.int .i64 p] w (BoolBe (decide (p ≥ 0)) w) := by
 go_enter Tryz.func124, Tryz.ntmps124
 go_wp2_with fail
 go_ret
 exact ⟨ret_eq (rfl), Below.refl _ _⟩
theorem isAhead_any (p : Int) (w : World) : Calls Tryz.prog 125 #[.int .i64 p] w (BoolBe (decide (p < 0)) w) := by
 go_enter Tryz.func125, Tryz.ntmps125
 go_wp2_with fail
 go_ret
 exact ⟨ret_eq (rfl), Below.refl _ _⟩
theorem notBehind_any (p : Int) (w : World) : Calls Tryz.prog 126 #[.int .i64 p] w (BoolBe (decide (p ≤ 0)) w) := by
 go_enter Tryz.func126, Tryz.ntmps126
 go_wp2_with fail
 go_ret
 exact ⟨ret_eq (rfl), Below.refl _ _⟩
theorem comp_any (H hd C : Nat) (K K2 : FuncId) (bf : Int → Bool) (hK2 : ∀ p u, Calls Tryz.prog K2 #[.int .i64 p] u (BoolBe (bf p) u)) (hke : ∀ args (u : World), (callFunc K2 args).run Tryz.prog u = .ok (.enter K2 args) u) (a : Option Addr) (n c : Nat) (fs : List (Nat → Val → Expr.Out)) (Q : Nat → Prop) (d : Val) (dv : Value) (w : World) (hn : fs.length = n) (h2 : n = 2) (hC : H ≤ C) (hT : TermsIn w a H fs) (hd0 : VIn w Q (hd + 1) d dv) :
  Calls Tryz.prog 120 #[.agg #[.func (.func K) #[] #[], .slice a n c], dv, .func (.func K2) #[] #[]] w (EvPost w (H + hd + 1) (Expr.all (outsOf fs hd d) fun l => (0, Expr.boolV (bf (Expr.place (C + hd) l))))) := by
 obtain ⟨dk, dn, ds, da, df, dl, ba, bc, fa, fc, la, lc, rfl⟩ := hd0.shape
 obtain ⟨W0, hW0⟩ : ∃ W0, W0 = ((w.alloc (.cells #[(.func (.func K) #[] #[]), .slice a n c] 126)).alloc (.cells #[.int .i64 dk, .int .i64 dn, .string ds, .slice da ba bc, .slice df fa fc, .slice dl la lc] 26)).alloc (.cells #[.int .i64 0, .int .i64 0, .string ⟨#[]⟩, .slice none 0 0, .slice none 0 0, .slice none 0 0] 26) := ⟨_, rfl⟩
 have HB := Lib.hid (CB.new w (.func (.func K) #[] #[]) a n c (.int .i64 dk) (.int .i64 dn) (.string ds) (.slice da ba bc) (.slice df fa fc) (.slice dl la lc) W0 hW0)
 have HW0 := Lib.hid hW0
 have c0 : W0.cell? ⟨w.heap.size, 0, none⟩ = some (.func (.func K) #[] #[]) := (cell_of_row W0 _ 0 _ _ _ HB.out.call).trans rfl
 have c1 := HB.out.c1
 obtain ⟨x0, x1, x2, x3, x4, x5⟩ := HB.out.doc.cells
 have CP := Lib.hid (place_any H hd C K a n c fs Q d _ W0 hn h2 hC (hT.keep HB.out.below) (VIn.keep HB.out.below hd0))
 obtain ⟨r, hr⟩ : ∃ r, r = Expr.allO (outsOf fs hd d) := ⟨_, rfl⟩
 have hall : ∀ f : List Val → Expr.Out, Expr.all (outsOf fs hd d) f = if r.1 = 0 then f r.2 else Expr.bad r.1 := fun f => by rw [hr]; rfl
 rw [← hr] at CP
 rw [hall]
 obtain ⟨res, hres⟩ : ∃ z, z = (if r.1 = 0 then ((0, Expr.boolV (bf (Expr.place (C + hd) r.2))) : Expr.Out) else Expr.bad r.1) := ⟨_, rfl⟩
 rw [← hres]
 have HRES := Lib.hid hres
 obtain ⟨p1, hp1⟩ : ∃ z, z = (PlaceR (C + hd) r).1 := ⟨_, rfl⟩
 obtain ⟨p2, hp2⟩ : ∃ z, z = (PlaceR (C + hd) r).2 := ⟨_, rfl⟩
 rw [← hp1, ← hp2] at CP
 have HP := Lib.hid (And.intro hp1 hp2)
 have HK2 := Lib.hid hK2
 clear hT hd0 hn h2 hr hall hres hC hp1 hp2 hW0 hK2
 go_enter Tryz.func120, Tryz.ntmps120
 go_upto_region 1 with fail
 rw [← HW0.out]
 go_wp2_with fail
 clear c0 c1 x0 x1 x2 x3 x4 x5
 refine CP.out.mono ?_
 rintro e w2 ⟨rfl, hb2⟩
 have HB2 := Lib.hid (HB.out.keep hb2)
 clear hb2 CP
 by_cases hz : r.1 = 0
 ·have hpr : p1 = Expr.place (C + hd) r.2 ∧ p2 = 0 := by
   obtain ⟨e1, e2⟩ := HP.out
   unfold PlaceR at e1 e2
   rw [if_pos hz] at e1 e2
   exact ⟨e1, e2⟩
  obtain ⟨hpe, rfl⟩ := hpr
  have hre : res = (0, Expr.boolV (bf p1)) := by rw [HRES.out, if_pos hz, hpe]
  have HRE := Lib.hid hre
  have CK := Lib.hid (HK2.out p1 w2)
  obtain ⟨tb, htb⟩ : ∃ z, z = bf p1 := ⟨_, rfl⟩
  rw [← htb] at CK
  have HTB := Lib.hid htb
  have HBO := Lib.hid (boolean_any tb)
  clear hre hpe hz htb
  go_wp2_with fail
  refine CK.out.mono ?_
  rintro e w3 ⟨rfl, hb3⟩
  have CB1 := Lib.hid (HBO.out w3)
  obtain ⟨bn, hbn⟩ : ∃ z : Int, z = if tb = true then 1 else 0 := ⟨_, rfl⟩
  have HBN : Hid ((bn = 0 ∨ bn = 1) ∧ Expr.boolV tb = Expr.leafV 10 bn) := by
   refine ⟨by rw [hbn]; cases tb <;> simp, by rw [hbn]; rfl⟩
  rw [← hbn] at CB1
  clear hbn
  go_wp2_with fail
  refine CB1.out.mono ?_
  rintro e w4 ⟨rfl, hb4⟩
  have HB4 := Lib.hid (HB2.out.keep (hb3.trans (hb4.mono hb3.size)))
  have HEND := Lib.hid (below_six HB4.out.below (by omega : w.heap.size ≤ w.heap.size + 1 + 1) (.int .i64 10) (.int .i64 bn) (.string ⟨#[]⟩) (.slice none 0 0) (.slice none 0 0) (.slice none 0 0))
  obtain ⟨r0, r1, r2, r3, r4, r5⟩ := HB4.out.res.cells
  obtain ⟨q0, q1, q2, q3, q4, q5⟩ := HB4.out.res.thaw
  clear hb3 hb4 CK CB1
  go_wp2_with fail
  exact bodyPost_ret (v := .tuple #[.agg #[.int .i64 10, .int .i64 bn, .string ⟨#[]⟩, .slice none 0 0, .slice none 0 0, .slice none 0 0], .int .i64 0]) (by simp [results, Tryz.results120, go_sem, *]) rfl ⟨_, by rw [HRE.out], by rw [HRE.out, ← HTB.out, HBN.out.2]; exact leafV_in _ _ 10 bn (by omega) (by have := HBN.out.1; omega) _, HEND.out⟩
 ·have hpr : p2 = r.1 := by
   obtain ⟨e1, e2⟩ := HP.out
   unfold PlaceR at e2
   rw [if_neg hz] at e2
   exact e2
  subst hpr
  have hz2 : (r.1 == 0) = false := by rw [beq_eq_false_iff_ne]; exact hz
  have hre : res = (r.1, Bson.zero) := by rw [HRES.out, if_neg hz]; rfl
  have HRE := Lib.hid hre
  have HEND := Lib.hid (below_six HB2.out.below (by omega : w.heap.size ≤ w.heap.size + 1 + 1) (.int .i64 0) (.int .i64 0) (.string ⟨#[]⟩) (.slice none 0 0) (.slice none 0 0) (.slice none 0 0))
  obtain ⟨r0, r1, r2, r3, r4, r5⟩ := HB2.out.res.cells
  obtain ⟨q0, q1, q2, q3, q4, q5⟩ := HB2.out.res.thaw
  clear hre hz
  go_wp2_with fail
  exact bodyPost_ret (v := .tuple #[.agg #[.int .i64 0, .int .i64 0, .string ⟨#[]⟩, .slice none 0 0, .slice none 0 0, .slice none 0 0], .int .i64 r.1]) (by simp [results, Tryz.results120, go_sem, *]) rfl ⟨_, by rw [HRE.out], by rw [HRE.out]; exact (zero_in _ _).up (by omega), HEND.out⟩
theorem Expr.decideO_skip (b : Bool) : ∀ (l : List Expr.Out) (k : Nat), (∀ j (hj : j < l.length), j < k → (l[j]).1 = 0 ∧ Expr.truth (l[j]).2 ≠ b) → Expr.decideO b l = Expr.decideO b (l.drop k)
 | _, 0, _ => rfl
 | [], _ + 1, _ => by simp
 | x :: r, k + 1, h => by
  obtain ⟨h1, h2⟩ := h 0 (by simp) (by omega)
  have h1' : x.1 = 0 := h1
  have h2' : ¬ Expr.truth x.2 = b := h2
  rw [Expr.decideO, if_pos h1', if_neg h2', List.drop_succ_cons]
  exact Expr.decideO_skip b r k fun j hj hk => h (j + 1) (by simpa using hj) (by omega)
theorem decide_any (H hd : Nat) (K0 : FuncId) (b : Bool) (a : Option Addr) (n c : Nat) (fs : List (Nat → Val → Expr.Out)) (Q : Nat → Prop) (d : Val) (dv : Value) (w : World) (hn : fs.length = n) (hlim : n ≤ 3000) (hT : TermsIn w a H fs) (hd0 : VIn w Q (hd + 1) d dv) :
  Calls Tryz.prog 128 #[.agg #[.func (.func K0) #[] #[], .slice a n c], dv, .bool b] w (EvPost w (H + hd + 1) (Expr.decideO b (outsOf fs hd d))) := by
 obtain ⟨dk, dn, ds, da, df, dl, ba, bc, fa, fc, la, lc, rfl⟩ := hd0.shape
 obtain ⟨W0, hW0⟩ : ∃ W0, W0 = ((w.alloc (.cells #[(.func (.func K0) #[] #[]), .slice a n c] 126)).alloc (.cells #[.int .i64 dk, .int .i64 dn, .string ds, .slice da ba bc, .slice df fa fc, .slice dl la lc] 26)).alloc (.cells #[.int .i64 0, .int .i64 0, .string ⟨#[]⟩, .slice none 0 0, .slice none 0 0, .slice none 0 0] 26) := ⟨_, rfl⟩
 have HB := Lib.hid (CB.new w (.func (.func K0) #[] #[]) a n c (.int .i64 dk) (.int .i64 dn) (.string ds) (.slice da ba bc) (.slice df fa fc) (.slice dl la lc) W0 hW0)
 have HW0 := Lib.hid hW0
 have c0 : W0.cell? ⟨w.heap.size, 0, none⟩ = some (.func (.func K0) #[] #[]) := (cell_of_row W0 _ 0 _ _ _ HB.out.call).trans rfl
 have c1 := HB.out.c1
 obtain ⟨x0, x1, x2, x3, x4, x5⟩ := HB.out.doc.cells
 have HT := Lib.hid hT
 have HD := Lib.hid hd0
 have HN := Lib.hid hn
 have HBO := Lib.hid (fun (b : Bool) (w : World) => boolean_any b w)
 obtain ⟨res, hres⟩ : ∃ z, z = Expr.decideO b (outsOf fs hd d) := ⟨_, rfl⟩
 rw [← hres]
 have HRES := Lib.hid hres
 clear hT hd0 hn hres hW0
 go_enter Tryz.func128, Tryz.ntmps128
 go_upto_region 1 with fail
 rw [← HW0.out]
 go_wp2_with fail
 clear c0 c1 x0 x1 x2 x3 x4 x5
 go_loopw [15] (fun i wr => ∃ (k : Nat), k ≤ n ∧ i = .int .i64 k ∧ Hid (∀ j (hj : j < fs.length), j < k → (fs[j] hd d).1 = 0 ∧ Expr.truth (fs[j] hd d).2 ≠ b) ∧ Hid (CB w wr (.func (.func K0) #[] #[]) a n c (.int .i64 dk) (.int .i64 dn) (.string ds) (.slice da ba bc) (.slice df fa fc) (.slice dl la lc))) (fun i _ => n - (intOf i).toNat)
 case atStart => exact ⟨0, Nat.zero_le _, rfl, fun _ _ h => absurd h (Nat.not_lt_zero _), HB.out⟩
 case round =>
  obtain ⟨k, hk, rfl, HOK, HBw⟩ := hrel
  have hskip : res = Expr.decideO b ((outsOf fs hd d).drop k) := by
   rw [HRES.out]
   exact Expr.decideO_skip b _ k fun j hj hjk => by
    rw [outsOf_length] at hj
    rw [outsOf_get fs hd d j hj]; exact HOK.out j hj hjk
  have HSK := Lib.hid hskip
  clear hskip
  by_cases hlt : k < n
  ·have hkf : k < fs.length := by rw [HN.out]; exact hlt
   obtain ⟨g, o, t, rfl, hct, T, K, rv, rfl, hm, hme, hcall⟩ := HT.out.at k hkf
   have hct := cell_keep HBw.out.below hct
   obtain ⟨x0, x1, x2, x3, x4, x5⟩ := HBw.out.doc.cells
   have CK := Lib.hid (hcall wr HBw.out.below Q hd d _ (VIn.keep HBw.out.below HD.out))
   obtain ⟨ou, hou⟩ : ∃ z, z = fs[k] hd d := ⟨_, rfl⟩
   rw [← hou] at CK
   have hsk2 : res = Expr.decideO b (ou :: (outsOf fs hd d).drop (k + 1)) := by
    rw [HSK.out, List.drop_eq_getElem_cons (by rw [outsOf_length]; exact hkf), outsOf_get fs hd d k hkf, ← hou]
   have HS2 := Lib.hid hsk2
   have HOU := Lib.hid hou
   clear hcall hou hsk2
   go_wp2_with fail
   refine CK.out.mono ?_
   rintro e w2 ⟨v2, rfl, hv2, hb2⟩
   obtain ⟨k9, m9, s9, b1, f1, l1, b2, b3, f2, f3, l2, l3, rfl⟩ := hv2.shape
   have hb3 : Below w2.heap.size w2 (w2.alloc (.cells #[.int .i64 k9, .int .i64 m9, .string s9, .slice b1 b2 b3, .slice f1 f2 f3, .slice l1 l2 l3] 26)) := (Below.refl _ _).alloc (Nat.le_refl _) _
   have HB3 := Lib.hid ((HBw.out.keep hb2).keep hb3)
   have HX3 := Lib.hid (IsBox.new w2 (.int .i64 k9) (.int .i64 m9) (.string s9) (.slice b1 b2 b3) (.slice f1 f2 f3) (.slice l1 l2 l3))
   have htop := hv2.top
   have HTOP := Lib.hid (And.intro htop.1 htop.2.1)
   clear hv2 hb2 hb3 CK x0 x1 x2 x3 x4 x5 hm hme hct htop
   by_cases hz : ou.1 = 0
   ·rw [hz]
    obtain ⟨z0, z1, z2, z3, z4, z5⟩ := HX3.out.cells
    obtain ⟨W3, hW3⟩ : ∃ W3, W3 = w2.alloc (.cells #[.int .i64 k9, .int .i64 m9, .string s9, .slice b1 b2 b3, .slice f1 f2 f3, .slice l1 l2 l3] 26) := ⟨_, rfl⟩
    have CT := Lib.hid (true_any k9 m9 (.string s9) (.slice b1 b2 b3) (.slice f1 f2 f3) (.slice l1 l2 l3) (w2.alloc (.cells #[.int .i64 k9, .int .i64 m9, .string s9, .slice b1 b2 b3, .slice f1 f2 f3, .slice l1 l2 l3] 26)))
    obtain ⟨tb, htb⟩ : ∃ z, z = truthK k9 m9 := ⟨_, rfl⟩
    rw [← htb] at CT
    have HTB : Hid (tb = Expr.truth ou.2) := by show _ = _; rw [htb, HTOP.out.1, HTOP.out.2]; rfl
    have HZ := Lib.hid hz
    clear htb hz hW3
    go_wp2_with fail
    clear z0 z1 z2 z3 z4 z5
    refine CT.out.mono ?_
    rintro e w4 ⟨rfl, hb4⟩
    have HB4 := Lib.hid (HB3.out.keep hb4)
    clear hb4 CT HX3 HB3
    by_cases hbt : tb = b
    ·subst hbt
     have hre : res = (0, Expr.boolV tb) := by rw [HS2.out, Expr.decideO, if_pos HZ.out, if_pos HTB.out.symm]
     have HRE := Lib.hid hre
     have hbb : (tb == tb) = true := by simp
     clear hre
     have CB1 := Lib.hid (HBO.out tb w4)
     obtain ⟨bn, hbn⟩ : ∃ z : Int, z = if tb = true then 1 else 0 := ⟨_, rfl⟩
     have HBN : Hid ((bn = 0 ∨ bn = 1) ∧ Expr.boolV (tb) = Expr.leafV 10 bn) := by
      refine ⟨by rw [hbn]; cases tb <;> simp, by rw [hbn]; rfl⟩
     rw [← hbn] at CB1
     clear hbn
     go_wp2_with fail
     refine CB1.out.mono ?_
     rintro e w5 ⟨rfl, hb5⟩
     have HB5 := Lib.hid (HB4.out.keep hb5)
     have HEND := Lib.hid (below_six HB5.out.below (by omega : w.heap.size ≤ w.heap.size + 1 + 1) (.int .i64 10) (.int .i64 bn) (.string ⟨#[]⟩) (.slice none 0 0) (.slice none 0 0) (.slice none 0 0))
     obtain ⟨r0, r1, r2, r3, r4, r5⟩ := HB5.out.res.cells
     obtain ⟨q0, q1, q2, q3, q4, q5⟩ := HB5.out.res.thaw
     clear hb5 CB1
     go_wp2_with fail
     exact bodyPost_ret (v := .tuple #[.agg #[.int .i64 10, .int .i64 bn, .string ⟨#[]⟩, .slice none 0 0, .slice none 0 0, .slice none 0 0], .int .i64 0]) (by simp [results, Tryz.results128, go_sem, *]) rfl ⟨_, by rw [HRE.out], by rw [HRE.out, HBN.out.2]; exact leafV_in _ _ 10 bn (by omega) (by have := HBN.out.1; omega) _, HEND.out⟩
    ·have hbb : (tb == b) = false := by rw [beq_eq_false_iff_ne]; exact hbt
     have HOK2 : Hid (∀ j (hj : j < fs.length), j < k + 1 → (fs[j] hd d).1 = 0 ∧ Expr.truth (fs[j] hd d).2 ≠ b) := fun j hj hjk => by
      by_cases e : j = k
      ·subst e; rw [← HOU.out]; exact ⟨HZ.out, by rw [← HTB.out]; exact hbt⟩
      ·exact HOK.out j hj (by omega)
     clear hbt
     go_wp2_with fail
     go_roundw
     case rel => exact ⟨k + 1, by omega, by go_num, HOK2.out, HB4.out⟩
     case measure => simp [intOf]; omega
   ·have hz2 : (ou.1 == 0) = false := by rw [beq_eq_false_iff_ne]; exact hz
    have hre : res = (ou.1, Bson.zero) := by rw [HS2.out, Expr.decideO, if_neg hz]; rfl
    have HRE := Lib.hid hre
    have HEND := Lib.hid (below_six HB3.out.below (by omega : w.heap.size ≤ w.heap.size + 1 + 1) (.int .i64 0) (.int .i64 0) (.string ⟨#[]⟩) (.slice none 0 0) (.slice none 0 0) (.slice none 0 0))
    obtain ⟨r0, r1, r2, r3, r4, r5⟩ := HB3.out.res.cells
    obtain ⟨q0, q1, q2, q3, q4, q5⟩ := HB3.out.res.thaw
    clear hre hz
    go_wp2_with fail
    exact bodyPost_ret (v := .tuple #[.agg #[.int .i64 0, .int .i64 0, .string ⟨#[]⟩, .slice none 0 0, .slice none 0 0, .slice none 0 0], .int .i64 ou.1]) (by simp [results, Tryz.results128, go_sem, *]) rfl ⟨_, by rw [HRE.out], by rw [HRE.out]; exact (zero_in _ _).up (by omega), HEND.out⟩
  ·obtain rfl : k = n := by omega
   have hre : res = (0, Expr.boolV (!b)) := by
    rw [HSK.out, List.drop_eq_nil_of_le (by rw [outsOf_length, HN.out]; exact Nat.le_refl _)]; rfl
   have HRE := Lib.hid hre
   obtain ⟨w4, hw4⟩ : ∃ z, z = wr := ⟨_, rfl⟩
   subst hw4
   have HB4 := HBw
   clear hre
   have CB1 := Lib.hid (HBO.out (!b) w4)
   obtain ⟨bn, hbn⟩ : ∃ z : Int, z = if (!b) = true then 1 else 0 := ⟨_, rfl⟩
   have HBN : Hid ((bn = 0 ∨ bn = 1) ∧ Expr.boolV ((!b)) = Expr.leafV 10 bn) := by
    refine ⟨by rw [hbn]; cases b <;> simp, by rw [hbn]; rfl⟩
   rw [← hbn] at CB1
   clear hbn
   go_wp2_with fail
   refine CB1.out.mono ?_
   rintro e w5 ⟨rfl, hb5⟩
   have HB5 := Lib.hid (HB4.out.keep hb5)
   have HEND := Lib.hid (below_six HB5.out.below (by omega : w.heap.size ≤ w.heap.size + 1 + 1) (.int .i64 10) (.int .i64 bn) (.string ⟨#[]⟩) (.slice none 0 0) (.slice none 0 0) (.slice none 0 0))
   obtain ⟨r0, r1, r2, r3, r4, r5⟩ := HB5.out.res.cells
   obtain ⟨q0, q1, q2, q3, q4, q5⟩ := HB5.out.res.thaw
   clear hb5 CB1
   go_wp2_with fail
   exact bodyPost_ret (v := .tuple #[.agg #[.int .i64 10, .int .i64 bn, .string ⟨#[]⟩, .slice none 0 0, .slice none 0 0, .slice none 0 0], .int .i64 0]) (by simp [results, Tryz.results128, go_sem, *]) rfl ⟨_, by rw [HRE.out], by rw [HRE.out, HBN.out.2]; exact leafV_in _ _ 10 bn (by omega) (by have := HBN.out.1; omega) _, HEND.out⟩
theorem op_and_any (H hd C : Nat) (a : Option Addr) (n c : Nat) (fs : List (Nat → Val → Expr.Out)) (Q : Nat → Prop) (d : Val) (dv : Value) (w : World) (hn : fs.length = n) (hlim : n ≤ 3000) (hT : TermsIn w a H fs) (hd0 : VIn w Q (hd + 1) d dv) :
  Calls Tryz.prog 99 #[.agg #[.func (.func 99) #[] #[], .slice a n c], dv] w (EvPost w (H + hd + 2) (Expr.apply (C + hd) .and_ (outsOf fs hd d))) := by
 obtain ⟨dk, dn, ds, da, df, dl, ba, bc, fa, fc, la, lc, rfl⟩ := hd0.shape
 obtain ⟨W0, hW0⟩ : ∃ W0, W0 = ((w.alloc (.cells #[(.func (.func 99) #[] #[]), .slice a n c] 126)).alloc (.cells #[.int .i64 dk, .int .i64 dn, .string ds, .slice da ba bc, .slice df fa fc, .slice dl la lc] 26)).alloc (.cells #[.int .i64 0, .int .i64 0, .string ⟨#[]⟩, .slice none 0 0, .slice none 0 0, .slice none 0 0] 26) := ⟨_, rfl⟩
 have HB := Lib.hid (CB.new w (.func (.func 99) #[] #[]) a n c (.int .i64 dk) (.int .i64 dn) (.string ds) (.slice da ba bc) (.slice df fa fc) (.slice dl la lc) W0 hW0)
 have HW0 := Lib.hid hW0
 have c0 : W0.cell? ⟨w.heap.size, 0, none⟩ = some (.func (.func 99) #[] #[]) := (cell_of_row W0 _ 0 _ _ _ HB.out.call).trans rfl
 have c1 := HB.out.c1
 obtain ⟨x0, x1, x2, x3, x4, x5⟩ := HB.out.doc.cells
 have CP := Lib.hid (decide_any H hd 99 false a n c fs Q d _ W0 hn hlim (hT.keep HB.out.below) (VIn.keep HB.out.below hd0))
 obtain ⟨res, hres⟩ : ∃ z, z = Expr.apply (C + hd) .and_ (outsOf fs hd d) := ⟨_, rfl⟩
 rw [← Expr.apply_and_ (C + hd), ← hres] at CP
 rw [← hres]
 clear hT hd0 hn hlim hres hW0
 go_enter Tryz.func99, Tryz.ntmps99
 go_upto_region 1 with fail
 rw [← HW0.out]
 go_wp2_with fail
 clear c0 c1 x0 x1 x2 x3 x4 x5
 refine CP.out.mono ?_
 rintro e w2 ⟨v2, rfl, hv2, hb2⟩
 obtain ⟨k, m, s, b1, f1, l1, b2, b3, f2, f3, l2, l3, rfl⟩ := hv2.shape
 have HB2 := Lib.hid (HB.out.keep hb2)
 have HEND : Hid (VIn (puts w2 (w.heap.size + 1 + 1) 0 [.int .i64 k, .int .i64 m, .string s, .slice b1 b2 b3, .slice f1 f2 f3, .slice l1 l2 l3]) (fun g => w.heap.size ≤ g) (H + hd + 2) res.2 (.agg #[.int .i64 k, .int .i64 m, .string s, .slice b1 b2 b3, .slice f1 f2 f3, .slice l1 l2 l3]) ∧ Below w.heap.size w (puts w2 (w.heap.size + 1 + 1) 0 [.int .i64 k, .int .i64 m, .string s, .slice b1 b2 b3, .slice f1 f2 f3, .slice l1 l2 l3])) :=
  ⟨(hv2.kept (puts_kept (fun g => W0.heap.size ≤ g) (by have := HB.out.size; omega) _ _) (fun g hg => by have := HB.out.size; omega)).up (by omega), puts_below HB2.out.below (by omega) _ _⟩
 obtain ⟨r0, r1, r2, r3, r4, r5⟩ := HB2.out.res.cells
 obtain ⟨q0, q1, q2, q3, q4, q5⟩ := HB2.out.res.thaw
 clear hv2 hb2 CP
 go_wp2_with fail
 exact bodyPost_ret (v := .tuple #[.agg #[.int .i64 k, .int .i64 m, .string s, .slice b1 b2 b3, .slice f1 f2 f3, .slice l1 l2 l3], .int .i64 res.1]) (by simp [results, Tryz.results99, go_sem, *]) rfl ⟨_, rfl, HEND.out.1, HEND.out.2⟩
theorem op_or_any (H hd C : Nat) (a : Option Addr) (n c : Nat) (fs : List (Nat → Val → Expr.Out)) (Q : Nat → Prop) (d : Val) (dv : Value) (w : World) (hn : fs.length = n) (hlim : n ≤ 3000) (hT : TermsIn w a H fs) (hd0 : VIn w Q (hd + 1) d dv) :
  Calls Tryz.prog 100 #[.agg #[.func (.func 100) #[] #[], .slice a n c], dv] w (EvPost w (H + hd + 2) (Expr.apply (C + hd) .or_ (outsOf fs hd d))) := by
 obtain ⟨dk, dn, ds, da, df, dl, ba, bc, fa, fc, la, lc, rfl⟩ := hd0.shape
 obtain ⟨W0, hW0⟩ : ∃ W0, W0 = ((w.alloc (.cells #[(.func (.func 100) #[] #[]), .slice a n c] 126)).alloc (.cells #[.int .i64 dk, .int .i64 dn, .string ds, .slice da ba bc, .slice df fa fc, .slice dl la lc] 26)).alloc (.cells #[.int .i64 0, .int .i64 0, .string ⟨#[]⟩, .slice none 0 0, .slice none 0 0, .slice none 0 0] 26) := ⟨_, rfl⟩
 have HB := Lib.hid (CB.new w (.func (.func 100) #[] #[]) a n c (.int .i64 dk) (.int .i64 dn) (.string ds) (.slice da ba bc) (.slice df fa fc) (.slice dl la lc) W0 hW0)
 have HW0 := Lib.hid hW0
 have c0 : W0.cell? ⟨w.heap.size, 0, none⟩ = some (.func (.func 100) #[] #[]) := (cell_of_row W0 _ 0 _ _ _ HB.out.call).trans rfl
 have c1 := HB.out.c1
 obtain ⟨x0, x1, x2, x3, x4, x5⟩ := HB.out.doc.cells
 have CP := Lib.hid (decide_any H hd 100 true a n c fs Q d _ W0 hn hlim (hT.keep HB.out.below) (VIn.keep HB.out.below hd0))
 obtain ⟨res, hres⟩ : ∃ z, z = Expr.apply (C + hd) .or_ (outsOf fs hd d) := ⟨_, rfl⟩
 rw [← Expr.apply_or_ (C + hd), ← hres] at CP
 rw [← hres]
 clear hT hd0 hn hlim hres hW0
 go_enter Tryz.func100, Tryz.ntmps100
 go_upto_region 1 with fail
 rw [← HW0.out]
 go_wp2_with fail
 clear c0 c1 x0 x1 x2 x3 x4 x5
 refine CP.out.mono ?_
 rintro e w2 ⟨v2, rfl, hv2, hb2⟩
 obtain ⟨k, m, s, b1, f1, l1, b2, b3, f2, f3, l2, l3, rfl⟩ := hv2.shape
 have HB2 := Lib.hid (HB.out.keep hb2)
 have HEND : Hid (VIn (puts w2 (w.heap.size + 1 + 1) 0 [.int .i64 k, .int .i64 m, .string s, .slice b1 b2 b3, .slice f1 f2 f3, .slice l1 l2 l3]) (fun g => w.heap.size ≤ g) (H + hd + 2) res.2 (.agg #[.int .i64 k, .int .i64 m, .string s, .slice b1 b2 b3, .slice f1 f2 f3, .slice l1 l2 l3]) ∧ Below w.heap.size w (puts w2 (w.heap.size + 1 + 1) 0 [.int .i64 k, .int .i64 m, .string s, .slice b1 b2 b3, .slice f1 f2 f3, .slice l1 l2 l3])) :=
  ⟨(hv2.kept (puts_kept (fun g => W0.heap.size ≤ g) (by have := HB.out.size; omega) _ _) (fun g hg => by have := HB.out.size; omega)).up (by omega), puts_below HB2.out.below (by omega) _ _⟩
 obtain ⟨r0, r1, r2, r3, r4, r5⟩ := HB2.out.res.cells
 obtain ⟨q0, q1, q2, q3, q4, q5⟩ := HB2.out.res.thaw
 clear hv2 hb2 CP
 go_wp2_with fail
 exact bodyPost_ret (v := .tuple #[.agg #[.int .i64 k, .int .i64 m, .string s, .slice b1 b2 b3, .slice f1 f2 f3, .slice l1 l2 l3], .int .i64 res.1]) (by simp [results, Tryz.results100, go_sem, *]) rfl ⟨_, rfl, HEND.out.1, HEND.out.2⟩
end Go.Proofs.YtiajjgehnmkokaaGreatDoor
end
