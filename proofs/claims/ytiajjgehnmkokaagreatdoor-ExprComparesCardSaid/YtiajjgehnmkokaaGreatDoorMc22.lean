/- ExprOpIfNull, ExprOpKind, ExprOpNot, ExprOpSize. -/
import Derived.Test.YtiajjgehnmkokaaGreatDoorMc21
set_option maxRecDepth 100000
set_option maxHeartbeats 20000000
section
namespace Go.Proofs.YtiajjgehnmkokaaGreatDoor
open Go.RowKit
open Seal
open Bson (Val)
theorem op_ifNull_any (H hd C : Nat) (a : Option Addr) (n c : Nat) (fs : List (Nat → Val → Expr.Out)) (Q : Nat → Prop) (d : Val) (dv : Value) (w : World) (hn : fs.length = n) (h1 : n = 2) (hT : TermsIn w a H fs) (hd0 : VIn w Q (hd + 1) d dv) :
  Calls Tryz.prog 103 #[.agg #[.func (.func 103) #[] #[], .slice a n c], dv] w (EvPost w (H + hd + 1) (Expr.apply (C + hd) .ifNull (outsOf fs hd d))) := by
 obtain ⟨dk, dn, ds, da, df, dl, ba, bc, fa, fc, la, lc, rfl⟩ := hd0.shape
 have h0f : 0 < fs.length := by omega
 obtain ⟨g, o, t, rfl, hct, T, K, rv, rfl, hm, hme, hcall⟩ := hT.at 0 h0f
 rw [Nat.add_zero] at hct
 obtain ⟨ou, hou⟩ : ∃ z, z = Expr.outAt (outsOf fs hd d) 0 := ⟨_, rfl⟩
 have hou2 : fs[0] hd d = ou := by rw [hou, outAt_get fs hd d 0 h0f]
 have hcall2 := fun W hW => hcall W hW Q hd d
 rw [hou2] at hcall2
 obtain ⟨W0, hW0⟩ : ∃ W0, W0 = ((w.alloc (.cells #[(.func (.func 103) #[] #[]), .slice (some ⟨g, o, none⟩) n c] 126)).alloc (.cells #[.int .i64 dk, .int .i64 dn, .string ds, .slice da ba bc, .slice df fa fc, .slice dl la lc] 26)).alloc (.cells #[.int .i64 0, .int .i64 0, .string { data := #[] }, .slice none 0 0, .slice none 0 0, .slice none 0 0] 26) := ⟨_, rfl⟩
 have HB := Lib.hid (CB.new w (.func (.func 103) #[] #[]) (some ⟨g, o, none⟩) n c (.int .i64 dk) (.int .i64 dn) (.string ds) (.slice da ba bc) (.slice df fa fc) (.slice dl la lc) W0 hW0)
 have HW0 := Lib.hid hW0
 have HT := Lib.hid hT
 have HD := Lib.hid hd0
 have HOU := Lib.hid hou
 have HCT := Lib.hid hct
 have HCALL := Lib.hid hcall2
 obtain ⟨res, hres⟩ : ∃ z, z = Expr.apply (C + hd) .ifNull (outsOf fs hd d) := ⟨_, rfl⟩
 rw [← hres]
 have HRES := Lib.hid hres
 have HN := Lib.hid hn
 have hn0 : 0 < n := by omega
 have HN1 := Lib.hid h1
 clear hT hd0 hcall hcall2 hou hou2 hct hW0 hres hn h0f h1
 go_enter Tryz.func103, Tryz.ntmps103
 go_upto_region 1 with fail
 rw [← HW0.out]
 refine wp_region_inv0 (fun V => { tmps := #[.agg #[.func (.func 103) #[] #[], .slice (some ⟨g, o, none⟩) n c], .agg #[.int .i64 dk, .int .i64 dn, .string ds, .slice da ba bc, .slice df fa fc, .slice dl la lc], .pointer (some ⟨w.heap.size, 0, none⟩), .pointer (some ⟨w.heap.size + 1, 0, none⟩), .pointer (some ⟨w.heap.size + 1 + 1, 0, none⟩), .int .i64 0, V 9, V 11, V 6, V 0, V 1, V 2, V 3, V 4, V 5, V 7, V 8, undef, undef, undef, undef, undef, undef, undef, undef, undef, undef, undef, undef, undef, undef, undef], defers := [] }) (CI W0 [.pointer (some ⟨w.heap.size, 1, none⟩), .slice (some ⟨g, o, none⟩) n c, .pointer (some ⟨g, o, none⟩), .iface T rv, .agg #[.int .i64 dk, .int .i64 dn, .string ds, .slice da ba bc, .slice df fa fc, .slice dl la lc]] (.int .i64 ou.1) (H + hd) ou.2) (by kernel_rfl) (by kernel_rfl) (by kernel_rfl) (fun V => by kernel_rfl) ?_ CI.start ?_
 ·refine ⟨?_, ?_⟩
  ·refine inv_free rfl (fun D9 V w5 hDi hpre hI K hK => ?_)
   go_simp
   exact put_is (by kernel_rfl) (hK.out (.pointer (some ⟨w.heap.size, 1, none⟩)) w5 (hI.step (by decide) rfl))
  refine ⟨?_, ?_⟩
  ·refine inv_free rfl (fun D9 V w5 hDi hpre hI K hK => ?_)
   have e0 : V 0 = .pointer (some ⟨w.heap.size, 1, none⟩) := hI.known (by decide) (hpre.out 0 (by kernel_rfl))
   have hc1 := (HB.out.keep hI.below).c1
   go_simp
   exact put_is (by rw [e0]; kernel_rfl) (hK.out (.slice (some ⟨g, o, none⟩) n c) w5 (hI.step (by decide) rfl))
  refine ⟨?_, ?_⟩
  ·refine inv_free rfl (fun D9 V w5 hDi hpre hI K hK => ?_)
   have e1 : V 1 = .slice (some ⟨g, o, none⟩) n c := hI.known (by decide) (hpre.out 1 (by kernel_rfl))
   go_simp
   exact put_is (by rw [e1]; kernel_rfl) (hK.out (.pointer (some ⟨g, o, none⟩)) w5 (hI.step (by decide) rfl))
  refine ⟨?_, ?_⟩
  ·refine inv_free rfl (fun D9 V w5 hDi hpre hI K hK => ?_)
   have e2 : V 2 = .pointer (some ⟨g, o, none⟩) := hI.known (by decide) (hpre.out 2 (by kernel_rfl))
   have hct := cell_keep (HB.out.keep hI.below).below HCT.out
   go_simp
   exact put_is (by rw [e2]; kernel_rfl) (hK.out (.iface T rv) w5 (hI.step (by decide) rfl))
  refine ⟨?_, ?_⟩
  ·refine inv_free rfl (fun D9 V w5 hDi hpre hI K hK => ?_)
   obtain ⟨x0, x1, x2, x3, x4, x5⟩ := (HB.out.keep hI.below).doc.cells
   go_simp
   exact put_is (by kernel_rfl) (hK.out (.agg #[.int .i64 dk, .int .i64 dn, .string ds, .slice da ba bc, .slice df fa fc, .slice dl la lc]) w5 (hI.step (by decide) rfl))
  refine ⟨?_, ?_⟩
  ·refine inv_free rfl (fun D9 V w5 hDi hpre hI K hK => ?_)
   have e3 : V 3 = .iface T rv := hI.known (by decide) (hpre.out 3 (by kernel_rfl))
   have e4 : V 4 = .agg #[.int .i64 dk, .int .i64 dn, .string ds, .slice da ba bc, .slice df fa fc, .slice dl la lc] := hI.known (by decide) (hpre.out 4 (by kernel_rfl))
   have hbw := (HB.out.keep hI.below).below
   have CK := HCALL.out w5 hbw _ (VIn.keep hbw HD.out)
   go_simp
   refine CK.mono ?_
   rintro e w6 ⟨v6, rfl, hv6, hb6⟩
   exact put_is (by rw [e3, e4]; kernel_rfl) (hK.out (.tuple #[v6, .int .i64 ou.1]) w6 (hI.call hDi hb6 hv6))
  refine ⟨?_, ?_⟩
  ·refine inv_free rfl (fun D9 V w5 hDi hpre hI K hK => ?_)
   have h5 := hpre.out 5 (by kernel_rfl)
   go_simp
   exact put_is (by kernel_rfl) (hK.out (V 5) w5 (hI.moved h5))
  refine ⟨?_, ?_⟩
  ·refine inv_free rfl (fun D9 V w5 hDi hpre hI K hK => ?_)
   obtain ⟨v, e6, h7, -⟩ := hI.got (hpre.out 6 (by kernel_rfl))
   go_simp
   exact put_is (by rw [e6]; kernel_rfl) (hK.out v w5 h7)
  refine ⟨?_, ?_⟩
  ·refine inv_free rfl (fun D9 V w5 hDi hpre hI K hK => ?_)
   obtain ⟨v, e6, -, h8⟩ := hI.got (hpre.out 6 (by kernel_rfl))
   go_simp
   exact put_is (by rw [e6]; kernel_rfl) (hK.out (.int .i64 ou.1) w5 h8)
  refine ⟨?_, ?_⟩
  ·refine inv_free rfl (fun D9 V w5 hDi hpre hI K hK => ?_)
   go_simp
   exact put_is (by kernel_rfl) (hK.out (.pointer (some ⟨w5.heap.size, 0, none⟩)) _ (hI.made hDi))
  refine ⟨?_, ?_⟩
  ·refine inv_free rfl (fun D9 V w5 hDi hpre hI K hK => ?_)
   obtain ⟨p, k9, n9, s9, ba9, fa9, la9, bn9, bc9, fn9, fc9, ln9, lc9, e9, e7, hbx, h10⟩ := hI.kept (hpre.out 9 (by kernel_rfl)) (hpre.out 7 (by kernel_rfl)) hDi
   obtain ⟨z0, z1, z2, z3, z4, z5⟩ := hbx.cells
   obtain ⟨q0, q1, q2, q3, q4, q5⟩ := hbx.thaw
   go_simp
   exact put_is (by rw [e9, e7]; kernel_rfl) (hK.out undef _ h10)
  refine ⟨?_, ?_⟩
  ·refine inv_free rfl (fun D9 V w5 hDi hpre hI K hK => ?_)
   obtain ⟨e8, h11⟩ := hI.err (hpre.out 8 (by kernel_rfl))
   go_simp
   exact put_is (by rw [e8]; kernel_rfl) (hK.out (.int .i64 ou.1) w5 h11)
  trivial
 intro D9 V w9 hD9 hI9
 obtain ⟨p, k, m, s, b1, f1, l1, b2, b3, f2, f3, l2, l3, lo, hi, e9, e11, hbx, hv9, hlo, hhi, hp, hb9⟩ := hI9.end hD9
 rw [e9, e11]
 have HB9 := Lib.hid (HB.out.keep hb9)
 have HX9 := Lib.hid hbx
 have HV9 := Lib.hid hv9
 have HLO := Lib.hid (And.intro hlo (And.intro hhi hp))
 obtain ⟨r0, r1, r2, r3, r4, r5⟩ := HB9.out.res.cells
 obtain ⟨q0, q1, q2, q3, q4, q5⟩ := HB9.out.res.thaw
 obtain ⟨z0, z1, z2, z3, z4, z5⟩ := HX9.out.cells
 clear hI9 hD9 e9 e11 hbx hv9 hlo hhi hp hb9
 by_cases hz : ou.1 = 0
 ·rw [hz]
  have HZ := Lib.hid hz
  obtain ⟨e1, -, -, -, -⟩ := HV9.out.top
  have CT := Lib.hid (isNothing_any k m (.string s) (.slice b1 b2 b3) (.slice f1 f2 f3) (.slice l1 l2 l3) w9)
  obtain ⟨tb, htb⟩ : ∃ z, z = noneB k := ⟨_, rfl⟩
  rw [← htb] at CT
  have HTB : Hid (tb = noneB ou.2.kind) := by show _ = _; rw [htb, e1]
  clear e1 htb hz
  go_wp2_with fail
  clear r0 r1 r2 r3 r4 r5 q0 q1 q2 q3 q4 q5 z0 z1 z2 z3 z4 z5
  refine CT.out.mono ?_
  rintro e w5 ⟨rfl, hb5⟩
  have HB5 := Lib.hid (HB9.out.keep hb5)
  have HX5 := Lib.hid (HX9.out.keep hb5)
  have HV5 := Lib.hid (HV9.out.keep hb5)
  clear hb5 CT HX9
  cases tb with
  | true =>
   go_upto_region 5 with fail
   have h1f : 1 < fs.length := by rw [HN.out, HN1.out]; omega
   obtain ⟨t1, hct1, T1, K1, rv1, rfl, hm1, hme1, hcall1⟩ := HT.out.more 1 h1f
   obtain ⟨ou1, hou1⟩ : ∃ z, z = Expr.outAt (outsOf fs hd d) 1 := ⟨_, rfl⟩
   have hcall2 := fun W hW => hcall1 W hW Q hd d
   rw [show fs[1] hd d = ou1 by rw [hou1, outAt_get fs hd d 1 h1f]] at hcall2
   have hn1 : 1 < n := by rw [HN1.out]; omega
   have hn1i : (1 : Int) < (n : Int) := by omega
   have HCT1 := Lib.hid hct1
   have HCALL1 := Lib.hid hcall2
   have hre : res = ou1 := by
    rw [HRES.out, Expr.apply_ifNull]
    unfold Expr.one
    rw [← HOU.out, if_pos HZ.out]
    dsimp only
    rw [if_pos HTB.out.symm]; exact hou1.symm
   have HRE := Lib.hid hre
   clear hcall1 hcall2 hou1 hct1 hre h1f
   refine wp_region_inv0 (fun Y => { tmps := #[.agg #[.func (.func 103) #[] #[], .slice (some ⟨g, o, none⟩) n c], .agg #[.int .i64 dk, .int .i64 dn, .string ds, .slice da ba bc, .slice df fa fc, .slice dl la lc], .pointer (some ⟨w.heap.size, 0, none⟩), .pointer (some ⟨w.heap.size + 1, 0, none⟩), .pointer (some ⟨w.heap.size + 1 + 1, 0, none⟩), Y 9, .pointer (some ⟨p, 0, none⟩), .int .i64 0, V 6, V 0, V 1, V 2, V 3, V 4, V 5, V 7, V 8, .int .i64 0, .bool false, undef, undef, .agg #[.int .i64 k, .int .i64 m, .string s, .slice b1 b2 b3, .slice f1 f2 f3, .slice l1 l2 l3], .bool true, Y 0, Y 1, Y 2, Y 3, Y 4, Y 5, Y 6, Y 7, undef], defers := [] }) (DI w w5 (w.heap.size + 1 + 1) [.pointer (some ⟨w.heap.size, 1, none⟩), .slice (some ⟨g, o, none⟩) n c, .pointer (some ⟨g, o + 1, none⟩), .iface T1 rv1, .agg #[.int .i64 dk, .int .i64 dn, .string ds, .slice da ba bc, .slice df fa fc, .slice dl la lc]] (.int .i64 ou1.1) (H + hd) ou1.2) (by kernel_rfl) (by kernel_rfl) (by kernel_rfl) (fun V => by kernel_rfl) ?_ (DI.start HB5.out.below) ?_
   ·refine ⟨?_, ?_⟩
    ·refine inv_free rfl (fun D9 Y w7 hDi hpre hI K hK => ?_)
     go_simp
     exact put_is (by kernel_rfl) (hK.out (.pointer (some ⟨w.heap.size, 1, none⟩)) w7 (hI.step (by decide) rfl))
    refine ⟨?_, ?_⟩
    ·refine inv_free rfl (fun D9 Y w7 hDi hpre hI K hK => ?_)
     have e0 : Y 0 = .pointer (some ⟨w.heap.size, 1, none⟩) := hI.known (by decide) (hpre.out 0 (by kernel_rfl))
     have hsz5 := HB5.out.size
     have hc1 := (World.cell?_of_block (a := ⟨w.heap.size, 1, none⟩) (hI.old (g := w.heap.size) (by omega) (by omega))).trans HB5.out.c1
     go_simp
     exact put_is (by rw [e0]; kernel_rfl) (hK.out (.slice (some ⟨g, o, none⟩) n c) w7 (hI.step (by decide) rfl))
    refine ⟨?_, ?_⟩
    ·refine inv_free rfl (fun D9 Y w7 hDi hpre hI K hK => ?_)
     have e1 : Y 1 = .slice (some ⟨g, o, none⟩) n c := hI.known (by decide) (hpre.out 1 (by kernel_rfl))
     go_simp
     exact put_is (by rw [e1]; kernel_rfl) (hK.out (.pointer (some ⟨g, o + 1, none⟩)) w7 (hI.step (by decide) rfl))
    refine ⟨?_, ?_⟩
    ·refine inv_free rfl (fun D9 Y w7 hDi hpre hI K hK => ?_)
     have e2 : Y 2 = .pointer (some ⟨g, o + 1, none⟩) := hI.known (by decide) (hpre.out 2 (by kernel_rfl))
     have hct := cell_keep hI.below HCT1.out
     go_simp
     exact put_is (by rw [e2]; kernel_rfl) (hK.out (.iface T1 rv1) w7 (hI.step (by decide) rfl))
    refine ⟨?_, ?_⟩
    ·refine inv_free rfl (fun D9 Y w7 hDi hpre hI K hK => ?_)
     have hsz5 := HB5.out.size
     obtain ⟨x0, x1, x2, x3, x4, x5⟩ := (show IsBox w7 (w.heap.size + 1) (.int .i64 dk) (.int .i64 dn) (.string ds) (.slice da ba bc) (.slice df fa fc) (.slice dl la lc) from (hI.old (g := w.heap.size + 1) (by omega) (by omega)).trans HB5.out.doc).cells
     go_simp
     exact put_is (by kernel_rfl) (hK.out (.agg #[.int .i64 dk, .int .i64 dn, .string ds, .slice da ba bc, .slice df fa fc, .slice dl la lc]) w7 (hI.step (by decide) rfl))
    refine ⟨?_, ?_⟩
    ·refine inv_free rfl (fun D9 Y w7 hDi hpre hI K hK => ?_)
     have d3 := hpre.out 3 (by kernel_rfl)
     have d4 := hpre.out 4 (by kernel_rfl)
     have e3 : Y 3 = .iface T1 rv1 := hI.known (by decide) d3
     have e4 : Y 4 = .agg #[.int .i64 dk, .int .i64 dn, .string ds, .slice da ba bc, .slice df fa fc, .slice dl la lc] := hI.known (by decide) d4
     have CK := HCALL1.out w7 hI.below _ (VIn.keep hI.below HD.out)
     go_simp
     refine CK.mono ?_
     rintro e w8 ⟨v8, rfl, hv8, hb8⟩
     exact put_is (by rw [e3, e4]; kernel_rfl) (hK.out (.tuple #[v8, .int .i64 ou1.1]) w8 (hI.call hDi hb8 hv8))
    refine ⟨?_, ?_⟩
    ·refine inv_free rfl (fun D9 Y w7 hDi hpre hI K hK => ?_)
     obtain ⟨v, e6, h7, -⟩ := hI.got (hpre.out 5 (by kernel_rfl))
     go_simp
     exact put_is (by rw [e6]; kernel_rfl) (hK.out v w7 h7)
    refine ⟨?_, ?_⟩
    ·refine inv_free rfl (fun D9 Y w7 hDi hpre hI K hK => ?_)
     obtain ⟨v, e6, -, h8⟩ := hI.got (hpre.out 5 (by kernel_rfl))
     go_simp
     exact put_is (by rw [e6]; kernel_rfl) (hK.out (.int .i64 ou1.1) w7 h8)
    refine ⟨?_, ?_⟩
    ·refine inv_free rfl (fun D9 Y w7 hDi hpre hI K hK => ?_)
     obtain ⟨k9, n9, s9, ba9, fa9, la9, bn9, bc9, fn9, fc9, ln9, lc9, e7, hbx, h10⟩ := hI.kept (by omega) (by have := HB5.out.size; omega) (fun W hW => (HB5.out.keep hW).res) (hpre.out 6 (by kernel_rfl)) hDi
     obtain ⟨z0, z1, z2, z3, z4, z5⟩ := hbx.cells
     obtain ⟨q0, q1, q2, q3, q4, q5⟩ := hbx.thaw
     go_simp
     exact put_is (by rw [e7]; kernel_rfl) (hK.out undef _ h10)
    refine ⟨?_, ?_⟩
    ·refine inv_free rfl (fun D9 Y w7 hDi hpre hI K hK => ?_)
     obtain ⟨e8, h11⟩ := hI.err (hpre.out 7 (by kernel_rfl))
     go_simp
     exact put_is (by rw [e8]; kernel_rfl) (hK.out (.int .i64 ou1.1) w7 h11)
    trivial
   intro D9 Y w8 hD9 hI9
   obtain ⟨k9, n9, s9, ba9, fa9, la9, bn9, bc9, fn9, fc9, ln9, lc9, lo9, hi9, e9, hbx, hv9, hlo9, hb9⟩ := hI9.end hD9
   rw [e9]
   obtain ⟨x0, x1, x2, x3, x4, x5⟩ := hbx.cells
   have HEND : Hid (VIn w8 (fun g => w.heap.size ≤ g) (H + hd + 1) ou1.2 (.agg #[.int .i64 k9, .int .i64 n9, .string s9, .slice ba9 bn9 bc9, .slice fa9 fn9 fc9, .slice la9 ln9 lc9]) ∧ Below w.heap.size w w8) :=
    ⟨(hv9.kept (Kept.of_below (Below.refl _ _)) (fun g hg => by have := HB5.out.below.size; omega)).up (Nat.le_succ _), hb9⟩
   clear hI9 hD9 e9 hv9 hlo9 hb9 hm1 hme1
   go_wp2_with fail
   exact bodyPost_ret (v := .tuple #[.agg #[.int .i64 k9, .int .i64 n9, .string s9, .slice ba9 bn9 bc9, .slice fa9 fn9 fc9, .slice la9 ln9 lc9], .int .i64 ou1.1]) (by simp [results, Tryz.results103, go_sem, *]) rfl ⟨_, by rw [HRE.out], by rw [HRE.out]; exact HEND.out.1, HEND.out.2⟩
  | false =>
   obtain ⟨z0, z1, z2, z3, z4, z5⟩ := HX5.out.cells
   obtain ⟨r0, r1, r2, r3, r4, r5⟩ := HB5.out.res.cells
   obtain ⟨q0, q1, q2, q3, q4, q5⟩ := HB5.out.res.thaw
   have hre : res = (0, ou.2) := by
    rw [HRES.out, Expr.apply_ifNull]
    unfold Expr.one
    rw [← HOU.out, if_pos HZ.out]
    dsimp only
    rw [if_neg (by rw [← HTB.out]; decide)]
   have HRE := Lib.hid hre
   have HEND : Hid (VIn (puts w5 (w.heap.size + 1 + 1) 0 [.int .i64 k, .int .i64 m, .string s, .slice b1 b2 b3, .slice f1 f2 f3, .slice l1 l2 l3]) (fun g => w.heap.size ≤ g) (H + hd + 1) ou.2 (.agg #[.int .i64 k, .int .i64 m, .string s, .slice b1 b2 b3, .slice f1 f2 f3, .slice l1 l2 l3]) ∧ Below w.heap.size w (puts w5 (w.heap.size + 1 + 1) 0 [.int .i64 k, .int .i64 m, .string s, .slice b1 b2 b3, .slice f1 f2 f3, .slice l1 l2 l3])) :=
    ⟨(HV5.out.kept (puts_kept (fun g => lo ≤ g ∧ g < hi) (by have := HLO.out.1; have := HB.out.size; omega) _ _) (fun g hg => by have := HLO.out.1; have := HB.out.size; omega)).up (Nat.le_succ _), puts_below HB5.out.below (by omega) _ _⟩
   clear hre
   go_wp2_with fail
   exact bodyPost_ret (v := .tuple #[.agg #[.int .i64 k, .int .i64 m, .string s, .slice b1 b2 b3, .slice f1 f2 f3, .slice l1 l2 l3], .int .i64 0]) (by simp [results, Tryz.results103, go_sem, *]) rfl ⟨_, by rw [HRE.out], by rw [HRE.out]; exact HEND.out.1, HEND.out.2⟩
 ·have hz2 : (ou.1 == 0) = false := by rw [beq_eq_false_iff_ne]; exact hz
  have hre : res = (ou.1, Bson.zero) := by
   rw [HRES.out]
   rw [Expr.apply_ifNull]
   unfold Expr.one
   rw [← HOU.out, if_neg hz]; rfl
  have HRE := Lib.hid hre
  have HEND := Lib.hid (below_six HB9.out.below (by omega : w.heap.size ≤ w.heap.size + 1 + 1) (.int .i64 0) (.int .i64 0) (.string { data := #[] }) (.slice none 0 0) (.slice none 0 0) (.slice none 0 0))
  clear hz hre
  go_wp2_with fail
  exact bodyPost_ret (v := .tuple #[.agg #[.int .i64 0, .int .i64 0, .string { data := #[] }, .slice none 0 0, .slice none 0 0, .slice none 0 0], .int .i64 ou.1]) (by simp [results, Tryz.results103, go_sem, *]) rfl ⟨_, by rw [HRE.out], by rw [HRE.out]; exact (zero_in _ _).up (by omega), HEND.out⟩
end Go.Proofs.YtiajjgehnmkokaaGreatDoor
end
section
namespace Go.Proofs.YtiajjgehnmkokaaGreatDoor
open Go.RowKit
open Seal
open Bson (Val)
theorem kindName_size (k : Int) : (Expr.kindName k).size ≤ 140737488355328 := by
 by_cases h0 : k = 0
 ·subst h0; decide
 by_cases h1 : k = 1
 ·subst h1; decide
 by_cases h2 : k = 2
 ·subst h2; decide
 by_cases h3 : k = 3
 ·subst h3; decide
 by_cases h4 : k = 4
 ·subst h4; decide
 by_cases h5 : k = 5
 ·subst h5; decide
 by_cases h6 : k = 6
 ·subst h6; decide
 by_cases h7 : k = 7
 ·subst h7; decide
 by_cases h8 : k = 8
 ·subst h8; decide
 by_cases h9 : k = 9
 ·subst h9; decide
 by_cases h10 : k = 10
 ·subst h10; decide
 by_cases h11 : k = 11
 ·subst h11; decide
 by_cases h12 : k = 12
 ·subst h12; decide
 have HR : Expr.kindName k = ⟨#[]⟩ := by unfold Expr.kindName; rw [if_neg h0, if_neg h1, if_neg h2, if_neg h3, if_neg h4, if_neg h5, if_neg h6, if_neg h7, if_neg h8, if_neg h9, if_neg h10, if_neg h11, if_neg h12]
 rw [HR]; decide
theorem textV_in (w : World) (Q : Nat → Prop) (s : ByteArray) (hs : s.size ≤ 140737488355328) (h : Nat) : VIn w Q (h + 1) (Expr.textV s) (.agg #[.int .i64 5, .int .i64 0, .string s, .slice none 0 0, .slice none 0 0, .slice none 0 0]) :=
 ⟨none, none, none, 0, 0, 0, rfl, ⟨by show (-9223372036854775808 : Int) ≤ 5; omega, by show (5 : Int) ≤ _; omega, by show (-9223372036854775808 : Int) ≤ 0; omega, by show (0 : Int) ≤ _; omega, hs, by show (0 : Nat) ≤ _; omega, by show (0 : Nat) ≤ _; omega, by show (0 : Nat) ≤ _; omega, (fun _ h => by cases h)⟩, ⟨Nat.le_refl _, by omega⟩, ⟨Nat.le_refl _, by omega⟩, ⟨Nat.le_refl _, by omega⟩, .inl rfl, .inl rfl, .inl rfl⟩
theorem nameOf_any (k : Int) (w : World) : Calls Tryz.prog 136 #[.int .i64 k] w fun e w' => e = .returned (.string (Expr.kindName k)) ∧ Below w.heap.size w w' := by
 by_cases h0 : k = 0
 ·subst h0
  go_enter Tryz.func136, Tryz.ntmps136
  go_wp2_with fail
  go_ret
  exact ⟨rfl, Below.refl _ _⟩
 have b0 : (k == 0) = false := by rw [beq_eq_false_iff_ne]; exact h0
 by_cases h1 : k = 1
 ·subst h1
  go_enter Tryz.func136, Tryz.ntmps136
  go_wp2_with fail
  go_ret
  exact ⟨rfl, Below.refl _ _⟩
 have b1 : (k == 1) = false := by rw [beq_eq_false_iff_ne]; exact h1
 by_cases h2 : k = 2
 ·subst h2
  go_enter Tryz.func136, Tryz.ntmps136
  go_wp2_with fail
  go_ret
  exact ⟨rfl, Below.refl _ _⟩
 have b2 : (k == 2) = false := by rw [beq_eq_false_iff_ne]; exact h2
 by_cases h3 : k = 3
 ·subst h3
  go_enter Tryz.func136, Tryz.ntmps136
  go_wp2_with fail
  go_ret
  exact ⟨rfl, Below.refl _ _⟩
 have b3 : (k == 3) = false := by rw [beq_eq_false_iff_ne]; exact h3
 by_cases h4 : k = 4
 ·subst h4
  go_enter Tryz.func136, Tryz.ntmps136
  go_wp2_with fail
  go_ret
  exact ⟨rfl, Below.refl _ _⟩
 have b4 : (k == 4) = false := by rw [beq_eq_false_iff_ne]; exact h4
 by_cases h5 : k = 5
 ·subst h5
  go_enter Tryz.func136, Tryz.ntmps136
  go_wp2_with fail
  go_ret
  exact ⟨rfl, Below.refl _ _⟩
 have b5 : (k == 5) = false := by rw [beq_eq_false_iff_ne]; exact h5
 by_cases h6 : k = 6
 ·subst h6
  go_enter Tryz.func136, Tryz.ntmps136
  go_wp2_with fail
  go_ret
  exact ⟨rfl, Below.refl _ _⟩
 have b6 : (k == 6) = false := by rw [beq_eq_false_iff_ne]; exact h6
 by_cases h7 : k = 7
 ·subst h7
  go_enter Tryz.func136, Tryz.ntmps136
  go_wp2_with fail
  go_ret
  exact ⟨rfl, Below.refl _ _⟩
 have b7 : (k == 7) = false := by rw [beq_eq_false_iff_ne]; exact h7
 by_cases h8 : k = 8
 ·subst h8
  go_enter Tryz.func136, Tryz.ntmps136
  go_wp2_with fail
  go_ret
  exact ⟨rfl, Below.refl _ _⟩
 have b8 : (k == 8) = false := by rw [beq_eq_false_iff_ne]; exact h8
 by_cases h9 : k = 9
 ·subst h9
  go_enter Tryz.func136, Tryz.ntmps136
  go_wp2_with fail
  go_ret
  exact ⟨rfl, Below.refl _ _⟩
 have b9 : (k == 9) = false := by rw [beq_eq_false_iff_ne]; exact h9
 by_cases h10 : k = 10
 ·subst h10
  go_enter Tryz.func136, Tryz.ntmps136
  go_wp2_with fail
  go_ret
  exact ⟨rfl, Below.refl _ _⟩
 have b10 : (k == 10) = false := by rw [beq_eq_false_iff_ne]; exact h10
 by_cases h11 : k = 11
 ·subst h11
  go_enter Tryz.func136, Tryz.ntmps136
  go_wp2_with fail
  go_ret
  exact ⟨rfl, Below.refl _ _⟩
 have b11 : (k == 11) = false := by rw [beq_eq_false_iff_ne]; exact h11
 by_cases h12 : k = 12
 ·subst h12
  go_enter Tryz.func136, Tryz.ntmps136
  go_wp2_with fail
  go_ret
  exact ⟨rfl, Below.refl _ _⟩
 have b12 : (k == 12) = false := by rw [beq_eq_false_iff_ne]; exact h12
 have HR := Lib.hid (show Expr.kindName k = ⟨#[]⟩ by unfold Expr.kindName; rw [if_neg h0, if_neg h1, if_neg h2, if_neg h3, if_neg h4, if_neg h5, if_neg h6, if_neg h7, if_neg h8, if_neg h9, if_neg h10, if_neg h11, if_neg h12])
 clear h0 h1 h2 h3 h4 h5 h6 h7 h8 h9 h10 h11 h12
 go_enter Tryz.func136, Tryz.ntmps136
 go_wp2_with fail
 go_ret
 exact ⟨ret_eq (by rw [HR.out]; rfl), Below.refl _ _⟩
theorem op_kind_any (H hd C : Nat) (a : Option Addr) (n c : Nat) (fs : List (Nat → Val → Expr.Out)) (Q : Nat → Prop) (d : Val) (dv : Value) (w : World) (hn : fs.length = n) (h1 : n = 1) (hT : TermsIn w a H fs) (hd0 : VIn w Q (hd + 1) d dv) :
  Calls Tryz.prog 107 #[.agg #[.func (.func 107) #[] #[], .slice a n c], dv] w (EvPost w (H + hd + 1) (Expr.apply (C + hd) .type_ (outsOf fs hd d))) := by
 obtain ⟨dk, dn, ds, da, df, dl, ba, bc, fa, fc, la, lc, rfl⟩ := hd0.shape
 have h0f : 0 < fs.length := by omega
 obtain ⟨g, o, t, rfl, hct, T, K, rv, rfl, hm, hme, hcall⟩ := hT.at 0 h0f
 rw [Nat.add_zero] at hct
 obtain ⟨ou, hou⟩ : ∃ z, z = Expr.outAt (outsOf fs hd d) 0 := ⟨_, rfl⟩
 have hou2 : fs[0] hd d = ou := by rw [hou, outAt_get fs hd d 0 h0f]
 have hcall2 := fun W hW => hcall W hW Q hd d
 rw [hou2] at hcall2
 obtain ⟨W0, hW0⟩ : ∃ W0, W0 = ((w.alloc (.cells #[(.func (.func 107) #[] #[]), .slice (some ⟨g, o, none⟩) n c] 126)).alloc (.cells #[.int .i64 dk, .int .i64 dn, .string ds, .slice da ba bc, .slice df fa fc, .slice dl la lc] 26)).alloc (.cells #[.int .i64 0, .int .i64 0, .string { data := #[] }, .slice none 0 0, .slice none 0 0, .slice none 0 0] 26) := ⟨_, rfl⟩
 have HB := Lib.hid (CB.new w (.func (.func 107) #[] #[]) (some ⟨g, o, none⟩) n c (.int .i64 dk) (.int .i64 dn) (.string ds) (.slice da ba bc) (.slice df fa fc) (.slice dl la lc) W0 hW0)
 have HW0 := Lib.hid hW0
 have HT := Lib.hid hT
 have HD := Lib.hid hd0
 have HOU := Lib.hid hou
 have HCT := Lib.hid hct
 have HCALL := Lib.hid hcall2
 obtain ⟨res, hres⟩ : ∃ z, z = Expr.apply (C + hd) .type_ (outsOf fs hd d) := ⟨_, rfl⟩
 rw [← hres]
 have HRES := Lib.hid hres
 have HN := Lib.hid hn
 have hn0 : 0 < n := by omega
 have HN1 := Lib.hid h1
 clear hT hd0 hcall hcall2 hou hou2 hct hW0 hres hn h0f h1
 go_enter Tryz.func107, Tryz.ntmps107
 go_upto_region 1 with fail
 rw [← HW0.out]
 refine wp_region_inv0 (fun V => { tmps := #[.agg #[.func (.func 107) #[] #[], .slice (some ⟨g, o, none⟩) n c], .agg #[.int .i64 dk, .int .i64 dn, .string ds, .slice da ba bc, .slice df fa fc, .slice dl la lc], .pointer (some ⟨w.heap.size, 0, none⟩), .pointer (some ⟨w.heap.size + 1, 0, none⟩), .pointer (some ⟨w.heap.size + 1 + 1, 0, none⟩), .int .i64 0, V 9, V 11, V 6, V 0, V 1, V 2, V 3, V 4, V 5, V 7, V 8, undef, undef, undef, undef, undef, undef, undef, undef], defers := [] }) (CI W0 [.pointer (some ⟨w.heap.size, 1, none⟩), .slice (some ⟨g, o, none⟩) n c, .pointer (some ⟨g, o, none⟩), .iface T rv, .agg #[.int .i64 dk, .int .i64 dn, .string ds, .slice da ba bc, .slice df fa fc, .slice dl la lc]] (.int .i64 ou.1) (H + hd) ou.2) (by kernel_rfl) (by kernel_rfl) (by kernel_rfl) (fun V => by kernel_rfl) ?_ CI.start ?_
 ·refine ⟨?_, ?_⟩
  ·refine inv_free rfl (fun D9 V w5 hDi hpre hI K hK => ?_)
   go_simp
   exact put_is (by kernel_rfl) (hK.out (.pointer (some ⟨w.heap.size, 1, none⟩)) w5 (hI.step (by decide) rfl))
  refine ⟨?_, ?_⟩
  ·refine inv_free rfl (fun D9 V w5 hDi hpre hI K hK => ?_)
   have e0 : V 0 = .pointer (some ⟨w.heap.size, 1, none⟩) := hI.known (by decide) (hpre.out 0 (by kernel_rfl))
   have hc1 := (HB.out.keep hI.below).c1
   go_simp
   exact put_is (by rw [e0]; kernel_rfl) (hK.out (.slice (some ⟨g, o, none⟩) n c) w5 (hI.step (by decide) rfl))
  refine ⟨?_, ?_⟩
  ·refine inv_free rfl (fun D9 V w5 hDi hpre hI K hK => ?_)
   have e1 : V 1 = .slice (some ⟨g, o, none⟩) n c := hI.known (by decide) (hpre.out 1 (by kernel_rfl))
   go_simp
   exact put_is (by rw [e1]; kernel_rfl) (hK.out (.pointer (some ⟨g, o, none⟩)) w5 (hI.step (by decide) rfl))
  refine ⟨?_, ?_⟩
  ·refine inv_free rfl (fun D9 V w5 hDi hpre hI K hK => ?_)
   have e2 : V 2 = .pointer (some ⟨g, o, none⟩) := hI.known (by decide) (hpre.out 2 (by kernel_rfl))
   have hct := cell_keep (HB.out.keep hI.below).below HCT.out
   go_simp
   exact put_is (by rw [e2]; kernel_rfl) (hK.out (.iface T rv) w5 (hI.step (by decide) rfl))
  refine ⟨?_, ?_⟩
  ·refine inv_free rfl (fun D9 V w5 hDi hpre hI K hK => ?_)
   obtain ⟨x0, x1, x2, x3, x4, x5⟩ := (HB.out.keep hI.below).doc.cells
   go_simp
   exact put_is (by kernel_rfl) (hK.out (.agg #[.int .i64 dk, .int .i64 dn, .string ds, .slice da ba bc, .slice df fa fc, .slice dl la lc]) w5 (hI.step (by decide) rfl))
  refine ⟨?_, ?_⟩
  ·refine inv_free rfl (fun D9 V w5 hDi hpre hI K hK => ?_)
   have e3 : V 3 = .iface T rv := hI.known (by decide) (hpre.out 3 (by kernel_rfl))
   have e4 : V 4 = .agg #[.int .i64 dk, .int .i64 dn, .string ds, .slice da ba bc, .slice df fa fc, .slice dl la lc] := hI.known (by decide) (hpre.out 4 (by kernel_rfl))
   have hbw := (HB.out.keep hI.below).below
   have CK := HCALL.out w5 hbw _ (VIn.keep hbw HD.out)
   go_simp
   refine CK.mono ?_
   rintro e w6 ⟨v6, rfl, hv6, hb6⟩
   exact put_is (by rw [e3, e4]; kernel_rfl) (hK.out (.tuple #[v6, .int .i64 ou.1]) w6 (hI.call hDi hb6 hv6))
  refine ⟨?_, ?_⟩
  ·refine inv_free rfl (fun D9 V w5 hDi hpre hI K hK => ?_)
   have h5 := hpre.out 5 (by kernel_rfl)
   go_simp
   exact put_is (by kernel_rfl) (hK.out (V 5) w5 (hI.moved h5))
  refine ⟨?_, ?_⟩
  ·refine inv_free rfl (fun D9 V w5 hDi hpre hI K hK => ?_)
   obtain ⟨v, e6, h7, -⟩ := hI.got (hpre.out 6 (by kernel_rfl))
   go_simp
   exact put_is (by rw [e6]; kernel_rfl) (hK.out v w5 h7)
  refine ⟨?_, ?_⟩
  ·refine inv_free rfl (fun D9 V w5 hDi hpre hI K hK => ?_)
   obtain ⟨v, e6, -, h8⟩ := hI.got (hpre.out 6 (by kernel_rfl))
   go_simp
   exact put_is (by rw [e6]; kernel_rfl) (hK.out (.int .i64 ou.1) w5 h8)
  refine ⟨?_, ?_⟩
  ·refine inv_free rfl (fun D9 V w5 hDi hpre hI K hK => ?_)
   go_simp
   exact put_is (by kernel_rfl) (hK.out (.pointer (some ⟨w5.heap.size, 0, none⟩)) _ (hI.made hDi))
  refine ⟨?_, ?_⟩
  ·refine inv_free rfl (fun D9 V w5 hDi hpre hI K hK => ?_)
   obtain ⟨p, k9, n9, s9, ba9, fa9, la9, bn9, bc9, fn9, fc9, ln9, lc9, e9, e7, hbx, h10⟩ := hI.kept (hpre.out 9 (by kernel_rfl)) (hpre.out 7 (by kernel_rfl)) hDi
   obtain ⟨z0, z1, z2, z3, z4, z5⟩ := hbx.cells
   obtain ⟨q0, q1, q2, q3, q4, q5⟩ := hbx.thaw
   go_simp
   exact put_is (by rw [e9, e7]; kernel_rfl) (hK.out undef _ h10)
  refine ⟨?_, ?_⟩
  ·refine inv_free rfl (fun D9 V w5 hDi hpre hI K hK => ?_)
   obtain ⟨e8, h11⟩ := hI.err (hpre.out 8 (by kernel_rfl))
   go_simp
   exact put_is (by rw [e8]; kernel_rfl) (hK.out (.int .i64 ou.1) w5 h11)
  trivial
 intro D9 V w9 hD9 hI9
 obtain ⟨p, k, m, s, b1, f1, l1, b2, b3, f2, f3, l2, l3, lo, hi, e9, e11, hbx, hv9, hlo, hhi, hp, hb9⟩ := hI9.end hD9
 rw [e9, e11]
 have HB9 := Lib.hid (HB.out.keep hb9)
 have HX9 := Lib.hid hbx
 have HV9 := Lib.hid hv9
 have HLO := Lib.hid (And.intro hlo (And.intro hhi hp))
 obtain ⟨r0, r1, r2, r3, r4, r5⟩ := HB9.out.res.cells
 obtain ⟨q0, q1, q2, q3, q4, q5⟩ := HB9.out.res.thaw
 obtain ⟨z0, z1, z2, z3, z4, z5⟩ := HX9.out.cells
 clear hI9 hD9 e9 e11 hbx hv9 hlo hhi hp hb9
 by_cases hz : ou.1 = 0
 ·rw [hz]
  obtain ⟨e1, -, -, -, -⟩ := HV9.out.top
  have CN := Lib.hid (nameOf_any k w9)
  obtain ⟨nm, hnm⟩ : ∃ z, z = Expr.kindName k := ⟨_, rfl⟩
  rw [← hnm] at CN
  have hre : res = (0, Expr.textV nm) := by
   rw [HRES.out]
   rw [Expr.apply_type_]
   unfold Expr.one
   rw [← HOU.out, if_pos hz]
   rw [hnm, e1]
  have HRE := Lib.hid hre
  have HNM : Hid (nm.size ≤ 140737488355328) := by show _ ≤ _; rw [hnm]; exact kindName_size k
  clear hre e1 hnm hz
  go_wp2_with fail
  clear r0 r1 r2 r3 r4 r5 q0 q1 q2 q3 q4 q5 z0 z1 z2 z3 z4 z5
  refine CN.out.mono ?_
  rintro e w6 ⟨rfl, hb6⟩
  have HEND := Lib.hid (below_six (HB9.out.below.trans (hb6.mono HB9.out.below.size)) (by omega : w.heap.size ≤ w.heap.size + 1 + 1) (.int .i64 5) (.int .i64 0) (.string nm) (.slice none 0 0) (.slice none 0 0) (.slice none 0 0))
  have HK6 := Lib.hid (HB9.out.keep hb6)
  obtain ⟨r0, r1, r2, r3, r4, r5⟩ := HK6.out.res.cells
  obtain ⟨q0, q1, q2, q3, q4, q5⟩ := HK6.out.res.thaw
  clear hb6
  go_wp2_with fail
  exact bodyPost_ret (v := .tuple #[.agg #[.int .i64 5, .int .i64 0, .string nm, .slice none 0 0, .slice none 0 0, .slice none 0 0], .int .i64 0]) (by simp [results, Tryz.results107, go_sem, *]) rfl ⟨_, by rw [HRE.out], by rw [HRE.out]; exact textV_in _ _ nm HNM.out _, HEND.out⟩
 ·have hz2 : (ou.1 == 0) = false := by rw [beq_eq_false_iff_ne]; exact hz
  have hre : res = (ou.1, Bson.zero) := by
   rw [HRES.out]
   rw [Expr.apply_type_]
   unfold Expr.one
   rw [← HOU.out, if_neg hz]; rfl
  have HRE := Lib.hid hre
  have HEND := Lib.hid (below_six HB9.out.below (by omega : w.heap.size ≤ w.heap.size + 1 + 1) (.int .i64 0) (.int .i64 0) (.string { data := #[] }) (.slice none 0 0) (.slice none 0 0) (.slice none 0 0))
  clear hz hre
  go_wp2_with fail
  exact bodyPost_ret (v := .tuple #[.agg #[.int .i64 0, .int .i64 0, .string { data := #[] }, .slice none 0 0, .slice none 0 0, .slice none 0 0], .int .i64 ou.1]) (by simp [results, Tryz.results107, go_sem, *]) rfl ⟨_, by rw [HRE.out], by rw [HRE.out]; exact (zero_in _ _).up (by omega), HEND.out⟩
end Go.Proofs.YtiajjgehnmkokaaGreatDoor
end
section
namespace Go.Proofs.YtiajjgehnmkokaaGreatDoor
open Go.RowKit
open Seal
open Bson (Val)
theorem op_not_any (H hd C : Nat) (a : Option Addr) (n c : Nat) (fs : List (Nat → Val → Expr.Out)) (Q : Nat → Prop) (d : Val) (dv : Value) (w : World) (hn : fs.length = n) (h1 : n = 1) (hT : TermsIn w a H fs) (hd0 : VIn w Q (hd + 1) d dv) :
  Calls Tryz.prog 101 #[.agg #[.func (.func 101) #[] #[], .slice a n c], dv] w (EvPost w (H + hd + 1) (Expr.apply (C + hd) .not_ (outsOf fs hd d))) := by
 obtain ⟨dk, dn, ds, da, df, dl, ba, bc, fa, fc, la, lc, rfl⟩ := hd0.shape
 have h0f : 0 < fs.length := by omega
 obtain ⟨g, o, t, rfl, hct, T, K, rv, rfl, hm, hme, hcall⟩ := hT.at 0 h0f
 rw [Nat.add_zero] at hct
 obtain ⟨ou, hou⟩ : ∃ z, z = Expr.outAt (outsOf fs hd d) 0 := ⟨_, rfl⟩
 have hou2 : fs[0] hd d = ou := by rw [hou, outAt_get fs hd d 0 h0f]
 have hcall2 := fun W hW => hcall W hW Q hd d
 rw [hou2] at hcall2
 obtain ⟨W0, hW0⟩ : ∃ W0, W0 = ((w.alloc (.cells #[(.func (.func 101) #[] #[]), .slice (some ⟨g, o, none⟩) n c] 126)).alloc (.cells #[.int .i64 dk, .int .i64 dn, .string ds, .slice da ba bc, .slice df fa fc, .slice dl la lc] 26)).alloc (.cells #[.int .i64 0, .int .i64 0, .string { data := #[] }, .slice none 0 0, .slice none 0 0, .slice none 0 0] 26) := ⟨_, rfl⟩
 have HB := Lib.hid (CB.new w (.func (.func 101) #[] #[]) (some ⟨g, o, none⟩) n c (.int .i64 dk) (.int .i64 dn) (.string ds) (.slice da ba bc) (.slice df fa fc) (.slice dl la lc) W0 hW0)
 have HW0 := Lib.hid hW0
 have HT := Lib.hid hT
 have HD := Lib.hid hd0
 have HOU := Lib.hid hou
 have HCT := Lib.hid hct
 have HCALL := Lib.hid hcall2
 obtain ⟨res, hres⟩ : ∃ z, z = Expr.apply (C + hd) .not_ (outsOf fs hd d) := ⟨_, rfl⟩
 rw [← hres]
 have HRES := Lib.hid hres
 have HN := Lib.hid hn
 have hn0 : 0 < n := by omega
 have HN1 := Lib.hid h1
 clear hT hd0 hcall hcall2 hou hou2 hct hW0 hres hn h0f h1
 go_enter Tryz.func101, Tryz.ntmps101
 go_upto_region 1 with fail
 rw [← HW0.out]
 refine wp_region_inv0 (fun V => { tmps := #[.agg #[.func (.func 101) #[] #[], .slice (some ⟨g, o, none⟩) n c], .agg #[.int .i64 dk, .int .i64 dn, .string ds, .slice da ba bc, .slice df fa fc, .slice dl la lc], .pointer (some ⟨w.heap.size, 0, none⟩), .pointer (some ⟨w.heap.size + 1, 0, none⟩), .pointer (some ⟨w.heap.size + 1 + 1, 0, none⟩), .int .i64 0, V 9, V 11, V 6, V 0, V 1, V 2, V 3, V 4, V 5, V 7, V 8, undef, undef, undef, undef, undef, undef, undef, undef], defers := [] }) (CI W0 [.pointer (some ⟨w.heap.size, 1, none⟩), .slice (some ⟨g, o, none⟩) n c, .pointer (some ⟨g, o, none⟩), .iface T rv, .agg #[.int .i64 dk, .int .i64 dn, .string ds, .slice da ba bc, .slice df fa fc, .slice dl la lc]] (.int .i64 ou.1) (H + hd) ou.2) (by kernel_rfl) (by kernel_rfl) (by kernel_rfl) (fun V => by kernel_rfl) ?_ CI.start ?_
 ·refine ⟨?_, ?_⟩
  ·refine inv_free rfl (fun D9 V w5 hDi hpre hI K hK => ?_)
   go_simp
   exact put_is (by kernel_rfl) (hK.out (.pointer (some ⟨w.heap.size, 1, none⟩)) w5 (hI.step (by decide) rfl))
  refine ⟨?_, ?_⟩
  ·refine inv_free rfl (fun D9 V w5 hDi hpre hI K hK => ?_)
   have e0 : V 0 = .pointer (some ⟨w.heap.size, 1, none⟩) := hI.known (by decide) (hpre.out 0 (by kernel_rfl))
   have hc1 := (HB.out.keep hI.below).c1
   go_simp
   exact put_is (by rw [e0]; kernel_rfl) (hK.out (.slice (some ⟨g, o, none⟩) n c) w5 (hI.step (by decide) rfl))
  refine ⟨?_, ?_⟩
  ·refine inv_free rfl (fun D9 V w5 hDi hpre hI K hK => ?_)
   have e1 : V 1 = .slice (some ⟨g, o, none⟩) n c := hI.known (by decide) (hpre.out 1 (by kernel_rfl))
   go_simp
   exact put_is (by rw [e1]; kernel_rfl) (hK.out (.pointer (some ⟨g, o, none⟩)) w5 (hI.step (by decide) rfl))
  refine ⟨?_, ?_⟩
  ·refine inv_free rfl (fun D9 V w5 hDi hpre hI K hK => ?_)
   have e2 : V 2 = .pointer (some ⟨g, o, none⟩) := hI.known (by decide) (hpre.out 2 (by kernel_rfl))
   have hct := cell_keep (HB.out.keep hI.below).below HCT.out
   go_simp
   exact put_is (by rw [e2]; kernel_rfl) (hK.out (.iface T rv) w5 (hI.step (by decide) rfl))
  refine ⟨?_, ?_⟩
  ·refine inv_free rfl (fun D9 V w5 hDi hpre hI K hK => ?_)
   obtain ⟨x0, x1, x2, x3, x4, x5⟩ := (HB.out.keep hI.below).doc.cells
   go_simp
   exact put_is (by kernel_rfl) (hK.out (.agg #[.int .i64 dk, .int .i64 dn, .string ds, .slice da ba bc, .slice df fa fc, .slice dl la lc]) w5 (hI.step (by decide) rfl))
  refine ⟨?_, ?_⟩
  ·refine inv_free rfl (fun D9 V w5 hDi hpre hI K hK => ?_)
   have e3 : V 3 = .iface T rv := hI.known (by decide) (hpre.out 3 (by kernel_rfl))
   have e4 : V 4 = .agg #[.int .i64 dk, .int .i64 dn, .string ds, .slice da ba bc, .slice df fa fc, .slice dl la lc] := hI.known (by decide) (hpre.out 4 (by kernel_rfl))
   have hbw := (HB.out.keep hI.below).below
   have CK := HCALL.out w5 hbw _ (VIn.keep hbw HD.out)
   go_simp
   refine CK.mono ?_
   rintro e w6 ⟨v6, rfl, hv6, hb6⟩
   exact put_is (by rw [e3, e4]; kernel_rfl) (hK.out (.tuple #[v6, .int .i64 ou.1]) w6 (hI.call hDi hb6 hv6))
  refine ⟨?_, ?_⟩
  ·refine inv_free rfl (fun D9 V w5 hDi hpre hI K hK => ?_)
   have h5 := hpre.out 5 (by kernel_rfl)
   go_simp
   exact put_is (by kernel_rfl) (hK.out (V 5) w5 (hI.moved h5))
  refine ⟨?_, ?_⟩
  ·refine inv_free rfl (fun D9 V w5 hDi hpre hI K hK => ?_)
   obtain ⟨v, e6, h7, -⟩ := hI.got (hpre.out 6 (by kernel_rfl))
   go_simp
   exact put_is (by rw [e6]; kernel_rfl) (hK.out v w5 h7)
  refine ⟨?_, ?_⟩
  ·refine inv_free rfl (fun D9 V w5 hDi hpre hI K hK => ?_)
   obtain ⟨v, e6, -, h8⟩ := hI.got (hpre.out 6 (by kernel_rfl))
   go_simp
   exact put_is (by rw [e6]; kernel_rfl) (hK.out (.int .i64 ou.1) w5 h8)
  refine ⟨?_, ?_⟩
  ·refine inv_free rfl (fun D9 V w5 hDi hpre hI K hK => ?_)
   go_simp
   exact put_is (by kernel_rfl) (hK.out (.pointer (some ⟨w5.heap.size, 0, none⟩)) _ (hI.made hDi))
  refine ⟨?_, ?_⟩
  ·refine inv_free rfl (fun D9 V w5 hDi hpre hI K hK => ?_)
   obtain ⟨p, k9, n9, s9, ba9, fa9, la9, bn9, bc9, fn9, fc9, ln9, lc9, e9, e7, hbx, h10⟩ := hI.kept (hpre.out 9 (by kernel_rfl)) (hpre.out 7 (by kernel_rfl)) hDi
   obtain ⟨z0, z1, z2, z3, z4, z5⟩ := hbx.cells
   obtain ⟨q0, q1, q2, q3, q4, q5⟩ := hbx.thaw
   go_simp
   exact put_is (by rw [e9, e7]; kernel_rfl) (hK.out undef _ h10)
  refine ⟨?_, ?_⟩
  ·refine inv_free rfl (fun D9 V w5 hDi hpre hI K hK => ?_)
   obtain ⟨e8, h11⟩ := hI.err (hpre.out 8 (by kernel_rfl))
   go_simp
   exact put_is (by rw [e8]; kernel_rfl) (hK.out (.int .i64 ou.1) w5 h11)
  trivial
 intro D9 V w9 hD9 hI9
 obtain ⟨p, k, m, s, b1, f1, l1, b2, b3, f2, f3, l2, l3, lo, hi, e9, e11, hbx, hv9, hlo, hhi, hp, hb9⟩ := hI9.end hD9
 rw [e9, e11]
 have HB9 := Lib.hid (HB.out.keep hb9)
 have HX9 := Lib.hid hbx
 have HV9 := Lib.hid hv9
 have HLO := Lib.hid (And.intro hlo (And.intro hhi hp))
 obtain ⟨r0, r1, r2, r3, r4, r5⟩ := HB9.out.res.cells
 obtain ⟨q0, q1, q2, q3, q4, q5⟩ := HB9.out.res.thaw
 obtain ⟨z0, z1, z2, z3, z4, z5⟩ := HX9.out.cells
 clear hI9 hD9 e9 e11 hbx hv9 hlo hhi hp hb9
 by_cases hz : ou.1 = 0
 ·rw [hz]
  obtain ⟨e1, e2, -, -, -⟩ := HV9.out.top
  have CT := Lib.hid (true_any k m (.string s) (.slice b1 b2 b3) (.slice f1 f2 f3) (.slice l1 l2 l3) w9)
  obtain ⟨tb, htb⟩ : ∃ z, z = truthK k m := ⟨_, rfl⟩
  rw [← htb] at CT
  have hre : res = (0, Expr.boolV (!tb)) := by
   rw [HRES.out]
   rw [Expr.apply_not_]
   unfold Expr.one
   rw [← HOU.out, if_pos hz]
   rw [htb, e1, e2]; rfl
  have HRE := Lib.hid hre
  have HB1 := Lib.hid (boolean_any (!tb))
  clear hre e1 e2 htb hz
  go_wp2_with fail
  refine CT.out.mono ?_
  rintro e w5 ⟨rfl, hb5⟩
  have CB1 := Lib.hid (HB1.out w5)
  obtain ⟨bn, hbn⟩ : ∃ z : Int, z = if (!tb) = true then 1 else 0 := ⟨_, rfl⟩
  have HBN : Hid ((bn = 0 ∨ bn = 1) ∧ Expr.boolV (!tb) = Expr.leafV 10 bn) := by
   refine ⟨by rw [hbn]; cases tb <;> simp, by rw [hbn]; rfl⟩
  rw [← hbn] at CB1
  clear hbn
  clear r0 r1 r2 r3 r4 r5 q0 q1 q2 q3 q4 q5 z0 z1 z2 z3 z4 z5
  go_wp2_with fail
  refine CB1.out.mono ?_
  rintro e w6 ⟨rfl, hb7⟩
  have hb6 : Below w9.heap.size w9 w6 := hb5.trans (hb7.mono hb5.size)
  clear hb5 hb7
  have HEND := Lib.hid (below_six (HB9.out.below.trans (hb6.mono HB9.out.below.size)) (by omega : w.heap.size ≤ w.heap.size + 1 + 1) (.int .i64 10) (.int .i64 bn) (.string ⟨#[]⟩) (.slice none 0 0) (.slice none 0 0) (.slice none 0 0))
  have HK6 := Lib.hid (HB9.out.keep hb6)
  obtain ⟨r0, r1, r2, r3, r4, r5⟩ := HK6.out.res.cells
  obtain ⟨q0, q1, q2, q3, q4, q5⟩ := HK6.out.res.thaw
  clear hb6
  go_wp2_with fail
  exact bodyPost_ret (v := .tuple #[.agg #[.int .i64 10, .int .i64 bn, .string ⟨#[]⟩, .slice none 0 0, .slice none 0 0, .slice none 0 0], .int .i64 0]) (by simp [results, Tryz.results101, go_sem, *]) rfl ⟨_, by rw [HRE.out], by rw [HRE.out, HBN.out.2]; exact leafV_in _ _ 10 bn (by omega) (by have := HBN.out.1; omega) _, HEND.out⟩
 ·have hz2 : (ou.1 == 0) = false := by rw [beq_eq_false_iff_ne]; exact hz
  have hre : res = (ou.1, Bson.zero) := by
   rw [HRES.out]
   rw [Expr.apply_not_]
   unfold Expr.one
   rw [← HOU.out, if_neg hz]; rfl
  have HRE := Lib.hid hre
  have HEND := Lib.hid (below_six HB9.out.below (by omega : w.heap.size ≤ w.heap.size + 1 + 1) (.int .i64 0) (.int .i64 0) (.string { data := #[] }) (.slice none 0 0) (.slice none 0 0) (.slice none 0 0))
  clear hz hre
  go_wp2_with fail
  exact bodyPost_ret (v := .tuple #[.agg #[.int .i64 0, .int .i64 0, .string { data := #[] }, .slice none 0 0, .slice none 0 0, .slice none 0 0], .int .i64 ou.1]) (by simp [results, Tryz.results101, go_sem, *]) rfl ⟨_, by rw [HRE.out], by rw [HRE.out]; exact (zero_in _ _).up (by omega), HEND.out⟩
end Go.Proofs.YtiajjgehnmkokaaGreatDoor
end
section
namespace Go.Proofs.YtiajjgehnmkokaaGreatDoor
open Go.RowKit
open Seal
open Bson (Val)
theorem op_size_any (H hd C : Nat) (a : Option Addr) (n c : Nat) (fs : List (Nat → Val → Expr.Out)) (Q : Nat → Prop) (d : Val) (dv : Value) (w : World) (hn : fs.length = n) (h1 : n = 1) (hT : TermsIn w a H fs) (hd0 : VIn w Q (hd + 1) d dv) :
  Calls Tryz.prog 105 #[.agg #[.func (.func 105) #[] #[], .slice a n c], dv] w (EvPost w (H + hd + 1) (Expr.apply (C + hd) .size_ (outsOf fs hd d))) := by
 obtain ⟨dk, dn, ds, da, df, dl, ba, bc, fa, fc, la, lc, rfl⟩ := hd0.shape
 have h0f : 0 < fs.length := by omega
 obtain ⟨g, o, t, rfl, hct, T, K, rv, rfl, hm, hme, hcall⟩ := hT.at 0 h0f
 rw [Nat.add_zero] at hct
 obtain ⟨ou, hou⟩ : ∃ z, z = Expr.outAt (outsOf fs hd d) 0 := ⟨_, rfl⟩
 have hou2 : fs[0] hd d = ou := by rw [hou, outAt_get fs hd d 0 h0f]
 have hcall2 := fun W hW => hcall W hW Q hd d
 rw [hou2] at hcall2
 obtain ⟨W0, hW0⟩ : ∃ W0, W0 = ((w.alloc (.cells #[(.func (.func 105) #[] #[]), .slice (some ⟨g, o, none⟩) n c] 126)).alloc (.cells #[.int .i64 dk, .int .i64 dn, .string ds, .slice da ba bc, .slice df fa fc, .slice dl la lc] 26)).alloc (.cells #[.int .i64 0, .int .i64 0, .string { data := #[] }, .slice none 0 0, .slice none 0 0, .slice none 0 0] 26) := ⟨_, rfl⟩
 have HB := Lib.hid (CB.new w (.func (.func 105) #[] #[]) (some ⟨g, o, none⟩) n c (.int .i64 dk) (.int .i64 dn) (.string ds) (.slice da ba bc) (.slice df fa fc) (.slice dl la lc) W0 hW0)
 have HW0 := Lib.hid hW0
 have HT := Lib.hid hT
 have HD := Lib.hid hd0
 have HOU := Lib.hid hou
 have HCT := Lib.hid hct
 have HCALL := Lib.hid hcall2
 obtain ⟨res, hres⟩ : ∃ z, z = Expr.apply (C + hd) .size_ (outsOf fs hd d) := ⟨_, rfl⟩
 rw [← hres]
 have HRES := Lib.hid hres
 have HN := Lib.hid hn
 have hn0 : 0 < n := by omega
 have HN1 := Lib.hid h1
 clear hT hd0 hcall hcall2 hou hou2 hct hW0 hres hn h0f h1
 go_enter Tryz.func105, Tryz.ntmps105
 go_upto_region 1 with fail
 rw [← HW0.out]
 refine wp_region_inv0 (fun V => { tmps := #[.agg #[.func (.func 105) #[] #[], .slice (some ⟨g, o, none⟩) n c], .agg #[.int .i64 dk, .int .i64 dn, .string ds, .slice da ba bc, .slice df fa fc, .slice dl la lc], .pointer (some ⟨w.heap.size, 0, none⟩), .pointer (some ⟨w.heap.size + 1, 0, none⟩), .pointer (some ⟨w.heap.size + 1 + 1, 0, none⟩), .int .i64 0, V 9, V 11, V 6, V 0, V 1, V 2, V 3, V 4, V 5, V 7, V 8, undef, undef, undef, undef, undef, undef, undef, undef, undef, undef, undef, undef], defers := [] }) (CI W0 [.pointer (some ⟨w.heap.size, 1, none⟩), .slice (some ⟨g, o, none⟩) n c, .pointer (some ⟨g, o, none⟩), .iface T rv, .agg #[.int .i64 dk, .int .i64 dn, .string ds, .slice da ba bc, .slice df fa fc, .slice dl la lc]] (.int .i64 ou.1) (H + hd) ou.2) (by kernel_rfl) (by kernel_rfl) (by kernel_rfl) (fun V => by kernel_rfl) ?_ CI.start ?_
 ·refine ⟨?_, ?_⟩
  ·refine inv_free rfl (fun D9 V w5 hDi hpre hI K hK => ?_)
   go_simp
   exact put_is (by kernel_rfl) (hK.out (.pointer (some ⟨w.heap.size, 1, none⟩)) w5 (hI.step (by decide) rfl))
  refine ⟨?_, ?_⟩
  ·refine inv_free rfl (fun D9 V w5 hDi hpre hI K hK => ?_)
   have e0 : V 0 = .pointer (some ⟨w.heap.size, 1, none⟩) := hI.known (by decide) (hpre.out 0 (by kernel_rfl))
   have hc1 := (HB.out.keep hI.below).c1
   go_simp
   exact put_is (by rw [e0]; kernel_rfl) (hK.out (.slice (some ⟨g, o, none⟩) n c) w5 (hI.step (by decide) rfl))
  refine ⟨?_, ?_⟩
  ·refine inv_free rfl (fun D9 V w5 hDi hpre hI K hK => ?_)
   have e1 : V 1 = .slice (some ⟨g, o, none⟩) n c := hI.known (by decide) (hpre.out 1 (by kernel_rfl))
   go_simp
   exact put_is (by rw [e1]; kernel_rfl) (hK.out (.pointer (some ⟨g, o, none⟩)) w5 (hI.step (by decide) rfl))
  refine ⟨?_, ?_⟩
  ·refine inv_free rfl (fun D9 V w5 hDi hpre hI K hK => ?_)
   have e2 : V 2 = .pointer (some ⟨g, o, none⟩) := hI.known (by decide) (hpre.out 2 (by kernel_rfl))
   have hct := cell_keep (HB.out.keep hI.below).below HCT.out
   go_simp
   exact put_is (by rw [e2]; kernel_rfl) (hK.out (.iface T rv) w5 (hI.step (by decide) rfl))
  refine ⟨?_, ?_⟩
  ·refine inv_free rfl (fun D9 V w5 hDi hpre hI K hK => ?_)
   obtain ⟨x0, x1, x2, x3, x4, x5⟩ := (HB.out.keep hI.below).doc.cells
   go_simp
   exact put_is (by kernel_rfl) (hK.out (.agg #[.int .i64 dk, .int .i64 dn, .string ds, .slice da ba bc, .slice df fa fc, .slice dl la lc]) w5 (hI.step (by decide) rfl))
  refine ⟨?_, ?_⟩
  ·refine inv_free rfl (fun D9 V w5 hDi hpre hI K hK => ?_)
   have e3 : V 3 = .iface T rv := hI.known (by decide) (hpre.out 3 (by kernel_rfl))
   have e4 : V 4 = .agg #[.int .i64 dk, .int .i64 dn, .string ds, .slice da ba bc, .slice df fa fc, .slice dl la lc] := hI.known (by decide) (hpre.out 4 (by kernel_rfl))
   have hbw := (HB.out.keep hI.below).below
   have CK := HCALL.out w5 hbw _ (VIn.keep hbw HD.out)
   go_simp
   refine CK.mono ?_
   rintro e w6 ⟨v6, rfl, hv6, hb6⟩
   exact put_is (by rw [e3, e4]; kernel_rfl) (hK.out (.tuple #[v6, .int .i64 ou.1]) w6 (hI.call hDi hb6 hv6))
  refine ⟨?_, ?_⟩
  ·refine inv_free rfl (fun D9 V w5 hDi hpre hI K hK => ?_)
   have h5 := hpre.out 5 (by kernel_rfl)
   go_simp
   exact put_is (by kernel_rfl) (hK.out (V 5) w5 (hI.moved h5))
  refine ⟨?_, ?_⟩
  ·refine inv_free rfl (fun D9 V w5 hDi hpre hI K hK => ?_)
   obtain ⟨v, e6, h7, -⟩ := hI.got (hpre.out 6 (by kernel_rfl))
   go_simp
   exact put_is (by rw [e6]; kernel_rfl) (hK.out v w5 h7)
  refine ⟨?_, ?_⟩
  ·refine inv_free rfl (fun D9 V w5 hDi hpre hI K hK => ?_)
   obtain ⟨v, e6, -, h8⟩ := hI.got (hpre.out 6 (by kernel_rfl))
   go_simp
   exact put_is (by rw [e6]; kernel_rfl) (hK.out (.int .i64 ou.1) w5 h8)
  refine ⟨?_, ?_⟩
  ·refine inv_free rfl (fun D9 V w5 hDi hpre hI K hK => ?_)
   go_simp
   exact put_is (by kernel_rfl) (hK.out (.pointer (some ⟨w5.heap.size, 0, none⟩)) _ (hI.made hDi))
  refine ⟨?_, ?_⟩
  ·refine inv_free rfl (fun D9 V w5 hDi hpre hI K hK => ?_)
   obtain ⟨p, k9, n9, s9, ba9, fa9, la9, bn9, bc9, fn9, fc9, ln9, lc9, e9, e7, hbx, h10⟩ := hI.kept (hpre.out 9 (by kernel_rfl)) (hpre.out 7 (by kernel_rfl)) hDi
   obtain ⟨z0, z1, z2, z3, z4, z5⟩ := hbx.cells
   obtain ⟨q0, q1, q2, q3, q4, q5⟩ := hbx.thaw
   go_simp
   exact put_is (by rw [e9, e7]; kernel_rfl) (hK.out undef _ h10)
  refine ⟨?_, ?_⟩
  ·refine inv_free rfl (fun D9 V w5 hDi hpre hI K hK => ?_)
   obtain ⟨e8, h11⟩ := hI.err (hpre.out 8 (by kernel_rfl))
   go_simp
   exact put_is (by rw [e8]; kernel_rfl) (hK.out (.int .i64 ou.1) w5 h11)
  trivial
 intro D9 V w9 hD9 hI9
 obtain ⟨p, k, m, s, b1, f1, l1, b2, b3, f2, f3, l2, l3, lo, hi, e9, e11, hbx, hv9, hlo, hhi, hp, hb9⟩ := hI9.end hD9
 rw [e9, e11]
 have HB9 := Lib.hid (HB.out.keep hb9)
 have HX9 := Lib.hid hbx
 have HV9 := Lib.hid hv9
 have HLO := Lib.hid (And.intro hlo (And.intro hhi hp))
 obtain ⟨r0, r1, r2, r3, r4, r5⟩ := HB9.out.res.cells
 obtain ⟨q0, q1, q2, q3, q4, q5⟩ := HB9.out.res.thaw
 obtain ⟨z0, z1, z2, z3, z4, z5⟩ := HX9.out.cells
 clear hI9 hD9 e9 e11 hbx hv9 hlo hhi hp hb9
 by_cases hz : ou.1 = 0
 ·rw [hz]
  obtain ⟨e1, -, -, e4, hL⟩ := HV9.out.top
  have hll := hL.l
  rw [← e4] at hll
  by_cases h7 : k = 7
  ·subst h7
   have hre : res = (0, Expr.leafV 3 (l2 : Int)) := by
    rw [HRES.out]
    rw [Expr.apply_size_]
    unfold Expr.one
    rw [← HOU.out, if_pos hz]
    show (if ou.2.kind = 7 then _ else _) = _
    rw [if_pos e1.symm, e4]
   have HRE := Lib.hid hre
   have HEND := Lib.hid (below_six HB9.out.below (by omega : w.heap.size ≤ w.heap.size + 1 + 1) (.int .i64 3) (.int .i64 (l2 : Int)) (.string ⟨#[]⟩) (.slice none 0 0) (.slice none 0 0) (.slice none 0 0))
   have HLL := Lib.hid hll
   clear hre e1 e4 hL hz hll
   go_wp2_with fail
   exact bodyPost_ret (v := .tuple #[.agg #[.int .i64 3, .int .i64 (l2 : Int), .string ⟨#[]⟩, .slice none 0 0, .slice none 0 0, .slice none 0 0], .int .i64 0]) (by simp [results, Tryz.results105, go_sem, *]) rfl ⟨_, by rw [HRE.out], by rw [HRE.out]; exact leafV_in _ _ 3 _ (by omega) (by have := HLL.out; omega) _, HEND.out⟩
  ·have hk7 : (k == 7) = false := by rw [beq_eq_false_iff_ne]; exact h7
   have hre : res = (12, Bson.zero) := by
    rw [HRES.out]
    rw [Expr.apply_size_]
    unfold Expr.one
    rw [← HOU.out, if_pos hz]
    show (if ou.2.kind = 7 then _ else _) = _
    rw [if_neg (by rw [← e1]; exact h7)]; rfl
   have HRE := Lib.hid hre
   have HEND := Lib.hid (below_six HB9.out.below (by omega : w.heap.size ≤ w.heap.size + 1 + 1) (.int .i64 0) (.int .i64 0) (.string { data := #[] }) (.slice none 0 0) (.slice none 0 0) (.slice none 0 0))
   clear hre e1 e4 hL hz hll h7
   go_wp2_with fail
   exact bodyPost_ret (v := .tuple #[.agg #[.int .i64 0, .int .i64 0, .string { data := #[] }, .slice none 0 0, .slice none 0 0, .slice none 0 0], .int .i64 12]) (by simp [results, Tryz.results105, go_sem, *]) rfl ⟨_, by rw [HRE.out], by rw [HRE.out]; exact (zero_in _ _).up (by omega), HEND.out⟩
 ·have hz2 : (ou.1 == 0) = false := by rw [beq_eq_false_iff_ne]; exact hz
  have hre : res = (ou.1, Bson.zero) := by
   rw [HRES.out]
   rw [Expr.apply_size_]
   unfold Expr.one
   rw [← HOU.out, if_neg hz]; rfl
  have HRE := Lib.hid hre
  have HEND := Lib.hid (below_six HB9.out.below (by omega : w.heap.size ≤ w.heap.size + 1 + 1) (.int .i64 0) (.int .i64 0) (.string { data := #[] }) (.slice none 0 0) (.slice none 0 0) (.slice none 0 0))
  clear hz hre
  go_wp2_with fail
  exact bodyPost_ret (v := .tuple #[.agg #[.int .i64 0, .int .i64 0, .string { data := #[] }, .slice none 0 0, .slice none 0 0, .slice none 0 0], .int .i64 ou.1]) (by simp [results, Tryz.results105, go_sem, *]) rfl ⟨_, by rw [HRE.out], by rw [HRE.out]; exact (zero_in _ _).up (by omega), HEND.out⟩
end Go.Proofs.YtiajjgehnmkokaaGreatDoor
end
