/- ExprReckon, PathNames, ExprFold, ExprOpsC. -/
import Derived.Deep.Strs
import Derived.Test.YtiajjgehnmkokaaGreatDoorMl17
import Derived.Test.YtiajjgehnmkokaaGreatDoorMl16
import Derived.Test.YtiajjgehnmkokaaGreatDoorMl4
import Derived.Test.YtiajjgehnmkokaaGreatDoorMl15
set_option maxRecDepth 100000
set_option maxHeartbeats 20000000
section
namespace Go.Proofs.YtiajjgehnmkokaaGreatDoor
open Go.RowKit
open Seal
open Bson (Val)
def RkR (o : Int → Int → Int × Int) (r : Int × List Val) : Int × Int × Int := if r.1 = 0 then Num.reck (o (r.2.getD 0 Bson.zero).n (r.2.getD 1 Bson.zero).n) (r.2.getD 0 Bson.zero).kind (r.2.getD 1 Bson.zero).kind else (0, 0, r.1)
theorem six_old {w2 W : World} {r g p : Nat} {c0 c1 c2 c3 c4 c5 : Value} (h : SixAt w2 g p (.agg #[c0, c1, c2, c3, c4, c5])) (hold : ∀ g, g < w2.heap.size → g ≠ r → W.heap[g]? = w2.heap[g]?) (hg : g < w2.heap.size) (hne : g ≠ r) :
  W.cell? ⟨g, p, none⟩ = some c0 ∧ W.cell? ⟨g, p + 1, none⟩ = some c1 ∧ W.cell? ⟨g, p + 2, none⟩ = some c2 ∧ W.cell? ⟨g, p + 3, none⟩ = some c3 ∧ W.cell? ⟨g, p + 4, none⟩ = some c4 ∧ W.cell? ⟨g, p + 5, none⟩ = some c5 := by
 obtain ⟨s0, s1, s2, s3, s4, s5⟩ := h.cells
 have k := fun q => World.cell?_of_block (w := w2) (w' := W) (a := ⟨g, q, none⟩) (hold g hg hne)
 exact ⟨(k _).trans s0, (k _).trans s1, (k _).trans s2, (k _).trans s3, (k _).trans s4, (k _).trans s5⟩
theorem reckon_two (H hd : Nat) (K Kf : FuncId) (op : Int → Int → Int × Int) (hKf : ∀ (ak an bk bn : Int) (p2 p3 p4 p5 q2 q3 q4 q5 : Value) (u : World), Num.In an → Num.In bn → Calls Tryz.prog Kf #[.agg #[.int .i64 ak, .int .i64 an, p2, p3, p4, p5], .agg #[.int .i64 bk, .int .i64 bn, q2, q3, q4, q5]] u (ValE (Num.reck (op an bn) ak bk) u)) (hke : ∀ args (u : World), (callFunc Kf args).run Tryz.prog u = .ok (.enter Kf args) u) (hop : ∀ a b, Num.In a → Num.In b → (op a b).2 = 0 → Num.In (op a b).1)
  (a : Option Addr) (n c : Nat) (fs : List (Nat → Val → Expr.Out)) (Q : Nat → Prop) (d : Val) (dv : Value) (w : World) (hn : fs.length = n) (h2 : n = 2) (hT : TermsIn w a H fs) (hd0 : VIn w Q (hd + 1) d dv) :
  Calls Tryz.prog 115 #[.agg #[.func (.func K) #[] #[], .slice a n c], dv, .func (.func Kf) #[] #[]] w fun e w' => ValE (RkR op (Expr.allO (outsOf fs hd d))) w e w' ∧ Num.In (RkR op (Expr.allO (outsOf fs hd d))).1 ∧ Num.In (RkR op (Expr.allO (outsOf fs hd d))).2.1 := by
 obtain ⟨dk, dn, ds, da, df, dl, ba, bc, fa, fc, la, lc, rfl⟩ := hd0.shape
 obtain ⟨W0, hW0⟩ : ∃ W0, W0 = ((w.alloc (.cells #[(.func (.func K) #[] #[]), .slice a n c] 126)).alloc (.cells #[.int .i64 dk, .int .i64 dn, .string ds, .slice da ba bc, .slice df fa fc, .slice dl la lc] 26)).alloc (.cells #[.int .i64 0, .int .i64 0, .string ⟨#[]⟩, .slice none 0 0, .slice none 0 0, .slice none 0 0] 26) := ⟨_, rfl⟩
 have HB := Lib.hid (CB.new w (.func (.func K) #[] #[]) a n c (.int .i64 dk) (.int .i64 dn) (.string ds) (.slice da ba bc) (.slice df fa fc) (.slice dl la lc) W0 hW0)
 have HW0 := Lib.hid hW0
 have c0 : W0.cell? ⟨w.heap.size, 0, none⟩ = some (.func (.func K) #[] #[]) := (cell_of_row W0 _ 0 _ _ _ HB.out.call).trans rfl
 have c1 := HB.out.c1
 obtain ⟨x0, x1, x2, x3, x4, x5⟩ := HB.out.doc.cells
 have CA := Lib.hid (evalAll_any H hd a n c fs Q d _ W0 hn (by omega) (hT.keep HB.out.below) (VIn.keep HB.out.below hd0))
 obtain ⟨r, hr⟩ : ∃ r, r = Expr.allO (outsOf fs hd d) := ⟨_, rfl⟩
 have hrl : r.1 = 0 → r.2.length = 2 := fun h => by rw [hr] at h ⊢; rw [Expr.allO_len h, outsOf_length, hn, h2]
 rw [← hr] at CA ⊢
 have HRL := Lib.hid hrl
 obtain ⟨res, hres⟩ : ∃ z, z = RkR op r := ⟨_, rfl⟩
 rw [← hres]
 have HRES0 := Lib.hid hres
 clear hT hd0 hn h2 hr hrl hres hW0
 go_enter Tryz.func115, Tryz.ntmps115
 go_upto_region 1 with fail
 rw [← HW0.out]
 go_wp2_with fail
 clear c0 c1 x0 x1 x2 x3 x4 x5
 refine CA.out.mono ?_
 rintro e w2 ⟨v2, rfl, hA, hN, hb2⟩
 have HB2 := Lib.hid (HB.out.keep hb2)
 by_cases hz : r.1 = 0
 ·obtain ⟨xs, hA⟩ := hA hz
  have hl2 := HRL.out hz
  have hbase := fun g (hg : v2.ownBlock = some g) => owns_block hA.own hg
  obtain ⟨a', c', rfl, hc', hit⟩ := hA.items (Q' := fun _ => True) (fun _ _ => trivial) (fun _ _ _ => trivial)
  obtain ⟨g, o, rfl, v0, v1, s0, s1, hv0, hv1⟩ := two_of hit hl2
  have hg := hbase g rfl
  rw [hl2]
  obtain ⟨k0, n0, t0, b0, f0, l0, bb0, bc0, fb0, fc0, lb0, lc0, rfl⟩ := hv0.shape
  obtain ⟨k1, n1, t1, b1, f1, l1, bb1, bc1, fb1, fc1, lb1, lc1, rfl⟩ := hv1.shape
  obtain ⟨p1, p2, -, -, pL⟩ := hv0.top
  obtain ⟨u1, u2, -, -, uL⟩ := hv1.top
  obtain ⟨rr, hrr⟩ : ∃ z, z = Num.reck (op n0 n1) k0 k1 := ⟨_, rfl⟩
  have hKF : ∀ u, Calls Tryz.prog Kf #[.agg #[.int .i64 k0, .int .i64 n0, .string t0, .slice b0 bb0 bc0, .slice f0 fb0 fc0, .slice l0 lb0 lc0], .agg #[.int .i64 k1, .int .i64 n1, .string t1, .slice b1 bb1 bc1, .slice f1 fb1 fc1, .slice l1 lb1 lc1]] u (ValE (Num.reck (op n0 n1) k0 k1) u) := fun u => hKf k0 n0 k1 n1 _ _ _ _ _ _ _ _ u (by rw [p2]; exact ⟨pL.n0, pL.n1⟩) (by rw [u2]; exact ⟨uL.n0, uL.n1⟩)
  rw [← hrr] at hKF
  have hre : res = rr := by rw [HRES0.out, hrr, p1, p2, u1, u2]; unfold RkR; rw [if_pos hz]
  have hin : Num.In rr.1 ∧ Num.In rr.2.1 := by rw [hrr]; exact reck_in _ _ _ (hop n0 n1 (by rw [p2]; exact ⟨pL.n0, pL.n1⟩) (by rw [u2]; exact ⟨uL.n0, uL.n1⟩))
  obtain ⟨rk, rn, re⟩ := rr
  have HIN : Hid (Num.In res.1 ∧ Num.In res.2.1) := by rw [hre]; exact hin
  have HKF := Lib.hid hKF
  have HRES := Lib.hid hre
  have HS0 := Lib.hid s0
  have HS1 := Lib.hid s1
  have HG : Hid (g < w2.heap.size ∧ g ≠ w.heap.size + 1 + 1) := ⟨hg.2, by have := hg.1; have := HB.out.size; omega⟩
  rw [hz]
  clear hA hN hb2 hc' hit hl2 hv0 hv1 s0 s1 hz hre hrr hKF hin p1 p2 pL u1 u2 uL hbase hg hKf
  go_upto_region 4 with fail
  refine wp_region_inv0 (fun V => { tmps := #[Value.agg #[Value.func (Fn.func K) #[] #[], Value.slice a n c], Value.agg #[Value.int .i64 dk, Value.int .i64 dn, Value.string ds, Value.slice da ba bc, Value.slice df fa fc, Value.slice dl la lc], Value.func (Fn.func Kf) #[] #[], Value.pointer (some ⟨w.heap.size, 0, none⟩), Value.pointer (some ⟨w.heap.size + 1, 0, none⟩), undef, Value.pointer (some ⟨w.heap.size + 1 + 1, 0, none⟩), V 11, Value.slice (some ⟨g, o, none⟩) 2 c', Value.int .i64 0, Value.tuple #[Value.slice (some ⟨g, o, none⟩) 2 c', Value.int .i64 0], Value.pointer (some ⟨w.heap.size, 1, none⟩), Value.slice a n c, Value.agg #[Value.int .i64 dk, Value.int .i64 dn, Value.string ds, Value.slice da ba bc, Value.slice df fa fc, Value.slice dl la lc], Value.tuple #[Value.slice (some ⟨g, o, none⟩) 2 c', Value.int .i64 0], Value.slice (some ⟨g, o, none⟩) 2 c', Value.int .i64 0, Value.int .i64 0, Value.bool false, undef, undef, V 0, V 1, V 2, V 3, V 4, V 5, V 6, V 7, V 8, V 9], defers := [] }) (RJ w w2 [.func (.func Kf) #[] #[], .slice (some ⟨g, o, none⟩) 2 c', .pointer (some ⟨g, o, none⟩), .agg #[.int .i64 k0, .int .i64 n0, .string t0, .slice b0 bb0 bc0, .slice f0 fb0 fc0, .slice l0 lb0 lc0], .slice (some ⟨g, o, none⟩) 2 c', .pointer (some ⟨g, o + 6, none⟩), .agg #[.int .i64 k1, .int .i64 n1, .string t1, .slice b1 bb1 bc1, .slice f1 fb1 fc1, .slice l1 lb1 lc1], .tuple #[.agg #[.int .i64 rk, .int .i64 rn, .string ⟨#[]⟩, .slice none 0 0, .slice none 0 0, .slice none 0 0], .int .i64 re], .agg #[.int .i64 rk, .int .i64 rn, .string ⟨#[]⟩, .slice none 0 0, .slice none 0 0, .slice none 0 0], .int .i64 re, undef, .int .i64 re] (w.heap.size + 1 + 1) #[.int .i64 rk, .int .i64 rn, .string ⟨#[]⟩, .slice none 0 0, .slice none 0 0, .slice none 0 0] 10) (by kernel_rfl) (by kernel_rfl) (by kernel_rfl) (fun V => by kernel_rfl) ?_ (RJ.start HB2.out.below) ?_
  ·refine ⟨?_, ?_⟩
   ·refine inv_free rfl (fun D9 V w5 hDi hpre hI K hK => ?_)
    go_simp
    exact put_is (by kernel_rfl) (hK.out (.func (.func Kf) #[] #[]) w5 (hI.pure (by decide) (by have := HB2.out.size; omega) rfl))
   refine ⟨?_, ?_⟩
   ·refine inv_free rfl (fun D9 V w5 hDi hpre hI K hK => ?_)
    go_simp
    exact put_is (by kernel_rfl) (hK.out (.slice (some ⟨g, o, none⟩) 2 c') w5 (hI.pure (by decide) (by have := HB2.out.size; omega) rfl))
   refine ⟨?_, ?_⟩
   ·refine inv_free rfl (fun D9 V w5 hDi hpre hI K hK => ?_)
    have h1 : V 1 = .slice (some ⟨g, o, none⟩) 2 c' := hI.1 1 (hpre.out 1 (by kernel_rfl))
    go_simp
    exact put_is (by rw [h1]; kernel_rfl) (hK.out (.pointer (some ⟨g, o, none⟩)) w5 (hI.pure (by decide) (by have := HB2.out.size; omega) rfl))
   refine ⟨?_, ?_⟩
   ·refine inv_free rfl (fun D9 V w5 hDi hpre hI K hK => ?_)
    have h2 : V 2 = .pointer (some ⟨g, o, none⟩) := hI.1 2 (hpre.out 2 (by kernel_rfl))
    obtain ⟨y0, y1, y2, y3, y4, y5⟩ := six_old HS0.out (fun g hg hne => hI.2.2.2.2.2 g hg hne) HG.out.1 HG.out.2
    go_simp
    exact put_is (by rw [h2]; kernel_rfl) (hK.out (.agg #[.int .i64 k0, .int .i64 n0, .string t0, .slice b0 bb0 bc0, .slice f0 fb0 fc0, .slice l0 lb0 lc0]) w5 (hI.pure (by decide) (by have := HB2.out.size; omega) rfl))
   refine ⟨?_, ?_⟩
   ·refine inv_free rfl (fun D9 V w5 hDi hpre hI K hK => ?_)
    go_simp
    exact put_is (by kernel_rfl) (hK.out (.slice (some ⟨g, o, none⟩) 2 c') w5 (hI.pure (by decide) (by have := HB2.out.size; omega) rfl))
   refine ⟨?_, ?_⟩
   ·refine inv_free rfl (fun D9 V w5 hDi hpre hI K hK => ?_)
    have h4 : V 4 = .slice (some ⟨g, o, none⟩) 2 c' := hI.1 4 (hpre.out 4 (by kernel_rfl))
    go_simp
    exact put_is (by rw [h4]; kernel_rfl) (hK.out (.pointer (some ⟨g, o + 6, none⟩)) w5 (hI.pure (by decide) (by have := HB2.out.size; omega) rfl))
   refine ⟨?_, ?_⟩
   ·refine inv_free rfl (fun D9 V w5 hDi hpre hI K hK => ?_)
    have h5 : V 5 = .pointer (some ⟨g, o + 6, none⟩) := hI.1 5 (hpre.out 5 (by kernel_rfl))
    obtain ⟨y0, y1, y2, y3, y4, y5⟩ := six_old HS1.out (fun g hg hne => hI.2.2.2.2.2 g hg hne) HG.out.1 HG.out.2
    go_simp
    exact put_is (by rw [h5]; kernel_rfl) (hK.out (.agg #[.int .i64 k1, .int .i64 n1, .string t1, .slice b1 bb1 bc1, .slice f1 fb1 fc1, .slice l1 lb1 lc1]) w5 (hI.pure (by decide) (by have := HB2.out.size; omega) rfl))
   refine ⟨?_, ?_⟩
   ·refine inv_free rfl (fun D9 V w5 hDi hpre hI K hK => ?_)
    have h0 : V 0 = .func (.func Kf) #[] #[] := hI.1 0 (hpre.out 0 (by kernel_rfl))
    have h3 : V 3 = .agg #[.int .i64 k0, .int .i64 n0, .string t0, .slice b0 bb0 bc0, .slice f0 fb0 fc0, .slice l0 lb0 lc0] := hI.1 3 (hpre.out 3 (by kernel_rfl))
    have h6 : V 6 = .agg #[.int .i64 k1, .int .i64 n1, .string t1, .slice b1 bb1 bc1, .slice f1 fb1 fc1, .slice l1 lb1 lc1] := hI.1 6 (hpre.out 6 (by kernel_rfl))
    go_simp
    refine (HKF.out w5).mono ?_
    rintro e w6 ⟨rfl, hb6⟩
    exact put_is (by rw [h0, h3, h6]; kernel_rfl) (hK.out (.tuple #[.agg #[.int .i64 rk, .int .i64 rn, .string ⟨#[]⟩, .slice none 0 0, .slice none 0 0, .slice none 0 0], .int .i64 re]) w6 (hI.step (by decide) (by have := HB2.out.size; omega) hb6 rfl))
   refine ⟨?_, ?_⟩
   ·refine inv_free rfl (fun D9 V w5 hDi hpre hI K hK => ?_)
    have h7 : V 7 = .tuple #[.agg #[.int .i64 rk, .int .i64 rn, .string ⟨#[]⟩, .slice none 0 0, .slice none 0 0, .slice none 0 0], .int .i64 re] := hI.1 7 (hpre.out 7 (by kernel_rfl))
    go_simp
    exact put_is (by rw [h7]; kernel_rfl) (hK.out (.agg #[.int .i64 rk, .int .i64 rn, .string ⟨#[]⟩, .slice none 0 0, .slice none 0 0, .slice none 0 0]) w5 (hI.pure (by decide) (by have := HB2.out.size; omega) rfl))
   refine ⟨?_, ?_⟩
   ·refine inv_free rfl (fun D9 V w5 hDi hpre hI K hK => ?_)
    have h7 : V 7 = .tuple #[.agg #[.int .i64 rk, .int .i64 rn, .string ⟨#[]⟩, .slice none 0 0, .slice none 0 0, .slice none 0 0], .int .i64 re] := hI.1 7 (hpre.out 7 (by kernel_rfl))
    go_simp
    exact put_is (by rw [h7]; kernel_rfl) (hK.out (.int .i64 re) w5 (hI.pure (by decide) (by have := HB2.out.size; omega) rfl))
   refine ⟨?_, ?_⟩
   ·refine inv_free rfl (fun D9 V w5 hDi hpre hI K hK => ?_)
    have h8 : V 8 = .agg #[.int .i64 rk, .int .i64 rn, .string ⟨#[]⟩, .slice none 0 0, .slice none 0 0, .slice none 0 0] := hI.1 8 (hpre.out 8 (by kernel_rfl))
    obtain ⟨hbx, h10⟩ := hI.store hDi (by have := HB2.out.size; omega) (by omega) (fun W hW => (HB2.out.keep hW).res) rfl
    obtain ⟨z0, z1, z2, z3, z4, z5⟩ := hbx.cells
    obtain ⟨q0, q1, q2, q3, q4, q5⟩ := hbx.thaw
    go_simp
    exact put_is (by rw [h8]; kernel_rfl) (hK.out undef _ h10)
   refine ⟨?_, ?_⟩
   ·refine inv_free rfl (fun D9 V w5 hDi hpre hI K hK => ?_)
    have h9 : V 9 = .int .i64 re := hI.1 9 (hpre.out 9 (by kernel_rfl))
    go_simp
    exact put_is (by rw [h9]; kernel_rfl) (hK.out (.int .i64 re) w5 (hI.pure (by decide) (by have := HB2.out.size; omega) rfl))
   trivial
  intro V0 V w5 hD hI
  have h11 : V 11 = .int .i64 re := hI.1 11 (hD 11 (by decide))
  rw [h11]
  have hbx : IsBox w5 (w.heap.size + 1 + 1) (.int .i64 rk) (.int .i64 rn) (.string ⟨#[]⟩) (.slice none 0 0) (.slice none 0 0) (.slice none 0 0) := hI.2.2.2.1 (hD 10 (by decide))
  obtain ⟨r0, r1, r2, r3, r4, r5⟩ := hbx.cells
  have HEND := Lib.hid hI.2.1
  clear hI hD h11
  go_wp2_with fail
  exact bodyPost_ret (v := .tuple #[.agg #[.int .i64 rk, .int .i64 rn, .string ⟨#[]⟩, .slice none 0 0, .slice none 0 0, .slice none 0 0], .int .i64 re]) (by simp [results, Tryz.results115, go_sem, *]) rfl ⟨⟨by rw [HRES.out], HEND.out⟩, HIN.out⟩
 ·have hz2 : (r.1 == 0) = false := by rw [beq_eq_false_iff_ne]; exact hz
  have hre : res = (0, 0, r.1) := by rw [HRES0.out]; unfold RkR; rw [if_neg hz]
  have HRES := Lib.hid hre
  obtain rfl := hN hz
  have HEND := Lib.hid (below_six HB2.out.below (by omega : w.heap.size ≤ w.heap.size + 1 + 1) (.int .i64 0) (.int .i64 0) (.string ⟨#[]⟩) (.slice none 0 0) (.slice none 0 0) (.slice none 0 0))
  obtain ⟨r0, r1, r2, r3, r4, r5⟩ := HB2.out.res.cells
  obtain ⟨q0, q1, q2, q3, q4, q5⟩ := HB2.out.res.thaw
  clear hA hN hb2 hz hre
  go_wp2_with fail
  exact bodyPost_ret (v := .tuple #[.agg #[.int .i64 0, .int .i64 0, .string ⟨#[]⟩, .slice none 0 0, .slice none 0 0, .slice none 0 0], .int .i64 r.1]) (by simp [results, Tryz.results115, go_sem, *]) rfl ⟨⟨by rw [HRES.out], HEND.out⟩, by rw [HRES.out]; show Num.In 0; unfold Num.In; omega, by rw [HRES.out]; show Num.In 0; unfold Num.In; omega⟩
theorem difR_in {a b : Int} (_ : Num.In a) : (Num.difR a b).2 = 0 → Num.In (Num.difR a b).1 := by
 unfold Num.difR
 split
 ·intro _; assumption
 ·intro e; cases e
theorem quoR_in {a b : Int} (_ : Num.In a) : (Num.quoR a b).2 = 0 → Num.In (Num.quoR a b).1 := by
 unfold Num.quoR
 split
 ·intro e; cases e
 ·split
  ·intro _; assumption
  ·intro e; cases e
theorem remR_in {a b : Int} (ha : Num.In a) : (Num.remR a b).2 = 0 → Num.In (Num.remR a b).1 := by
 unfold Num.remR
 split
 ·intro e; cases e
 ·intro _; exact Num.tmod_in ha
theorem op_subtract_any (H hd C : Nat) (a : Option Addr) (n c : Nat) (fs : List (Nat → Val → Expr.Out)) (Q : Nat → Prop) (d : Val) (dv : Value) (w : World) (hn : fs.length = n) (h2 : n = 2) (hT : TermsIn w a H fs) (hd0 : VIn w Q (hd + 1) d dv) :
  Calls Tryz.prog 88 #[.agg #[.func (.func 88) #[] #[], .slice a n c], dv] w (EvPost w (H + hd + 1) (Expr.apply (C + hd) .subtract (outsOf fs hd d))) := by
 obtain ⟨dk, dn, ds, da, df, dl, ba, bc, fa, fc, la, lc, rfl⟩ := hd0.shape
 obtain ⟨W0, hW0⟩ : ∃ W0, W0 = ((w.alloc (.cells #[(.func (.func 88) #[] #[]), .slice a n c] 126)).alloc (.cells #[.int .i64 dk, .int .i64 dn, .string ds, .slice da ba bc, .slice df fa fc, .slice dl la lc] 26)).alloc (.cells #[.int .i64 0, .int .i64 0, .string ⟨#[]⟩, .slice none 0 0, .slice none 0 0, .slice none 0 0] 26) := ⟨_, rfl⟩
 have HB := Lib.hid (CB.new w (.func (.func 88) #[] #[]) a n c (.int .i64 dk) (.int .i64 dn) (.string ds) (.slice da ba bc) (.slice df fa fc) (.slice dl la lc) W0 hW0)
 have HW0 := Lib.hid hW0
 have c0 : W0.cell? ⟨w.heap.size, 0, none⟩ = some (.func (.func 88) #[] #[]) := (cell_of_row W0 _ 0 _ _ _ HB.out.call).trans rfl
 have c1 := HB.out.c1
 obtain ⟨x0, x1, x2, x3, x4, x5⟩ := HB.out.doc.cells
 have CP := Lib.hid (reckon_two H hd 88 116 Num.difR numSub_any (fun _ _ => rfl) (fun _ _ hx _ => difR_in hx) a n c fs Q d _ W0 hn h2 (hT.keep HB.out.below) (VIn.keep HB.out.below hd0))
 obtain ⟨res, hres⟩ : ∃ z, z = RkR Num.difR (Expr.allO (outsOf fs hd d)) := ⟨_, rfl⟩
 have hout : Expr.apply (C + hd) .subtract (outsOf fs hd d) = Expr.numO res := by
  rw [Expr.apply_subtract, hres]
  unfold Expr.all RkR
  split
  ·rfl
  ·rfl
 rw [← hres] at CP
 rw [hout]
 obtain ⟨rk, rn, re⟩ := res
 clear hT hd0 hn h2 hres hout hW0
 go_enter Tryz.func88, Tryz.ntmps88
 go_upto_region 1 with fail
 rw [← HW0.out]
 go_wp2_with fail
 clear c0 c1 x0 x1 x2 x3 x4 x5
 refine CP.out.mono ?_
 rintro e w2 ⟨⟨rfl, hb2⟩, hin⟩
 have HIN := Lib.hid hin
 have HB2 := Lib.hid (HB.out.keep hb2)
 have HEND := Lib.hid (below_six HB2.out.below (by omega : w.heap.size ≤ w.heap.size + 1 + 1) (.int .i64 rk) (.int .i64 rn) (.string ⟨#[]⟩) (.slice none 0 0) (.slice none 0 0) (.slice none 0 0))
 obtain ⟨r0, r1, r2, r3, r4, r5⟩ := HB2.out.res.cells
 obtain ⟨q0, q1, q2, q3, q4, q5⟩ := HB2.out.res.thaw
 clear hb2 CP hin
 go_wp2_with fail
 exact bodyPost_ret (v := .tuple #[.agg #[.int .i64 rk, .int .i64 rn, .string ⟨#[]⟩, .slice none 0 0, .slice none 0 0, .slice none 0 0], .int .i64 re]) (by simp [results, Tryz.results88, go_sem, *]) rfl ⟨_, rfl, leafV_in _ _ rk rn HIN.out.1 HIN.out.2 _, HEND.out⟩
theorem op_divide_any (H hd C : Nat) (a : Option Addr) (n c : Nat) (fs : List (Nat → Val → Expr.Out)) (Q : Nat → Prop) (d : Val) (dv : Value) (w : World) (hn : fs.length = n) (h2 : n = 2) (hT : TermsIn w a H fs) (hd0 : VIn w Q (hd + 1) d dv) :
  Calls Tryz.prog 89 #[.agg #[.func (.func 89) #[] #[], .slice a n c], dv] w (EvPost w (H + hd + 1) (Expr.apply (C + hd) .divide (outsOf fs hd d))) := by
 obtain ⟨dk, dn, ds, da, df, dl, ba, bc, fa, fc, la, lc, rfl⟩ := hd0.shape
 obtain ⟨W0, hW0⟩ : ∃ W0, W0 = ((w.alloc (.cells #[(.func (.func 89) #[] #[]), .slice a n c] 126)).alloc (.cells #[.int .i64 dk, .int .i64 dn, .string ds, .slice da ba bc, .slice df fa fc, .slice dl la lc] 26)).alloc (.cells #[.int .i64 0, .int .i64 0, .string ⟨#[]⟩, .slice none 0 0, .slice none 0 0, .slice none 0 0] 26) := ⟨_, rfl⟩
 have HB := Lib.hid (CB.new w (.func (.func 89) #[] #[]) a n c (.int .i64 dk) (.int .i64 dn) (.string ds) (.slice da ba bc) (.slice df fa fc) (.slice dl la lc) W0 hW0)
 have HW0 := Lib.hid hW0
 have c0 : W0.cell? ⟨w.heap.size, 0, none⟩ = some (.func (.func 89) #[] #[]) := (cell_of_row W0 _ 0 _ _ _ HB.out.call).trans rfl
 have c1 := HB.out.c1
 obtain ⟨x0, x1, x2, x3, x4, x5⟩ := HB.out.doc.cells
 have CP := Lib.hid (reckon_two H hd 89 117 Num.quoR numDiv_any (fun _ _ => rfl) (fun _ _ hx _ => quoR_in hx) a n c fs Q d _ W0 hn h2 (hT.keep HB.out.below) (VIn.keep HB.out.below hd0))
 obtain ⟨res, hres⟩ : ∃ z, z = RkR Num.quoR (Expr.allO (outsOf fs hd d)) := ⟨_, rfl⟩
 have hout : Expr.apply (C + hd) .divide (outsOf fs hd d) = Expr.numO res := by
  rw [Expr.apply_divide, hres]
  unfold Expr.all RkR
  split
  ·rfl
  ·rfl
 rw [← hres] at CP
 rw [hout]
 obtain ⟨rk, rn, re⟩ := res
 clear hT hd0 hn h2 hres hout hW0
 go_enter Tryz.func89, Tryz.ntmps89
 go_upto_region 1 with fail
 rw [← HW0.out]
 go_wp2_with fail
 clear c0 c1 x0 x1 x2 x3 x4 x5
 refine CP.out.mono ?_
 rintro e w2 ⟨⟨rfl, hb2⟩, hin⟩
 have HIN := Lib.hid hin
 have HB2 := Lib.hid (HB.out.keep hb2)
 have HEND := Lib.hid (below_six HB2.out.below (by omega : w.heap.size ≤ w.heap.size + 1 + 1) (.int .i64 rk) (.int .i64 rn) (.string ⟨#[]⟩) (.slice none 0 0) (.slice none 0 0) (.slice none 0 0))
 obtain ⟨r0, r1, r2, r3, r4, r5⟩ := HB2.out.res.cells
 obtain ⟨q0, q1, q2, q3, q4, q5⟩ := HB2.out.res.thaw
 clear hb2 CP hin
 go_wp2_with fail
 exact bodyPost_ret (v := .tuple #[.agg #[.int .i64 rk, .int .i64 rn, .string ⟨#[]⟩, .slice none 0 0, .slice none 0 0, .slice none 0 0], .int .i64 re]) (by simp [results, Tryz.results89, go_sem, *]) rfl ⟨_, rfl, leafV_in _ _ rk rn HIN.out.1 HIN.out.2 _, HEND.out⟩
theorem op_mod_any (H hd C : Nat) (a : Option Addr) (n c : Nat) (fs : List (Nat → Val → Expr.Out)) (Q : Nat → Prop) (d : Val) (dv : Value) (w : World) (hn : fs.length = n) (h2 : n = 2) (hT : TermsIn w a H fs) (hd0 : VIn w Q (hd + 1) d dv) :
  Calls Tryz.prog 90 #[.agg #[.func (.func 90) #[] #[], .slice a n c], dv] w (EvPost w (H + hd + 1) (Expr.apply (C + hd) .mod_ (outsOf fs hd d))) := by
 obtain ⟨dk, dn, ds, da, df, dl, ba, bc, fa, fc, la, lc, rfl⟩ := hd0.shape
 obtain ⟨W0, hW0⟩ : ∃ W0, W0 = ((w.alloc (.cells #[(.func (.func 90) #[] #[]), .slice a n c] 126)).alloc (.cells #[.int .i64 dk, .int .i64 dn, .string ds, .slice da ba bc, .slice df fa fc, .slice dl la lc] 26)).alloc (.cells #[.int .i64 0, .int .i64 0, .string ⟨#[]⟩, .slice none 0 0, .slice none 0 0, .slice none 0 0] 26) := ⟨_, rfl⟩
 have HB := Lib.hid (CB.new w (.func (.func 90) #[] #[]) a n c (.int .i64 dk) (.int .i64 dn) (.string ds) (.slice da ba bc) (.slice df fa fc) (.slice dl la lc) W0 hW0)
 have HW0 := Lib.hid hW0
 have c0 : W0.cell? ⟨w.heap.size, 0, none⟩ = some (.func (.func 90) #[] #[]) := (cell_of_row W0 _ 0 _ _ _ HB.out.call).trans rfl
 have c1 := HB.out.c1
 obtain ⟨x0, x1, x2, x3, x4, x5⟩ := HB.out.doc.cells
 have CP := Lib.hid (reckon_two H hd 90 118 Num.remR numMod_any (fun _ _ => rfl) (fun _ _ hx _ => remR_in hx) a n c fs Q d _ W0 hn h2 (hT.keep HB.out.below) (VIn.keep HB.out.below hd0))
 obtain ⟨res, hres⟩ : ∃ z, z = RkR Num.remR (Expr.allO (outsOf fs hd d)) := ⟨_, rfl⟩
 have hout : Expr.apply (C + hd) .mod_ (outsOf fs hd d) = Expr.numO res := by
  rw [Expr.apply_mod_, hres]
  unfold Expr.all RkR
  split
  ·rfl
  ·rfl
 rw [← hres] at CP
 rw [hout]
 obtain ⟨rk, rn, re⟩ := res
 clear hT hd0 hn h2 hres hout hW0
 go_enter Tryz.func90, Tryz.ntmps90
 go_upto_region 1 with fail
 rw [← HW0.out]
 go_wp2_with fail
 clear c0 c1 x0 x1 x2 x3 x4 x5
 refine CP.out.mono ?_
 rintro e w2 ⟨⟨rfl, hb2⟩, hin⟩
 have HIN := Lib.hid hin
 have HB2 := Lib.hid (HB.out.keep hb2)
 have HEND := Lib.hid (below_six HB2.out.below (by omega : w.heap.size ≤ w.heap.size + 1 + 1) (.int .i64 rk) (.int .i64 rn) (.string ⟨#[]⟩) (.slice none 0 0) (.slice none 0 0) (.slice none 0 0))
 obtain ⟨r0, r1, r2, r3, r4, r5⟩ := HB2.out.res.cells
 obtain ⟨q0, q1, q2, q3, q4, q5⟩ := HB2.out.res.thaw
 clear hb2 CP hin
 go_wp2_with fail
 exact bodyPost_ret (v := .tuple #[.agg #[.int .i64 rk, .int .i64 rn, .string ⟨#[]⟩, .slice none 0 0, .slice none 0 0, .slice none 0 0], .int .i64 re]) (by simp [results, Tryz.results90, go_sem, *]) rfl ⟨_, rfl, leafV_in _ _ rk rn HIN.out.1 HIN.out.2 _, HEND.out⟩
end Go.Proofs.YtiajjgehnmkokaaGreatDoor
end
section
namespace Go.Proofs.YtiajjgehnmkokaaGreatDoor
open Go.ChangeShapes Go.WideShapes Go.ChangeAt Go.RowKit
theorem open_names {H : Type} {enc : TypeId × Value → H} {W : World} {base : Nat} {v : Value} {d : DataW H} {ps : List MemPlace} (hval : Value.okWide Tryz.prog W .any base 42 v)
  (hd : DataW.Trod enc Tryz.prog W 0 (fun _ => true) true 42 v d ps) {ts : List TypeId} {ds : List (DataW H)} (hw : (DataW.weightsEach Tryz.prog ts ds).all (· ≤ reachBytes) = true) {j : Nat} (hj : ts[j]? = some 42) (hdj : ds[j]? = some d) :
  ∃ p, NamesAt W v p ∧ Short p := by
 obtain ⟨a0, len, cap, rfl⟩ := okWide_slice Tryz.underlying42 hval
 obtain ⟨fuel, hf⟩ := hd
 rcases Deep.open_strs Tryz.underlying42 Tryz.underlying9 cellsStr hf with ⟨hcs, hx⟩ | ⟨a, len', cap', m, Sx, hcs, _, hl, hm, hmm, hx, hr⟩
 ·simp [Value.cells] at hcs
  obtain ⟨rfl, rfl, rfl⟩ := hcs
  exact ⟨[], ⟨none, 0, rfl, Nat.le_refl _, by omega, .inl rfl⟩, fun i hi => by simp at hi⟩
 ·simp [Value.cells] at hcs
  obtain ⟨rfl, rfl, rfl⟩ := hcs
  simp only [Prod.mk.injEq] at hx
  obtain ⟨rfl, _⟩ := hx
  have hlm : len ≤ m := by rw [hmm]; split <;> omega
  refine ⟨(List.range len).map Sx, ⟨some a, cap, by simp, by simpa using hl, by unfold maxLen at hm; omega, ?_⟩, fun i hi => ?_⟩
  ·by_cases h0 : len = 0
   ·subst h0; exact .inl rfl
   ·have ha := addr_spot (hr 0 (by omega)).1
    refine .inr ⟨a.block, a.off, by rw [← ha], fun i hi => ?_⟩
    have hi' : i < len := by simpa using hi
    have := (hr i (by omega)).1
    rw [ha, add_plain] at this
    simpa using this
  ·have hi' : i < len := by simpa using hi
   have hmem : DataW.lit (.string (Sx i).data.toList) ∈ (List.range len).map fun i => (DataW.lit (.string (Sx i).data.toList) : DataW H) := List.mem_map.2 ⟨i, List.mem_range.2 hi', rfl⟩
   have h1 := of_decide_eq_true (List.all_eq_true.1 hw (Sx i).data.toList.length (DataW.weights_mem_each hj hdj _ (by
    simp only [DataW.weights, Tryz.underlying42, List.mem_cons, List.mem_append]
    exact Or.inr (Or.inl (weightsAll_mem hmem _ (by simp [DataW.weights]))))))
   rw [reach_eq, Path.len_list] at h1
   simp
   omega
end Go.Proofs.YtiajjgehnmkokaaGreatDoor
end
section
namespace Go.Proofs.YtiajjgehnmkokaaGreatDoor
open Go.RowKit
open Seal
open Bson (Val)
def foldR (o : Int → Int → Int × Int) : Int → Int → List Val → Int × Int × Int
 | k, n, [] => (k, n, 0)
 | k, n, x :: r => if (Num.reck (o n x.n) k x.kind).2.2 = 0 then foldR o (Num.reck (o n x.n) k x.kind).1 (Num.reck (o n x.n) k x.kind).2.1 r else (0, 0, (Num.reck (o n x.n) k x.kind).2.2)
theorem foldR_N (o : Int → Int → Int × Int) : ∀ (l : List Val) (k n : Int), Expr.foldN o (Expr.leafV k n) l = Expr.numO (foldR o k n l)
 | [], _, _ => rfl
 | x :: r, k, n => by
  rw [Expr.foldN, foldR]
  have e : Expr.two o (Expr.leafV k n) x = Expr.numO (Num.reck (o n x.n) k x.kind) := rfl
  rw [e]
  by_cases h : (Num.reck (o n x.n) k x.kind).2.2 = 0
  ·rw [if_pos h, if_pos (show (Expr.numO (Num.reck (o n x.n) k x.kind)).1 = 0 from h)]
   exact foldR_N o r _ _
  ·rw [if_neg h, if_neg (show ¬ (Expr.numO (Num.reck (o n x.n) k x.kind)).1 = 0 from h)]; rfl
def FdR (o : Int → Int → Int × Int) (k n : Int) (r : Int × List Val) : Int × Int × Int := if r.1 = 0 then foldR o k n r.2 else (0, 0, r.1)
theorem six_facts {w w6 : World} {T R : Nat} {c0 c1 c2 c3 c4 c5 e0 e1 e2 e3 e4 e5 : Value} (hb : Below w.heap.size w w6) (hT : w.heap.size ≤ T) (hx : IsBox w6 T c0 c1 c2 c3 c4 c5) (hr : IsBox w6 R e0 e1 e2 e3 e4 e5) (hne : R ≠ T) (v0 v1 v2 v3 v4 v5 : Value) :
  Below w.heap.size w ((((((w6.setCell ⟨T, 0, none⟩ v0).setCell ⟨T, 1, none⟩ v1).setCell ⟨T, 2, none⟩ v2).setCell ⟨T, 3, none⟩ v3).setCell ⟨T, 4, none⟩ v4).setCell ⟨T, 5, none⟩ v5) ∧ IsBox ((((((w6.setCell ⟨T, 0, none⟩ v0).setCell ⟨T, 1, none⟩ v1).setCell ⟨T, 2, none⟩ v2).setCell ⟨T, 3, none⟩ v3).setCell ⟨T, 4, none⟩ v4).setCell ⟨T, 5, none⟩ v5) T v0 v1 v2 v3 v4 v5 ∧ IsBox ((((((w6.setCell ⟨T, 0, none⟩ v0).setCell ⟨T, 1, none⟩ v1).setCell ⟨T, 2, none⟩ v2).setCell ⟨T, 3, none⟩ v3).setCell ⟨T, 4, none⟩ v4).setCell ⟨T, 5, none⟩ v5) R e0 e1 e2 e3 e4 e5 := by
 have e : ((((((w6.setCell ⟨T, 0, none⟩ v0).setCell ⟨T, 1, none⟩ v1).setCell ⟨T, 2, none⟩ v2).setCell ⟨T, 3, none⟩ v3).setCell ⟨T, 4, none⟩ v4).setCell ⟨T, 5, none⟩ v5) = puts w6 T 0 [v0, v1, v2, v3, v4, v5] := rfl
 rw [e]
 exact ⟨puts_below hb hT _ 0, hx.put _ _ _ _ _ _, hr.other hne 0 _⟩
theorem fold_boxes (w : World) (K : FuncId) (a : Option Addr) (n c : Nat) (dk dn fk fn : Int) (ds : ByteArray) (da df dl : Option Addr) (ba bc fa fc la lc : Nat) (W0 : World) (hW0 : W0 = (((w.alloc (.cells #[(.func (.func K) #[] #[]), .slice a n c] 126)).alloc (.cells #[.int .i64 dk, .int .i64 dn, .string ds, .slice da ba bc, .slice df fa fc, .slice dl la lc] 26)).alloc (.cells #[.int .i64 fk, .int .i64 fn, .string ⟨#[]⟩, .slice none 0 0, .slice none 0 0, .slice none 0 0] 26)).alloc (.cells #[.int .i64 0, .int .i64 0, .string ⟨#[]⟩, .slice none 0 0, .slice none 0 0, .slice none 0 0] 26)) :
  Below w.heap.size w W0 ∧ W0.heap.size = w.heap.size + 4 ∧ W0.heap[w.heap.size]? = some (.cells #[(.func (.func K) #[] #[]), .slice a n c] 126 (0, 0)) ∧ IsBox W0 (w.heap.size + 1) (.int .i64 dk) (.int .i64 dn) (.string ds) (.slice da ba bc) (.slice df fa fc) (.slice dl la lc) ∧ IsBox W0 (w.heap.size + 1 + 1) (.int .i64 fk) (.int .i64 fn) (.string ⟨#[]⟩) (.slice none 0 0) (.slice none 0 0) (.slice none 0 0) ∧ IsBox W0 (w.heap.size + 1 + 1 + 1) (.int .i64 0) (.int .i64 0) (.string ⟨#[]⟩) (.slice none 0 0) (.slice none 0 0) (.slice none 0 0) := by
 have b1 := (Below.refl w.heap.size w).alloc (Nat.le_refl _) (.cells #[(.func (.func K) #[] #[]), .slice a n c] 126)
 have b2 := b1.alloc b1.size (.cells #[.int .i64 dk, .int .i64 dn, .string ds, .slice da ba bc, .slice df fa fc, .slice dl la lc] 26)
 have b3 := b2.alloc b2.size (.cells #[.int .i64 fk, .int .i64 fn, .string ⟨#[]⟩, .slice none 0 0, .slice none 0 0, .slice none 0 0] 26)
 have b4 := b3.alloc b3.size (.cells #[.int .i64 0, .int .i64 0, .string ⟨#[]⟩, .slice none 0 0, .slice none 0 0, .slice none 0 0] 26)
 subst hW0
 refine ⟨b4, by simp, ?_, ?_, ?_, ?_⟩
 ·exact (Below.heap_alloc _ _ _ (by simp; omega)).trans ((Below.heap_alloc _ _ _ (by simp; omega)).trans ((Below.heap_alloc _ _ _ (by simp)).trans (heap_alloc_new w _)))
 ·exact ((IsBox.new2 w (.cells #[(.func (.func K) #[] #[]), .slice a n c] 126) (.int .i64 dk) (.int .i64 dn) (.string ds) (.slice da ba bc) (.slice df fa fc) (.slice dl la lc)).keep ((Below.refl _ _).alloc (Nat.le_refl _) _)).keep ((Below.refl _ _).alloc (Nat.le_refl _) _)
 ·have h := IsBox.new2 (w.alloc (.cells #[(.func (.func K) #[] #[]), .slice a n c] 126)) (.cells #[.int .i64 dk, .int .i64 dn, .string ds, .slice da ba bc, .slice df fa fc, .slice dl la lc] 26) (.int .i64 fk) (.int .i64 fn) (.string ⟨#[]⟩) (.slice none 0 0) (.slice none 0 0) (.slice none 0 0)
  have e : (w.alloc (.cells #[(.func (.func K) #[] #[]), .slice a n c] 126)).heap.size = w.heap.size + 1 := by simp
  rw [e] at h
  exact h.keep ((Below.refl _ _).alloc (Nat.le_refl _) _)
 ·have h := IsBox.new2 ((w.alloc (.cells #[(.func (.func K) #[] #[]), .slice a n c] 126)).alloc (.cells #[.int .i64 dk, .int .i64 dn, .string ds, .slice da ba bc, .slice df fa fc, .slice dl la lc] 26)) (.cells #[.int .i64 fk, .int .i64 fn, .string ⟨#[]⟩, .slice none 0 0, .slice none 0 0, .slice none 0 0] 26) (.int .i64 0) (.int .i64 0) (.string ⟨#[]⟩) (.slice none 0 0) (.slice none 0 0) (.slice none 0 0)
  have e : ((w.alloc (.cells #[(.func (.func K) #[] #[]), .slice a n c] 126)).alloc (.cells #[.int .i64 dk, .int .i64 dn, .string ds, .slice da ba bc, .slice df fa fc, .slice dl la lc] 26)).heap.size = w.heap.size + 1 + 1 := by simp
  rw [e] at h
  exact h
theorem fold_any (H hd : Nat) (K Kf : FuncId) (op : Int → Int → Int × Int) (hKf : ∀ (ak an bk bn : Int) (p2 p3 p4 p5 q2 q3 q4 q5 : Value) (u : World), Num.In an → Num.In bn → Calls Tryz.prog Kf #[.agg #[.int .i64 ak, .int .i64 an, p2, p3, p4, p5], .agg #[.int .i64 bk, .int .i64 bn, q2, q3, q4, q5]] u (ValE (Num.reck (op an bn) ak bk) u)) (hke : ∀ args (u : World), (callFunc Kf args).run Tryz.prog u = .ok (.enter Kf args) u) (hop : ∀ a b, Num.In a → Num.In b → (op a b).2 = 0 → Num.In (op a b).1)
  (fk fn : Int) (hfk : Num.In fk) (hfn : Num.In fn) (a : Option Addr) (n c : Nat) (fs : List (Nat → Val → Expr.Out)) (Q : Nat → Prop) (d : Val) (dv : Value) (w : World) (hn : fs.length = n) (hlim : n ≤ 3000) (hT : TermsIn w a H fs) (hd0 : VIn w Q (hd + 1) d dv) :
  Calls Tryz.prog 111 #[.agg #[.func (.func K) #[] #[], .slice a n c], dv, .agg #[.int .i64 fk, .int .i64 fn, .string ⟨#[]⟩, .slice none 0 0, .slice none 0 0, .slice none 0 0], .func (.func Kf) #[] #[]] w fun e w' => ValE (FdR op fk fn (Expr.allO (outsOf fs hd d))) w e w' ∧ Num.In (FdR op fk fn (Expr.allO (outsOf fs hd d))).1 ∧ Num.In (FdR op fk fn (Expr.allO (outsOf fs hd d))).2.1 := by
 obtain ⟨dk, dn, ds, da, df, dl, ba, bc, fa, fc, la, lc, rfl⟩ := hd0.shape
 obtain ⟨W0, hW0⟩ : ∃ W0, W0 = (((w.alloc (.cells #[(.func (.func K) #[] #[]), .slice a n c] 126)).alloc (.cells #[.int .i64 dk, .int .i64 dn, .string ds, .slice da ba bc, .slice df fa fc, .slice dl la lc] 26)).alloc (.cells #[.int .i64 fk, .int .i64 fn, .string ⟨#[]⟩, .slice none 0 0, .slice none 0 0, .slice none 0 0] 26)).alloc (.cells #[.int .i64 0, .int .i64 0, .string ⟨#[]⟩, .slice none 0 0, .slice none 0 0, .slice none 0 0] 26) := ⟨_, rfl⟩
 obtain ⟨hb0, hsz, h0, hx, hf, hr0⟩ := fold_boxes w K a n c dk dn fk fn ds da df dl ba bc fa fc la lc W0 hW0
 have HB := Lib.hid hb0
 have HSZ := Lib.hid hsz
 have HF := Lib.hid hf
 have HR0 := Lib.hid hr0
 have HW0 := Lib.hid hW0
 have c1 : W0.cell? ⟨w.heap.size, 1, none⟩ = some (.slice a n c) := (cell_of_row W0 _ 1 _ _ _ h0).trans rfl
 obtain ⟨x0, x1, x2, x3, x4, x5⟩ := hx.cells
 have CA := Lib.hid (evalAll_any H hd a n c fs Q d _ W0 hn hlim (hT.keep hb0) (VIn.keep hb0 hd0))
 obtain ⟨r, hr⟩ : ∃ r, r = Expr.allO (outsOf fs hd d) := ⟨_, rfl⟩
 have hrl : r.1 = 0 → r.2.length ≤ 3000 := fun h => by rw [hr] at h ⊢; rw [Expr.allO_len h, outsOf_length, hn]; exact hlim
 rw [← hr] at CA ⊢
 have HRL := Lib.hid hrl
 obtain ⟨res, hres⟩ : ∃ z, z = FdR op fk fn r := ⟨_, rfl⟩
 rw [← hres]
 have HRES0 := Lib.hid hres
 have HKF := Lib.hid hKf
 have HOP := Lib.hid hop
 have HIN0 := Lib.hid (And.intro hfk hfn)
 clear hT hd0 hn hr hrl hres hW0 hb0 hsz h0 hx hf hr0 hKf hop hfk hfn
 go_enter Tryz.func111, Tryz.ntmps111
 go_upto_region 1 with fail
 rw [← HW0.out]
 go_wp2_with fail
 clear c1 x0 x1 x2 x3 x4 x5
 refine CA.out.mono ?_
 rintro e w2 ⟨v2, rfl, hA, hN, hb2⟩
 have HB2 := Lib.hid (HB.out.trans (hb2.mono HB.out.size))
 have HF2 := Lib.hid (HF.out.keep hb2)
 have HR2 := Lib.hid (HR0.out.keep hb2)
 have HS2 : Hid (w.heap.size + 4 ≤ w2.heap.size) := by show _ ≤ _; rw [← HSZ.out]; exact hb2.size
 by_cases hz : r.1 = 0
 ·obtain ⟨xs, hA⟩ := hA hz
  have hl3 := HRL.out hz
  obtain ⟨a', c', rfl, hc', hit⟩ := hA.items (Q' := fun _ => True) (fun _ _ => trivial) (fun _ _ _ => trivial)
  have HIT := Lib.hid hit
  obtain ⟨N, hNN⟩ : ∃ N, N = r.2.length := ⟨_, rfl⟩
  rw [← hNN] at hl3 ⊢
  have HNN := Lib.hid hNN
  have HZ := Lib.hid hz
  rw [hz]
  obtain ⟨y0, y1, y2, y3, y4, y5⟩ := HF2.out.cells
  have hre : res = foldR op fk fn r.2 := by rw [HRES0.out]; unfold FdR; rw [if_pos hz]
  have HRES := Lib.hid hre
  have hb3 : Below w2.heap.size w2 (w2.alloc (.cells #[.int .i64 fk, .int .i64 fn, .string ⟨#[]⟩, .slice none 0 0, .slice none 0 0, .slice none 0 0] 26)) := (Below.refl _ _).alloc (Nat.le_refl _) _
  have HB3 := Lib.hid hb3
  have HX3 := Lib.hid (IsBox.new w2 (.int .i64 fk) (.int .i64 fn) (.string ⟨#[]⟩) (.slice none 0 0) (.slice none 0 0) (.slice none 0 0))
  clear hA hN hb2 hc' hit hz hre hNN hb3
  go_wp2_with fail
  clear y0 y1 y2 y3 y4 y5
  go_loopw [29] (fun i wr => ∃ (k : Nat) (ak an : Int), i = .int .i64 k ∧ k ≤ N ∧ Hid (res = foldR op ak an (r.2.drop k) ∧ Num.In ak ∧ Num.In an) ∧ Hid (Below w2.heap.size w2 wr) ∧ Hid (IsBox wr w2.heap.size (.int .i64 ak) (.int .i64 an) (.string ⟨#[]⟩) (.slice none 0 0) (.slice none 0 0) (.slice none 0 0))) (fun i _ => N - (intOf i).toNat)
  case atStart => exact ⟨0, fk, fn, rfl, Nat.zero_le _, ⟨HRES.out, HIN0.out.1, HIN0.out.2⟩, HB3.out, HX3.out⟩
  case round =>
   obtain ⟨k, ak, an, rfl, hk, HFD, HBr, HXr⟩ := hrel
   by_cases hlt : k < N
   ·have hkr : k < r.2.length := by rw [← HNN.out]; exact hlt
    obtain ⟨g, o, rfl, -, hall⟩ := HIT.out.resolve_left (fun e => by rw [e] at hkr; cases hkr)
    obtain ⟨v', hsix, hV⟩ := hall k hkr
    obtain ⟨ik, im, is_, b0, f0, l0, bb0, bc0, fb0, fc0, lb0, lc0, rfl⟩ := hV.shape
    obtain ⟨e1, e2, -, -, eL⟩ := hV.top
    obtain ⟨s0, s1, s2, s3, s4, s5⟩ := (hsix.keep HBr.out).cells
    have hin2 : Num.In im := by rw [e2]; exact ⟨eL.n0, eL.n1⟩
    have hdrop : r.2.drop k = r.2[k] :: r.2.drop (k + 1) := List.drop_eq_getElem_cons hkr
    obtain ⟨q, hq⟩ : ∃ z, z = Num.reck (op an im) ak ik := ⟨_, rfl⟩
    have hstep : res = if q.2.2 = 0 then foldR op q.1 q.2.1 (r.2.drop (k + 1)) else (0, 0, q.2.2) := by
     rw [HFD.out.1, hdrop, foldR, ← e1, ← e2, ← hq]
    have hqin := reck_in (op an im) ak ik (HOP.out an im HFD.out.2.2 hin2)
    rw [← hq] at hqin
    have CK := Lib.hid (HKF.out ak an ik im (.string ⟨#[]⟩) (.slice none 0 0) (.slice none 0 0) (.slice none 0 0) (.string is_) (.slice b0 bb0 bc0) (.slice f0 fb0 fc0) (.slice l0 lb0 lc0) (wr.alloc (.cells #[.int .i64 ik, .int .i64 im, .string is_, .slice b0 bb0 bc0, .slice f0 fb0 fc0, .slice l0 lb0 lc0] 26)) HFD.out.2.2 hin2)
    rw [← hq] at CK
    have HST := Lib.hid hstep
    have HQ := Lib.hid hqin
    have hb5 : Below wr.heap.size wr (wr.alloc (.cells #[.int .i64 ik, .int .i64 im, .string is_, .slice b0 bb0 bc0, .slice f0 fb0 fc0, .slice l0 lb0 lc0] 26)) := (Below.refl _ _).alloc (Nat.le_refl _) _
    have HB5 := Lib.hid (HBr.out.trans (hb5.mono HBr.out.size))
    have HX5 := Lib.hid (HXr.out.keep hb5)
    obtain ⟨y0, y1, y2, y3, y4, y5⟩ := HX5.out.cells
    obtain ⟨z0, z1, z2, z3, z4, z5⟩ := HXr.out.cells
    obtain ⟨qk, qn, qe⟩ := q
    have CK2 : Hid (Calls Tryz.prog Kf #[.agg #[.int .i64 ak, .int .i64 an, .string ⟨#[]⟩, .slice none 0 0, .slice none 0 0, .slice none 0 0], .agg #[.int .i64 ik, .int .i64 im, .string is_, .slice b0 bb0 bc0, .slice f0 fb0 fc0, .slice l0 lb0 lc0]] (wr.alloc (.cells #[.int .i64 ik, .int .i64 im, .string is_, .slice b0 bb0 bc0, .slice f0 fb0 fc0, .slice l0 lb0 lc0] 26)) fun e w' => e = .returned (.tuple #[.agg #[.int .i64 qk, .int .i64 qn, .string ⟨#[]⟩, .slice none 0 0, .slice none 0 0, .slice none 0 0], .int .i64 qe]) ∧ Below (wr.alloc (.cells #[.int .i64 ik, .int .i64 im, .string is_, .slice b0 bb0 bc0, .slice f0 fb0 fc0, .slice l0 lb0 lc0] 26)).heap.size (wr.alloc (.cells #[.int .i64 ik, .int .i64 im, .string is_, .slice b0 bb0 bc0, .slice f0 fb0 fc0, .slice l0 lb0 lc0] 26)) w') := CK.out
    clear CK hall hsix hV e1 e2 eL hin2 hdrop hq hstep hqin hb5
    go_wp2_with fail
    clear s0 s1 s2 s3 s4 s5 y0 y1 y2 y3 y4 y5 z0 z1 z2 z3 z4 z5
    refine CK2.out.mono ?_
    rintro e w6 ⟨rfl, hb6⟩
    have HB6 := Lib.hid (HB5.out.trans (hb6.mono HB5.out.size))
    have HX6 := Lib.hid (HX5.out.keep hb6)
    have HR6 : Hid (IsBox w6 (w.heap.size + 1 + 1 + 1) (.int .i64 0) (.int .i64 0) (.string ⟨#[]⟩) (.slice none 0 0) (.slice none 0 0) (.slice none 0 0)) := (HB6.out.block _ HR2.out.lt).trans HR2.out
    obtain ⟨y0, y1, y2, y3, y4, y5⟩ := HX6.out.cells
    obtain ⟨z0, z1, z2, z3, z4, z5⟩ := HX6.out.thaw
    have h7 := six_facts HB6.out (Nat.le_refl _) HX6.out HR6.out (by have := HS2.out; omega) (.int .i64 qk) (.int .i64 qn) (.string ⟨#[]⟩) (.slice none 0 0) (.slice none 0 0) (.slice none 0 0)
    obtain ⟨W7, hW7⟩ : ∃ W7, W7 = ((((((w6.setCell ⟨w2.heap.size, 0, none⟩ (.int .i64 qk)).setCell ⟨w2.heap.size, 1, none⟩ (.int .i64 qn)).setCell ⟨w2.heap.size, 2, none⟩ (.string ⟨#[]⟩)).setCell ⟨w2.heap.size, 3, none⟩ (.slice none 0 0)).setCell ⟨w2.heap.size, 4, none⟩ (.slice none 0 0)).setCell ⟨w2.heap.size, 5, none⟩ (.slice none 0 0)) := ⟨_, rfl⟩
    rw [← hW7] at h7
    have HW7 := Lib.hid hW7
    have HB7 := Lib.hid h7.1
    have HX7 := Lib.hid h7.2.1
    have HR7 := Lib.hid h7.2.2
    clear h7 hW7
    clear hb6 CK2 HBr HXr HB5 HX5
    by_cases he : qe = 0
    ·subst he
     have HF2' : Hid (res = foldR op qk qn (r.2.drop (k + 1)) ∧ Num.In qk ∧ Num.In qn) := ⟨by have := HST.out; rw [if_pos rfl] at this; exact this, HQ.out.1, HQ.out.2⟩
     go_upto_region 11 with fail
     rw [← HW7.out]
     clear y0 y1 y2 y3 y4 y5 z0 z1 z2 z3 z4 z5
     go_wp2_with fail
     go_roundw
     case rel => exact ⟨k + 1, qk, qn, by go_num, by omega, HF2'.out, HB7.out, HX7.out⟩
     case measure => simp [intOf]; omega
    ·have he2 : (qe == 0) = false := by rw [beq_eq_false_iff_ne]; exact he
     have hre : res = (0, 0, qe) := by have := HST.out; rw [if_neg he] at this; exact this
     have HRE := Lib.hid hre
     have HB8 := Lib.hid (HB2.out.trans (HB7.out.mono HB2.out.size))
     clear he hre
     go_upto_region 10 with fail
     rw [← HW7.out]
     clear y0 y1 y2 y3 y4 y5 z0 z1 z2 z3 z4 z5
     obtain ⟨r0, r1, r2, r3, r4, r5⟩ := HR7.out.cells
     obtain ⟨q0, q1, q2, q3, q4, q5⟩ := HR7.out.thaw
     have HEND := Lib.hid (below_six HB8.out (by omega : w.heap.size ≤ w.heap.size + 1 + 1 + 1) (.int .i64 0) (.int .i64 0) (.string ⟨#[]⟩) (.slice none 0 0) (.slice none 0 0) (.slice none 0 0))
     go_wp2_with fail
     exact bodyPost_ret (v := .tuple #[.agg #[.int .i64 0, .int .i64 0, .string ⟨#[]⟩, .slice none 0 0, .slice none 0 0, .slice none 0 0], .int .i64 qe]) (by simp [results, Tryz.results111, go_sem, *]) rfl ⟨⟨by rw [HRE.out], HEND.out⟩, by rw [HRE.out]; show Num.In 0; unfold Num.In; omega, by rw [HRE.out]; show Num.In 0; unfold Num.In; omega⟩
   ·obtain rfl : k = N := by omega
    have hre : res = (ak, an, 0) := by
     rw [HFD.out.1, List.drop_eq_nil_of_le (by rw [← HNN.out]; exact Nat.le_refl _)]; rfl
    have HRE := Lib.hid hre
    have HRr : Hid (IsBox wr (w.heap.size + 1 + 1 + 1) (.int .i64 0) (.int .i64 0) (.string ⟨#[]⟩) (.slice none 0 0) (.slice none 0 0) (.slice none 0 0)) := (HBr.out.block _ HR2.out.lt).trans HR2.out
    obtain ⟨y0, y1, y2, y3, y4, y5⟩ := HXr.out.cells
    obtain ⟨r0, r1, r2, r3, r4, r5⟩ := HRr.out.cells
    obtain ⟨q0, q1, q2, q3, q4, q5⟩ := HRr.out.thaw
    have HEND := Lib.hid (below_six (HB2.out.trans (HBr.out.mono HB2.out.size)) (by omega : w.heap.size ≤ w.heap.size + 1 + 1 + 1) (.int .i64 ak) (.int .i64 an) (.string ⟨#[]⟩) (.slice none 0 0) (.slice none 0 0) (.slice none 0 0))
    clear hre
    go_wp2_with fail
    exact bodyPost_ret (v := .tuple #[.agg #[.int .i64 ak, .int .i64 an, .string ⟨#[]⟩, .slice none 0 0, .slice none 0 0, .slice none 0 0], .int .i64 0]) (by simp [results, Tryz.results111, go_sem, *]) rfl ⟨⟨by rw [HRE.out], HEND.out⟩, by rw [HRE.out]; exact HFD.out.2.1, by rw [HRE.out]; exact HFD.out.2.2⟩
 ·have hz2 : (r.1 == 0) = false := by rw [beq_eq_false_iff_ne]; exact hz
  have hre : res = (0, 0, r.1) := by rw [HRES0.out]; unfold FdR; rw [if_neg hz]
  have HRES := Lib.hid hre
  obtain rfl := hN hz
  have HEND := Lib.hid (below_six HB2.out (by omega : w.heap.size ≤ w.heap.size + 1 + 1 + 1) (.int .i64 0) (.int .i64 0) (.string ⟨#[]⟩) (.slice none 0 0) (.slice none 0 0) (.slice none 0 0))
  obtain ⟨r0, r1, r2, r3, r4, r5⟩ := HR2.out.cells
  obtain ⟨q0, q1, q2, q3, q4, q5⟩ := HR2.out.thaw
  clear hA hN hb2 hz hre
  go_wp2_with fail
  exact bodyPost_ret (v := .tuple #[.agg #[.int .i64 0, .int .i64 0, .string ⟨#[]⟩, .slice none 0 0, .slice none 0 0, .slice none 0 0], .int .i64 r.1]) (by simp [results, Tryz.results111, go_sem, *]) rfl ⟨⟨by rw [HRES.out], HEND.out⟩, by rw [HRES.out]; show Num.In 0; unfold Num.In; omega, by rw [HRES.out]; show Num.In 0; unfold Num.In; omega⟩
theorem place_lim (c : Nat) (l : List Val) : -1 ≤ Expr.place c l ∧ Expr.place c l ≤ 1 := by have := (Order.cmp_cmp c).one (l.getD 0 Bson.zero) (l.getD 1 Bson.zero); unfold Expr.place; omega
theorem op_eq_any (H hd C : Nat) (a : Option Addr) (n c : Nat) (fs : List (Nat → Val → Expr.Out)) (Q : Nat → Prop) (d : Val) (dv : Value) (w : World) (hn : fs.length = n) (h2 : n = 2) (hC : H ≤ C) (hT : TermsIn w a H fs) (hd0 : VIn w Q (hd + 1) d dv) :
  Calls Tryz.prog 92 #[.agg #[.func (.func 92) #[] #[], .slice a n c], dv] w (EvPost w (H + hd + 2) (Expr.apply (C + hd) .eq_ (outsOf fs hd d))) := by
 obtain ⟨dk, dn, ds, da, df, dl, ba, bc, fa, fc, la, lc, rfl⟩ := hd0.shape
 obtain ⟨W0, hW0⟩ : ∃ W0, W0 = ((w.alloc (.cells #[(.func (.func 92) #[] #[]), .slice a n c] 126)).alloc (.cells #[.int .i64 dk, .int .i64 dn, .string ds, .slice da ba bc, .slice df fa fc, .slice dl la lc] 26)).alloc (.cells #[.int .i64 0, .int .i64 0, .string ⟨#[]⟩, .slice none 0 0, .slice none 0 0, .slice none 0 0] 26) := ⟨_, rfl⟩
 have HB := Lib.hid (CB.new w (.func (.func 92) #[] #[]) a n c (.int .i64 dk) (.int .i64 dn) (.string ds) (.slice da ba bc) (.slice df fa fc) (.slice dl la lc) W0 hW0)
 have HW0 := Lib.hid hW0
 have c0 : W0.cell? ⟨w.heap.size, 0, none⟩ = some (.func (.func 92) #[] #[]) := (cell_of_row W0 _ 0 _ _ _ HB.out.call).trans rfl
 have c1 := HB.out.c1
 obtain ⟨x0, x1, x2, x3, x4, x5⟩ := HB.out.doc.cells
 have CP := Lib.hid (comp_any H hd C 92 121 (fun p => decide (p = 0)) isAlike_any (fun _ _ => rfl) a n c fs Q d _ W0 hn h2 hC (hT.keep HB.out.below) (VIn.keep HB.out.below hd0))
 obtain ⟨res, hres⟩ : ∃ z, z = Expr.apply (C + hd) .eq_ (outsOf fs hd d) := ⟨_, rfl⟩
 rw [← Expr.apply_eq_, ← hres] at CP
 rw [← hres]
 clear hT hd0 hn h2 hC hres hW0
 go_enter Tryz.func92, Tryz.ntmps92
 go_upto_region 1 with fail
 rw [← HW0.out]
 go_wp2_with fail
 clear c0 c1 x0 x1 x2 x3 x4 x5
 refine CP.out.mono ?_
 rintro e w2 ⟨v2, rfl, hv2, hb2⟩
 obtain ⟨k, m, s, b1, f1, l1, b2, b3, f2, f3, l2, l3, rfl⟩ := hv2.shape
 have HB2 := Lib.hid (HB.out.keep hb2)
 have HEND : Hid (VIn (puts w2 (w.heap.size + 1 + 1) 0 [.int .i64 k, .int .i64 m, .string s, .slice b1 b2 b3, .slice f1 f2 f3, .slice l1 l2 l3]) (fun g => w.heap.size ≤ g) (H + hd + 2) res.2 (.agg #[.int .i64 k, .int .i64 m, .string s, .slice b1 b2 b3, .slice f1 f2 f3, .slice l1 l2 l3]) ∧ Below w.heap.size w (puts w2 (w.heap.size + 1 + 1) 0 [.int .i64 k, .int .i64 m, .string s, .slice b1 b2 b3, .slice f1 f2 f3, .slice l1 l2 l3])) :=
  ⟨(hv2.kept (puts_kept (fun g => W0.heap.size ≤ g) (by have := HB.out.size; omega) _ _) (fun g hg => by have := HB.out.size; omega)).up (by omega), puts_below HB2.out.below (by omega) _ _⟩
 obtain ⟨r0, r1, r2, r3, r4, r5⟩ := HB2.out.res.cells
 obtain ⟨q0, q1, q2, q3, q4, q5⟩ := HB2.out.res.thaw
 clear hv2 hb2 CP
 go_wp2_with fail
 exact bodyPost_ret (v := .tuple #[.agg #[.int .i64 k, .int .i64 m, .string s, .slice b1 b2 b3, .slice f1 f2 f3, .slice l1 l2 l3], .int .i64 res.1]) (by simp [results, Tryz.results92, go_sem, *]) rfl ⟨_, rfl, HEND.out.1, HEND.out.2⟩
theorem op_ne_any (H hd C : Nat) (a : Option Addr) (n c : Nat) (fs : List (Nat → Val → Expr.Out)) (Q : Nat → Prop) (d : Val) (dv : Value) (w : World) (hn : fs.length = n) (h2 : n = 2) (hC : H ≤ C) (hT : TermsIn w a H fs) (hd0 : VIn w Q (hd + 1) d dv) :
  Calls Tryz.prog 93 #[.agg #[.func (.func 93) #[] #[], .slice a n c], dv] w (EvPost w (H + hd + 2) (Expr.apply (C + hd) .ne_ (outsOf fs hd d))) := by
 obtain ⟨dk, dn, ds, da, df, dl, ba, bc, fa, fc, la, lc, rfl⟩ := hd0.shape
 obtain ⟨W0, hW0⟩ : ∃ W0, W0 = ((w.alloc (.cells #[(.func (.func 93) #[] #[]), .slice a n c] 126)).alloc (.cells #[.int .i64 dk, .int .i64 dn, .string ds, .slice da ba bc, .slice df fa fc, .slice dl la lc] 26)).alloc (.cells #[.int .i64 0, .int .i64 0, .string ⟨#[]⟩, .slice none 0 0, .slice none 0 0, .slice none 0 0] 26) := ⟨_, rfl⟩
 have HB := Lib.hid (CB.new w (.func (.func 93) #[] #[]) a n c (.int .i64 dk) (.int .i64 dn) (.string ds) (.slice da ba bc) (.slice df fa fc) (.slice dl la lc) W0 hW0)
 have HW0 := Lib.hid hW0
 have c0 : W0.cell? ⟨w.heap.size, 0, none⟩ = some (.func (.func 93) #[] #[]) := (cell_of_row W0 _ 0 _ _ _ HB.out.call).trans rfl
 have c1 := HB.out.c1
 obtain ⟨x0, x1, x2, x3, x4, x5⟩ := HB.out.doc.cells
 have CP := Lib.hid (comp_any H hd C 93 122 (fun p => decide (p ≠ 0)) isUnlike_any (fun _ _ => rfl) a n c fs Q d _ W0 hn h2 hC (hT.keep HB.out.below) (VIn.keep HB.out.below hd0))
 obtain ⟨res, hres⟩ : ∃ z, z = Expr.apply (C + hd) .ne_ (outsOf fs hd d) := ⟨_, rfl⟩
 rw [← Expr.apply_ne_, ← hres] at CP
 rw [← hres]
 clear hT hd0 hn h2 hC hres hW0
 go_enter Tryz.func93, Tryz.ntmps93
 go_upto_region 1 with fail
 rw [← HW0.out]
 go_wp2_with fail
 clear c0 c1 x0 x1 x2 x3 x4 x5
 refine CP.out.mono ?_
 rintro e w2 ⟨v2, rfl, hv2, hb2⟩
 obtain ⟨k, m, s, b1, f1, l1, b2, b3, f2, f3, l2, l3, rfl⟩ := hv2.shape
 have HB2 := Lib.hid (HB.out.keep hb2)
 have HEND : Hid (VIn (puts w2 (w.heap.size + 1 + 1) 0 [.int .i64 k, .int .i64 m, .string s, .slice b1 b2 b3, .slice f1 f2 f3, .slice l1 l2 l3]) (fun g => w.heap.size ≤ g) (H + hd + 2) res.2 (.agg #[.int .i64 k, .int .i64 m, .string s, .slice b1 b2 b3, .slice f1 f2 f3, .slice l1 l2 l3]) ∧ Below w.heap.size w (puts w2 (w.heap.size + 1 + 1) 0 [.int .i64 k, .int .i64 m, .string s, .slice b1 b2 b3, .slice f1 f2 f3, .slice l1 l2 l3])) :=
  ⟨(hv2.kept (puts_kept (fun g => W0.heap.size ≤ g) (by have := HB.out.size; omega) _ _) (fun g hg => by have := HB.out.size; omega)).up (by omega), puts_below HB2.out.below (by omega) _ _⟩
 obtain ⟨r0, r1, r2, r3, r4, r5⟩ := HB2.out.res.cells
 obtain ⟨q0, q1, q2, q3, q4, q5⟩ := HB2.out.res.thaw
 clear hv2 hb2 CP
 go_wp2_with fail
 exact bodyPost_ret (v := .tuple #[.agg #[.int .i64 k, .int .i64 m, .string s, .slice b1 b2 b3, .slice f1 f2 f3, .slice l1 l2 l3], .int .i64 res.1]) (by simp [results, Tryz.results93, go_sem, *]) rfl ⟨_, rfl, HEND.out.1, HEND.out.2⟩
theorem op_gt_any (H hd C : Nat) (a : Option Addr) (n c : Nat) (fs : List (Nat → Val → Expr.Out)) (Q : Nat → Prop) (d : Val) (dv : Value) (w : World) (hn : fs.length = n) (h2 : n = 2) (hC : H ≤ C) (hT : TermsIn w a H fs) (hd0 : VIn w Q (hd + 1) d dv) :
  Calls Tryz.prog 94 #[.agg #[.func (.func 94) #[] #[], .slice a n c], dv] w (EvPost w (H + hd + 2) (Expr.apply (C + hd) .gt (outsOf fs hd d))) := by
 obtain ⟨dk, dn, ds, da, df, dl, ba, bc, fa, fc, la, lc, rfl⟩ := hd0.shape
 obtain ⟨W0, hW0⟩ : ∃ W0, W0 = ((w.alloc (.cells #[(.func (.func 94) #[] #[]), .slice a n c] 126)).alloc (.cells #[.int .i64 dk, .int .i64 dn, .string ds, .slice da ba bc, .slice df fa fc, .slice dl la lc] 26)).alloc (.cells #[.int .i64 0, .int .i64 0, .string ⟨#[]⟩, .slice none 0 0, .slice none 0 0, .slice none 0 0] 26) := ⟨_, rfl⟩
 have HB := Lib.hid (CB.new w (.func (.func 94) #[] #[]) a n c (.int .i64 dk) (.int .i64 dn) (.string ds) (.slice da ba bc) (.slice df fa fc) (.slice dl la lc) W0 hW0)
 have HW0 := Lib.hid hW0
 have c0 : W0.cell? ⟨w.heap.size, 0, none⟩ = some (.func (.func 94) #[] #[]) := (cell_of_row W0 _ 0 _ _ _ HB.out.call).trans rfl
 have c1 := HB.out.c1
 obtain ⟨x0, x1, x2, x3, x4, x5⟩ := HB.out.doc.cells
 have CP := Lib.hid (comp_any H hd C 94 123 (fun p => decide (p > 0)) isBehind_any (fun _ _ => rfl) a n c fs Q d _ W0 hn h2 hC (hT.keep HB.out.below) (VIn.keep HB.out.below hd0))
 obtain ⟨res, hres⟩ : ∃ z, z = Expr.apply (C + hd) .gt (outsOf fs hd d) := ⟨_, rfl⟩
 rw [← Expr.apply_gt, ← hres] at CP
 rw [← hres]
 clear hT hd0 hn h2 hC hres hW0
 go_enter Tryz.func94, Tryz.ntmps94
 go_upto_region 1 with fail
 rw [← HW0.out]
 go_wp2_with fail
 clear c0 c1 x0 x1 x2 x3 x4 x5
 refine CP.out.mono ?_
 rintro e w2 ⟨v2, rfl, hv2, hb2⟩
 obtain ⟨k, m, s, b1, f1, l1, b2, b3, f2, f3, l2, l3, rfl⟩ := hv2.shape
 have HB2 := Lib.hid (HB.out.keep hb2)
 have HEND : Hid (VIn (puts w2 (w.heap.size + 1 + 1) 0 [.int .i64 k, .int .i64 m, .string s, .slice b1 b2 b3, .slice f1 f2 f3, .slice l1 l2 l3]) (fun g => w.heap.size ≤ g) (H + hd + 2) res.2 (.agg #[.int .i64 k, .int .i64 m, .string s, .slice b1 b2 b3, .slice f1 f2 f3, .slice l1 l2 l3]) ∧ Below w.heap.size w (puts w2 (w.heap.size + 1 + 1) 0 [.int .i64 k, .int .i64 m, .string s, .slice b1 b2 b3, .slice f1 f2 f3, .slice l1 l2 l3])) :=
  ⟨(hv2.kept (puts_kept (fun g => W0.heap.size ≤ g) (by have := HB.out.size; omega) _ _) (fun g hg => by have := HB.out.size; omega)).up (by omega), puts_below HB2.out.below (by omega) _ _⟩
 obtain ⟨r0, r1, r2, r3, r4, r5⟩ := HB2.out.res.cells
 obtain ⟨q0, q1, q2, q3, q4, q5⟩ := HB2.out.res.thaw
 clear hv2 hb2 CP
 go_wp2_with fail
 exact bodyPost_ret (v := .tuple #[.agg #[.int .i64 k, .int .i64 m, .string s, .slice b1 b2 b3, .slice f1 f2 f3, .slice l1 l2 l3], .int .i64 res.1]) (by simp [results, Tryz.results94, go_sem, *]) rfl ⟨_, rfl, HEND.out.1, HEND.out.2⟩
theorem op_gte_any (H hd C : Nat) (a : Option Addr) (n c : Nat) (fs : List (Nat → Val → Expr.Out)) (Q : Nat → Prop) (d : Val) (dv : Value) (w : World) (hn : fs.length = n) (h2 : n = 2) (hC : H ≤ C) (hT : TermsIn w a H fs) (hd0 : VIn w Q (hd + 1) d dv) :
  Calls Tryz.prog 95 #[.agg #[.func (.func 95) #[] #[], .slice a n c], dv] w (EvPost w (H + hd + 2) (Expr.apply (C + hd) .gte (outsOf fs hd d))) := by
 obtain ⟨dk, dn, ds, da, df, dl, ba, bc, fa, fc, la, lc, rfl⟩ := hd0.shape
 obtain ⟨W0, hW0⟩ : ∃ W0, W0 = ((w.alloc (.cells #[(.func (.func 95) #[] #[]), .slice a n c] 126)).alloc (.cells #[.int .i64 dk, .int .i64 dn, .string ds, .slice da ba bc, .slice df fa fc, .slice dl la lc] 26)).alloc (.cells #[.int .i64 0, .int .i64 0, .string ⟨#[]⟩, .slice none 0 0, .slice none 0 0, .slice none 0 0] 26) := ⟨_, rfl⟩
 have HB := Lib.hid (CB.new w (.func (.func 95) #[] #[]) a n c (.int .i64 dk) (.int .i64 dn) (.string ds) (.slice da ba bc) (.slice df fa fc) (.slice dl la lc) W0 hW0)
 have HW0 := Lib.hid hW0
 have c0 : W0.cell? ⟨w.heap.size, 0, none⟩ = some (.func (.func 95) #[] #[]) := (cell_of_row W0 _ 0 _ _ _ HB.out.call).trans rfl
 have c1 := HB.out.c1
 obtain ⟨x0, x1, x2, x3, x4, x5⟩ := HB.out.doc.cells
 have CP := Lib.hid (comp_any H hd C 95 124 (fun p => decide (p ≥ 0)) notAhead_any (fun _ _ => rfl) a n c fs Q d _ W0 hn h2 hC (hT.keep HB.out.below) (VIn.keep HB.out.below hd0))
 obtain ⟨res, hres⟩ : ∃ z, z = Expr.apply (C + hd) .gte (outsOf fs hd d) := ⟨_, rfl⟩
 rw [← Expr.apply_gte, ← hres] at CP
 rw [← hres]
 clear hT hd0 hn h2 hC hres hW0
 go_enter Tryz.func95, Tryz.ntmps95
 go_upto_region 1 with fail
 rw [← HW0.out]
 go_wp2_with fail
 clear c0 c1 x0 x1 x2 x3 x4 x5
 refine CP.out.mono ?_
 rintro e w2 ⟨v2, rfl, hv2, hb2⟩
 obtain ⟨k, m, s, b1, f1, l1, b2, b3, f2, f3, l2, l3, rfl⟩ := hv2.shape
 have HB2 := Lib.hid (HB.out.keep hb2)
 have HEND : Hid (VIn (puts w2 (w.heap.size + 1 + 1) 0 [.int .i64 k, .int .i64 m, .string s, .slice b1 b2 b3, .slice f1 f2 f3, .slice l1 l2 l3]) (fun g => w.heap.size ≤ g) (H + hd + 2) res.2 (.agg #[.int .i64 k, .int .i64 m, .string s, .slice b1 b2 b3, .slice f1 f2 f3, .slice l1 l2 l3]) ∧ Below w.heap.size w (puts w2 (w.heap.size + 1 + 1) 0 [.int .i64 k, .int .i64 m, .string s, .slice b1 b2 b3, .slice f1 f2 f3, .slice l1 l2 l3])) :=
  ⟨(hv2.kept (puts_kept (fun g => W0.heap.size ≤ g) (by have := HB.out.size; omega) _ _) (fun g hg => by have := HB.out.size; omega)).up (by omega), puts_below HB2.out.below (by omega) _ _⟩
 obtain ⟨r0, r1, r2, r3, r4, r5⟩ := HB2.out.res.cells
 obtain ⟨q0, q1, q2, q3, q4, q5⟩ := HB2.out.res.thaw
 clear hv2 hb2 CP
 go_wp2_with fail
 exact bodyPost_ret (v := .tuple #[.agg #[.int .i64 k, .int .i64 m, .string s, .slice b1 b2 b3, .slice f1 f2 f3, .slice l1 l2 l3], .int .i64 res.1]) (by simp [results, Tryz.results95, go_sem, *]) rfl ⟨_, rfl, HEND.out.1, HEND.out.2⟩
theorem op_lt_any (H hd C : Nat) (a : Option Addr) (n c : Nat) (fs : List (Nat → Val → Expr.Out)) (Q : Nat → Prop) (d : Val) (dv : Value) (w : World) (hn : fs.length = n) (h2 : n = 2) (hC : H ≤ C) (hT : TermsIn w a H fs) (hd0 : VIn w Q (hd + 1) d dv) :
  Calls Tryz.prog 96 #[.agg #[.func (.func 96) #[] #[], .slice a n c], dv] w (EvPost w (H + hd + 2) (Expr.apply (C + hd) .lt_ (outsOf fs hd d))) := by
 obtain ⟨dk, dn, ds, da, df, dl, ba, bc, fa, fc, la, lc, rfl⟩ := hd0.shape
 obtain ⟨W0, hW0⟩ : ∃ W0, W0 = ((w.alloc (.cells #[(.func (.func 96) #[] #[]), .slice a n c] 126)).alloc (.cells #[.int .i64 dk, .int .i64 dn, .string ds, .slice da ba bc, .slice df fa fc, .slice dl la lc] 26)).alloc (.cells #[.int .i64 0, .int .i64 0, .string ⟨#[]⟩, .slice none 0 0, .slice none 0 0, .slice none 0 0] 26) := ⟨_, rfl⟩
 have HB := Lib.hid (CB.new w (.func (.func 96) #[] #[]) a n c (.int .i64 dk) (.int .i64 dn) (.string ds) (.slice da ba bc) (.slice df fa fc) (.slice dl la lc) W0 hW0)
 have HW0 := Lib.hid hW0
 have c0 : W0.cell? ⟨w.heap.size, 0, none⟩ = some (.func (.func 96) #[] #[]) := (cell_of_row W0 _ 0 _ _ _ HB.out.call).trans rfl
 have c1 := HB.out.c1
 obtain ⟨x0, x1, x2, x3, x4, x5⟩ := HB.out.doc.cells
 have CP := Lib.hid (comp_any H hd C 96 125 (fun p => decide (p < 0)) isAhead_any (fun _ _ => rfl) a n c fs Q d _ W0 hn h2 hC (hT.keep HB.out.below) (VIn.keep HB.out.below hd0))
 obtain ⟨res, hres⟩ : ∃ z, z = Expr.apply (C + hd) .lt_ (outsOf fs hd d) := ⟨_, rfl⟩
 rw [← Expr.apply_lt_, ← hres] at CP
 rw [← hres]
 clear hT hd0 hn h2 hC hres hW0
 go_enter Tryz.func96, Tryz.ntmps96
 go_upto_region 1 with fail
 rw [← HW0.out]
 go_wp2_with fail
 clear c0 c1 x0 x1 x2 x3 x4 x5
 refine CP.out.mono ?_
 rintro e w2 ⟨v2, rfl, hv2, hb2⟩
 obtain ⟨k, m, s, b1, f1, l1, b2, b3, f2, f3, l2, l3, rfl⟩ := hv2.shape
 have HB2 := Lib.hid (HB.out.keep hb2)
 have HEND : Hid (VIn (puts w2 (w.heap.size + 1 + 1) 0 [.int .i64 k, .int .i64 m, .string s, .slice b1 b2 b3, .slice f1 f2 f3, .slice l1 l2 l3]) (fun g => w.heap.size ≤ g) (H + hd + 2) res.2 (.agg #[.int .i64 k, .int .i64 m, .string s, .slice b1 b2 b3, .slice f1 f2 f3, .slice l1 l2 l3]) ∧ Below w.heap.size w (puts w2 (w.heap.size + 1 + 1) 0 [.int .i64 k, .int .i64 m, .string s, .slice b1 b2 b3, .slice f1 f2 f3, .slice l1 l2 l3])) :=
  ⟨(hv2.kept (puts_kept (fun g => W0.heap.size ≤ g) (by have := HB.out.size; omega) _ _) (fun g hg => by have := HB.out.size; omega)).up (by omega), puts_below HB2.out.below (by omega) _ _⟩
 obtain ⟨r0, r1, r2, r3, r4, r5⟩ := HB2.out.res.cells
 obtain ⟨q0, q1, q2, q3, q4, q5⟩ := HB2.out.res.thaw
 clear hv2 hb2 CP
 go_wp2_with fail
 exact bodyPost_ret (v := .tuple #[.agg #[.int .i64 k, .int .i64 m, .string s, .slice b1 b2 b3, .slice f1 f2 f3, .slice l1 l2 l3], .int .i64 res.1]) (by simp [results, Tryz.results96, go_sem, *]) rfl ⟨_, rfl, HEND.out.1, HEND.out.2⟩
theorem op_lte_any (H hd C : Nat) (a : Option Addr) (n c : Nat) (fs : List (Nat → Val → Expr.Out)) (Q : Nat → Prop) (d : Val) (dv : Value) (w : World) (hn : fs.length = n) (h2 : n = 2) (hC : H ≤ C) (hT : TermsIn w a H fs) (hd0 : VIn w Q (hd + 1) d dv) :
  Calls Tryz.prog 97 #[.agg #[.func (.func 97) #[] #[], .slice a n c], dv] w (EvPost w (H + hd + 2) (Expr.apply (C + hd) .lte (outsOf fs hd d))) := by
 obtain ⟨dk, dn, ds, da, df, dl, ba, bc, fa, fc, la, lc, rfl⟩ := hd0.shape
 obtain ⟨W0, hW0⟩ : ∃ W0, W0 = ((w.alloc (.cells #[(.func (.func 97) #[] #[]), .slice a n c] 126)).alloc (.cells #[.int .i64 dk, .int .i64 dn, .string ds, .slice da ba bc, .slice df fa fc, .slice dl la lc] 26)).alloc (.cells #[.int .i64 0, .int .i64 0, .string ⟨#[]⟩, .slice none 0 0, .slice none 0 0, .slice none 0 0] 26) := ⟨_, rfl⟩
 have HB := Lib.hid (CB.new w (.func (.func 97) #[] #[]) a n c (.int .i64 dk) (.int .i64 dn) (.string ds) (.slice da ba bc) (.slice df fa fc) (.slice dl la lc) W0 hW0)
 have HW0 := Lib.hid hW0
 have c0 : W0.cell? ⟨w.heap.size, 0, none⟩ = some (.func (.func 97) #[] #[]) := (cell_of_row W0 _ 0 _ _ _ HB.out.call).trans rfl
 have c1 := HB.out.c1
 obtain ⟨x0, x1, x2, x3, x4, x5⟩ := HB.out.doc.cells
 have CP := Lib.hid (comp_any H hd C 97 126 (fun p => decide (p ≤ 0)) notBehind_any (fun _ _ => rfl) a n c fs Q d _ W0 hn h2 hC (hT.keep HB.out.below) (VIn.keep HB.out.below hd0))
 obtain ⟨res, hres⟩ : ∃ z, z = Expr.apply (C + hd) .lte (outsOf fs hd d) := ⟨_, rfl⟩
 rw [← Expr.apply_lte, ← hres] at CP
 rw [← hres]
 clear hT hd0 hn h2 hC hres hW0
 go_enter Tryz.func97, Tryz.ntmps97
 go_upto_region 1 with fail
 rw [← HW0.out]
 go_wp2_with fail
 clear c0 c1 x0 x1 x2 x3 x4 x5
 refine CP.out.mono ?_
 rintro e w2 ⟨v2, rfl, hv2, hb2⟩
 obtain ⟨k, m, s, b1, f1, l1, b2, b3, f2, f3, l2, l3, rfl⟩ := hv2.shape
 have HB2 := Lib.hid (HB.out.keep hb2)
 have HEND : Hid (VIn (puts w2 (w.heap.size + 1 + 1) 0 [.int .i64 k, .int .i64 m, .string s, .slice b1 b2 b3, .slice f1 f2 f3, .slice l1 l2 l3]) (fun g => w.heap.size ≤ g) (H + hd + 2) res.2 (.agg #[.int .i64 k, .int .i64 m, .string s, .slice b1 b2 b3, .slice f1 f2 f3, .slice l1 l2 l3]) ∧ Below w.heap.size w (puts w2 (w.heap.size + 1 + 1) 0 [.int .i64 k, .int .i64 m, .string s, .slice b1 b2 b3, .slice f1 f2 f3, .slice l1 l2 l3])) :=
  ⟨(hv2.kept (puts_kept (fun g => W0.heap.size ≤ g) (by have := HB.out.size; omega) _ _) (fun g hg => by have := HB.out.size; omega)).up (by omega), puts_below HB2.out.below (by omega) _ _⟩
 obtain ⟨r0, r1, r2, r3, r4, r5⟩ := HB2.out.res.cells
 obtain ⟨q0, q1, q2, q3, q4, q5⟩ := HB2.out.res.thaw
 clear hv2 hb2 CP
 go_wp2_with fail
 exact bodyPost_ret (v := .tuple #[.agg #[.int .i64 k, .int .i64 m, .string s, .slice b1 b2 b3, .slice f1 f2 f3, .slice l1 l2 l3], .int .i64 res.1]) (by simp [results, Tryz.results97, go_sem, *]) rfl ⟨_, rfl, HEND.out.1, HEND.out.2⟩
theorem op_cmp_any (H hd C : Nat) (a : Option Addr) (n c : Nat) (fs : List (Nat → Val → Expr.Out)) (Q : Nat → Prop) (d : Val) (dv : Value) (w : World) (hn : fs.length = n) (h2 : n = 2) (hC : H ≤ C) (hT : TermsIn w a H fs) (hd0 : VIn w Q (hd + 1) d dv) :
  Calls Tryz.prog 98 #[.agg #[.func (.func 98) #[] #[], .slice a n c], dv] w (EvPost w (H + hd + 1) (Expr.apply (C + hd) .cmp (outsOf fs hd d))) := by
 obtain ⟨dk, dn, ds, da, df, dl, ba, bc, fa, fc, la, lc, rfl⟩ := hd0.shape
 obtain ⟨W0, hW0⟩ : ∃ W0, W0 = ((w.alloc (.cells #[(.func (.func 98) #[] #[]), .slice a n c] 126)).alloc (.cells #[.int .i64 dk, .int .i64 dn, .string ds, .slice da ba bc, .slice df fa fc, .slice dl la lc] 26)).alloc (.cells #[.int .i64 0, .int .i64 0, .string ⟨#[]⟩, .slice none 0 0, .slice none 0 0, .slice none 0 0] 26) := ⟨_, rfl⟩
 have HB := Lib.hid (CB.new w (.func (.func 98) #[] #[]) a n c (.int .i64 dk) (.int .i64 dn) (.string ds) (.slice da ba bc) (.slice df fa fc) (.slice dl la lc) W0 hW0)
 have HW0 := Lib.hid hW0
 have c0 : W0.cell? ⟨w.heap.size, 0, none⟩ = some (.func (.func 98) #[] #[]) := (cell_of_row W0 _ 0 _ _ _ HB.out.call).trans rfl
 have c1 := HB.out.c1
 obtain ⟨x0, x1, x2, x3, x4, x5⟩ := HB.out.doc.cells
 have CP := Lib.hid (place_any H hd C 98 a n c fs Q d _ W0 hn h2 hC (hT.keep HB.out.below) (VIn.keep HB.out.below hd0))
 obtain ⟨r, hr⟩ : ∃ r, r = Expr.allO (outsOf fs hd d) := ⟨_, rfl⟩
 have hall : ∀ f : List Val → Expr.Out, Expr.all (outsOf fs hd d) f = if r.1 = 0 then f r.2 else Expr.bad r.1 := fun f => by rw [hr]; rfl
 rw [← hr] at CP
 rw [Expr.apply_cmp, hall]
 obtain ⟨res, hres⟩ : ∃ z, z = (if r.1 = 0 then ((0, Expr.leafV 3 (Expr.place (C + hd) r.2)) : Expr.Out) else Expr.bad r.1) := ⟨_, rfl⟩
 rw [← hres]
 have HRES := Lib.hid hres
 have HLIM := Lib.hid (place_lim (C + hd) r.2)
 obtain ⟨p1, hp1⟩ : ∃ z, z = (PlaceR (C + hd) r).1 := ⟨_, rfl⟩
 obtain ⟨p2, hp2⟩ : ∃ z, z = (PlaceR (C + hd) r).2 := ⟨_, rfl⟩
 rw [← hp1, ← hp2] at CP
 have HP := Lib.hid (And.intro hp1 hp2)
 clear hT hd0 hn h2 hr hall hres hC hp1 hp2 hW0
 go_enter Tryz.func98, Tryz.ntmps98
 go_upto_region 1 with fail
 rw [← HW0.out]
 go_wp2_with fail
 clear c0 c1 x0 x1 x2 x3 x4 x5
 refine CP.out.mono ?_
 rintro e w2 ⟨rfl, hb2⟩
 have HB2 := Lib.hid (HB.out.keep hb2)
 clear hb2 CP
 obtain ⟨r0, r1, r2, r3, r4, r5⟩ := HB2.out.res.cells
 obtain ⟨q0, q1, q2, q3, q4, q5⟩ := HB2.out.res.thaw
 by_cases hz : r.1 = 0
 ·have hpr : p1 = Expr.place (C + hd) r.2 ∧ p2 = 0 := by
   obtain ⟨e1, e2⟩ := HP.out
   unfold PlaceR at e1 e2
   rw [if_pos hz] at e1 e2
   exact ⟨e1, e2⟩
  obtain ⟨hpe, rfl⟩ := hpr
  have hre : res = (0, Expr.leafV 3 p1) := by rw [HRES.out, if_pos hz, hpe]
  have HRE := Lib.hid hre
  have HL : Hid (-1 ≤ p1 ∧ p1 ≤ 1) := by rw [hpe]; exact HLIM.out
  have HEND := Lib.hid (below_six HB2.out.below (by omega : w.heap.size ≤ w.heap.size + 1 + 1) (.int .i64 3) (.int .i64 p1) (.string ⟨#[]⟩) (.slice none 0 0) (.slice none 0 0) (.slice none 0 0))
  clear hre hpe hz
  go_wp2_with fail
  exact bodyPost_ret (v := .tuple #[.agg #[.int .i64 3, .int .i64 p1, .string ⟨#[]⟩, .slice none 0 0, .slice none 0 0, .slice none 0 0], .int .i64 0]) (by simp [results, Tryz.results98, go_sem, *]) rfl ⟨_, by rw [HRE.out], by rw [HRE.out]; exact leafV_in _ _ 3 p1 (by omega) (by have := HL.out; omega) _, HEND.out⟩
 ·have hpr : p2 = r.1 := by
   obtain ⟨e1, e2⟩ := HP.out
   unfold PlaceR at e2
   rw [if_neg hz] at e2
   exact e2
  subst hpr
  have hz2 : (r.1 == 0) = false := by rw [beq_eq_false_iff_ne]; exact hz
  have hre : res = (r.1, Bson.zero) := by rw [HRES.out, if_neg hz]; rfl
  have HRE := Lib.hid hre
  have HEND := Lib.hid (below_six HB2.out.below (by omega : w.heap.size ≤ w.heap.size + 1 + 1) (.int .i64 0) (.int .i64 0) (.string ⟨#[]⟩) (.slice none 0 0) (.slice none 0 0) (.slice none 0 0))
  clear hre hz
  go_wp2_with fail
  exact bodyPost_ret (v := .tuple #[.agg #[.int .i64 0, .int .i64 0, .string ⟨#[]⟩, .slice none 0 0, .slice none 0 0, .slice none 0 0], .int .i64 r.1]) (by simp [results, Tryz.results98, go_sem, *]) rfl ⟨_, by rw [HRE.out], by rw [HRE.out]; exact (zero_in _ _).up (by omega), HEND.out⟩
end Go.Proofs.YtiajjgehnmkokaaGreatDoor
end
