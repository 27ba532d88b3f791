/- BsonGet. -/
import Derived.Test.YtdihelpimpkfoaaDoorMg20
set_option maxRecDepth 100000
section
namespace Go.Proofs.YtdihelpimpkfoaaDoor
open Go.RowKit
open Seal
open Bson (Val)
/-- The first field of that name, or what is Missing. -/
def getV (f : List (ByteArray × Val)) (nm : ByteArray) : Val := (f[place f nm]?.map (·.2)).getD Bson.zero
set_option maxRecDepth 100000 in
set_option maxHeartbeats 500000 in
theorem get5_any (Q : Nat → Prop) (k : Nat) (x : Val) (v : Value) (nm : ByteArray) (w : World) (hv : VIn w Q (k + 2) x v) (hk : x.kind = 6) (hfl : x.f.length ≤ 3000) :
    Calls Tryd.prog 6 #[v, .string nm] w (ValPost (fun g => w.heap.size ≤ g) w (k + 1) (getV x.f nm)) := by
  obtain ⟨xk, xn, xs, ba, fa, la, bn, bc, fn, fc, ln, lc, rfl, hxk, hxn, hxs, hbn, hfn, hln, hL, hF, -⟩ := hv.letters
  obtain rfl : xk = 6 := by rw [hxk, hk]
  have HX := Lib.hid (BoxV.new (.int .i64 6) (.int .i64 xn) (.string xs) (.slice ba bn bc) (.slice fa fn fc) (.slice la ln lc) w)
  have hF0 := hF.kept (Kept.of_below HX.out.2.2.1) (fun _ h => h) (fun _ _ h => VIn.keep HX.out.2.2.1 h)
  obtain ⟨W0, hW0⟩ : ∃ W0, W0 = ((w.alloc (Obj.cells #[.int .i64 6, .int .i64 xn, .string xs, .slice ba bn bc, .slice fa fn fc, .slice la ln lc] 28)).alloc (Obj.cells #[.int .i64 0, .int .i64 0, .string { data := #[] }, .slice none 0 0, .slice none 0 0, .slice none 0 0] 28)) := ⟨_, rfl⟩
  rw [← hW0] at HX hF0
  have HF := Lib.hid hF0
  have HN := Lib.hid hfn
  have CF := Lib.hid (find_any Q (k + 1) W0 fa fn fc x.f nm hfn.symm (by omega) hF0)
  have HS0 : Hid (w.heap.size + 2 ≤ W0.heap.size) := HX.out.2.2.2
  clear hv hk hxk hxn hxs hbn hfn hln hL hF hF0 hfl
  obtain ⟨y, hy⟩ : ∃ y, y = getV x.f nm := ⟨_, rfl⟩
  rw [← hy]
  obtain ⟨c0, c1, c2, c3, c4, c5⟩ := HX.out.cells
  go_enter Tryd.func6, Tryd.ntmps6
  go_wp2_with fail
  rw [← hW0]
  go_wp2_with fail
  refine CF.out.mono ?_
  rintro e w1 ⟨rfl, hb1⟩
  have HX1 := Lib.hid (HX.out.keep hb1)
  have HF1 := Lib.hid (HF.out.kept (Kept.of_below hb1) (fun _ h => h) (fun _ _ h => VIn.keep hb1 h))
  have HS1 := Lib.hid hb1.size
  clear CF hb1 c0 c1 c2 c3 c4 c5 HF hW0
  obtain ⟨c0, c1, c2, c3, c4, c5⟩ := HX1.out.cells
  obtain ⟨z0, z1, z2, z3, z4, z5, g0, g1, g2, g3, g4, g5⟩ := HX1.out.zeros
  by_cases hp : place x.f nm < x.f.length
  · have hpi : placeI x.f nm = (place x.f nm : Int) := by unfold placeI; rw [if_pos hp]
    rw [hpi]
    have HG : Hid (getV x.f nm = (x.f[place x.f nm]).2) := by show _ = _; unfold getV; rw [List.getElem?_eq_getElem hp]; rfl
    obtain ⟨i, hie⟩ : ∃ i, i = place x.f nm := ⟨_, rfl⟩
    have hG2 : getV x.f nm = (x.f[i]'(by rw [hie]; exact hp)).2 := by rw [HG.out]; congr 2; exact hie.symm
    rw [← hie]
    have hif : i < x.f.length := by rw [hie]; exact hp
    have hin : i < fn := by rw [HN.out]; exact hif
    obtain ⟨g, o, rfl, -, hall⟩ := HF1.out.resolve_left (fun e => by rw [e] at hif; cases hif)
    obtain ⟨hnm, -, v', hsix, hV⟩ := hall i hif
    obtain ⟨ka, na, sa, bba, ffa, lla, bl, bbc, fl, ffc, ll, llc, rfl⟩ := hV.shape
    have CP := Lib.hid (copy_any Q (k + 1) _ _ w1 hV)
    obtain ⟨s0, s1, s2, s3, s4, s5⟩ := hsix.cells
    rw [← hG2, ← hy] at CP
    clear hall hsix hV hnm hp hpi HG hG2 HF1 hie hy
    go_wp2_with fail
    clear s0 s1 s2 s3 s4 s5 c0 c1 c2 c3 c4 c5 z0 z1 z2 z3 z4 z5 g0 g1 g2 g3 g4 g5
    refine CP.out.mono ?_
    rintro e w2 ⟨v2, rfl, hv2, hb2⟩
    obtain ⟨kd, nd, sd, bd, fd, ld, bm, bz, fm, fz, lm, lz, rfl⟩ := hv2.shape
    have HX2 := Lib.hid (HX1.out.keep hb2)
    have hq := puts_kept (fun g => w1.heap.size ≤ g) (w := w2) (G := w.heap.size + 1) (by have := HS1.out; have := HS0.out; omega) 0 [.int .i64 kd, .int .i64 nd, .string sd, .slice bd bm bz, .slice fd fm fz, .slice ld lm lz]
    have HV9 : Hid (VIn (puts w2 (w.heap.size + 1) 0 [.int .i64 kd, .int .i64 nd, .string sd, .slice bd bm bz, .slice fd fm fz, .slice ld lm lz]) (fun g => w.heap.size ≤ g) (k + 1) y (.agg #[.int .i64 kd, .int .i64 nd, .string sd, .slice bd bm bz, .slice fd fm fz, .slice ld lm lz])) := hv2.kept hq (fun g hg => by have := HS1.out; have := HS0.out; omega)
    have HB9 := Lib.hid (puts_below HX2.out.2.2.1 (G := w.heap.size + 1) (by omega) [.int .i64 kd, .int .i64 nd, .string sd, .slice bd bm bz, .slice fd fm fz, .slice ld lm lz] 0)
    obtain ⟨z0, z1, z2, z3, z4, z5, g0, g1, g2, g3, g4, g5⟩ := HX2.out.zeros
    clear hv2 hb2 hq
    go_wp2_with fail
    exact bodyPost_ret (v := .agg #[.int .i64 kd, .int .i64 nd, .string sd, .slice bd bm bz, .slice fd fm fz, .slice ld lm lz]) (by simp [results, Tryd.results6, go_sem, z0, z1, z2, z3, z4, z5]) rfl ⟨_, rfl, HV9.out, HB9.out⟩
  · have hpi : placeI x.f nm = -1 := by unfold placeI; rw [if_neg hp]
    rw [hpi]
    have hG : getV x.f nm = Bson.zero := by unfold getV; rw [List.getElem?_eq_none (by omega)]; rfl
    have hy0 : y = Bson.zero := hy.trans hG
    have HB9 := Lib.hid (puts_below HX1.out.2.2.1 (G := w.heap.size + 1) (by omega) [.int .i64 0, .int .i64 0, .string { data := #[] }, .slice none 0 0, .slice none 0 0, .slice none 0 0] 0)
    have HV9 : Hid (VIn (puts w1 (w.heap.size + 1) 0 [.int .i64 0, .int .i64 0, .string { data := #[] }, .slice none 0 0, .slice none 0 0, .slice none 0 0]) (fun g => w.heap.size ≤ g) (k + 1) y (.agg #[.int .i64 0, .int .i64 0, .string { data := #[] }, .slice none 0 0, .slice none 0 0, .slice none 0 0])) := by rw [hy0]; exact (zero_in _ _).up (by omega)
    clear hpi hG hy0
    go_wp2_with fail
    exact bodyPost_ret (v := .agg #[.int .i64 0, .int .i64 0, .string { data := #[] }, .slice none 0 0, .slice none 0 0, .slice none 0 0]) (by simp [results, Tryd.results6, go_sem, z0, z1, z2, z3, z4, z5]) rfl ⟨_, rfl, HV9.out, HB9.out⟩
set_option maxRecDepth 100000 in
set_option maxHeartbeats 500000 in
theorem with5_zero (Q : Nat → Prop) (k : Nat) (x : Val) (v : Value) (nm : ByteArray) (w : World) (hv : VIn w Q (k + 2) x v) (hk : x.kind = 6) :
    Calls Tryd.prog 5 #[v, .string nm, .agg #[.int .i64 0, .int .i64 0, .string ⟨#[]⟩, .slice none 0 0, .slice none 0 0, .slice none 0 0]] w (ValPost (fun g => w.heap.size ≤ g) w (k + 2) (.mk x.kind x.n x.s x.b (x.f.filter fun p => !decide (p.1 = nm)) x.l)) := by
  have hv0 := hv
  obtain ⟨xk, xn, xs, ba, fa, la, bn, bc, fn, fc, ln, lc, rfl, hxk, hxn, hxs, hbn, hfn, hln, hL, hF, -⟩ := hv.letters
  obtain rfl : xk = 6 := by rw [hxk, hk]
  obtain ⟨W0, hW0⟩ : ∃ W0, W0 = (((w.alloc (Obj.cells #[.int .i64 6, .int .i64 xn, .string xs, .slice ba bn bc, .slice fa fn fc, .slice la ln lc] 28)).alloc (Obj.cells #[.int .i64 0, .int .i64 0, .string { data := #[] }, .slice none 0 0, .slice none 0 0, .slice none 0 0] 28)).alloc (Obj.cells #[.int .i64 0, .int .i64 0, .string { data := #[] }, .slice none 0 0, .slice none 0 0, .slice none 0 0] 28)) := ⟨_, rfl⟩
  obtain ⟨b3, hsz, k0, k1, k2⟩ := with_boxes w xn 0 0 xs { data := #[] } ba fa la none none none bn bc fn fc ln lc 0 0 0 0 0 0 W0 hW0
  have HB0 := Lib.hid b3
  have HSZ := Lib.hid hsz
  have K2 := Lib.hid k2
  have K0 := Lib.hid k0; have K1 := Lib.hid k1
  have CW := Lib.hid (without_any Q (k + 1) x _ nm W0 (VIn.keep b3 hv0) hk)
  obtain ⟨y, hy⟩ : ∃ y, y = Bson.Val.mk x.kind x.n x.s x.b (x.f.filter fun p => !decide (p.1 = nm)) x.l := ⟨_, rfl⟩
  rw [← hy] at CW ⊢
  clear hv hv0 hk hxk hxn hxs hbn hfn hln hL hF b3 hsz k0 k1 k2 hy
  go_enter Tryd.func5, Tryd.ntmps5
  go_wp2_with fail
  rw [← hW0]
  have y0 := K1.out.cells.1
  obtain ⟨q0, q1, q2, q3, q4, q5⟩ := K0.out.cells
  go_wp2_with fail
  clear q0 q1 q2 q3 q4 q5 y0 hW0
  refine CW.out.mono ?_
  rintro e w2 ⟨v2, rfl, hv2, hb2⟩
  obtain ⟨kd, nd, sd, bd, fd, ld, bm, bz, fm, fz, lm, lz, rfl⟩ := hv2.shape
  have KR := Lib.hid (K2.out.keep hb2)
  have hq := puts_kept (fun g => W0.heap.size ≤ g) (w := w2) (G := w.heap.size + 1 + 1) (by have := HSZ.out; omega) 0 [.int .i64 kd, .int .i64 nd, .string sd, .slice bd bm bz, .slice fd fm fz, .slice ld lm lz]
  have HV9 : Hid (VIn (puts w2 (w.heap.size + 1 + 1) 0 [.int .i64 kd, .int .i64 nd, .string sd, .slice bd bm bz, .slice fd fm fz, .slice ld lm lz]) (fun g => w.heap.size ≤ g) (k + 2) y (.agg #[.int .i64 kd, .int .i64 nd, .string sd, .slice bd bm bz, .slice fd fm fz, .slice ld lm lz])) := hv2.kept hq (fun g hg => by have := HSZ.out; omega)
  have HB9 := Lib.hid (puts_below (HB0.out.trans (hb2.mono HB0.out.size)) (G := w.heap.size + 1 + 1) (by omega) [.int .i64 kd, .int .i64 nd, .string sd, .slice bd bm bz, .slice fd fm fz, .slice ld lm lz] 0)
  obtain ⟨z0, z1, z2, z3, z4, z5⟩ := KR.out.cells
  obtain ⟨g0, g1, g2, g3, g4, g5⟩ := KR.out.thaw
  clear hv2 hb2 hq
  go_wp2_with fail
  exact bodyPost_ret (v := .agg #[.int .i64 kd, .int .i64 nd, .string sd, .slice bd bm bz, .slice fd fm fz, .slice ld lm lz]) (by simp [results, Tryd.results5, go_sem, z0, z1, z2, z3, z4, z5]) rfl ⟨_, rfl, HV9.out, HB9.out⟩
end Go.Proofs.YtdihelpimpkfoaaDoor
end
