/- PathReachTop, RefReach. -/
import Derived.Test.YtdgncpoephdboaaDoorMg18
import Derived.Test.YtdgncpoephdboaaDoorMg15
set_option maxRecDepth 100000
section
namespace Go.Proofs.YtdgncpoephdboaaDoor
open Go.RowKit
open Seal
open Bson (Val)
theorem reach_any : ∀ (n h : Nat) (p : List ByteArray) (pa : Option Addr) (pn pc : Nat), p.length + h ≤ n → p.length = pn → pn ≤ pc → ReachAt (h + 1) p pa pn pc (fun x => Bson.reach n x p)
  | n, h, [], pa, pn, pc, _, hpn, _ => by
    obtain rfl : 0 = pn := hpn
    exact reach_empty h pa pc n
  | 0, h, a :: r, pa, pn, pc, hle, _, _ => by simp at hle
  | m + 1, h, a :: r, pa, pn, pc, hle, hpn, hpc => by
    intro Q x v w hv hp
    have hp2 := hp
    obtain ⟨g, o, rfl, hcell⟩ := hp.resolve_left (by simp)
    simp only [List.length_cons] at hle hpn
    by_cases h6 : x.kind = 6
    · by_cases hc1 : pc = 1
      · subst hc1
        obtain rfl : pn = 1 := by omega
        refine reach_last h a r g o m Q x v w (by simpa using hpn) h6 hv hcell ?_
        cases r with
        | nil => exact reach_empty h _ 0 m
        | cons b t => simp at hpn
      · exact reach_doc h a r g o pn pc m Q x v w (by simpa using hpn) hpc hc1 h6 hv hcell (reach_any m h r _ (pn - 1) (pc - 1) (by omega) (by omega) (by omega))
    · by_cases h7 : x.kind = 7
      · refine reach_items h (a :: r) _ pn pc m ?_ Q x v w (by simp) (by simpa using hpn) h7 hv hp2
        cases h with
        | zero => intro Q x v w hv hp; exact hv.elim
        | succ h => exact reach_any m h (a :: r) _ pn pc (by simp; omega) (by simpa using hpn) hpc
      · exact reach_else h (a :: r) _ pn pc (m + 1) Q x v w (by simp) (by simpa using hpn) h6 h7 hv
set_option maxRecDepth 100000 in
set_option maxHeartbeats 1000000 in
theorem Reach_any (n h : Nat) (p : List ByteArray) (pa : Option Addr) (pn pc : Nat) (hle : p.length + h ≤ n) (hpn : p.length = pn) (hpc : pn ≤ pc) (Q : Nat → Prop) (x : Val) (v : Value) (w : World) (hv : VIn w Q (h + 1) x v) (hp : StrsIn w pa p) :
    Calls Tryd.prog 10 #[v, .slice pa pn pc] w (ValPost (fun g => w.heap.size ≤ g) w (h + 1) (Bson.reach n x p)) := by
  have IH := Lib.hid (reach_any n h p pa pn pc hle hpn hpc)
  obtain ⟨xk, xn, xs, ba, fa, la, bn, bc, fn, fc, ln, lc, rfl, hrest⟩ := hv.letters
  clear hrest
  have HX := Lib.hid (BoxV.new (.int .i64 xk) (.int .i64 xn) (.string xs) (.slice ba bn bc) (.slice fa fn fc) (.slice la ln lc) w)
  have HV := Lib.hid (VIn.keep HX.out.2.2.1 hv)
  have HP := Lib.hid (hp.keep HX.out.2.2.1)
  clear hv hp hle hpn hpc
  obtain ⟨c0, c1, c2, c3, c4, c5⟩ := HX.out.cells
  generalize hW0 : (w.alloc (.cells #[.int .i64 xk, .int .i64 xn, .string xs, .slice ba bn bc, .slice fa fn fc, .slice la ln lc] 27)).alloc (.cells #[.int .i64 0, .int .i64 0, .string ⟨#[]⟩, .slice none 0 0, .slice none 0 0, .slice none 0 0] 27) = W0 at *
  go_enter Tryd.func10, Tryd.ntmps10
  go_wp2_with fail
  refine (IH.out _ _ _ _ HV.out HP.out).mono ?_
  rintro e w1 ⟨v1, rfl, hv1, hb1⟩
  have HX1 := Lib.hid (HX.out.keep hb1)
  have CP := Lib.hid (copy_any _ _ _ _ w1 hv1)
  have HS1 := Lib.hid hb1.size
  have HS0 : Hid (w.heap.size + 2 ≤ W0.heap.size) := HX.out.2.2.2
  clear hv1 hb1 c0 c1 c2 c3 c4 c5 hW0
  go_wp2_with fail
  refine CP.out.mono ?_
  rintro e w2 ⟨v2, rfl, hv2, hb2⟩
  obtain ⟨kd, nd, sd, bd, fd, ld, bm, bz, fm, fz, lm, lz, rfl⟩ := hv2.shape
  have HX2 := Lib.hid (HX1.out.keep hb2)
  have hq := puts_kept (fun g => w1.heap.size ≤ g) (w := w2) (G := w.heap.size + 1) (by have := HS1.out; have := HS0.out; omega) 0 [.int .i64 kd, .int .i64 nd, .string sd, .slice bd bm bz, .slice fd fm fz, .slice ld lm lz]
  have HV9 : Hid (VIn (puts w2 (w.heap.size + 1) 0 [.int .i64 kd, .int .i64 nd, .string sd, .slice bd bm bz, .slice fd fm fz, .slice ld lm lz]) (fun g => w.heap.size ≤ g) (h + 1) (Bson.reach n x p) (.agg #[.int .i64 kd, .int .i64 nd, .string sd, .slice bd bm bz, .slice fd fm fz, .slice ld lm lz])) := hv2.kept hq (fun g hg => by have := HS1.out; have := HS0.out; omega)
  have HB9 := Lib.hid (puts_below HX2.out.2.2.1 (G := w.heap.size + 1) (by omega) [.int .i64 kd, .int .i64 nd, .string sd, .slice bd bm bz, .slice fd fm fz, .slice ld lm lz] 0)
  obtain ⟨z0, z1, z2, z3, z4, z5, g0, g1, g2, g3, g4, g5⟩ := HX2.out.zeros
  clear hv2 hb2 hq
  go_wp2_with fail
  exact bodyPost_ret (v := .agg #[.int .i64 kd, .int .i64 nd, .string sd, .slice bd bm bz, .slice fd fm fz, .slice ld lm lz]) (by simp [results, Tryd.results10, go_sem, z0, z1, z2, z3, z4, z5]) rfl ⟨_, rfl, HV9.out, HB9.out⟩
end Go.Proofs.YtdgncpoephdboaaDoor
end
section
namespace Go.Proofs.YtdgncpoephdboaaDoor
open Go.RowKit
open Seal
open Bson (Val)
/-- Reach, of values at most so high, along these names. -/
def RReachAt (h : Nat) (p : List ByteArray) (pa : Option Addr) (pn pc : Nat) (fn : Val → Val) : Prop :=
  ∀ (Q : Nat → Prop) (x : Val) (v : Value) (w : World), VIn w Q h x v → StrsIn w pa p → Calls Tryd.prog 14 #[v, .slice pa pn pc] w (ValPost (fun g => Q g ∨ w.heap.size ≤ g) w h (fn x))
theorem refField_doc (Q : Nat → Prop) (h : Nat) (x : Val) (v : Value) (nm : ByteArray) (w : World) (hv : VIn w Q (h + 1) x v) (h6 : x.kind = 6) :
    Calls Tryd.prog 13 #[v, .string nm] w (ValPost Q w (h + 1) (Bson.fieldIn x.f nm)) := by
  have := refField_any Q h x v nm w hv
  unfold Bson.fieldOf at this
  rwa [if_pos h6] at this
set_option maxRecDepth 100000 in
set_option maxHeartbeats 1000000 in
theorem rreach_empty (h : Nat) (pa : Option Addr) (pc m : Nat) : RReachAt (h + 1) [] pa 0 pc (fun x => Bson.reach m x []) := by
  intro Q x v w hv hp
  obtain ⟨xk, xn, xs, ba, fa, la, bn, bc, fn, fc, ln, lc, rfl, hxk, hxn, hxs, hbn, hfn, hln, hL, hF, hI⟩ := hv.letters
  have HV := Lib.hid hv
  clear hv hxk hxn hxs hbn hfn hln hL hF hI hp
  have HX := Lib.hid (BoxV.new (.int .i64 xk) (.int .i64 xn) (.string xs) (.slice ba bn bc) (.slice fa fn fc) (.slice la ln lc) w)
  have HV9 := Lib.hid (vin_reach_nil HV.out HX.out [.int .i64 xk, .int .i64 xn, .string xs, .slice ba bn bc, .slice fa fn fc, .slice la ln lc] m)
  have HB9 := Lib.hid (puts_below HX.out.2.2.1 (G := w.heap.size + 1) (by omega) [.int .i64 xk, .int .i64 xn, .string xs, .slice ba bn bc, .slice fa fn fc, .slice la ln lc] 0)
  obtain ⟨z0, z1, z2, z3, z4, z5, g0, g1, g2, g3, g4, g5⟩ := HX.out.zeros
  obtain ⟨c0, c1, c2, c3, c4, c5⟩ := HX.out.cells
  generalize hW0 : ((w.alloc (.cells #[.int .i64 xk, .int .i64 xn, .string xs, .slice ba bn bc, .slice fa fn fc, .slice la ln lc] 27)).alloc (.cells #[.int .i64 0, .int .i64 0, .string ⟨#[]⟩, .slice none 0 0, .slice none 0 0, .slice none 0 0] 27)) = W0 at *
  go_enter Tryd.func14, Tryd.ntmps14
  go_wp2_with fail
  exact bodyPost_ret (v := .agg #[.int .i64 xk, .int .i64 xn, .string xs, .slice ba bn bc, .slice fa fn fc, .slice la ln lc]) (by simp [results, Tryd.results14, go_sem, z0, z1, z2, z3, z4, z5]) rfl ⟨_, rfl, HV9.out, HB9.out⟩
set_option maxRecDepth 100000 in
set_option maxHeartbeats 1000000 in
/-- Names are left, and the value is neither Doc nor List. -/
theorem rreach_else (h : Nat) (p : List ByteArray) (pa : Option Addr) (pn pc m : Nat) (Q : Nat → Prop) (x : Val) (v : Value) (w : World) (hp0 : p ≠ []) (hpn : p.length = pn) (h6 : x.kind ≠ 6) (h7 : x.kind ≠ 7) (hv : VIn w Q (h + 1) x v) :
    Calls Tryd.prog 14 #[v, .slice pa pn pc] w (ValPost (fun g => Q g ∨ w.heap.size ≤ g) w (h + 1) (Bson.reach m x p)) := by
  obtain ⟨xk, xn, xs, ba, fa, la, bn, bc, fn, fc, ln, lc, rfl, hxk, hxn, hxs, hbn, hfn, hln, hL, hF, hI⟩ := hv.letters
  have hpos : 0 < pn := by rw [← hpn]; exact List.length_pos_iff.2 hp0
  have hpe : ((pn : Int) == 0) = false := by simp; omega
  have k6 : (xk == 6) = false := by rw [hxk]; simpa using h6
  have k7 : (xk == 7) = false := by rw [hxk]; simpa using h7
  have hres : Bson.reach m x p = Bson.zero := by
    cases p with
    | nil => exact absurd rfl hp0
    | cons a r => exact Bson.reach_other m x a r h6 h7
  rw [hres]
  clear hv hxk hxn hxs hbn hfn hln hL hF hI hres h6 h7 hpn hp0
  have HX := Lib.hid (BoxV.new (.int .i64 xk) (.int .i64 xn) (.string xs) (.slice ba bn bc) (.slice fa fn fc) (.slice la ln lc) w)
  have HB9 := Lib.hid (puts_below HX.out.2.2.1 (G := w.heap.size + 1) (by omega) [.int .i64 0, .int .i64 0, .string ⟨#[]⟩, .slice none 0 0, .slice none 0 0, .slice none 0 0] 0)
  obtain ⟨z0, z1, z2, z3, z4, z5, g0, g1, g2, g3, g4, g5⟩ := HX.out.zeros
  obtain ⟨c0, c1, c2, c3, c4, c5⟩ := HX.out.cells
  generalize hW0 : ((w.alloc (.cells #[.int .i64 xk, .int .i64 xn, .string xs, .slice ba bn bc, .slice fa fn fc, .slice la ln lc] 27)).alloc (.cells #[.int .i64 0, .int .i64 0, .string ⟨#[]⟩, .slice none 0 0, .slice none 0 0, .slice none 0 0] 27)) = W0 at *
  go_enter Tryd.func14, Tryd.ntmps14
  go_wp2_with fail
  exact bodyPost_ret (v := .agg #[.int .i64 0, .int .i64 0, .string ⟨#[]⟩, .slice none 0 0, .slice none 0 0, .slice none 0 0]) (by simp [results, Tryd.results14, go_sem, z0, z1, z2, z3, z4, z5]) rfl ⟨_, rfl, (zero_in _ _).up (by omega), HB9.out⟩
set_option maxRecDepth 100000 in
set_option maxHeartbeats 1000000 in
/-- Names are left, and the value is a Doc. -/
theorem rreach_doc (h : Nat) (a : ByteArray) (r : List ByteArray) (g o : Nat) (pn pc m : Nat) (Q : Nat → Prop) (x : Val) (v : Value) (w : World) (hpn : (a :: r).length = pn) (hpc : pn ≤ pc) (hc1 : ¬ pc = 1) (h6 : x.kind = 6) (hv : VIn w Q (h + 1) x v)
    (hp : ∀ i (hi : i < (a :: r).length), w.cell? ⟨g, o + i, none⟩ = some (.string (a :: r)[i])) (IH0 : RReachAt (h + 1) r (some ⟨g, o + 1, none⟩) (pn - 1) (pc - 1) (fun y => Bson.reach m y r)) :
    Calls Tryd.prog 14 #[v, .slice (some ⟨g, o, none⟩) pn pc] w (ValPost (fun g => Q g ∨ w.heap.size ≤ g) w (h + 1) (Bson.reach (m + 1) x (a :: r))) := by
  have hv2 := hv.lt
  obtain ⟨xk, xn, xs, ba, fa, la, bn, bc, fn, fc, ln, lc, rfl, hxk, hxn, hxs, hbn, hfn, hln, hL, hF, hI⟩ := hv2.letters
  have hpos : 0 < pn := by rw [← hpn]; simp
  have hpe : ((pn : Int) == 0) = false := by simp; omega
  obtain rfl : xk = 6 := by rw [hxk, h6]
  have hres : Bson.reach (m + 1) x (a :: r) = Bson.reach m (Bson.fieldIn x.f a) r := Bson.reach_doc m x a r h6
  rw [hres]
  have HX := Lib.hid (BoxV.new (.int .i64 6) (.int .i64 xn) (.string xs) (.slice ba bn bc) (.slice fa fn fc) (.slice la ln lc) w)
  have hp0 : w.cell? ⟨g, o, none⟩ = some (.string a) := by have := hp 0 (by simp); rw [Nat.add_zero] at this; exact this
  have HPR : Hid (StrsIn w (some ⟨g, o + 1, none⟩) r) := .inr ⟨g, o + 1, rfl, fun i hi => by have := hp (i + 1) (by simpa using hi); rw [show o + (i + 1) = o + 1 + i by omega] at this; exact this⟩
  generalize hW0 : ((w.alloc (.cells #[.int .i64 6, .int .i64 xn, .string xs, .slice ba bn bc, .slice fa fn fc, .slice la ln lc] 27)).alloc (.cells #[.int .i64 0, .int .i64 0, .string ⟨#[]⟩, .slice none 0 0, .slice none 0 0, .slice none 0 0] 27)) = W0 at *
  have HVW := Lib.hid (VIn.keep HX.out.2.2.1 hv2)
  have hf : W0.cell? ⟨w.heap.size, 0, none⟩ = some (.int .i64 6) ∧ W0.cell? ⟨w.heap.size, 1, none⟩ = some (.int .i64 xn) ∧ W0.cell? ⟨w.heap.size, 2, none⟩ = some (.string xs) ∧ W0.cell? ⟨w.heap.size, 3, none⟩ = some (.slice ba bn bc) ∧ W0.cell? ⟨w.heap.size, 4, none⟩ = some (.slice fa fn fc) ∧ W0.cell? ⟨w.heap.size, 5, none⟩ = some (.slice la ln lc) ∧ W0.cell? ⟨g, o, none⟩ = some (.string a) := by
    obtain ⟨c0, c1, c2, c3, c4, c5⟩ := HX.out.cells
    exact ⟨c0, c1, c2, c3, c4, c5, cell_keep HX.out.2.2.1 hp0⟩
  have HF0 := Lib.hid hf
  have HG := Lib.hid (World.block_lt_of_cell? w _ hp0)
  have IH := Lib.hid IH0
  have H6 := Lib.hid h6
  have hpl : r.length + 1 = pn := by simpa using hpn
  have b1 : (1 : Int) ≤ (pn : Int) := by omega
  have b2 : (pn : Int) ≤ (pc : Int) := by omega
  clear hv hv2 hxk hxn hxs hbn hfn hln hL hF hI hres h6 hpn hp hp0 IH0
  go_enter Tryd.func14, Tryd.ntmps14
  go_wp2_with fail
  clear hW0
  go_region_held3 (fun W => W.cell? ⟨w.heap.size, 0, none⟩ = some (.int .i64 6) ∧ W.cell? ⟨w.heap.size, 1, none⟩ = some (.int .i64 xn) ∧ W.cell? ⟨w.heap.size, 2, none⟩ = some (.string xs) ∧ W.cell? ⟨w.heap.size, 3, none⟩ = some (.slice ba bn bc) ∧ W.cell? ⟨w.heap.size, 4, none⟩ = some (.slice fa fn fc) ∧ W.cell? ⟨w.heap.size, 5, none⟩ = some (.slice la ln lc) ∧ W.cell? ⟨g, o, none⟩ = some (.string a))
    (first | with_reducible exact hf | with_reducible exact hf2 | with_reducible exact hf3 | with_reducible exact hf4 | go_keep)
    ((first
      | (go_at_call 13; refine (refField_doc _ h x _ a W0.drew (VIn.keep ((Below.refl _ W0).drew) HVW.out) H6.out).mono ?_; rintro e w1 ⟨v1, rfl, hv1, hb1⟩; have HV1 := Lib.hid hv1; have HB1 : Hid (Below W0.heap.size W0 w1) := (Below.refl _ W0).drew.trans hb1; have HX1 := Lib.hid (HX.out.keep HB1.out); have hf2 : w1.cell? ⟨w.heap.size, 0, none⟩ = some (.int .i64 6) ∧ w1.cell? ⟨w.heap.size, 1, none⟩ = some (.int .i64 xn) ∧ w1.cell? ⟨w.heap.size, 2, none⟩ = some (.string xs) ∧ w1.cell? ⟨w.heap.size, 3, none⟩ = some (.slice ba bn bc) ∧ w1.cell? ⟨w.heap.size, 4, none⟩ = some (.slice fa fn fc) ∧ w1.cell? ⟨w.heap.size, 5, none⟩ = some (.slice la ln lc) ∧ w1.cell? ⟨g, o, none⟩ = some (.string a) := ⟨cell_keep HB1.out HF0.out.1, cell_keep HB1.out HF0.out.2.1, cell_keep HB1.out HF0.out.2.2.1, cell_keep HB1.out HF0.out.2.2.2.1, cell_keep HB1.out HF0.out.2.2.2.2.1, cell_keep HB1.out HF0.out.2.2.2.2.2.1, cell_keep HB1.out HF0.out.2.2.2.2.2.2⟩; have HF1 := Lib.hid hf2; clear hv1 hb1)
      | (go_at_call 14; refine (IH.out _ _ _ _ HV1.out ((HPR.out.keep HX.out.2.2.1).keep HB1.out)).mono ?_; rintro e w3 ⟨v3, rfl, hv3, hb3⟩; obtain ⟨kd, nd, sd, bd, fd, ld, bm, bz, fm, fz, lm, lz, rfl⟩ := hv3.shape; have HV3 := Lib.hid hv3; have HB3 : Hid (Below w1.heap.size w1 w3) := hb3; have HX3 := Lib.hid (HX1.out.keep HB3.out); obtain ⟨z0, z1, z2, z3, z4, z5, g0, g1, g2, g3, g4, g5⟩ := HX3.out.zeros; have hf3 : w3.cell? ⟨w.heap.size, 0, none⟩ = some (.int .i64 6) ∧ w3.cell? ⟨w.heap.size, 1, none⟩ = some (.int .i64 xn) ∧ w3.cell? ⟨w.heap.size, 2, none⟩ = some (.string xs) ∧ w3.cell? ⟨w.heap.size, 3, none⟩ = some (.slice ba bn bc) ∧ w3.cell? ⟨w.heap.size, 4, none⟩ = some (.slice fa fn fc) ∧ w3.cell? ⟨w.heap.size, 5, none⟩ = some (.slice la ln lc) ∧ w3.cell? ⟨g, o, none⟩ = some (.string a) := ⟨cell_keep HB3.out HF1.out.1, cell_keep HB3.out HF1.out.2.1, cell_keep HB3.out HF1.out.2.2.1, cell_keep HB3.out HF1.out.2.2.2.1, cell_keep HB3.out HF1.out.2.2.2.2.1, cell_keep HB3.out HF1.out.2.2.2.2.2.1, cell_keep HB3.out HF1.out.2.2.2.2.2.2⟩; have hf4 : ((((((w3.setCell ⟨w.heap.size + 1, 0, none⟩ (.int .i64 kd)).setCell ⟨w.heap.size + 1, 1, none⟩ (.int .i64 nd)).setCell ⟨w.heap.size + 1, 2, none⟩ (.string sd)).setCell ⟨w.heap.size + 1, 3, none⟩ (.slice bd bm bz)).setCell ⟨w.heap.size + 1, 4, none⟩ (.slice fd fm fz)).setCell ⟨w.heap.size + 1, 5, none⟩ (.slice ld lm lz)).cell? ⟨w.heap.size, 0, none⟩ = some (.int .i64 6) ∧ ((((((w3.setCell ⟨w.heap.size + 1, 0, none⟩ (.int .i64 kd)).setCell ⟨w.heap.size + 1, 1, none⟩ (.int .i64 nd)).setCell ⟨w.heap.size + 1, 2, none⟩ (.string sd)).setCell ⟨w.heap.size + 1, 3, none⟩ (.slice bd bm bz)).setCell ⟨w.heap.size + 1, 4, none⟩ (.slice fd fm fz)).setCell ⟨w.heap.size + 1, 5, none⟩ (.slice ld lm lz)).cell? ⟨w.heap.size, 1, none⟩ = some (.int .i64 xn) ∧ ((((((w3.setCell ⟨w.heap.size + 1, 0, none⟩ (.int .i64 kd)).setCell ⟨w.heap.size + 1, 1, none⟩ (.int .i64 nd)).setCell ⟨w.heap.size + 1, 2, none⟩ (.string sd)).setCell ⟨w.heap.size + 1, 3, none⟩ (.slice bd bm bz)).setCell ⟨w.heap.size + 1, 4, none⟩ (.slice fd fm fz)).setCell ⟨w.heap.size + 1, 5, none⟩ (.slice ld lm lz)).cell? ⟨w.heap.size, 2, none⟩ = some (.string xs) ∧ ((((((w3.setCell ⟨w.heap.size + 1, 0, none⟩ (.int .i64 kd)).setCell ⟨w.heap.size + 1, 1, none⟩ (.int .i64 nd)).setCell ⟨w.heap.size + 1, 2, none⟩ (.string sd)).setCell ⟨w.heap.size + 1, 3, none⟩ (.slice bd bm bz)).setCell ⟨w.heap.size + 1, 4, none⟩ (.slice fd fm fz)).setCell ⟨w.heap.size + 1, 5, none⟩ (.slice ld lm lz)).cell? ⟨w.heap.size, 3, none⟩ = some (.slice ba bn bc) ∧ ((((((w3.setCell ⟨w.heap.size + 1, 0, none⟩ (.int .i64 kd)).setCell ⟨w.heap.size + 1, 1, none⟩ (.int .i64 nd)).setCell ⟨w.heap.size + 1, 2, none⟩ (.string sd)).setCell ⟨w.heap.size + 1, 3, none⟩ (.slice bd bm bz)).setCell ⟨w.heap.size + 1, 4, none⟩ (.slice fd fm fz)).setCell ⟨w.heap.size + 1, 5, none⟩ (.slice ld lm lz)).cell? ⟨w.heap.size, 4, none⟩ = some (.slice fa fn fc) ∧ ((((((w3.setCell ⟨w.heap.size + 1, 0, none⟩ (.int .i64 kd)).setCell ⟨w.heap.size + 1, 1, none⟩ (.int .i64 nd)).setCell ⟨w.heap.size + 1, 2, none⟩ (.string sd)).setCell ⟨w.heap.size + 1, 3, none⟩ (.slice bd bm bz)).setCell ⟨w.heap.size + 1, 4, none⟩ (.slice fd fm fz)).setCell ⟨w.heap.size + 1, 5, none⟩ (.slice ld lm lz)).cell? ⟨w.heap.size, 5, none⟩ = some (.slice la ln lc) ∧ ((((((w3.setCell ⟨w.heap.size + 1, 0, none⟩ (.int .i64 kd)).setCell ⟨w.heap.size + 1, 1, none⟩ (.int .i64 nd)).setCell ⟨w.heap.size + 1, 2, none⟩ (.string sd)).setCell ⟨w.heap.size + 1, 3, none⟩ (.slice bd bm bz)).setCell ⟨w.heap.size + 1, 4, none⟩ (.slice fd fm fz)).setCell ⟨w.heap.size + 1, 5, none⟩ (.slice ld lm lz)).cell? ⟨g, o, none⟩ = some (.string a) := after_puts hf3 HG.out [.int .i64 kd, .int .i64 nd, .string sd, .slice bd bm bz, .slice fd fm fz, .slice ld lm lz]; clear hv3 hb3)))
  have hsz1 : W0.heap.size ≤ w1.heap.size := HB1.out.size
  have hsz0 : w.heap.size + 2 ≤ W0.heap.size := HX.out.2.2.2
  have hq := puts_kept (fun g => (Q g ∧ g < w.heap.size) ∨ w1.heap.size ≤ g) (w := w3) (G := w.heap.size + 1) (by rintro (⟨_, hg⟩ | hg) <;> omega) 0 [.int .i64 kd, .int .i64 nd, .string sd, .slice bd bm bz, .slice fd fm fz, .slice ld lm lz]
  have HV9 : Hid (VIn (puts w3 (w.heap.size + 1) 0 [.int .i64 kd, .int .i64 nd, .string sd, .slice bd bm bz, .slice fd fm fz, .slice ld lm lz]) (fun g => Q g ∨ w.heap.size ≤ g) (h + 1) (Bson.reach m (Bson.fieldIn x.f a) r) (.agg #[.int .i64 kd, .int .i64 nd, .string sd, .slice bd bm bz, .slice fd fm fz, .slice ld lm lz])) := HV3.out.kept hq (fun g hg => by
    rcases hg with hg | hg
    · exact .inl hg.1
    · exact .inr (by omega))
  have HB9 := Lib.hid (puts_below HX3.out.2.2.1 (G := w.heap.size + 1) (by omega) [.int .i64 kd, .int .i64 nd, .string sd, .slice bd bm bz, .slice fd fm fz, .slice ld lm lz] 0)
  clear hf hf2 hf3 hf4 hq
  go_wp2_with fail
  exact bodyPost_ret (v := .agg #[.int .i64 kd, .int .i64 nd, .string sd, .slice bd bm bz, .slice fd fm fz, .slice ld lm lz]) (by simp [results, Tryd.results14, go_sem, z0, z1, z2, z3, z4, z5]) rfl ⟨_, rfl, HV9.out, HB9.out⟩
set_option maxRecDepth 100000 in
set_option maxHeartbeats 1000000 in
/-- Names are left, and the value is a Doc (the row of names is at its capacity). -/
theorem rreach_last (h : Nat) (a : ByteArray) (r : List ByteArray) (g o : Nat) (m : Nat) (Q : Nat → Prop) (x : Val) (v : Value) (w : World) (hpn : (a :: r).length = 1) (h6 : x.kind = 6) (hv : VIn w Q (h + 1) x v)
    (hp : ∀ i (hi : i < (a :: r).length), w.cell? ⟨g, o + i, none⟩ = some (.string (a :: r)[i])) (IH0 : RReachAt (h + 1) r (some ⟨g, o, none⟩) 0 0 (fun y => Bson.reach m y r)) :
    Calls Tryd.prog 14 #[v, .slice (some ⟨g, o, none⟩) 1 1] w (ValPost (fun g => Q g ∨ w.heap.size ≤ g) w (h + 1) (Bson.reach (m + 1) x (a :: r))) := by
  have hv2 := hv.lt
  obtain ⟨xk, xn, xs, ba, fa, la, bn, bc, fn, fc, ln, lc, rfl, hxk, hxn, hxs, hbn, hfn, hln, hL, hF, hI⟩ := hv2.letters
  obtain rfl : xk = 6 := by rw [hxk, h6]
  have hres : Bson.reach (m + 1) x (a :: r) = Bson.reach m (Bson.fieldIn x.f a) r := Bson.reach_doc m x a r h6
  rw [hres]
  have HX := Lib.hid (BoxV.new (.int .i64 6) (.int .i64 xn) (.string xs) (.slice ba bn bc) (.slice fa fn fc) (.slice la ln lc) w)
  have hp0 : w.cell? ⟨g, o, none⟩ = some (.string a) := by have := hp 0 (by simp); rw [Nat.add_zero] at this; exact this
  have HPR : Hid (StrsIn w (some ⟨g, o, none⟩) r) := by
    refine .inl ?_
    cases r with
    | nil => rfl
    | cons b t => simp at hpn
  generalize hW0 : ((w.alloc (.cells #[.int .i64 6, .int .i64 xn, .string xs, .slice ba bn bc, .slice fa fn fc, .slice la ln lc] 27)).alloc (.cells #[.int .i64 0, .int .i64 0, .string ⟨#[]⟩, .slice none 0 0, .slice none 0 0, .slice none 0 0] 27)) = W0 at *
  have HVW := Lib.hid (VIn.keep HX.out.2.2.1 hv2)
  have hf : W0.cell? ⟨w.heap.size, 0, none⟩ = some (.int .i64 6) ∧ W0.cell? ⟨w.heap.size, 1, none⟩ = some (.int .i64 xn) ∧ W0.cell? ⟨w.heap.size, 2, none⟩ = some (.string xs) ∧ W0.cell? ⟨w.heap.size, 3, none⟩ = some (.slice ba bn bc) ∧ W0.cell? ⟨w.heap.size, 4, none⟩ = some (.slice fa fn fc) ∧ W0.cell? ⟨w.heap.size, 5, none⟩ = some (.slice la ln lc) ∧ W0.cell? ⟨g, o, none⟩ = some (.string a) := by
    obtain ⟨c0, c1, c2, c3, c4, c5⟩ := HX.out.cells
    exact ⟨c0, c1, c2, c3, c4, c5, cell_keep HX.out.2.2.1 hp0⟩
  have HF0 := Lib.hid hf
  have HG := Lib.hid (World.block_lt_of_cell? w _ hp0)
  have IH := Lib.hid IH0
  have H6 := Lib.hid h6
  clear hv hv2 hxk hxn hxs hbn hfn hln hL hF hI hres h6 hpn hp hp0 IH0
  go_enter Tryd.func14, Tryd.ntmps14
  go_wp2_with fail
  clear hW0
  go_region_held3 (fun W => W.cell? ⟨w.heap.size, 0, none⟩ = some (.int .i64 6) ∧ W.cell? ⟨w.heap.size, 1, none⟩ = some (.int .i64 xn) ∧ W.cell? ⟨w.heap.size, 2, none⟩ = some (.string xs) ∧ W.cell? ⟨w.heap.size, 3, none⟩ = some (.slice ba bn bc) ∧ W.cell? ⟨w.heap.size, 4, none⟩ = some (.slice fa fn fc) ∧ W.cell? ⟨w.heap.size, 5, none⟩ = some (.slice la ln lc) ∧ W.cell? ⟨g, o, none⟩ = some (.string a))
    (first | with_reducible exact hf | with_reducible exact hf2 | with_reducible exact hf3 | with_reducible exact hf4 | go_keep)
    ((first
      | (go_at_call 13; refine (refField_doc _ h x _ a W0.drew (VIn.keep ((Below.refl _ W0).drew) HVW.out) H6.out).mono ?_; rintro e w1 ⟨v1, rfl, hv1, hb1⟩; have HV1 := Lib.hid hv1; have HB1 : Hid (Below W0.heap.size W0 w1) := (Below.refl _ W0).drew.trans hb1; have HX1 := Lib.hid (HX.out.keep HB1.out); have hf2 : w1.cell? ⟨w.heap.size, 0, none⟩ = some (.int .i64 6) ∧ w1.cell? ⟨w.heap.size, 1, none⟩ = some (.int .i64 xn) ∧ w1.cell? ⟨w.heap.size, 2, none⟩ = some (.string xs) ∧ w1.cell? ⟨w.heap.size, 3, none⟩ = some (.slice ba bn bc) ∧ w1.cell? ⟨w.heap.size, 4, none⟩ = some (.slice fa fn fc) ∧ w1.cell? ⟨w.heap.size, 5, none⟩ = some (.slice la ln lc) ∧ w1.cell? ⟨g, o, none⟩ = some (.string a) := ⟨cell_keep HB1.out HF0.out.1, cell_keep HB1.out HF0.out.2.1, cell_keep HB1.out HF0.out.2.2.1, cell_keep HB1.out HF0.out.2.2.2.1, cell_keep HB1.out HF0.out.2.2.2.2.1, cell_keep HB1.out HF0.out.2.2.2.2.2.1, cell_keep HB1.out HF0.out.2.2.2.2.2.2⟩; have HF1 := Lib.hid hf2; clear hv1 hb1)
      | (go_at_call 14; refine (IH.out _ _ _ _ HV1.out ((HPR.out.keep HX.out.2.2.1).keep HB1.out)).mono ?_; rintro e w3 ⟨v3, rfl, hv3, hb3⟩; obtain ⟨kd, nd, sd, bd, fd, ld, bm, bz, fm, fz, lm, lz, rfl⟩ := hv3.shape; have HV3 := Lib.hid hv3; have HB3 : Hid (Below w1.heap.size w1 w3) := hb3; have HX3 := Lib.hid (HX1.out.keep HB3.out); obtain ⟨z0, z1, z2, z3, z4, z5, g0, g1, g2, g3, g4, g5⟩ := HX3.out.zeros; have hf3 : w3.cell? ⟨w.heap.size, 0, none⟩ = some (.int .i64 6) ∧ w3.cell? ⟨w.heap.size, 1, none⟩ = some (.int .i64 xn) ∧ w3.cell? ⟨w.heap.size, 2, none⟩ = some (.string xs) ∧ w3.cell? ⟨w.heap.size, 3, none⟩ = some (.slice ba bn bc) ∧ w3.cell? ⟨w.heap.size, 4, none⟩ = some (.slice fa fn fc) ∧ w3.cell? ⟨w.heap.size, 5, none⟩ = some (.slice la ln lc) ∧ w3.cell? ⟨g, o, none⟩ = some (.string a) := ⟨cell_keep HB3.out HF1.out.1, cell_keep HB3.out HF1.out.2.1, cell_keep HB3.out HF1.out.2.2.1, cell_keep HB3.out HF1.out.2.2.2.1, cell_keep HB3.out HF1.out.2.2.2.2.1, cell_keep HB3.out HF1.out.2.2.2.2.2.1, cell_keep HB3.out HF1.out.2.2.2.2.2.2⟩; have hf4 : ((((((w3.setCell ⟨w.heap.size + 1, 0, none⟩ (.int .i64 kd)).setCell ⟨w.heap.size + 1, 1, none⟩ (.int .i64 nd)).setCell ⟨w.heap.size + 1, 2, none⟩ (.string sd)).setCell ⟨w.heap.size + 1, 3, none⟩ (.slice bd bm bz)).setCell ⟨w.heap.size + 1, 4, none⟩ (.slice fd fm fz)).setCell ⟨w.heap.size + 1, 5, none⟩ (.slice ld lm lz)).cell? ⟨w.heap.size, 0, none⟩ = some (.int .i64 6) ∧ ((((((w3.setCell ⟨w.heap.size + 1, 0, none⟩ (.int .i64 kd)).setCell ⟨w.heap.size + 1, 1, none⟩ (.int .i64 nd)).setCell ⟨w.heap.size + 1, 2, none⟩ (.string sd)).setCell ⟨w.heap.size + 1, 3, none⟩ (.slice bd bm bz)).setCell ⟨w.heap.size + 1, 4, none⟩ (.slice fd fm fz)).setCell ⟨w.heap.size + 1, 5, none⟩ (.slice ld lm lz)).cell? ⟨w.heap.size, 1, none⟩ = some (.int .i64 xn) ∧ ((((((w3.setCell ⟨w.heap.size + 1, 0, none⟩ (.int .i64 kd)).setCell ⟨w.heap.size + 1, 1, none⟩ (.int .i64 nd)).setCell ⟨w.heap.size + 1, 2, none⟩ (.string sd)).setCell ⟨w.heap.size + 1, 3, none⟩ (.slice bd bm bz)).setCell ⟨w.heap.size + 1, 4, none⟩ (.slice fd fm fz)).setCell ⟨w.heap.size + 1, 5, none⟩ (.slice ld lm lz)).cell? ⟨w.heap.size, 2, none⟩ = some (.string xs) ∧ ((((((w3.setCell ⟨w.heap.size + 1, 0, none⟩ (.int .i64 kd)).setCell ⟨w.heap.size + 1, 1, none⟩ (.int .i64 nd)).setCell ⟨w.heap.size + 1, 2, none⟩ (.string sd)).setCell ⟨w.heap.size + 1, 3, none⟩ (.slice bd bm bz)).setCell ⟨w.heap.size + 1, 4, none⟩ (.slice fd fm fz)).setCell ⟨w.heap.size + 1, 5, none⟩ (.slice ld lm lz)).cell? ⟨w.heap.size, 3, none⟩ = some (.slice ba bn bc) ∧ ((((((w3.setCell ⟨w.heap.size + 1, 0, none⟩ (.int .i64 kd)).setCell ⟨w.heap.size + 1, 1, none⟩ (.int .i64 nd)).setCell ⟨w.heap.size + 1, 2, none⟩ (.string sd)).setCell ⟨w.heap.size + 1, 3, none⟩ (.slice bd bm bz)).setCell ⟨w.heap.size + 1, 4, none⟩ (.slice fd fm fz)).setCell ⟨w.heap.size + 1, 5, none⟩ (.slice ld lm lz)).cell? ⟨w.heap.size, 4, none⟩ = some (.slice fa fn fc) ∧ ((((((w3.setCell ⟨w.heap.size + 1, 0, none⟩ (.int .i64 kd)).setCell ⟨w.heap.size + 1, 1, none⟩ (.int .i64 nd)).setCell ⟨w.heap.size + 1, 2, none⟩ (.string sd)).setCell ⟨w.heap.size + 1, 3, none⟩ (.slice bd bm bz)).setCell ⟨w.heap.size + 1, 4, none⟩ (.slice fd fm fz)).setCell ⟨w.heap.size + 1, 5, none⟩ (.slice ld lm lz)).cell? ⟨w.heap.size, 5, none⟩ = some (.slice la ln lc) ∧ ((((((w3.setCell ⟨w.heap.size + 1, 0, none⟩ (.int .i64 kd)).setCell ⟨w.heap.size + 1, 1, none⟩ (.int .i64 nd)).setCell ⟨w.heap.size + 1, 2, none⟩ (.string sd)).setCell ⟨w.heap.size + 1, 3, none⟩ (.slice bd bm bz)).setCell ⟨w.heap.size + 1, 4, none⟩ (.slice fd fm fz)).setCell ⟨w.heap.size + 1, 5, none⟩ (.slice ld lm lz)).cell? ⟨g, o, none⟩ = some (.string a) := after_puts hf3 HG.out [.int .i64 kd, .int .i64 nd, .string sd, .slice bd bm bz, .slice fd fm fz, .slice ld lm lz]; clear hv3 hb3)))
  have hsz1 : W0.heap.size ≤ w1.heap.size := HB1.out.size
  have hsz0 : w.heap.size + 2 ≤ W0.heap.size := HX.out.2.2.2
  have hq := puts_kept (fun g => (Q g ∧ g < w.heap.size) ∨ w1.heap.size ≤ g) (w := w3) (G := w.heap.size + 1) (by rintro (⟨_, hg⟩ | hg) <;> omega) 0 [.int .i64 kd, .int .i64 nd, .string sd, .slice bd bm bz, .slice fd fm fz, .slice ld lm lz]
  have HV9 : Hid (VIn (puts w3 (w.heap.size + 1) 0 [.int .i64 kd, .int .i64 nd, .string sd, .slice bd bm bz, .slice fd fm fz, .slice ld lm lz]) (fun g => Q g ∨ w.heap.size ≤ g) (h + 1) (Bson.reach m (Bson.fieldIn x.f a) r) (.agg #[.int .i64 kd, .int .i64 nd, .string sd, .slice bd bm bz, .slice fd fm fz, .slice ld lm lz])) := HV3.out.kept hq (fun g hg => by
    rcases hg with hg | hg
    · exact .inl hg.1
    · exact .inr (by omega))
  have HB9 := Lib.hid (puts_below HX3.out.2.2.1 (G := w.heap.size + 1) (by omega) [.int .i64 kd, .int .i64 nd, .string sd, .slice bd bm bz, .slice fd fm fz, .slice ld lm lz] 0)
  clear hf hf2 hf3 hf4 hq
  go_wp2_with fail
  exact bodyPost_ret (v := .agg #[.int .i64 kd, .int .i64 nd, .string sd, .slice bd bm bz, .slice fd fm fz, .slice ld lm lz]) (by simp [results, Tryd.results14, go_sem, z0, z1, z2, z3, z4, z5]) rfl ⟨_, rfl, HV9.out, HB9.out⟩
end Go.Proofs.YtdgncpoephdboaaDoor
end
