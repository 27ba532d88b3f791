/- PathReach. -/
import Derived.Deep.RegionHeld3
import Derived.Test.YtiajjgehnmkokaaGreatDoorMl9
set_option maxRecDepth 100000
set_option maxHeartbeats 20000000
section
namespace Go.Proofs.YtiajjgehnmkokaaGreatDoor
open Go.RowKit
open Seal
open Bson (Val)
theorem vin_puts {w W : World} {Q : Nat → Prop} {h : Nat} {x : Val} {v : Value} (hv : VIn w Q h x v) (hb : Below w.heap.size w W) (G o : Nat) (hG : w.heap.size ≤ G) (vs : List Value) : VIn (puts W G o vs) Q h x v :=
 hv.lt.kept (w' := puts W G o vs) (Q' := Q) (fun g hg hl => (puts_other G g (by have := hg.2; omega) vs W o).trans (hb.block g hl)) (fun _ hg => hg.1)
theorem vin_reach_nil {w W : World} {Q : Nat → Prop} {h : Nat} {x : Val} {v : Value} {c0 c1 c2 c3 c4 c5 : Value} (hv : VIn w Q h x v) (hX : BoxV c0 c1 c2 c3 c4 c5 w W) (vs : List Value) (m : Nat) :
  VIn (puts W (w.heap.size + 1) 0 vs) (fun g => Q g ∨ w.heap.size ≤ g) h (Bson.reach m x []) v := by
 rw [Bson.reach_nil]
 exact (vin_puts hv hX.2.2.1 _ 0 (by omega) vs).kept (Kept.of_below (Below.refl _ _)) (fun g hg => .inl hg)
theorem list_in {w : World} {Q : Nat → Prop} {h : Nat} {ys : List Val} {a : Option Addr} {n c : Nat} (hn : n = ys.length) (hl : ys.length ≤ 1353245080339) (hc : ys.length ≤ c ∧ c ≤ 9223372036854775807) (hi : ItemsIn w Q (VIn w Q h) a ys) :
  VIn w Q (h + 1) (Bson.listOf ys) (.agg #[.int .i64 7, .int .i64 0, .string ⟨#[]⟩, .slice none 0 0, .slice none 0 0, .slice a n c]) := by
 subst hn
 exact ⟨none, none, a, 0, 0, c, rfl, ⟨by show (-9223372036854775808 : Int) ≤ 7; omega, by show (7 : Int) ≤ _; omega, by show (-9223372036854775808 : Int) ≤ 0; omega, by show (0 : Int) ≤ _; omega, by show (0 : Nat) ≤ _; omega, by show (0 : Nat) ≤ _; omega, by show (0 : Nat) ≤ _; omega, hl, fun c hc => by cases hc⟩, ⟨Nat.le_refl _, by omega⟩, ⟨Nat.le_refl _, by omega⟩, hc, .inl rfl, .inl rfl, hi⟩
theorem reach_empty (h : Nat) (pa : Option Addr) (pc m : Nat) : ReachAt (h + 1) [] pa 0 pc (fun x => Bson.reach m x []) := by
 intro Q x v w hv hp
 obtain ⟨xk, xn, xs, ba, fa, la, bn, bc, fn, fc, ln, lc, rfl, hxk, hxn, hxs, hbn, hfn, hln, hL, hF, hI⟩ := hv.letters
 have HV := Lib.hid hv
 clear hv hxk hxn hxs hbn hfn hln hL hF hI hp
 have HX := Lib.hid (BoxV.new (.int .i64 xk) (.int .i64 xn) (.string xs) (.slice ba bn bc) (.slice fa fn fc) (.slice la ln lc) w)
 have HV9 := Lib.hid (vin_reach_nil HV.out HX.out [.int .i64 xk, .int .i64 xn, .string xs, .slice ba bn bc, .slice fa fn fc, .slice la ln lc] m)
 have HB9 := Lib.hid (puts_below HX.out.2.2.1 (G := w.heap.size + 1) (by omega) [.int .i64 xk, .int .i64 xn, .string xs, .slice ba bn bc, .slice fa fn fc, .slice la ln lc] 0)
 obtain ⟨z0, z1, z2, z3, z4, z5, g0, g1, g2, g3, g4, g5⟩ := HX.out.zeros
 obtain ⟨c0, c1, c2, c3, c4, c5⟩ := HX.out.cells
 generalize hW0 : ((w.alloc (.cells #[.int .i64 xk, .int .i64 xn, .string xs, .slice ba bn bc, .slice fa fn fc, .slice la ln lc] 26)).alloc (.cells #[.int .i64 0, .int .i64 0, .string ⟨#[]⟩, .slice none 0 0, .slice none 0 0, .slice none 0 0] 26)) = W0 at *
 go_enter Tryz.func196, Tryz.ntmps196
 go_wp2_with fail
 exact bodyPost_ret (v := .agg #[.int .i64 xk, .int .i64 xn, .string xs, .slice ba bn bc, .slice fa fn fc, .slice la ln lc]) (by simp [results, Tryz.results196, go_sem, z0, z1, z2, z3, z4, z5]) rfl ⟨_, rfl, HV9.out, HB9.out⟩
theorem reach_else (h : Nat) (p : List ByteArray) (pa : Option Addr) (pn pc m : Nat) (Q : Nat → Prop) (x : Val) (v : Value) (w : World) (hp0 : p ≠ []) (hpn : p.length = pn) (h6 : x.kind ≠ 6) (h7 : x.kind ≠ 7) (hv : VIn w Q (h + 1) x v) :
  Calls Tryz.prog 196 #[v, .slice pa pn pc] w (ValPost (fun g => Q g ∨ w.heap.size ≤ g) w (h + 1) (Bson.reach m x p)) := by
 obtain ⟨xk, xn, xs, ba, fa, la, bn, bc, fn, fc, ln, lc, rfl, hxk, hxn, hxs, hbn, hfn, hln, hL, hF, hI⟩ := hv.letters
 have hpos : 0 < pn := by rw [← hpn]; exact List.length_pos_iff.2 hp0
 have hpe : ((pn : Int) == 0) = false := by simp; omega
 have k6 : (xk == 6) = false := by rw [hxk]; simpa using h6
 have k7 : (xk == 7) = false := by rw [hxk]; simpa using h7
 have hres : Bson.reach m x p = Bson.zero := by
  cases p with
  | nil => exact absurd rfl hp0
  | cons a r => exact Bson.reach_other m x a r h6 h7
 rw [hres]
 clear hv hxk hxn hxs hbn hfn hln hL hF hI hres h6 h7 hpn hp0
 have HX := Lib.hid (BoxV.new (.int .i64 xk) (.int .i64 xn) (.string xs) (.slice ba bn bc) (.slice fa fn fc) (.slice la ln lc) w)
 have HB9 := Lib.hid (puts_below HX.out.2.2.1 (G := w.heap.size + 1) (by omega) [.int .i64 0, .int .i64 0, .string ⟨#[]⟩, .slice none 0 0, .slice none 0 0, .slice none 0 0] 0)
 obtain ⟨z0, z1, z2, z3, z4, z5, g0, g1, g2, g3, g4, g5⟩ := HX.out.zeros
 obtain ⟨c0, c1, c2, c3, c4, c5⟩ := HX.out.cells
 generalize hW0 : ((w.alloc (.cells #[.int .i64 xk, .int .i64 xn, .string xs, .slice ba bn bc, .slice fa fn fc, .slice la ln lc] 26)).alloc (.cells #[.int .i64 0, .int .i64 0, .string ⟨#[]⟩, .slice none 0 0, .slice none 0 0, .slice none 0 0] 26)) = W0 at *
 go_enter Tryz.func196, Tryz.ntmps196
 go_wp2_with fail
 exact bodyPost_ret (v := .agg #[.int .i64 0, .int .i64 0, .string ⟨#[]⟩, .slice none 0 0, .slice none 0 0, .slice none 0 0]) (by simp [results, Tryz.results196, go_sem, z0, z1, z2, z3, z4, z5]) rfl ⟨_, rfl, (zero_in _ _).up (by omega), HB9.out⟩
theorem reach_items (h : Nat) (p : List ByteArray) (pa : Option Addr) (pn pc m : Nat) (IH0 : ReachAt h p pa pn pc (fun y => Bson.reach m y p)) (Q : Nat → Prop) (x : Val) (v : Value) (w : World) (hp0 : p ≠ []) (hpn : p.length = pn) (h7 : x.kind = 7) (hv : VIn w Q (h + 1) x v) (hp : StrsIn w pa p) :
  Calls Tryz.prog 196 #[v, .slice pa pn pc] w (ValPost (fun g => Q g ∨ w.heap.size ≤ g) w (h + 1) (Bson.reach (m + 1) x p)) := by
 have hv2 := hv.lt
 obtain ⟨xk, xn, xs, ba, fa, la, bn, bc, fn, fc, ln, lc, rfl, hxk, hxn, hxs, hbn, hfn, hln, hL, hF, hI⟩ := hv2.letters
 have hpos : 0 < pn := by rw [← hpn]; exact List.length_pos_iff.2 hp0
 have hpe : ((pn : Int) == 0) = false := by simp; omega
 obtain rfl : xk = 7 := by rw [hxk, h7]
 have hres : Bson.reach (m + 1) x p = Bson.listOf (gather (fun y => Bson.reach m y p) x.l) := by
  cases p with
  | nil => exact absurd rfl hp0
  | cons a r => exact Bson.reach_list m x a r h7
 rw [hres]
 have hll := hL.l
 have HX := Lib.hid (BoxV.new (.int .i64 7) (.int .i64 xn) (.string xs) (.slice ba bn bc) (.slice fa fn fc) (.slice la ln lc) w)
 have hgl : (gather (fun y => Bson.reach m y p) x.l).length ≤ 1353245080339 := by
  have := gather_le (fun y => Bson.reach m y p) x.l x.l.length
  rw [List.take_length] at this
  omega
 have HGL := Lib.hid hgl
 generalize hW0 : ((w.alloc (.cells #[.int .i64 7, .int .i64 xn, .string xs, .slice ba bn bc, .slice fa fn fc, .slice la ln lc] 26)).alloc (.cells #[.int .i64 0, .int .i64 0, .string ⟨#[]⟩, .slice none 0 0, .slice none 0 0, .slice none 0 0] 26)) = W0 at *
 have CI := Lib.hid (items_any h p pa pn pc _ IH0 (fun g => Q g ∧ g < w.heap.size) la ln lc x.l W0 hln.symm (by omega) (hI.kept (Kept.of_below HX.out.2.2.1) (fun _ h => h) (fun _ _ h => VIn.keep HX.out.2.2.1 h)) (hp.keep HX.out.2.2.1))
 obtain ⟨c0, c1, c2, c3, c4, c5⟩ := HX.out.cells
 clear hv hv2 hxk hxn hxs hbn hfn hln hL hF hI hres h7 hpn hp0 hll hgl hp IH0
 go_enter Tryz.func196, Tryz.ntmps196
 go_wp2_with fail
 refine CI.out.mono ?_
 rintro e w1 ⟨a1, n1, rfl, hn1, hP1, hb1⟩
 have HX1 := Lib.hid (HX.out.keep hb1)
 obtain ⟨gn, hgn⟩ : ∃ n, n = (gather (fun y => Bson.reach m y p) x.l).length := ⟨_, rfl⟩
 have HB9 := Lib.hid (puts_below HX1.out.2.2.1 (G := w.heap.size + 1) (by omega) [.int .i64 7, .int .i64 0, .string ⟨#[]⟩, .slice none 0 0, .slice none 0 0, .slice a1 gn n1] 0)
 have hsz : w.heap.size + 2 ≤ W0.heap.size := HX.out.2.2.2
 have HV9 : Hid (VIn (puts w1 (w.heap.size + 1) 0 [.int .i64 7, .int .i64 0, .string ⟨#[]⟩, .slice none 0 0, .slice none 0 0, .slice a1 gn n1]) (fun g => Q g ∨ w.heap.size ≤ g) (h + 1) (Bson.listOf (gather (fun y => Bson.reach m y p) x.l)) (.agg #[.int .i64 7, .int .i64 0, .string ⟨#[]⟩, .slice none 0 0, .slice none 0 0, .slice a1 gn n1])) := by
  refine (list_in (a := a1) (n := gn) hgn HGL.out hn1 ?_)
  have hq := puts_kept (fun g => (Q g ∧ g < w.heap.size) ∨ W0.heap.size ≤ g) (w := w1) (G := w.heap.size + 1) (by rintro (⟨_, hg⟩ | hg) <;> omega) 0 [.int .i64 7, .int .i64 0, .string ⟨#[]⟩, .slice none 0 0, .slice none 0 0, .slice a1 gn n1]
  have hqq : ∀ g, ((Q g ∧ g < w.heap.size) ∨ W0.heap.size ≤ g) → (Q g ∨ w.heap.size ≤ g) := fun g hg => by
   rcases hg with hg | hg
   ·exact .inl hg.1
   ·exact .inr (by omega)
  exact hP1.kept hq hqq (fun _ _ hv => hv.kept hq hqq)
 rw [← hgn]
 have HGN := Lib.hid hgn
 obtain ⟨z0, z1, z2, z3, z4, z5, g0, g1, g2, g3, g4, g5⟩ := HX1.out.zeros
 clear c0 c1 c2 c3 c4 c5 hn1 hP1 hb1 hgn hW0
 go_wp2_with fail
 exact bodyPost_ret (v := .agg #[.int .i64 7, .int .i64 0, .string ⟨#[]⟩, .slice none 0 0, .slice none 0 0, .slice a1 gn n1]) (by simp [results, Tryz.results196, go_sem, z0, z1, z2, z3, z4, z5]) rfl ⟨_, rfl, HV9.out, HB9.out⟩
theorem after_puts {w W : World} {c0 c1 c2 c3 c4 c5 u : Value} {g o : Nat} (hf : W.cell? ⟨w.heap.size, 0, none⟩ = some c0 ∧ W.cell? ⟨w.heap.size, 1, none⟩ = some c1 ∧ W.cell? ⟨w.heap.size, 2, none⟩ = some c2 ∧ W.cell? ⟨w.heap.size, 3, none⟩ = some c3 ∧ W.cell? ⟨w.heap.size, 4, none⟩ = some c4 ∧ W.cell? ⟨w.heap.size, 5, none⟩ = some c5 ∧ W.cell? ⟨g, o, none⟩ = some u) (hg : g < w.heap.size) (vs : List Value) :
  (puts W (w.heap.size + 1) 0 vs).cell? ⟨w.heap.size, 0, none⟩ = some c0 ∧ (puts W (w.heap.size + 1) 0 vs).cell? ⟨w.heap.size, 1, none⟩ = some c1 ∧ (puts W (w.heap.size + 1) 0 vs).cell? ⟨w.heap.size, 2, none⟩ = some c2 ∧ (puts W (w.heap.size + 1) 0 vs).cell? ⟨w.heap.size, 3, none⟩ = some c3 ∧ (puts W (w.heap.size + 1) 0 vs).cell? ⟨w.heap.size, 4, none⟩ = some c4 ∧ (puts W (w.heap.size + 1) 0 vs).cell? ⟨w.heap.size, 5, none⟩ = some c5 ∧ (puts W (w.heap.size + 1) 0 vs).cell? ⟨g, o, none⟩ = some u := by
 have k : ∀ b j, b ≠ w.heap.size + 1 → (puts W (w.heap.size + 1) 0 vs).cell? ⟨b, j, none⟩ = W.cell? ⟨b, j, none⟩ := fun b j hb => World.cell?_of_block (a := ⟨b, j, none⟩) (puts_other (w.heap.size + 1) b hb vs W 0)
 obtain ⟨h0, h1, h2, h3, h4, h5, h6⟩ := hf
 exact ⟨(k _ _ (by omega)).trans h0, (k _ _ (by omega)).trans h1, (k _ _ (by omega)).trans h2, (k _ _ (by omega)).trans h3, (k _ _ (by omega)).trans h4, (k _ _ (by omega)).trans h5, (k _ _ (by omega)).trans h6⟩
theorem reach_doc (h : Nat) (a : ByteArray) (r : List ByteArray) (g o : Nat) (pn pc m : Nat) (Q : Nat → Prop) (x : Val) (v : Value) (w : World) (hpn : (a :: r).length = pn) (hpc : pn ≤ pc) (hc1 : ¬ pc = 1) (h6 : x.kind = 6) (hv : VIn w Q (h + 1) x v)
  (hp : ∀ i (hi : i < (a :: r).length), w.cell? ⟨g, o + i, none⟩ = some (.string (a :: r)[i])) (IH0 : ReachAt (h + 1) r (some ⟨g, o + 1, none⟩) (pn - 1) (pc - 1) (fun y => Bson.reach m y r)) :
  Calls Tryz.prog 196 #[v, .slice (some ⟨g, o, none⟩) pn pc] w (ValPost (fun g => Q g ∨ w.heap.size ≤ g) w (h + 1) (Bson.reach (m + 1) x (a :: r))) := by
 have hv2 := hv.lt
 obtain ⟨xk, xn, xs, ba, fa, la, bn, bc, fn, fc, ln, lc, rfl, hxk, hxn, hxs, hbn, hfn, hln, hL, hF, hI⟩ := hv2.letters
 have hpos : 0 < pn := by rw [← hpn]; simp
 have hpe : ((pn : Int) == 0) = false := by simp; omega
 obtain rfl : xk = 6 := by rw [hxk, h6]
 have hres : Bson.reach (m + 1) x (a :: r) = Bson.reach m (Bson.fieldIn x.f a) r := Bson.reach_doc m x a r h6
 rw [hres]
 have HX := Lib.hid (BoxV.new (.int .i64 6) (.int .i64 xn) (.string xs) (.slice ba bn bc) (.slice fa fn fc) (.slice la ln lc) w)
 have hp0 : w.cell? ⟨g, o, none⟩ = some (.string a) := by have := hp 0 (by simp); rw [Nat.add_zero] at this; exact this
 have HPR : Hid (StrsIn w (some ⟨g, o + 1, none⟩) r) := .inr ⟨g, o + 1, rfl, fun i hi => by have := hp (i + 1) (by simpa using hi); rw [show o + (i + 1) = o + 1 + i by omega] at this; exact this⟩
 generalize hW0 : ((w.alloc (.cells #[.int .i64 6, .int .i64 xn, .string xs, .slice ba bn bc, .slice fa fn fc, .slice la ln lc] 26)).alloc (.cells #[.int .i64 0, .int .i64 0, .string ⟨#[]⟩, .slice none 0 0, .slice none 0 0, .slice none 0 0] 26)) = W0 at *
 have HVW := Lib.hid (VIn.keep HX.out.2.2.1 hv2)
 have hf : W0.cell? ⟨w.heap.size, 0, none⟩ = some (.int .i64 6) ∧ W0.cell? ⟨w.heap.size, 1, none⟩ = some (.int .i64 xn) ∧ W0.cell? ⟨w.heap.size, 2, none⟩ = some (.string xs) ∧ W0.cell? ⟨w.heap.size, 3, none⟩ = some (.slice ba bn bc) ∧ W0.cell? ⟨w.heap.size, 4, none⟩ = some (.slice fa fn fc) ∧ W0.cell? ⟨w.heap.size, 5, none⟩ = some (.slice la ln lc) ∧ W0.cell? ⟨g, o, none⟩ = some (.string a) := by
  obtain ⟨c0, c1, c2, c3, c4, c5⟩ := HX.out.cells
  exact ⟨c0, c1, c2, c3, c4, c5, cell_keep HX.out.2.2.1 hp0⟩
 have HF0 := Lib.hid hf
 have HG := Lib.hid (World.block_lt_of_cell? w _ hp0)
 have IH := Lib.hid IH0
 have hpl : r.length + 1 = pn := by simpa using hpn
 have b1 : (1 : Int) ≤ (pn : Int) := by omega
 have b2 : (pn : Int) ≤ (pc : Int) := by omega
 clear hv hv2 hxk hxn hxs hbn hfn hln hL hF hI hres h6 hpn hp hp0 IH0
 go_enter Tryz.func196, Tryz.ntmps196
 go_wp2_with fail
 clear hW0
 go_region_held3 (fun W => W.cell? ⟨w.heap.size, 0, none⟩ = some (.int .i64 6) ∧ W.cell? ⟨w.heap.size, 1, none⟩ = some (.int .i64 xn) ∧ W.cell? ⟨w.heap.size, 2, none⟩ = some (.string xs) ∧ W.cell? ⟨w.heap.size, 3, none⟩ = some (.slice ba bn bc) ∧ W.cell? ⟨w.heap.size, 4, none⟩ = some (.slice fa fn fc) ∧ W.cell? ⟨w.heap.size, 5, none⟩ = some (.slice la ln lc) ∧ W.cell? ⟨g, o, none⟩ = some (.string a))
  (first | with_reducible exact hf | with_reducible exact hf2 | with_reducible exact hf3 | with_reducible exact hf4 | go_keep)
  ((first
   | (go_at_call 197; refine (field_any _ h x _ a W0.drew (VIn.keep ((Below.refl _ W0).drew) HVW.out)).mono ?_; rintro e w1 ⟨v1, rfl, hv1, hb1⟩; have HV1 := Lib.hid hv1; have HB1 : Hid (Below W0.heap.size W0 w1) := (Below.refl _ W0).drew.trans hb1; have HX1 := Lib.hid (HX.out.keep HB1.out); have hf2 : w1.cell? ⟨w.heap.size, 0, none⟩ = some (.int .i64 6) ∧ w1.cell? ⟨w.heap.size, 1, none⟩ = some (.int .i64 xn) ∧ w1.cell? ⟨w.heap.size, 2, none⟩ = some (.string xs) ∧ w1.cell? ⟨w.heap.size, 3, none⟩ = some (.slice ba bn bc) ∧ w1.cell? ⟨w.heap.size, 4, none⟩ = some (.slice fa fn fc) ∧ w1.cell? ⟨w.heap.size, 5, none⟩ = some (.slice la ln lc) ∧ w1.cell? ⟨g, o, none⟩ = some (.string a) := ⟨cell_keep HB1.out HF0.out.1, cell_keep HB1.out HF0.out.2.1, cell_keep HB1.out HF0.out.2.2.1, cell_keep HB1.out HF0.out.2.2.2.1, cell_keep HB1.out HF0.out.2.2.2.2.1, cell_keep HB1.out HF0.out.2.2.2.2.2.1, cell_keep HB1.out HF0.out.2.2.2.2.2.2⟩; have HF1 := Lib.hid hf2; clear hv1 hb1)
   | (go_at_call 196; refine (IH.out _ _ _ _ HV1.out ((HPR.out.keep HX.out.2.2.1).keep HB1.out)).mono ?_; rintro e w3 ⟨v3, rfl, hv3, hb3⟩; obtain ⟨kd, nd, sd, bd, fd, ld, bm, bz, fm, fz, lm, lz, rfl⟩ := hv3.shape; have HV3 := Lib.hid hv3; have HB3 : Hid (Below w1.heap.size w1 w3) := hb3; have HX3 := Lib.hid (HX1.out.keep HB3.out); obtain ⟨z0, z1, z2, z3, z4, z5, g0, g1, g2, g3, g4, g5⟩ := HX3.out.zeros; have hf3 : w3.cell? ⟨w.heap.size, 0, none⟩ = some (.int .i64 6) ∧ w3.cell? ⟨w.heap.size, 1, none⟩ = some (.int .i64 xn) ∧ w3.cell? ⟨w.heap.size, 2, none⟩ = some (.string xs) ∧ w3.cell? ⟨w.heap.size, 3, none⟩ = some (.slice ba bn bc) ∧ w3.cell? ⟨w.heap.size, 4, none⟩ = some (.slice fa fn fc) ∧ w3.cell? ⟨w.heap.size, 5, none⟩ = some (.slice la ln lc) ∧ w3.cell? ⟨g, o, none⟩ = some (.string a) := ⟨cell_keep HB3.out HF1.out.1, cell_keep HB3.out HF1.out.2.1, cell_keep HB3.out HF1.out.2.2.1, cell_keep HB3.out HF1.out.2.2.2.1, cell_keep HB3.out HF1.out.2.2.2.2.1, cell_keep HB3.out HF1.out.2.2.2.2.2.1, cell_keep HB3.out HF1.out.2.2.2.2.2.2⟩; have hf4 : ((((((w3.setCell ⟨w.heap.size + 1, 0, none⟩ (.int .i64 kd)).setCell ⟨w.heap.size + 1, 1, none⟩ (.int .i64 nd)).setCell ⟨w.heap.size + 1, 2, none⟩ (.string sd)).setCell ⟨w.heap.size + 1, 3, none⟩ (.slice bd bm bz)).setCell ⟨w.heap.size + 1, 4, none⟩ (.slice fd fm fz)).setCell ⟨w.heap.size + 1, 5, none⟩ (.slice ld lm lz)).cell? ⟨w.heap.size, 0, none⟩ = some (.int .i64 6) ∧ ((((((w3.setCell ⟨w.heap.size + 1, 0, none⟩ (.int .i64 kd)).setCell ⟨w.heap.size + 1, 1, none⟩ (.int .i64 nd)).setCell ⟨w.heap.size + 1, 2, none⟩ (.string sd)).setCell ⟨w.heap.size + 1, 3, none⟩ (.slice bd bm bz)).setCell ⟨w.heap.size + 1, 4, none⟩ (.slice fd fm fz)).setCell ⟨w.heap.size + 1, 5, none⟩ (.slice ld lm lz)).cell? ⟨w.heap.size, 1, none⟩ = some (.int .i64 xn) ∧ ((((((w3.setCell ⟨w.heap.size + 1, 0, none⟩ (.int .i64 kd)).setCell ⟨w.heap.size + 1, 1, none⟩ (.int .i64 nd)).setCell ⟨w.heap.size + 1, 2, none⟩ (.string sd)).setCell ⟨w.heap.size + 1, 3, none⟩ (.slice bd bm bz)).setCell ⟨w.heap.size + 1, 4, none⟩ (.slice fd fm fz)).setCell ⟨w.heap.size + 1, 5, none⟩ (.slice ld lm lz)).cell? ⟨w.heap.size, 2, none⟩ = some (.string xs) ∧ ((((((w3.setCell ⟨w.heap.size + 1, 0, none⟩ (.int .i64 kd)).setCell ⟨w.heap.size + 1, 1, none⟩ (.int .i64 nd)).setCell ⟨w.heap.size + 1, 2, none⟩ (.string sd)).setCell ⟨w.heap.size + 1, 3, none⟩ (.slice bd bm bz)).setCell ⟨w.heap.size + 1, 4, none⟩ (.slice fd fm fz)).setCell ⟨w.heap.size + 1, 5, none⟩ (.slice ld lm lz)).cell? ⟨w.heap.size, 3, none⟩ = some (.slice ba bn bc) ∧ ((((((w3.setCell ⟨w.heap.size + 1, 0, none⟩ (.int .i64 kd)).setCell ⟨w.heap.size + 1, 1, none⟩ (.int .i64 nd)).setCell ⟨w.heap.size + 1, 2, none⟩ (.string sd)).setCell ⟨w.heap.size + 1, 3, none⟩ (.slice bd bm bz)).setCell ⟨w.heap.size + 1, 4, none⟩ (.slice fd fm fz)).setCell ⟨w.heap.size + 1, 5, none⟩ (.slice ld lm lz)).cell? ⟨w.heap.size, 4, none⟩ = some (.slice fa fn fc) ∧ ((((((w3.setCell ⟨w.heap.size + 1, 0, none⟩ (.int .i64 kd)).setCell ⟨w.heap.size + 1, 1, none⟩ (.int .i64 nd)).setCell ⟨w.heap.size + 1, 2, none⟩ (.string sd)).setCell ⟨w.heap.size + 1, 3, none⟩ (.slice bd bm bz)).setCell ⟨w.heap.size + 1, 4, none⟩ (.slice fd fm fz)).setCell ⟨w.heap.size + 1, 5, none⟩ (.slice ld lm lz)).cell? ⟨w.heap.size, 5, none⟩ = some (.slice la ln lc) ∧ ((((((w3.setCell ⟨w.heap.size + 1, 0, none⟩ (.int .i64 kd)).setCell ⟨w.heap.size + 1, 1, none⟩ (.int .i64 nd)).setCell ⟨w.heap.size + 1, 2, none⟩ (.string sd)).setCell ⟨w.heap.size + 1, 3, none⟩ (.slice bd bm bz)).setCell ⟨w.heap.size + 1, 4, none⟩ (.slice fd fm fz)).setCell ⟨w.heap.size + 1, 5, none⟩ (.slice ld lm lz)).cell? ⟨g, o, none⟩ = some (.string a) := after_puts hf3 HG.out [.int .i64 kd, .int .i64 nd, .string sd, .slice bd bm bz, .slice fd fm fz, .slice ld lm lz]; clear hv3 hb3)))
 have hsz1 : W0.heap.size ≤ w1.heap.size := HB1.out.size
 have hsz0 : w.heap.size + 2 ≤ W0.heap.size := HX.out.2.2.2
 have hq := puts_kept (fun g => (Q g ∧ g < w.heap.size) ∨ w1.heap.size ≤ g) (w := w3) (G := w.heap.size + 1) (by rintro (⟨_, hg⟩ | hg) <;> omega) 0 [.int .i64 kd, .int .i64 nd, .string sd, .slice bd bm bz, .slice fd fm fz, .slice ld lm lz]
 have HV9 : Hid (VIn (puts w3 (w.heap.size + 1) 0 [.int .i64 kd, .int .i64 nd, .string sd, .slice bd bm bz, .slice fd fm fz, .slice ld lm lz]) (fun g => Q g ∨ w.heap.size ≤ g) (h + 1) (Bson.reach m (Bson.fieldIn x.f a) r) (.agg #[.int .i64 kd, .int .i64 nd, .string sd, .slice bd bm bz, .slice fd fm fz, .slice ld lm lz])) := HV3.out.kept hq (fun g hg => by
  rcases hg with hg | hg
  ·exact .inl hg.1
  ·exact .inr (by omega))
 have HB9 := Lib.hid (puts_below HX3.out.2.2.1 (G := w.heap.size + 1) (by omega) [.int .i64 kd, .int .i64 nd, .string sd, .slice bd bm bz, .slice fd fm fz, .slice ld lm lz] 0)
 clear hf hf2 hf3 hf4 hq
 go_wp2_with fail
 exact bodyPost_ret (v := .agg #[.int .i64 kd, .int .i64 nd, .string sd, .slice bd bm bz, .slice fd fm fz, .slice ld lm lz]) (by simp [results, Tryz.results196, go_sem, z0, z1, z2, z3, z4, z5]) rfl ⟨_, rfl, HV9.out, HB9.out⟩
theorem reach_last (h : Nat) (a : ByteArray) (r : List ByteArray) (g o : Nat) (m : Nat) (Q : Nat → Prop) (x : Val) (v : Value) (w : World) (hpn : (a :: r).length = 1) (h6 : x.kind = 6) (hv : VIn w Q (h + 1) x v)
  (hp : ∀ i (hi : i < (a :: r).length), w.cell? ⟨g, o + i, none⟩ = some (.string (a :: r)[i])) (IH0 : ReachAt (h + 1) r (some ⟨g, o, none⟩) 0 0 (fun y => Bson.reach m y r)) :
  Calls Tryz.prog 196 #[v, .slice (some ⟨g, o, none⟩) 1 1] w (ValPost (fun g => Q g ∨ w.heap.size ≤ g) w (h + 1) (Bson.reach (m + 1) x (a :: r))) := by
 have hv2 := hv.lt
 obtain ⟨xk, xn, xs, ba, fa, la, bn, bc, fn, fc, ln, lc, rfl, hxk, hxn, hxs, hbn, hfn, hln, hL, hF, hI⟩ := hv2.letters
 obtain rfl : xk = 6 := by rw [hxk, h6]
 have hres : Bson.reach (m + 1) x (a :: r) = Bson.reach m (Bson.fieldIn x.f a) r := Bson.reach_doc m x a r h6
 rw [hres]
 have HX := Lib.hid (BoxV.new (.int .i64 6) (.int .i64 xn) (.string xs) (.slice ba bn bc) (.slice fa fn fc) (.slice la ln lc) w)
 have hp0 : w.cell? ⟨g, o, none⟩ = some (.string a) := by have := hp 0 (by simp); rw [Nat.add_zero] at this; exact this
 have HPR : Hid (StrsIn w (some ⟨g, o, none⟩) r) := by
  refine .inl ?_
  cases r with
  | nil => rfl
  | cons b t => simp at hpn
 generalize hW0 : ((w.alloc (.cells #[.int .i64 6, .int .i64 xn, .string xs, .slice ba bn bc, .slice fa fn fc, .slice la ln lc] 26)).alloc (.cells #[.int .i64 0, .int .i64 0, .string ⟨#[]⟩, .slice none 0 0, .slice none 0 0, .slice none 0 0] 26)) = W0 at *
 have HVW := Lib.hid (VIn.keep HX.out.2.2.1 hv2)
 have hf : W0.cell? ⟨w.heap.size, 0, none⟩ = some (.int .i64 6) ∧ W0.cell? ⟨w.heap.size, 1, none⟩ = some (.int .i64 xn) ∧ W0.cell? ⟨w.heap.size, 2, none⟩ = some (.string xs) ∧ W0.cell? ⟨w.heap.size, 3, none⟩ = some (.slice ba bn bc) ∧ W0.cell? ⟨w.heap.size, 4, none⟩ = some (.slice fa fn fc) ∧ W0.cell? ⟨w.heap.size, 5, none⟩ = some (.slice la ln lc) ∧ W0.cell? ⟨g, o, none⟩ = some (.string a) := by
  obtain ⟨c0, c1, c2, c3, c4, c5⟩ := HX.out.cells
  exact ⟨c0, c1, c2, c3, c4, c5, cell_keep HX.out.2.2.1 hp0⟩
 have HF0 := Lib.hid hf
 have HG := Lib.hid (World.block_lt_of_cell? w _ hp0)
 have IH := Lib.hid IH0
 clear hv hv2 hxk hxn hxs hbn hfn hln hL hF hI hres h6 hpn hp hp0 IH0
 go_enter Tryz.func196, Tryz.ntmps196
 go_wp2_with fail
 clear hW0
 go_region_held3 (fun W => W.cell? ⟨w.heap.size, 0, none⟩ = some (.int .i64 6) ∧ W.cell? ⟨w.heap.size, 1, none⟩ = some (.int .i64 xn) ∧ W.cell? ⟨w.heap.size, 2, none⟩ = some (.string xs) ∧ W.cell? ⟨w.heap.size, 3, none⟩ = some (.slice ba bn bc) ∧ W.cell? ⟨w.heap.size, 4, none⟩ = some (.slice fa fn fc) ∧ W.cell? ⟨w.heap.size, 5, none⟩ = some (.slice la ln lc) ∧ W.cell? ⟨g, o, none⟩ = some (.string a))
  (first | with_reducible exact hf | with_reducible exact hf2 | with_reducible exact hf3 | with_reducible exact hf4 | go_keep)
  ((first
   | (go_at_call 197; refine (field_any _ h x _ a W0.drew (VIn.keep ((Below.refl _ W0).drew) HVW.out)).mono ?_; rintro e w1 ⟨v1, rfl, hv1, hb1⟩; have HV1 := Lib.hid hv1; have HB1 : Hid (Below W0.heap.size W0 w1) := (Below.refl _ W0).drew.trans hb1; have HX1 := Lib.hid (HX.out.keep HB1.out); have hf2 : w1.cell? ⟨w.heap.size, 0, none⟩ = some (.int .i64 6) ∧ w1.cell? ⟨w.heap.size, 1, none⟩ = some (.int .i64 xn) ∧ w1.cell? ⟨w.heap.size, 2, none⟩ = some (.string xs) ∧ w1.cell? ⟨w.heap.size, 3, none⟩ = some (.slice ba bn bc) ∧ w1.cell? ⟨w.heap.size, 4, none⟩ = some (.slice fa fn fc) ∧ w1.cell? ⟨w.heap.size, 5, none⟩ = some (.slice la ln lc) ∧ w1.cell? ⟨g, o, none⟩ = some (.string a) := ⟨cell_keep HB1.out HF0.out.1, cell_keep HB1.out HF0.out.2.1, cell_keep HB1.out HF0.out.2.2.1, cell_keep HB1.out HF0.out.2.2.2.1, cell_keep HB1.out HF0.out.2.2.2.2.1, cell_keep HB1.out HF0.out.2.2.2.2.2.1, cell_keep HB1.out HF0.out.2.2.2.2.2.2⟩; have HF1 := Lib.hid hf2; clear hv1 hb1)
   | (go_at_call 196; refine (IH.out _ _ _ _ HV1.out ((HPR.out.keep HX.out.2.2.1).keep HB1.out)).mono ?_; rintro e w3 ⟨v3, rfl, hv3, hb3⟩; obtain ⟨kd, nd, sd, bd, fd, ld, bm, bz, fm, fz, lm, lz, rfl⟩ := hv3.shape; have HV3 := Lib.hid hv3; have HB3 : Hid (Below w1.heap.size w1 w3) := hb3; have HX3 := Lib.hid (HX1.out.keep HB3.out); obtain ⟨z0, z1, z2, z3, z4, z5, g0, g1, g2, g3, g4, g5⟩ := HX3.out.zeros; have hf3 : w3.cell? ⟨w.heap.size, 0, none⟩ = some (.int .i64 6) ∧ w3.cell? ⟨w.heap.size, 1, none⟩ = some (.int .i64 xn) ∧ w3.cell? ⟨w.heap.size, 2, none⟩ = some (.string xs) ∧ w3.cell? ⟨w.heap.size, 3, none⟩ = some (.slice ba bn bc) ∧ w3.cell? ⟨w.heap.size, 4, none⟩ = some (.slice fa fn fc) ∧ w3.cell? ⟨w.heap.size, 5, none⟩ = some (.slice la ln lc) ∧ w3.cell? ⟨g, o, none⟩ = some (.string a) := ⟨cell_keep HB3.out HF1.out.1, cell_keep HB3.out HF1.out.2.1, cell_keep HB3.out HF1.out.2.2.1, cell_keep HB3.out HF1.out.2.2.2.1, cell_keep HB3.out HF1.out.2.2.2.2.1, cell_keep HB3.out HF1.out.2.2.2.2.2.1, cell_keep HB3.out HF1.out.2.2.2.2.2.2⟩; have hf4 : ((((((w3.setCell ⟨w.heap.size + 1, 0, none⟩ (.int .i64 kd)).setCell ⟨w.heap.size + 1, 1, none⟩ (.int .i64 nd)).setCell ⟨w.heap.size + 1, 2, none⟩ (.string sd)).setCell ⟨w.heap.size + 1, 3, none⟩ (.slice bd bm bz)).setCell ⟨w.heap.size + 1, 4, none⟩ (.slice fd fm fz)).setCell ⟨w.heap.size + 1, 5, none⟩ (.slice ld lm lz)).cell? ⟨w.heap.size, 0, none⟩ = some (.int .i64 6) ∧ ((((((w3.setCell ⟨w.heap.size + 1, 0, none⟩ (.int .i64 kd)).setCell ⟨w.heap.size + 1, 1, none⟩ (.int .i64 nd)).setCell ⟨w.heap.size + 1, 2, none⟩ (.string sd)).setCell ⟨w.heap.size + 1, 3, none⟩ (.slice bd bm bz)).setCell ⟨w.heap.size + 1, 4, none⟩ (.slice fd fm fz)).setCell ⟨w.heap.size + 1, 5, none⟩ (.slice ld lm lz)).cell? ⟨w.heap.size, 1, none⟩ = some (.int .i64 xn) ∧ ((((((w3.setCell ⟨w.heap.size + 1, 0, none⟩ (.int .i64 kd)).setCell ⟨w.heap.size + 1, 1, none⟩ (.int .i64 nd)).setCell ⟨w.heap.size + 1, 2, none⟩ (.string sd)).setCell ⟨w.heap.size + 1, 3, none⟩ (.slice bd bm bz)).setCell ⟨w.heap.size + 1, 4, none⟩ (.slice fd fm fz)).setCell ⟨w.heap.size + 1, 5, none⟩ (.slice ld lm lz)).cell? ⟨w.heap.size, 2, none⟩ = some (.string xs) ∧ ((((((w3.setCell ⟨w.heap.size + 1, 0, none⟩ (.int .i64 kd)).setCell ⟨w.heap.size + 1, 1, none⟩ (.int .i64 nd)).setCell ⟨w.heap.size + 1, 2, none⟩ (.string sd)).setCell ⟨w.heap.size + 1, 3, none⟩ (.slice bd bm bz)).setCell ⟨w.heap.size + 1, 4, none⟩ (.slice fd fm fz)).setCell ⟨w.heap.size + 1, 5, none⟩ (.slice ld lm lz)).cell? ⟨w.heap.size, 3, none⟩ = some (.slice ba bn bc) ∧ ((((((w3.setCell ⟨w.heap.size + 1, 0, none⟩ (.int .i64 kd)).setCell ⟨w.heap.size + 1, 1, none⟩ (.int .i64 nd)).setCell ⟨w.heap.size + 1, 2, none⟩ (.string sd)).setCell ⟨w.heap.size + 1, 3, none⟩ (.slice bd bm bz)).setCell ⟨w.heap.size + 1, 4, none⟩ (.slice fd fm fz)).setCell ⟨w.heap.size + 1, 5, none⟩ (.slice ld lm lz)).cell? ⟨w.heap.size, 4, none⟩ = some (.slice fa fn fc) ∧ ((((((w3.setCell ⟨w.heap.size + 1, 0, none⟩ (.int .i64 kd)).setCell ⟨w.heap.size + 1, 1, none⟩ (.int .i64 nd)).setCell ⟨w.heap.size + 1, 2, none⟩ (.string sd)).setCell ⟨w.heap.size + 1, 3, none⟩ (.slice bd bm bz)).setCell ⟨w.heap.size + 1, 4, none⟩ (.slice fd fm fz)).setCell ⟨w.heap.size + 1, 5, none⟩ (.slice ld lm lz)).cell? ⟨w.heap.size, 5, none⟩ = some (.slice la ln lc) ∧ ((((((w3.setCell ⟨w.heap.size + 1, 0, none⟩ (.int .i64 kd)).setCell ⟨w.heap.size + 1, 1, none⟩ (.int .i64 nd)).setCell ⟨w.heap.size + 1, 2, none⟩ (.string sd)).setCell ⟨w.heap.size + 1, 3, none⟩ (.slice bd bm bz)).setCell ⟨w.heap.size + 1, 4, none⟩ (.slice fd fm fz)).setCell ⟨w.heap.size + 1, 5, none⟩ (.slice ld lm lz)).cell? ⟨g, o, none⟩ = some (.string a) := after_puts hf3 HG.out [.int .i64 kd, .int .i64 nd, .string sd, .slice bd bm bz, .slice fd fm fz, .slice ld lm lz]; clear hv3 hb3)))
 have hsz1 : W0.heap.size ≤ w1.heap.size := HB1.out.size
 have hsz0 : w.heap.size + 2 ≤ W0.heap.size := HX.out.2.2.2
 have hq := puts_kept (fun g => (Q g ∧ g < w.heap.size) ∨ w1.heap.size ≤ g) (w := w3) (G := w.heap.size + 1) (by rintro (⟨_, hg⟩ | hg) <;> omega) 0 [.int .i64 kd, .int .i64 nd, .string sd, .slice bd bm bz, .slice fd fm fz, .slice ld lm lz]
 have HV9 : Hid (VIn (puts w3 (w.heap.size + 1) 0 [.int .i64 kd, .int .i64 nd, .string sd, .slice bd bm bz, .slice fd fm fz, .slice ld lm lz]) (fun g => Q g ∨ w.heap.size ≤ g) (h + 1) (Bson.reach m (Bson.fieldIn x.f a) r) (.agg #[.int .i64 kd, .int .i64 nd, .string sd, .slice bd bm bz, .slice fd fm fz, .slice ld lm lz])) := HV3.out.kept hq (fun g hg => by
  rcases hg with hg | hg
  ·exact .inl hg.1
  ·exact .inr (by omega))
 have HB9 := Lib.hid (puts_below HX3.out.2.2.1 (G := w.heap.size + 1) (by omega) [.int .i64 kd, .int .i64 nd, .string sd, .slice bd bm bz, .slice fd fm fz, .slice ld lm lz] 0)
 clear hf hf2 hf3 hf4 hq
 go_wp2_with fail
 exact bodyPost_ret (v := .agg #[.int .i64 kd, .int .i64 nd, .string sd, .slice bd bm bz, .slice fd fm fz, .slice ld lm lz]) (by simp [results, Tryz.results196, go_sem, z0, z1, z2, z3, z4, z5]) rfl ⟨_, rfl, HV9.out, HB9.out⟩
end Go.Proofs.YtiajjgehnmkokaaGreatDoor
end
