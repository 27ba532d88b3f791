/- PathReachTop. -/
import Derived.Test.YtiajjgehnmkokaaGreatDoorMl10
set_option maxRecDepth 100000
set_option maxHeartbeats 20000000
section
namespace Go.Proofs.YtiajjgehnmkokaaGreatDoor
open Go.RowKit
open Seal
open Bson (Val)
theorem reach_any : ∀ (n h : Nat) (p : List ByteArray) (pa : Option Addr) (pn pc : Nat), p.length + h ≤ n → p.length = pn → pn ≤ pc → ReachAt (h + 1) p pa pn pc (fun x => Bson.reach n x p)
 | n, h, [], pa, pn, pc, _, hpn, _ => by
  obtain rfl : 0 = pn := hpn
  exact reach_empty h pa pc n
 | 0, h, a :: r, pa, pn, pc, hle, _, _ => by simp at hle
 | m + 1, h, a :: r, pa, pn, pc, hle, hpn, hpc => by
  intro Q x v w hv hp
  have hp2 := hp
  obtain ⟨g, o, rfl, hcell⟩ := hp.resolve_left (by simp)
  simp only [List.length_cons] at hle hpn
  by_cases h6 : x.kind = 6
  ·by_cases hc1 : pc = 1
   ·subst hc1
    obtain rfl : pn = 1 := by omega
    refine reach_last h a r g o m Q x v w (by simpa using hpn) h6 hv hcell ?_
    cases r with
    | nil => exact reach_empty h _ 0 m
    | cons b t => simp at hpn
   ·exact reach_doc h a r g o pn pc m Q x v w (by simpa using hpn) hpc hc1 h6 hv hcell (reach_any m h r _ (pn - 1) (pc - 1) (by omega) (by omega) (by omega))
  ·by_cases h7 : x.kind = 7
   ·refine reach_items h (a :: r) _ pn pc m ?_ Q x v w (by simp) (by simpa using hpn) h7 hv hp2
    cases h with
    | zero => intro Q x v w hv hp; exact hv.elim
    | succ h => exact reach_any m h (a :: r) _ pn pc (by simp; omega) (by simpa using hpn) hpc
   ·exact reach_else h (a :: r) _ pn pc (m + 1) Q x v w (by simp) (by simpa using hpn) h6 h7 hv
theorem Reach_any (n h : Nat) (p : List ByteArray) (pa : Option Addr) (pn pc : Nat) (hle : p.length + h ≤ n) (hpn : p.length = pn) (hpc : pn ≤ pc) (Q : Nat → Prop) (x : Val) (v : Value) (w : World) (hv : VIn w Q (h + 1) x v) (hp : StrsIn w pa p) :
  Calls Tryz.prog 195 #[v, .slice pa pn pc] w (ValPost (fun g => w.heap.size ≤ g) w (h + 1) (Bson.reach n x p)) := by
 have IH := Lib.hid (reach_any n h p pa pn pc hle hpn hpc)
 obtain ⟨xk, xn, xs, ba, fa, la, bn, bc, fn, fc, ln, lc, rfl, hrest⟩ := hv.letters
 clear hrest
 have HX := Lib.hid (BoxV.new (.int .i64 xk) (.int .i64 xn) (.string xs) (.slice ba bn bc) (.slice fa fn fc) (.slice la ln lc) w)
 have HV := Lib.hid (VIn.keep HX.out.2.2.1 hv)
 have HP := Lib.hid (hp.keep HX.out.2.2.1)
 clear hv hp hle hpn hpc
 obtain ⟨c0, c1, c2, c3, c4, c5⟩ := HX.out.cells
 generalize hW0 : (w.alloc (.cells #[.int .i64 xk, .int .i64 xn, .string xs, .slice ba bn bc, .slice fa fn fc, .slice la ln lc] 26)).alloc (.cells #[.int .i64 0, .int .i64 0, .string ⟨#[]⟩, .slice none 0 0, .slice none 0 0, .slice none 0 0] 26) = W0 at *
 go_enter Tryz.func195, Tryz.ntmps195
 go_wp2_with fail
 refine (IH.out _ _ _ _ HV.out HP.out).mono ?_
 rintro e w1 ⟨v1, rfl, hv1, hb1⟩
 have HX1 := Lib.hid (HX.out.keep hb1)
 have CP := Lib.hid (copy_any _ _ _ _ w1 hv1)
 have HS1 := Lib.hid hb1.size
 have HS0 : Hid (w.heap.size + 2 ≤ W0.heap.size) := HX.out.2.2.2
 clear hv1 hb1 c0 c1 c2 c3 c4 c5 hW0
 go_wp2_with fail
 refine CP.out.mono ?_
 rintro e w2 ⟨v2, rfl, hv2, hb2⟩
 obtain ⟨kd, nd, sd, bd, fd, ld, bm, bz, fm, fz, lm, lz, rfl⟩ := hv2.shape
 have HX2 := Lib.hid (HX1.out.keep hb2)
 have hq := puts_kept (fun g => w1.heap.size ≤ g) (w := w2) (G := w.heap.size + 1) (by have := HS1.out; have := HS0.out; omega) 0 [.int .i64 kd, .int .i64 nd, .string sd, .slice bd bm bz, .slice fd fm fz, .slice ld lm lz]
 have HV9 : Hid (VIn (puts w2 (w.heap.size + 1) 0 [.int .i64 kd, .int .i64 nd, .string sd, .slice bd bm bz, .slice fd fm fz, .slice ld lm lz]) (fun g => w.heap.size ≤ g) (h + 1) (Bson.reach n x p) (.agg #[.int .i64 kd, .int .i64 nd, .string sd, .slice bd bm bz, .slice fd fm fz, .slice ld lm lz])) := hv2.kept hq (fun g hg => by have := HS1.out; have := HS0.out; omega)
 have HB9 := Lib.hid (puts_below HX2.out.2.2.1 (G := w.heap.size + 1) (by omega) [.int .i64 kd, .int .i64 nd, .string sd, .slice bd bm bz, .slice fd fm fz, .slice ld lm lz] 0)
 obtain ⟨z0, z1, z2, z3, z4, z5, g0, g1, g2, g3, g4, g5⟩ := HX2.out.zeros
 clear hv2 hb2 hq
 go_wp2_with fail
 exact bodyPost_ret (v := .agg #[.int .i64 kd, .int .i64 nd, .string sd, .slice bd bm bz, .slice fd fm fz, .slice ld lm lz]) (by simp [results, Tryz.results195, go_sem, z0, z1, z2, z3, z4, z5]) rfl ⟨_, rfl, HV9.out, HB9.out⟩
end Go.Proofs.YtiajjgehnmkokaaGreatDoor
end
