/- ExprAdd, ExprNothing, ExprItem, ExprElem, ExprEv. -/
import Derived.Test.YtiajjgehnmkokaaGreatDoorMl18
import Derived.Test.YtiajjgehnmkokaaGreatDoorMl11
import Derived.Test.YtiajjgehnmkokaaGreatDoorMl8
set_option maxRecDepth 100000
set_option maxHeartbeats 20000000
section
namespace Go.Proofs.YtiajjgehnmkokaaGreatDoor
open Go.RowKit
open Seal
open Bson (Val)
def RP (P : Prop) (k : Nat) (I : (Nat → Bool) → (Nat → Value) → World → Prop) (D : Nat → Bool) (V : Nat → Value) (W : World) : Prop := I D V W ∧ (D k = true → P)
theorem RP.next {P : Prop} {k i : Nat} {I : (Nat → Bool) → (Nat → Value) → World → Prop} {D : Nat → Bool} {V V' : Nat → Value} {W W' : World} (h : RP P k I D V W) (hi : i ≠ k) (hn : I (setD D i) V' W') : RP P k I (setD D i) V' W' :=
 ⟨hn, fun e => h.2 (by rw [setD_ne (fun e => hi e.symm)] at e; exact e)⟩
theorem sumR_in {a b : Int} : (Num.sumR a b).2 = 0 → Num.In (Num.sumR a b).1 := by
 unfold Num.sumR
 split
 ·intro _; assumption
 ·intro e; cases e
theorem mulR_in {a b : Int} : (Num.mulR a b).2 = 0 → Num.In (Num.mulR a b).1 := by
 unfold Num.mulR
 split
 ·intro _; assumption
 ·intro e; cases e
theorem op_add_any (H hd C : Nat) (a : Option Addr) (n c : Nat) (fs : List (Nat → Val → Expr.Out)) (Q : Nat → Prop) (d : Val) (dv : Value) (w : World) (hn : fs.length = n) (hlim : n ≤ 3000) (hT : TermsIn w a H fs) (hd0 : VIn w Q (hd + 1) d dv) :
  Calls Tryz.prog 86 #[.agg #[.func (.func 86) #[] #[], .slice a n c], dv] w (EvPost w (H + hd + 1) (Expr.apply (C + hd) .add (outsOf fs hd d))) := by
 obtain ⟨dk, dn, ds, da, df, dl, ba, bc, fa, fc, la, lc, rfl⟩ := hd0.shape
 obtain ⟨W0, hW0⟩ : ∃ W0, W0 = ((w.alloc (.cells #[(.func (.func 86) #[] #[]), .slice a n c] 126)).alloc (.cells #[.int .i64 dk, .int .i64 dn, .string ds, .slice da ba bc, .slice df fa fc, .slice dl la lc] 26)).alloc (.cells #[.int .i64 0, .int .i64 0, .string ⟨#[]⟩, .slice none 0 0, .slice none 0 0, .slice none 0 0] 26) := ⟨_, rfl⟩
 have HB := Lib.hid (CB.new w (.func (.func 86) #[] #[]) a n c (.int .i64 dk) (.int .i64 dn) (.string ds) (.slice da ba bc) (.slice df fa fc) (.slice dl la lc) W0 hW0)
 have HW0 := Lib.hid hW0
 have c0 : W0.cell? ⟨w.heap.size, 0, none⟩ = some (.func (.func 86) #[] #[]) := (cell_of_row W0 _ 0 _ _ _ HB.out.call).trans rfl
 have c1 := HB.out.c1
 obtain ⟨x0, x1, x2, x3, x4, x5⟩ := HB.out.doc.cells
 have hin3 : Num.In 3 := by unfold Num.In; omega
 have hinZ : Num.In 0 := by unfold Num.In; omega
 obtain ⟨res, hres⟩ : ∃ z, z = FdR Num.sumR 3 0 (Expr.allO (outsOf fs hd d)) := ⟨_, rfl⟩
 have CP := Lib.hid (fun u (hu : Below w.heap.size w u) => fold_any H hd 86 113 Num.sumR numAdd_any (fun _ _ => rfl) (fun _ _ _ _ => sumR_in) 3 0 hin3 hinZ a n c fs Q d _ u hn hlim (hT.keep hu) (VIn.keep hu hd0))
 have hout : Expr.apply (C + hd) .add (outsOf fs hd d) = Expr.numO res := by
  rw [Expr.apply_add, hres]
  unfold Expr.all FdR
  split
  ·exact foldR_N _ _ _ _
  ·rfl
 rw [← hres] at CP
 rw [hout]
 obtain ⟨rk, rn, re⟩ := res
 clear hT hd0 hn hlim hres hout hW0 hin3 hinZ
 go_enter Tryz.func86, Tryz.ntmps86
 go_upto_region 1 with fail
 rw [← HW0.out]
 clear c0 c1 x0 x1 x2 x3 x4 x5
 refine wp_region_inv0 (fun V => { tmps := #[.agg #[.func (.func 86) #[] #[], .slice a n c], .agg #[.int .i64 dk, .int .i64 dn, .string ds, .slice da ba bc, .slice df fa fc, .slice dl la lc], .pointer (some ⟨w.heap.size, 0, none⟩), .pointer (some ⟨w.heap.size + 1, 0, none⟩), .pointer (some ⟨w.heap.size + 1 + 1, 0, none⟩), V 7, V 0, V 1, V 2, V 3, V 4, V 5], defers := [] }) (RP (Num.In rk ∧ Num.In rn) 3 (RJ w W0 [.agg #[.func (.func 86) #[] #[], .slice a n c], .agg #[.int .i64 dk, .int .i64 dn, .string ds, .slice da ba bc, .slice df fa fc, .slice dl la lc], .agg #[.int .i64 3, .int .i64 0, .string ⟨#[]⟩, .slice none 0 0, .slice none 0 0, .slice none 0 0], .tuple #[.agg #[.int .i64 rk, .int .i64 rn, .string ⟨#[]⟩, .slice none 0 0, .slice none 0 0, .slice none 0 0], .int .i64 re], .agg #[.int .i64 rk, .int .i64 rn, .string ⟨#[]⟩, .slice none 0 0, .slice none 0 0, .slice none 0 0], .int .i64 re, undef, .int .i64 re] (w.heap.size + 1 + 1) #[.int .i64 rk, .int .i64 rn, .string ⟨#[]⟩, .slice none 0 0, .slice none 0 0, .slice none 0 0] 6)) (by kernel_rfl) (by kernel_rfl) (by kernel_rfl) (fun V => by kernel_rfl) ?_ ⟨RJ.start HB.out.below, fun e => (by cases e)⟩ ?_
 ·refine ⟨?_, ?_⟩
  ·refine inv_free rfl (fun D9 V w5 hDi hpre hI K hK => ?_)
   have ho := fun g (hg : g < W0.heap.size) (hne : g ≠ w.heap.size + 1 + 1) => hI.1.2.2.2.2.2 g hg hne
   have hc := (ho w.heap.size (by have := HB.out.size; omega) (by omega)).trans HB.out.call
   have c0 : w5.cell? ⟨w.heap.size, 0, none⟩ = some (.func (.func 86) #[] #[]) := (cell_of_row w5 _ 0 _ _ _ hc).trans rfl
   have c1 : w5.cell? ⟨w.heap.size, 1, none⟩ = some (.slice a n c) := (cell_of_row w5 _ 1 _ _ _ hc).trans rfl
   clear ho hc
   go_simp
   exact put_is (by kernel_rfl) (hK.out (.agg #[.func (.func 86) #[] #[], .slice a n c]) w5 (hI.next (by decide) (hI.1.pure (by decide) (by have := HB.out.size; omega) rfl)))
  refine ⟨?_, ?_⟩
  ·refine inv_free rfl (fun D9 V w5 hDi hpre hI K hK => ?_)
   have ho := fun g (hg : g < W0.heap.size) (hne : g ≠ w.heap.size + 1 + 1) => hI.1.2.2.2.2.2 g hg hne
   have hc : IsBox w5 (w.heap.size + 1) (.int .i64 dk) (.int .i64 dn) (.string ds) (.slice da ba bc) (.slice df fa fc) (.slice dl la lc) := (ho (w.heap.size + 1) (by have := HB.out.size; omega) (by omega)).trans HB.out.doc
   obtain ⟨x0, x1, x2, x3, x4, x5⟩ := hc.cells
   clear ho hc
   go_simp
   exact put_is (by kernel_rfl) (hK.out (.agg #[.int .i64 dk, .int .i64 dn, .string ds, .slice da ba bc, .slice df fa fc, .slice dl la lc]) w5 (hI.next (by decide) (hI.1.pure (by decide) (by have := HB.out.size; omega) rfl)))
  refine ⟨?_, ?_⟩
  ·refine inv_free rfl (fun D9 V w5 hDi hpre hI K hK => ?_)
   go_simp
   refine (of_any 0 w5).mono ?_
   rintro e w6 ⟨rfl, hb6⟩
   exact put_is (by kernel_rfl) (hK.out (.agg #[.int .i64 3, .int .i64 0, .string ⟨#[]⟩, .slice none 0 0, .slice none 0 0, .slice none 0 0]) w6 (hI.next (by decide) (hI.1.step (by decide) (by have := HB.out.size; omega) hb6 rfl)))
  refine ⟨?_, ?_⟩
  ·refine inv_free rfl (fun D9 V w5 hDi hpre hI K hK => ?_)
   have h0 : V 0 = .agg #[.func (.func 86) #[] #[], .slice a n c] := hI.1.1 0 (hpre.out 0 (by kernel_rfl))
   have h1 : V 1 = .agg #[.int .i64 dk, .int .i64 dn, .string ds, .slice da ba bc, .slice df fa fc, .slice dl la lc] := hI.1.1 1 (hpre.out 1 (by kernel_rfl))
   have h2 : V 2 = .agg #[.int .i64 3, .int .i64 0, .string ⟨#[]⟩, .slice none 0 0, .slice none 0 0, .slice none 0 0] := hI.1.1 2 (hpre.out 2 (by kernel_rfl))
   go_simp
   refine (CP.out w5 hI.1.2.1).mono ?_
   rintro e w6 ⟨⟨rfl, hb6⟩, hin⟩
   exact put_is (by rw [h0, h1, h2]; kernel_rfl) (hK.out (.tuple #[.agg #[.int .i64 rk, .int .i64 rn, .string ⟨#[]⟩, .slice none 0 0, .slice none 0 0, .slice none 0 0], .int .i64 re]) w6 ⟨hI.1.step (by decide) (by have := HB.out.size; omega) hb6 rfl, fun _ => hin⟩)
  refine ⟨?_, ?_⟩
  ·refine inv_free rfl (fun D9 V w5 hDi hpre hI K hK => ?_)
   have h3 : V 3 = .tuple #[.agg #[.int .i64 rk, .int .i64 rn, .string ⟨#[]⟩, .slice none 0 0, .slice none 0 0, .slice none 0 0], .int .i64 re] := hI.1.1 3 (hpre.out 3 (by kernel_rfl))
   go_simp
   exact put_is (by rw [h3]; kernel_rfl) (hK.out (.agg #[.int .i64 rk, .int .i64 rn, .string ⟨#[]⟩, .slice none 0 0, .slice none 0 0, .slice none 0 0]) w5 (hI.next (by decide) (hI.1.pure (by decide) (by have := HB.out.size; omega) rfl)))
  refine ⟨?_, ?_⟩
  ·refine inv_free rfl (fun D9 V w5 hDi hpre hI K hK => ?_)
   have h3 : V 3 = .tuple #[.agg #[.int .i64 rk, .int .i64 rn, .string ⟨#[]⟩, .slice none 0 0, .slice none 0 0, .slice none 0 0], .int .i64 re] := hI.1.1 3 (hpre.out 3 (by kernel_rfl))
   go_simp
   exact put_is (by rw [h3]; kernel_rfl) (hK.out (.int .i64 re) w5 (hI.next (by decide) (hI.1.pure (by decide) (by have := HB.out.size; omega) rfl)))
  refine ⟨?_, ?_⟩
  ·refine inv_free rfl (fun D9 V w5 hDi hpre hI K hK => ?_)
   have h4 : V 4 = .agg #[.int .i64 rk, .int .i64 rn, .string ⟨#[]⟩, .slice none 0 0, .slice none 0 0, .slice none 0 0] := hI.1.1 4 (hpre.out 4 (by kernel_rfl))
   obtain ⟨hbx, h10⟩ := hI.1.store hDi (by have := HB.out.size; omega) (by omega) (fun W hW => (HB.out.keep hW).res) rfl
   obtain ⟨z0, z1, z2, z3, z4, z5⟩ := hbx.cells
   obtain ⟨q0, q1, q2, q3, q4, q5⟩ := hbx.thaw
   go_simp
   exact put_is (by rw [h4]; kernel_rfl) (hK.out undef _ (hI.next (by decide) h10))
  refine ⟨?_, ?_⟩
  ·refine inv_free rfl (fun D9 V w5 hDi hpre hI K hK => ?_)
   have h5 : V 5 = .int .i64 re := hI.1.1 5 (hpre.out 5 (by kernel_rfl))
   go_simp
   exact put_is (by rw [h5]; kernel_rfl) (hK.out (.int .i64 re) w5 (hI.next (by decide) (hI.1.pure (by decide) (by have := HB.out.size; omega) rfl)))
  trivial
 intro V0 V w5 hD hI
 have h7 : V 7 = .int .i64 re := hI.1.1 7 (hD 7 (by decide))
 rw [h7]
 have hbx : IsBox w5 (w.heap.size + 1 + 1) (.int .i64 rk) (.int .i64 rn) (.string ⟨#[]⟩) (.slice none 0 0) (.slice none 0 0) (.slice none 0 0) := hI.1.2.2.2.1 (hD 6 (by decide))
 obtain ⟨r0, r1, r2, r3, r4, r5⟩ := hbx.cells
 have HEND := Lib.hid hI.1.2.1
 have HIN := Lib.hid (hI.2 (hD 3 (by decide)))
 clear hI hD h7
 go_wp2_with fail
 exact bodyPost_ret (v := .tuple #[.agg #[.int .i64 rk, .int .i64 rn, .string ⟨#[]⟩, .slice none 0 0, .slice none 0 0, .slice none 0 0], .int .i64 re]) (by simp [results, Tryz.results86, go_sem, *]) rfl ⟨_, rfl, leafV_in _ _ rk rn HIN.out.1 HIN.out.2 _, HEND.out⟩
theorem op_multiply_any (H hd C : Nat) (a : Option Addr) (n c : Nat) (fs : List (Nat → Val → Expr.Out)) (Q : Nat → Prop) (d : Val) (dv : Value) (w : World) (hn : fs.length = n) (hlim : n ≤ 3000) (hT : TermsIn w a H fs) (hd0 : VIn w Q (hd + 1) d dv) :
  Calls Tryz.prog 87 #[.agg #[.func (.func 87) #[] #[], .slice a n c], dv] w (EvPost w (H + hd + 1) (Expr.apply (C + hd) .multiply (outsOf fs hd d))) := by
 obtain ⟨dk, dn, ds, da, df, dl, ba, bc, fa, fc, la, lc, rfl⟩ := hd0.shape
 obtain ⟨W0, hW0⟩ : ∃ W0, W0 = ((w.alloc (.cells #[(.func (.func 87) #[] #[]), .slice a n c] 126)).alloc (.cells #[.int .i64 dk, .int .i64 dn, .string ds, .slice da ba bc, .slice df fa fc, .slice dl la lc] 26)).alloc (.cells #[.int .i64 0, .int .i64 0, .string ⟨#[]⟩, .slice none 0 0, .slice none 0 0, .slice none 0 0] 26) := ⟨_, rfl⟩
 have HB := Lib.hid (CB.new w (.func (.func 87) #[] #[]) a n c (.int .i64 dk) (.int .i64 dn) (.string ds) (.slice da ba bc) (.slice df fa fc) (.slice dl la lc) W0 hW0)
 have HW0 := Lib.hid hW0
 have c0 : W0.cell? ⟨w.heap.size, 0, none⟩ = some (.func (.func 87) #[] #[]) := (cell_of_row W0 _ 0 _ _ _ HB.out.call).trans rfl
 have c1 := HB.out.c1
 obtain ⟨x0, x1, x2, x3, x4, x5⟩ := HB.out.doc.cells
 have hin3 : Num.In 3 := by unfold Num.In; omega
 have hinZ : Num.In 1 := by unfold Num.In; omega
 obtain ⟨res, hres⟩ : ∃ z, z = FdR Num.mulR 3 1 (Expr.allO (outsOf fs hd d)) := ⟨_, rfl⟩
 have CP := Lib.hid (fun u (hu : Below w.heap.size w u) => fold_any H hd 87 114 Num.mulR numMul_any (fun _ _ => rfl) (fun _ _ _ _ => mulR_in) 3 1 hin3 hinZ a n c fs Q d _ u hn hlim (hT.keep hu) (VIn.keep hu hd0))
 have hout : Expr.apply (C + hd) .multiply (outsOf fs hd d) = Expr.numO res := by
  rw [Expr.apply_multiply, hres]
  unfold Expr.all FdR
  split
  ·exact foldR_N _ _ _ _
  ·rfl
 rw [← hres] at CP
 rw [hout]
 obtain ⟨rk, rn, re⟩ := res
 clear hT hd0 hn hlim hres hout hW0 hin3 hinZ
 go_enter Tryz.func87, Tryz.ntmps87
 go_upto_region 1 with fail
 rw [← HW0.out]
 clear c0 c1 x0 x1 x2 x3 x4 x5
 refine wp_region_inv0 (fun V => { tmps := #[.agg #[.func (.func 87) #[] #[], .slice a n c], .agg #[.int .i64 dk, .int .i64 dn, .string ds, .slice da ba bc, .slice df fa fc, .slice dl la lc], .pointer (some ⟨w.heap.size, 0, none⟩), .pointer (some ⟨w.heap.size + 1, 0, none⟩), .pointer (some ⟨w.heap.size + 1 + 1, 0, none⟩), V 7, V 0, V 1, V 2, V 3, V 4, V 5], defers := [] }) (RP (Num.In rk ∧ Num.In rn) 3 (RJ w W0 [.agg #[.func (.func 87) #[] #[], .slice a n c], .agg #[.int .i64 dk, .int .i64 dn, .string ds, .slice da ba bc, .slice df fa fc, .slice dl la lc], .agg #[.int .i64 3, .int .i64 1, .string ⟨#[]⟩, .slice none 0 0, .slice none 0 0, .slice none 0 0], .tuple #[.agg #[.int .i64 rk, .int .i64 rn, .string ⟨#[]⟩, .slice none 0 0, .slice none 0 0, .slice none 0 0], .int .i64 re], .agg #[.int .i64 rk, .int .i64 rn, .string ⟨#[]⟩, .slice none 0 0, .slice none 0 0, .slice none 0 0], .int .i64 re, undef, .int .i64 re] (w.heap.size + 1 + 1) #[.int .i64 rk, .int .i64 rn, .string ⟨#[]⟩, .slice none 0 0, .slice none 0 0, .slice none 0 0] 6)) (by kernel_rfl) (by kernel_rfl) (by kernel_rfl) (fun V => by kernel_rfl) ?_ ⟨RJ.start HB.out.below, fun e => (by cases e)⟩ ?_
 ·refine ⟨?_, ?_⟩
  ·refine inv_free rfl (fun D9 V w5 hDi hpre hI K hK => ?_)
   have ho := fun g (hg : g < W0.heap.size) (hne : g ≠ w.heap.size + 1 + 1) => hI.1.2.2.2.2.2 g hg hne
   have hc := (ho w.heap.size (by have := HB.out.size; omega) (by omega)).trans HB.out.call
   have c0 : w5.cell? ⟨w.heap.size, 0, none⟩ = some (.func (.func 87) #[] #[]) := (cell_of_row w5 _ 0 _ _ _ hc).trans rfl
   have c1 : w5.cell? ⟨w.heap.size, 1, none⟩ = some (.slice a n c) := (cell_of_row w5 _ 1 _ _ _ hc).trans rfl
   clear ho hc
   go_simp
   exact put_is (by kernel_rfl) (hK.out (.agg #[.func (.func 87) #[] #[], .slice a n c]) w5 (hI.next (by decide) (hI.1.pure (by decide) (by have := HB.out.size; omega) rfl)))
  refine ⟨?_, ?_⟩
  ·refine inv_free rfl (fun D9 V w5 hDi hpre hI K hK => ?_)
   have ho := fun g (hg : g < W0.heap.size) (hne : g ≠ w.heap.size + 1 + 1) => hI.1.2.2.2.2.2 g hg hne
   have hc : IsBox w5 (w.heap.size + 1) (.int .i64 dk) (.int .i64 dn) (.string ds) (.slice da ba bc) (.slice df fa fc) (.slice dl la lc) := (ho (w.heap.size + 1) (by have := HB.out.size; omega) (by omega)).trans HB.out.doc
   obtain ⟨x0, x1, x2, x3, x4, x5⟩ := hc.cells
   clear ho hc
   go_simp
   exact put_is (by kernel_rfl) (hK.out (.agg #[.int .i64 dk, .int .i64 dn, .string ds, .slice da ba bc, .slice df fa fc, .slice dl la lc]) w5 (hI.next (by decide) (hI.1.pure (by decide) (by have := HB.out.size; omega) rfl)))
  refine ⟨?_, ?_⟩
  ·refine inv_free rfl (fun D9 V w5 hDi hpre hI K hK => ?_)
   go_simp
   refine (of_any 1 w5).mono ?_
   rintro e w6 ⟨rfl, hb6⟩
   exact put_is (by kernel_rfl) (hK.out (.agg #[.int .i64 3, .int .i64 1, .string ⟨#[]⟩, .slice none 0 0, .slice none 0 0, .slice none 0 0]) w6 (hI.next (by decide) (hI.1.step (by decide) (by have := HB.out.size; omega) hb6 rfl)))
  refine ⟨?_, ?_⟩
  ·refine inv_free rfl (fun D9 V w5 hDi hpre hI K hK => ?_)
   have h0 : V 0 = .agg #[.func (.func 87) #[] #[], .slice a n c] := hI.1.1 0 (hpre.out 0 (by kernel_rfl))
   have h1 : V 1 = .agg #[.int .i64 dk, .int .i64 dn, .string ds, .slice da ba bc, .slice df fa fc, .slice dl la lc] := hI.1.1 1 (hpre.out 1 (by kernel_rfl))
   have h2 : V 2 = .agg #[.int .i64 3, .int .i64 1, .string ⟨#[]⟩, .slice none 0 0, .slice none 0 0, .slice none 0 0] := hI.1.1 2 (hpre.out 2 (by kernel_rfl))
   go_simp
   refine (CP.out w5 hI.1.2.1).mono ?_
   rintro e w6 ⟨⟨rfl, hb6⟩, hin⟩
   exact put_is (by rw [h0, h1, h2]; kernel_rfl) (hK.out (.tuple #[.agg #[.int .i64 rk, .int .i64 rn, .string ⟨#[]⟩, .slice none 0 0, .slice none 0 0, .slice none 0 0], .int .i64 re]) w6 ⟨hI.1.step (by decide) (by have := HB.out.size; omega) hb6 rfl, fun _ => hin⟩)
  refine ⟨?_, ?_⟩
  ·refine inv_free rfl (fun D9 V w5 hDi hpre hI K hK => ?_)
   have h3 : V 3 = .tuple #[.agg #[.int .i64 rk, .int .i64 rn, .string ⟨#[]⟩, .slice none 0 0, .slice none 0 0, .slice none 0 0], .int .i64 re] := hI.1.1 3 (hpre.out 3 (by kernel_rfl))
   go_simp
   exact put_is (by rw [h3]; kernel_rfl) (hK.out (.agg #[.int .i64 rk, .int .i64 rn, .string ⟨#[]⟩, .slice none 0 0, .slice none 0 0, .slice none 0 0]) w5 (hI.next (by decide) (hI.1.pure (by decide) (by have := HB.out.size; omega) rfl)))
  refine ⟨?_, ?_⟩
  ·refine inv_free rfl (fun D9 V w5 hDi hpre hI K hK => ?_)
   have h3 : V 3 = .tuple #[.agg #[.int .i64 rk, .int .i64 rn, .string ⟨#[]⟩, .slice none 0 0, .slice none 0 0, .slice none 0 0], .int .i64 re] := hI.1.1 3 (hpre.out 3 (by kernel_rfl))
   go_simp
   exact put_is (by rw [h3]; kernel_rfl) (hK.out (.int .i64 re) w5 (hI.next (by decide) (hI.1.pure (by decide) (by have := HB.out.size; omega) rfl)))
  refine ⟨?_, ?_⟩
  ·refine inv_free rfl (fun D9 V w5 hDi hpre hI K hK => ?_)
   have h4 : V 4 = .agg #[.int .i64 rk, .int .i64 rn, .string ⟨#[]⟩, .slice none 0 0, .slice none 0 0, .slice none 0 0] := hI.1.1 4 (hpre.out 4 (by kernel_rfl))
   obtain ⟨hbx, h10⟩ := hI.1.store hDi (by have := HB.out.size; omega) (by omega) (fun W hW => (HB.out.keep hW).res) rfl
   obtain ⟨z0, z1, z2, z3, z4, z5⟩ := hbx.cells
   obtain ⟨q0, q1, q2, q3, q4, q5⟩ := hbx.thaw
   go_simp
   exact put_is (by rw [h4]; kernel_rfl) (hK.out undef _ (hI.next (by decide) h10))
  refine ⟨?_, ?_⟩
  ·refine inv_free rfl (fun D9 V w5 hDi hpre hI K hK => ?_)
   have h5 : V 5 = .int .i64 re := hI.1.1 5 (hpre.out 5 (by kernel_rfl))
   go_simp
   exact put_is (by rw [h5]; kernel_rfl) (hK.out (.int .i64 re) w5 (hI.next (by decide) (hI.1.pure (by decide) (by have := HB.out.size; omega) rfl)))
  trivial
 intro V0 V w5 hD hI
 have h7 : V 7 = .int .i64 re := hI.1.1 7 (hD 7 (by decide))
 rw [h7]
 have hbx : IsBox w5 (w.heap.size + 1 + 1) (.int .i64 rk) (.int .i64 rn) (.string ⟨#[]⟩) (.slice none 0 0) (.slice none 0 0) (.slice none 0 0) := hI.1.2.2.2.1 (hD 6 (by decide))
 obtain ⟨r0, r1, r2, r3, r4, r5⟩ := hbx.cells
 have HEND := Lib.hid hI.1.2.1
 have HIN := Lib.hid (hI.2 (hD 3 (by decide)))
 clear hI hD h7
 go_wp2_with fail
 exact bodyPost_ret (v := .tuple #[.agg #[.int .i64 rk, .int .i64 rn, .string ⟨#[]⟩, .slice none 0 0, .slice none 0 0, .slice none 0 0], .int .i64 re]) (by simp [results, Tryz.results87, go_sem, *]) rfl ⟨_, rfl, leafV_in _ _ rk rn HIN.out.1 HIN.out.2 _, HEND.out⟩
def noneAt : List Val → Nat → Int
 | [], _ => -1
 | x :: r, i => if noneB x.kind = true then (i : Int) else noneAt r (i + 1)
theorem noneAt_ge : ∀ (l : List Val) (i : Nat), (0 ≤ noneAt l i ↔ (l.any fun x => noneB x.kind) = true)
 | [], i => by simp [noneAt]
 | x :: r, i => by
  have ih := noneAt_ge r (i + 1)
  rw [noneAt, List.any_cons]
  by_cases h : noneB x.kind = true
  ·rw [if_pos h, h]; simp
  ·rw [if_neg h, ih]; simp [h]
theorem nIndex_any (w : World) (Q : Nat → Prop) (B : Nat) (a : Option Addr) (n c : Nat) (l : List Val) (hn : l.length = n) (hm : n ≤ 3000) (hit : ItemsIn w Q (VIn w Q B) a l) :
  Calls Tryz.prog 149 #[.slice a n c, .func (.func 131) #[] #[]] w fun e w' => e = .returned (.int .i64 (noneAt l 0)) ∧ Below w.heap.size w w' := by
 have HN := Lib.hid hn
 have HIT := Lib.hid hit
 obtain ⟨res, hres⟩ : ∃ z, z = noneAt l 0 := ⟨_, rfl⟩
 rw [← hres]
 have HRES := Lib.hid hres
 clear hn hit hres
 go_enter Tryz.func149, Tryz.ntmps149
 go_wp2_with fail
 go_loopw [8] (fun i wr => ∃ k : Nat, i = .int .i64 k ∧ k ≤ n ∧ Hid (res = noneAt (l.drop k) k) ∧ Hid (Below w.heap.size w wr)) (fun i _ => n - (intOf i).toNat)
 case atStart => exact ⟨0, rfl, Nat.zero_le _, HRES.out, Below.refl _ _⟩
 case round =>
  obtain ⟨k, rfl, hk, HP, HBr⟩ := hrel
  by_cases hlt : k < n
  ·have hkr : k < l.length := by rw [HN.out]; exact hlt
   obtain ⟨g, o, rfl, -, hall⟩ := HIT.out.resolve_left (fun e => by rw [e] at hkr; cases hkr)
   obtain ⟨v', hsix, hV⟩ := hall k hkr
   obtain ⟨ik, im, is_, b0, f0, l0, bb0, bc0, fb0, fc0, lb0, lc0, rfl⟩ := hV.shape
   obtain ⟨e1, -, -, -, -⟩ := hV.top
   obtain ⟨s0, s1, s2, s3, s4, s5⟩ := (hsix.keep HBr.out).cells
   have hdrop : l.drop k = l[k] :: l.drop (k + 1) := List.drop_eq_getElem_cons hkr
   have hstep : res = if noneB ik = true then (k : Int) else noneAt (l.drop (k + 1)) (k + 1) := by
    rw [HP.out, hdrop, noneAt, ← e1]
   have CN := Lib.hid (isNothing_any ik im (.string is_) (.slice b0 bb0 bc0) (.slice f0 fb0 fc0) (.slice l0 lb0 lc0) wr)
   have HST := Lib.hid hstep
   clear hall hsix hV e1 hdrop hstep
   by_cases he : noneB ik = true
   ·rw [he] at CN
    have hre : res = (k : Int) := by have := HST.out; rw [if_pos he] at this; exact this
    have HRE := Lib.hid hre
    clear he hre
    go_wp2_with fail
    refine CN.out.mono ?_
    rintro e w2 ⟨rfl, hb2⟩
    have HB2 := Lib.hid (HBr.out.trans (hb2.mono HBr.out.size))
    clear hb2 CN
    go_wp2_with fail
    go_ret
    exact ⟨ret_eq (by rw [HRE.out]; rfl), HB2.out⟩
   ·have hf : noneB ik = false := Bool.not_eq_true _ ▸ he
    rw [hf] at CN
    have hre : Hid (res = noneAt (l.drop (k + 1)) (k + 1)) := by have := HST.out; rw [if_neg he] at this; exact this
    clear he hf
    go_wp2_with fail
    refine CN.out.mono ?_
    rintro e w2 ⟨rfl, hb2⟩
    have HB2 := Lib.hid (HBr.out.trans (hb2.mono HBr.out.size))
    clear hb2 CN
    go_wp2_with fail
    go_roundw
    case rel => exact ⟨k + 1, by go_num, by omega, hre.out, HB2.out⟩
    case measure => simp [intOf]; omega
  ·obtain rfl : k = n := by omega
   have hre : res = -1 := by rw [HP.out, List.drop_eq_nil_of_le (by rw [HN.out]; exact Nat.le_refl _)]; rfl
   have HRE := Lib.hid hre
   clear hre
   go_wp2_with fail
   go_ret
   exact ⟨ret_eq (by rw [HRE.out]; rfl), HBr.out⟩
theorem nHas_any (w : World) (Q : Nat → Prop) (B : Nat) (a : Option Addr) (n c : Nat) (l : List Val) (hn : l.length = n) (hm : n ≤ 3000) (hit : ItemsIn w Q (VIn w Q B) a l) :
  Calls Tryz.prog 133 #[.slice a n c, .func (.func 131) #[] #[]] w fun e w' => e = .returned (.bool (l.any fun x => noneB x.kind)) ∧ Below w.heap.size w w' := by
 have CN := Lib.hid (nIndex_any w Q B a n c l hn hm hit)
 have hge := noneAt_ge l 0
 obtain ⟨z, hz⟩ : ∃ z, z = noneAt l 0 := ⟨_, rfl⟩
 rw [← hz] at CN hge
 obtain ⟨b, hb⟩ : ∃ b, b = (l.any fun x => noneB x.kind) := ⟨_, rfl⟩
 rw [← hb] at hge ⊢
 have HD : Hid (decide (z ≥ 0) = b) := by
  show _ = _
  by_cases h : 0 ≤ z
  ·rw [hge.1 h, decide_eq_true h]
  ·rw [decide_eq_false h]
   cases b with
   | false => rfl
   | true => exact absurd (hge.2 rfl) h
 clear hn hm hit hge hz hb
 go_enter Tryz.func133, Tryz.ntmps133
 go_wp2_with fail
 refine CN.out.mono ?_
 rintro e w2 ⟨rfl, hb2⟩
 have HB2 := Lib.hid hb2
 clear hb2 CN
 go_wp2_with fail
 go_ret
 exact ⟨ret_eq (by rw [← HD.out]; rfl), HB2.out⟩
def itemAt (l : List Val) (n : Int) : Val := if n < 0 then (if 0 ≤ n + l.length then l.getD (n + l.length).toNat Bson.zero else Bson.zero) else l.getD n.toNat Bson.zero
theorem itemAt_lo {l : List Val} {n : Int} {j : Nat} (h0 : n < 0) (h : n + l.length = j) (hj : j < l.length) : itemAt l n = l[j] := by
 unfold itemAt
 rw [if_pos h0, if_pos (by omega), h, Int.toNat_natCast, List.getD_eq_getElem?_getD, List.getElem?_eq_getElem hj]; rfl
theorem itemAt_hi {l : List Val} {j : Nat} (hj : j < l.length) : itemAt l (j : Int) = l[j] := by
 unfold itemAt
 rw [if_neg (by omega), Int.toNat_natCast, List.getD_eq_getElem?_getD, List.getElem?_eq_getElem hj]; rfl
theorem itemAt_under {l : List Val} {n : Int} (h0 : n < 0) (h : n + l.length < 0) : itemAt l n = Bson.zero := by
 unfold itemAt
 rw [if_pos h0, if_neg (by omega)]
theorem itemAt_over {l : List Val} {n : Int} (h : (l.length : Int) ≤ n) : itemAt l n = Bson.zero := by
 unfold itemAt
 rw [if_neg (by omega), List.getD_eq_getElem?_getD, List.getElem?_eq_none (by omega)]; rfl
theorem item_any (w : World) (Q : Nat → Prop) (B : Nat) (hB : 1 ≤ B) (a : Option Addr) (m c : Nat) (l : List Val) (hl : l.length = m) (hm : m ≤ 1353245080339) (hit : ItemsIn w Q (VIn w Q B) a l) (n : Int) (hn : Num.In n) :
  ∃ v, VIn w Q B (itemAt l n) v ∧ ∀ u, Kept Q w u → Calls Tryz.prog 135 #[.slice a m c, .int .i64 n] u fun e w' => e = .returned v ∧ Below u.heap.size u w' := by
 obtain ⟨hn0, hn1⟩ := hn
 obtain ⟨n0, hnn⟩ : ∃ z, z = n := ⟨_, rfl⟩
 by_cases h0 : n < 0
 ·obtain ⟨i, hi⟩ : ∃ i, i = n + (m : Int) := ⟨_, rfl⟩
  by_cases h1 : i < 0
  ·have hre := itemAt_under (l := l) h0 (by rw [hl]; omega)
   have hw : wrap64 (n + (m : Int)) = i := by rw [IntWalk.wrap64_in _ (by omega), hi]
   have hi2 : n + (m : Int) = i := hi.symm
   refine ⟨.agg #[.int .i64 0, .int .i64 0, .string ⟨#[]⟩, .slice none 0 0, .slice none 0 0, .slice none 0 0], by rw [hre]; exact (zero_in _ _).up hB, fun u hu => ?_⟩
   obtain ⟨W0, hW0⟩ : ∃ W0, W0 = u.alloc (.cells #[.int .i64 0, .int .i64 0, .string ⟨#[]⟩, .slice none 0 0, .slice none 0 0, .slice none 0 0] 26) := ⟨_, rfl⟩
   have HB : Hid (Below u.heap.size u W0) := by rw [hW0]; exact (Below.refl _ _).alloc (Nat.le_refl _) _
   have hbx : IsBox W0 u.heap.size (.int .i64 0) (.int .i64 0) (.string ⟨#[]⟩) (.slice none 0 0) (.slice none 0 0) (.slice none 0 0) := by rw [hW0]; exact IsBox.new u (.int .i64 0) (.int .i64 0) (.string ⟨#[]⟩) (.slice none 0 0) (.slice none 0 0) (.slice none 0 0)
   obtain ⟨r0, r1, r2, r3, r4, r5⟩ := hbx.cells
   obtain ⟨q0, q1, q2, q3, q4, q5⟩ := hbx.thaw
   have HW0 := Lib.hid hW0
   clear hbx hW0
   have HEND := Lib.hid (below_six HB.out (Nat.le_refl u.heap.size) (.int .i64 0) (.int .i64 0) (.string ⟨#[]⟩) (.slice none 0 0) (.slice none 0 0) (.slice none 0 0))
   clear hre hi hnn hit hl hB hu
   go_enter Tryz.func135, Tryz.ntmps135
   go_upto_region 1 with fail
   rw [← HW0.out]
   go_wp2_with fail
   exact bodyPost_ret (v := .agg #[.int .i64 0, .int .i64 0, .string ⟨#[]⟩, .slice none 0 0, .slice none 0 0, .slice none 0 0]) (by simp [results, Tryz.results135, go_sem, *]) rfl ⟨rfl, HEND.out⟩
  ·obtain ⟨j, rfl⟩ : ∃ j : Nat, i = j := ⟨i.toNat, by omega⟩
   have hj : j < l.length := by omega
   have hget := itemAt_lo (l := l) h0 (by rw [hl]; exact hi.symm) hj
   rw [← hnn] at hget ⊢
   have hw : wrap64 (n + (m : Int)) = (j : Int) := by rw [IntWalk.wrap64_in _ (by omega), hi]
   have hi2 : n + (m : Int) = (j : Int) := hi.symm
   rw [hnn]
   rw [show itemAt l n = itemAt l n0 by rw [hnn]]
   obtain ⟨g, o, rfl, hq, hall⟩ := hit.resolve_left (fun e => by rw [e] at hj; cases hj)
   obtain ⟨v', hsix, hV⟩ := hall j hj
   obtain ⟨ik, im, is_, b0, f0, l0, bb0, bc0, fb0, fc0, lb0, lc0, rfl⟩ := hV.shape
   rw [← hget] at hV
   refine ⟨.agg #[.int .i64 ik, .int .i64 im, .string is_, .slice b0 bb0 bc0, .slice f0 fb0 fc0, .slice l0 lb0 lc0], hV, fun u hu => ?_⟩
   obtain ⟨W0, hW0⟩ : ∃ W0, W0 = u.alloc (.cells #[.int .i64 0, .int .i64 0, .string ⟨#[]⟩, .slice none 0 0, .slice none 0 0, .slice none 0 0] 26) := ⟨_, rfl⟩
   have HB : Hid (Below u.heap.size u W0) := by rw [hW0]; exact (Below.refl _ _).alloc (Nat.le_refl _) _
   have hbx : IsBox W0 u.heap.size (.int .i64 0) (.int .i64 0) (.string ⟨#[]⟩) (.slice none 0 0) (.slice none 0 0) (.slice none 0 0) := by rw [hW0]; exact IsBox.new u (.int .i64 0) (.int .i64 0) (.string ⟨#[]⟩) (.slice none 0 0) (.slice none 0 0) (.slice none 0 0)
   obtain ⟨r0, r1, r2, r3, r4, r5⟩ := hbx.cells
   obtain ⟨q0, q1, q2, q3, q4, q5⟩ := hbx.thaw
   have HW0 := Lib.hid hW0
   clear hbx hW0
   obtain ⟨s0, s1, s2, s3, s4, s5⟩ := ((hsix.kept hu hq).keep HB.out).cells
   have HEND := Lib.hid (puts_below HB.out (Nat.le_refl u.heap.size) [.int .i64 ik, .int .i64 im, .string is_, .slice b0 bb0 bc0, .slice f0 fb0 fc0, .slice l0 lb0 lc0] 0)
   have hjm : (j : Int) < (m : Int) := by omega
   clear hi hnn hit hl hB hall hsix hV hget hj hq hu
   go_enter Tryz.func135, Tryz.ntmps135
   go_upto_region 1 with fail
   rw [← HW0.out]
   go_wp2_with fail
   exact bodyPost_ret (v := .agg #[.int .i64 ik, .int .i64 im, .string is_, .slice b0 bb0 bc0, .slice f0 fb0 fc0, .slice l0 lb0 lc0]) (by simp [results, Tryz.results135, go_sem, *]) rfl ⟨rfl, HEND.out⟩
 ·by_cases h1 : n < (m : Int)
  ·obtain ⟨j, rfl⟩ : ∃ j : Nat, n = j := ⟨n.toNat, by omega⟩
   have hj : j < l.length := by omega
   have hget := itemAt_hi hj
   rw [show itemAt l (j : Int) = itemAt l n0 by rw [hnn]] at hget ⊢
   obtain ⟨g, o, rfl, hq, hall⟩ := hit.resolve_left (fun e => by rw [e] at hj; cases hj)
   obtain ⟨v', hsix, hV⟩ := hall j hj
   obtain ⟨ik, im, is_, b0, f0, l0, bb0, bc0, fb0, fc0, lb0, lc0, rfl⟩ := hV.shape
   rw [← hget] at hV
   refine ⟨.agg #[.int .i64 ik, .int .i64 im, .string is_, .slice b0 bb0 bc0, .slice f0 fb0 fc0, .slice l0 lb0 lc0], hV, fun u hu => ?_⟩
   obtain ⟨W0, hW0⟩ : ∃ W0, W0 = u.alloc (.cells #[.int .i64 0, .int .i64 0, .string ⟨#[]⟩, .slice none 0 0, .slice none 0 0, .slice none 0 0] 26) := ⟨_, rfl⟩
   have HB : Hid (Below u.heap.size u W0) := by rw [hW0]; exact (Below.refl _ _).alloc (Nat.le_refl _) _
   have hbx : IsBox W0 u.heap.size (.int .i64 0) (.int .i64 0) (.string ⟨#[]⟩) (.slice none 0 0) (.slice none 0 0) (.slice none 0 0) := by rw [hW0]; exact IsBox.new u (.int .i64 0) (.int .i64 0) (.string ⟨#[]⟩) (.slice none 0 0) (.slice none 0 0) (.slice none 0 0)
   obtain ⟨r0, r1, r2, r3, r4, r5⟩ := hbx.cells
   obtain ⟨q0, q1, q2, q3, q4, q5⟩ := hbx.thaw
   have HW0 := Lib.hid hW0
   clear hbx hW0
   obtain ⟨s0, s1, s2, s3, s4, s5⟩ := ((hsix.kept hu hq).keep HB.out).cells
   have HEND := Lib.hid (puts_below HB.out (Nat.le_refl u.heap.size) [.int .i64 ik, .int .i64 im, .string is_, .slice b0 bb0 bc0, .slice f0 fb0 fc0, .slice l0 lb0 lc0] 0)
   have hjm : (j : Int) < (m : Int) := by omega
   clear hnn h0 h1 hit hl hB hall hsix hV hget hj hq hu
   go_enter Tryz.func135, Tryz.ntmps135
   go_upto_region 1 with fail
   rw [← HW0.out]
   go_wp2_with fail
   exact bodyPost_ret (v := .agg #[.int .i64 ik, .int .i64 im, .string is_, .slice b0 bb0 bc0, .slice f0 fb0 fc0, .slice l0 lb0 lc0]) (by simp [results, Tryz.results135, go_sem, *]) rfl ⟨rfl, HEND.out⟩
  ·have hre := itemAt_over (l := l) (n := n) (by rw [hl]; omega)
   have hge : (m : Int) ≤ n := by omega
   refine ⟨.agg #[.int .i64 0, .int .i64 0, .string ⟨#[]⟩, .slice none 0 0, .slice none 0 0, .slice none 0 0], by rw [hre]; exact (zero_in _ _).up hB, fun u hu => ?_⟩
   obtain ⟨W0, hW0⟩ : ∃ W0, W0 = u.alloc (.cells #[.int .i64 0, .int .i64 0, .string ⟨#[]⟩, .slice none 0 0, .slice none 0 0, .slice none 0 0] 26) := ⟨_, rfl⟩
   have HB : Hid (Below u.heap.size u W0) := by rw [hW0]; exact (Below.refl _ _).alloc (Nat.le_refl _) _
   have hbx : IsBox W0 u.heap.size (.int .i64 0) (.int .i64 0) (.string ⟨#[]⟩) (.slice none 0 0) (.slice none 0 0) (.slice none 0 0) := by rw [hW0]; exact IsBox.new u (.int .i64 0) (.int .i64 0) (.string ⟨#[]⟩) (.slice none 0 0) (.slice none 0 0) (.slice none 0 0)
   obtain ⟨r0, r1, r2, r3, r4, r5⟩ := hbx.cells
   obtain ⟨q0, q1, q2, q3, q4, q5⟩ := hbx.thaw
   have HW0 := Lib.hid hW0
   clear hbx hW0
   have HEND := Lib.hid (below_six HB.out (Nat.le_refl u.heap.size) (.int .i64 0) (.int .i64 0) (.string ⟨#[]⟩) (.slice none 0 0) (.slice none 0 0) (.slice none 0 0))
   clear hre hnn hit hl hB hu
   go_enter Tryz.func135, Tryz.ntmps135
   go_upto_region 1 with fail
   rw [← HW0.out]
   go_wp2_with fail
   exact bodyPost_ret (v := .agg #[.int .i64 0, .int .i64 0, .string ⟨#[]⟩, .slice none 0 0, .slice none 0 0, .slice none 0 0]) (by simp [results, Tryz.results135, go_sem, *]) rfl ⟨rfl, HEND.out⟩
theorem two_list {α : Type} {l : List α} (h : l.length = 2) : ∃ x y, l = [x, y] := by
 match l, h with
 | [x, y], _ => exact ⟨x, y, rfl⟩
theorem op_arrayElemAt_any (H hd C : Nat) (a : Option Addr) (n c : Nat) (fs : List (Nat → Val → Expr.Out)) (Q : Nat → Prop) (d : Val) (dv : Value) (w : World) (hn : fs.length = n) (h2 : n = 2) (hT : TermsIn w a H fs) (hd0 : VIn w Q (hd + 1) d dv) :
  Calls Tryz.prog 106 #[.agg #[.func (.func 106) #[] #[], .slice a n c], dv] w (EvPost w (H + hd + 1) (Expr.apply (C + hd) .arrayElemAt (outsOf fs hd d))) := by
 obtain ⟨dk, dn, ds, da, df, dl, ba, bc, fa, fc, la, lc, rfl⟩ := hd0.shape
 obtain ⟨W0, hW0⟩ : ∃ W0, W0 = ((w.alloc (.cells #[(.func (.func 106) #[] #[]), .slice a n c] 126)).alloc (.cells #[.int .i64 dk, .int .i64 dn, .string ds, .slice da ba bc, .slice df fa fc, .slice dl la lc] 26)).alloc (.cells #[.int .i64 0, .int .i64 0, .string ⟨#[]⟩, .slice none 0 0, .slice none 0 0, .slice none 0 0] 26) := ⟨_, rfl⟩
 have HB := Lib.hid (CB.new w (.func (.func 106) #[] #[]) a n c (.int .i64 dk) (.int .i64 dn) (.string ds) (.slice da ba bc) (.slice df fa fc) (.slice dl la lc) W0 hW0)
 have HW0 := Lib.hid hW0
 have c0 : W0.cell? ⟨w.heap.size, 0, none⟩ = some (.func (.func 106) #[] #[]) := (cell_of_row W0 _ 0 _ _ _ HB.out.call).trans rfl
 have c1 := HB.out.c1
 obtain ⟨x0, x1, x2, x3, x4, x5⟩ := HB.out.doc.cells
 have CA := Lib.hid (evalAll_any H hd a n c fs Q d _ W0 hn (by omega) (hT.keep HB.out.below) (VIn.keep HB.out.below hd0))
 obtain ⟨res, hres⟩ : ∃ z, z = Expr.apply (C + hd) .arrayElemAt (outsOf fs hd d) := ⟨_, rfl⟩
 have hres2 : res = if (Expr.allO (outsOf fs hd d)).1 = 0 then Expr.pairV Expr.itemV (Expr.allO (outsOf fs hd d)).2 else Expr.bad (Expr.allO (outsOf fs hd d)).1 := hres
 rw [← hres]
 obtain ⟨r, hr⟩ : ∃ r, r = Expr.allO (outsOf fs hd d) := ⟨_, rfl⟩
 have hrl : r.1 = 0 → r.2.length = 2 := fun h => by rw [hr] at h ⊢; rw [Expr.allO_len h, outsOf_length, hn, h2]
 rw [← hr] at CA hres2
 have HRL := Lib.hid hrl
 have HRES := Lib.hid hres2
 clear hT hd0 hn h2 hr hrl hres hres2 hW0
 go_enter Tryz.func106, Tryz.ntmps106
 go_upto_region 1 with fail
 rw [← HW0.out]
 go_wp2_with fail
 clear c0 c1 x0 x1 x2 x3 x4 x5
 refine CA.out.mono ?_
 rintro e w2 ⟨v2, rfl, hA, hN, hb2⟩
 have HB2 := Lib.hid (HB.out.keep hb2)
 by_cases hz : r.1 = 0
 ·obtain ⟨xs, hA⟩ := hA hz
  have hl2 := HRL.out hz
  have hbase := fun g (hg : v2.ownBlock = some g) => owns_block hA.own hg
  obtain ⟨a', c', rfl, hc', hit⟩ := hA.items (Q' := fun g => W0.heap.size ≤ g) (fun _ h => h) (fun _ h _ => by omega)
  have CN := Lib.hid (nHas_any w2 _ _ a' 2 c' r.2 hl2 (by omega) hit)
  obtain ⟨g, o, rfl, v0, v1, s0, s1, hv0, hv1⟩ := two_of hit hl2
  obtain ⟨x, y, hxy⟩ := two_list hl2
  have hres2 : res = Expr.itemV x y := by rw [HRES.out, if_pos hz, hxy]; rfl
  rw [hxy] at hv0 hv1 CN
  have hv0 : VIn w2 _ _ x v0 := hv0
  have hv1 : VIn w2 _ _ y v1 := hv1
  have hg := hbase g rfl
  obtain ⟨k0, n0, t0, b0, f0, l0, bb0, bc0, fb0, fc0, lb0, lc0, rfl⟩ := hv0.shape
  obtain ⟨k1, n1, t1, b1, f1, l1, bb1, bc1, fb1, fc1, lb1, lc1, rfl⟩ := hv1.shape
  obtain ⟨p1, -, -, p4, -⟩ := hv0.top
  obtain ⟨u1, u2, -, -, uL⟩ := hv1.top
  have hin1 : Num.In n1 := by rw [u2]; exact ⟨uL.n0, uL.n1⟩
  have hany : ([x, y].any fun x => noneB x.kind) = (noneB k0 || noneB k1) := by rw [p1, u1]; simp
  rw [hany] at CN
  rw [hz, hl2]
  obtain ⟨nb, hnb⟩ : ∃ b, b = (noneB k0 || noneB k1) := ⟨_, rfl⟩
  rw [← hnb] at CN
  have HRI := Lib.hid hres2
  have HXY := Lib.hid (And.intro p1 (And.intro u1 u2))
  have HS := Lib.hid (And.intro s0 s1)
  have HVV := Lib.hid (And.intro hv0 hv1)
  have HG2 : Hid (g < w2.heap.size ∧ W0.heap.size ≤ g) := ⟨hg.2, by have := hg.1; omega⟩
  have HQR : Hid (w.heap.size + 1 + 1 < W0.heap.size) := by have := HB.out.size; show _ < _; omega
  have HIN1 := Lib.hid hin1
  have HP4 := Lib.hid p4
  clear hA hN hb2 hc' hit hl2 hv0 hv1 s0 s1 hz hres2 hxy p1 p4 u1 u2 uL hbase hg hany hin1
  cases nb with
  | true =>
   have hor : noneB k0 = true ∨ noneB k1 = true := by
    cases h1 : noneB k0
    ·rw [h1] at hnb; exact .inr hnb.symm
    ·exact .inl rfl
   have hre : res = (0, Expr.leafV 2 0) := by rw [HRI.out]; unfold Expr.itemV; rw [if_pos (by rw [← HXY.out.1, ← HXY.out.2.1]; exact hor)]
   have HRE := Lib.hid hre
   clear hre hor hnb
   go_wp2_with fail
   refine CN.out.mono ?_
   rintro e w3 ⟨rfl, hb3⟩
   have HB3 := Lib.hid (HB2.out.keep hb3)
   have HEND := Lib.hid (below_six HB3.out.below (by omega : w.heap.size ≤ w.heap.size + 1 + 1) (.int .i64 2) (.int .i64 0) (.string ⟨#[]⟩) (.slice none 0 0) (.slice none 0 0) (.slice none 0 0))
   obtain ⟨r0, r1, r2, r3, r4, r5⟩ := HB3.out.res.cells
   obtain ⟨q0, q1, q2, q3, q4, q5⟩ := HB3.out.res.thaw
   clear hb3 CN
   go_wp2_with fail
   exact bodyPost_ret (v := .tuple #[.agg #[.int .i64 2, .int .i64 0, .string ⟨#[]⟩, .slice none 0 0, .slice none 0 0, .slice none 0 0], .int .i64 0]) (by simp [results, Tryz.results106, go_sem, *]) rfl ⟨_, by rw [HRE.out], by rw [HRE.out]; exact leafV_in _ _ 2 0 (by omega) (by omega) _, HEND.out⟩
  | false =>
   have hno : ¬ (noneB k0 = true ∨ noneB k1 = true) := by
    rintro (h | h)
    ·rw [h] at hnb; cases hnb
    ·rw [h, Bool.or_true] at hnb; cases hnb
   have HNO : Hid (¬ (noneB x.kind = true ∨ noneB y.kind = true)) := by rw [← HXY.out.1, ← HXY.out.2.1]; exact hno
   clear hno hnb
   go_wp2_with fail
   refine CN.out.mono ?_
   rintro e w3 ⟨rfl, hb3⟩
   have HB3 := Lib.hid (HB2.out.keep hb3)
   obtain ⟨T, hT⟩ : ∃ T, T = w3.heap.size := ⟨_, rfl⟩
   obtain ⟨W4, hW4⟩ : ∃ W4, W4 = w3.alloc (.cells #[.int .i64 k1, .int .i64 n1, .string t1, .slice b1 bb1 bc1, .slice f1 fb1 fc1, .slice l1 lb1 lc1] 26) := ⟨_, rfl⟩
   have hb4 : Below w3.heap.size w3 W4 := by rw [hW4]; exact (Below.refl _ _).alloc (Nat.le_refl _) _
   have HB4 := Lib.hid (HB3.out.keep hb4)
   have hb24 := hb3.trans (hb4.mono hb3.size)
   have HX : Hid (IsBox W4 T (.int .i64 k1) (.int .i64 n1) (.string t1) (.slice b1 bb1 bc1) (.slice f1 fb1 fc1) (.slice l1 lb1 lc1)) := by rw [hW4, hT]; exact IsBox.new w3 (.int .i64 k1) (.int .i64 n1) (.string t1) (.slice b1 bb1 bc1) (.slice f1 fb1 fc1) (.slice l1 lb1 lc1)
   have HT : Hid (T < W4.heap.size ∧ T ≠ w.heap.size + 1 + 1) := by
    have := HB3.out.size
    rw [hW4, hT]; exact ⟨by simp, by omega⟩
   have HS0 := Lib.hid (HS.out.1.keep hb24)
   have HG : Hid (g < W4.heap.size ∧ g ≠ w.heap.size + 1 + 1) := ⟨by have := HG2.out.1; have := hb24.size; omega, by have := HG2.out.2; have := HQR.out; omega⟩
   have hv0 := (VIn.keep hb24 HVV.out.1).up (h' := H + hd + 2) (by omega)
   obtain ⟨hlb, hit0⟩ := hv0.items
   have him := item_any W4 (fun g => W0.heap.size ≤ g) (H + hd + 1) (by omega) l0 lb0 lc0 x.l hlb.symm (by rw [hlb]; exact hv0.top.2.2.2.2.l) hit0 n1 HIN1.out
   rw [HXY.out.2.2] at him
   rw [← HXY.out.2.2] at him
   obtain ⟨vi, hvi, him⟩ := him
   obtain ⟨k2, n2, t2, b2, f2, l2, bb2, bc2, fb2, fc2, lb2, lc2, rfl⟩ := hvi.shape
   have HV : Hid (VIn W4 (fun g => W0.heap.size ≤ g) (H + hd + 1) (itemAt x.l y.n) (.agg #[.int .i64 k2, .int .i64 n2, .string t2, .slice b2 bb2 bc2, .slice f2 fb2 fc2, .slice l2 lb2 lc2])) := by
    have := hvi
    rw [HXY.out.2.2] at this
    exact this
   have HIM := Lib.hid him
   have HW4 : Hid (W4 = w3.alloc (.cells #[.int .i64 k1, .int .i64 n1, .string t1, .slice b1 bb1 bc1, .slice f1 fb1 fc1, .slice l1 lb1 lc1] 26)) := hW4
   have HTT : Hid (T = w3.heap.size) := hT
   obtain ⟨s0, s1, s2, s3, s4, s5⟩ := (HS.out.1.keep hb3).cells
   obtain ⟨y0, y1, y2, y3, y4, y5⟩ := (HS.out.2.keep hb3).cells
   clear hb3 hb4 hb24 CN hv0 hlb hit0 hvi him hW4 hT
   go_upto_region 7 with fail
   rw [← HW4.out, ← HTT.out]
   clear s0 s1 s2 s3 s4 s5 y0 y1 y2 y3 y4 y5
   obtain ⟨s0, s1, s2, s3, s4, s5⟩ := HS0.out.cells
   obtain ⟨y0, y1, y2, y3, y4, y5⟩ := HX.out.cells
   by_cases hk0 : k0 = 7
   ·by_cases hk1 : k1 = 3
    ·have hnb : numB k1 = true := by rw [hk1]; rfl
     have hre : res = (0, itemAt x.l y.n) := by rw [HRI.out]; unfold Expr.itemV; rw [if_neg HNO.out, if_neg (fun h => h.elim (fun h => h (by rw [← HXY.out.1, hk0])) (fun h => by rw [← HXY.out.2.1, hnb] at h; cases h))]; rfl
     have HRE := Lib.hid hre
     clear hre hnb
     subst hk0 hk1
     go_upto_region 9 with fail
     refine wp_region_inv0 (fun V => { tmps := #[Value.agg #[Value.func (Fn.func 106) #[] #[], Value.slice a n c], Value.agg #[Value.int .i64 dk, Value.int .i64 dn, Value.string ds, Value.slice da ba bc, Value.slice df fa fc, Value.slice dl la lc], Value.pointer (some ⟨w.heap.size, 0, none⟩), Value.pointer (some ⟨w.heap.size + 1, 0, none⟩), Value.pointer (some ⟨w.heap.size + 1 + 1, 0, none⟩), V 8, Value.slice (some ⟨g, o, none⟩) 2 c', Value.int .i64 0, Value.pointer (some ⟨T, 0, none⟩), Value.tuple #[Value.slice (some ⟨g, o, none⟩) 2 c', Value.int .i64 0], Value.pointer (some ⟨w.heap.size, 1, none⟩), Value.slice a n c, Value.agg #[Value.int .i64 dk, Value.int .i64 dn, Value.string ds, Value.slice da ba bc, Value.slice df fa fc, Value.slice dl la lc], Value.tuple #[Value.slice (some ⟨g, o, none⟩) 2 c', Value.int .i64 0], Value.slice (some ⟨g, o, none⟩) 2 c', Value.int .i64 0, Value.int .i64 0, Value.bool false, undef, undef, Value.slice (some ⟨g, o, none⟩) 2 c', Value.bool false, undef, Value.slice (some ⟨g, o, none⟩) 2 c', Value.pointer (some ⟨g, o + 6, none⟩), Value.agg #[Value.int .i64 3, Value.int .i64 n1, Value.string t1, Value.slice b1 bb1 bc1, Value.slice f1 fb1 fc1, Value.slice l1 lb1 lc1], Value.slice (some ⟨g, o, none⟩) 2 c', Value.pointer (some ⟨g, o, none⟩), Value.pointer (some ⟨g, o, none⟩), Value.int .i64 7, Value.bool false, Value.bool false, Value.pointer (some ⟨T, 0, none⟩), Value.int .i64 3, Value.bool false, Value.bool false, undef, undef, undef, Value.bool false, Value.bool false, undef, V 0, V 1, V 2, V 3, V 4, V 5, V 6], defers := [] }) (RJ w W4 [(.slice (some ⟨g, o, none⟩) 2 c'), (.pointer (some ⟨g, o, none⟩)), (.pointer (some ⟨g, o + 5, none⟩)), (.slice l0 lb0 lc0), (.pointer (some ⟨T, 1, none⟩)), (.int .i64 n1), (.agg #[.int .i64 k2, .int .i64 n2, .string t2, .slice b2 bb2 bc2, .slice f2 fb2 fc2, .slice l2 lb2 lc2]), undef, (.int .i64 0)] (w.heap.size + 1 + 1) #[.int .i64 k2, .int .i64 n2, .string t2, .slice b2 bb2 bc2, .slice f2 fb2 fc2, .slice l2 lb2 lc2] 7) (by kernel_rfl) (by kernel_rfl) (by kernel_rfl) (fun V => by kernel_rfl) ?_ (RJ.start HB4.out.below) ?_
     ·refine ⟨?_, ?_⟩
      ·refine inv_free rfl (fun D9 V w5 hDi hpre hI K hK => ?_)
       go_simp
       exact put_is (by kernel_rfl) (hK.out ((.slice (some ⟨g, o, none⟩) 2 c')) w5 (hI.pure (by decide) (by have := HB4.out.size; omega) rfl))
      refine ⟨?_, ?_⟩
      ·refine inv_free rfl (fun D9 V w5 hDi hpre hI K hK => ?_)
       have h0 : V 0 = (.slice (some ⟨g, o, none⟩) 2 c') := hI.1 0 (hpre.out 0 (by kernel_rfl))
       go_simp
       exact put_is (by rw [h0]; kernel_rfl) (hK.out ((.pointer (some ⟨g, o, none⟩))) w5 (hI.pure (by decide) (by have := HB4.out.size; omega) rfl))
      refine ⟨?_, ?_⟩
      ·refine inv_free rfl (fun D9 V w5 hDi hpre hI K hK => ?_)
       have h1 : V 1 = (.pointer (some ⟨g, o, none⟩)) := hI.1 1 (hpre.out 1 (by kernel_rfl))
       go_simp
       exact put_is (by rw [h1]; kernel_rfl) (hK.out ((.pointer (some ⟨g, o + 5, none⟩))) w5 (hI.pure (by decide) (by have := HB4.out.size; omega) rfl))
      refine ⟨?_, ?_⟩
      ·refine inv_free rfl (fun D9 V w5 hDi hpre hI K hK => ?_)
       have h2 : V 2 = (.pointer (some ⟨g, o + 5, none⟩)) := hI.1 2 (hpre.out 2 (by kernel_rfl))
       obtain ⟨y0, y1, y2, y3, y4, y5⟩ := six_old HS0.out (fun g hg hne => hI.2.2.2.2.2 g hg hne) HG.out.1 HG.out.2
       go_simp
       exact put_is (by rw [h2]; kernel_rfl) (hK.out ((.slice l0 lb0 lc0)) w5 (hI.pure (by decide) (by have := HB4.out.size; omega) rfl))
      refine ⟨?_, ?_⟩
      ·refine inv_free rfl (fun D9 V w5 hDi hpre hI K hK => ?_)
       go_simp
       exact put_is (by kernel_rfl) (hK.out ((.pointer (some ⟨T, 1, none⟩))) w5 (hI.pure (by decide) (by have := HB4.out.size; omega) rfl))
      refine ⟨?_, ?_⟩
      ·refine inv_free rfl (fun D9 V w5 hDi hpre hI K hK => ?_)
       have h4 : V 4 = (.pointer (some ⟨T, 1, none⟩)) := hI.1 4 (hpre.out 4 (by kernel_rfl))
       have hc : IsBox w5 T (.int .i64 3) (.int .i64 n1) (.string t1) (.slice b1 bb1 bc1) (.slice f1 fb1 fc1) (.slice l1 lb1 lc1) := (hI.2.2.2.2.2 T HT.out.1 HT.out.2).trans HX.out
       obtain ⟨x0, x1, x2, x3, x4, x5⟩ := hc.cells
       clear hc
       go_simp
       exact put_is (by rw [h4]; kernel_rfl) (hK.out ((.int .i64 n1)) w5 (hI.pure (by decide) (by have := HB4.out.size; omega) rfl))
      refine ⟨?_, ?_⟩
      ·refine inv_free rfl (fun D9 V w5 hDi hpre hI K hK => ?_)
       have h3 : V 3 = (.slice l0 lb0 lc0) := hI.1 3 (hpre.out 3 (by kernel_rfl))
       have h5 : V 5 = (.int .i64 n1) := hI.1 5 (hpre.out 5 (by kernel_rfl))
       have CI := HIM.out w5 (fun g hq hg => hI.2.2.2.2.2 g hg (by have := HB4.out.size; have := HQR.out; omega))
       go_simp
       refine CI.mono ?_
       rintro e w6 ⟨rfl, hb6⟩
       exact put_is (by rw [h3, h5]; kernel_rfl) (hK.out (.agg #[.int .i64 k2, .int .i64 n2, .string t2, .slice b2 bb2 bc2, .slice f2 fb2 fc2, .slice l2 lb2 lc2]) w6 (hI.step (by decide) (by have := HB4.out.size; omega) hb6 rfl))
      refine ⟨?_, ?_⟩
      ·refine inv_free rfl (fun D9 V w5 hDi hpre hI K hK => ?_)
       have h6 : V 6 = (.agg #[.int .i64 k2, .int .i64 n2, .string t2, .slice b2 bb2 bc2, .slice f2 fb2 fc2, .slice l2 lb2 lc2]) := hI.1 6 (hpre.out 6 (by kernel_rfl))
       obtain ⟨hbx, h10⟩ := hI.store hDi (by have := HB4.out.size; omega) (by omega) (fun W hW => (HB4.out.keep hW).res) rfl
       obtain ⟨z0, z1, z2, z3, z4, z5⟩ := hbx.cells
       obtain ⟨q0, q1, q2, q3, q4, q5⟩ := hbx.thaw
       go_simp
       exact put_is (by rw [h6]; kernel_rfl) (hK.out undef _ h10)
      refine ⟨?_, ?_⟩
      ·refine inv_free rfl (fun D9 V w5 hDi hpre hI K hK => ?_)
       go_simp
       exact put_is (by kernel_rfl) (hK.out ((.int .i64 0)) w5 (hI.pure (by decide) (by have := HB4.out.size; omega) rfl))
      trivial
     intro V0 V w5 hD hI
     have h8 : V 8 = .int .i64 0 := hI.1 8 (hD 8 (by decide))
     rw [h8]
     have hbx : IsBox w5 (w.heap.size + 1 + 1) (.int .i64 k2) (.int .i64 n2) (.string t2) (.slice b2 bb2 bc2) (.slice f2 fb2 fc2) (.slice l2 lb2 lc2) := hI.2.2.2.1 (hD 7 (by decide))
     obtain ⟨r0, r1, r2, r3, r4, r5⟩ := hbx.cells
     have HEND : Hid (VIn w5 (fun g => w.heap.size ≤ g) (H + hd + 1) (itemAt x.l y.n) (.agg #[.int .i64 k2, .int .i64 n2, .string t2, .slice b2 bb2 bc2, .slice f2 fb2 fc2, .slice l2 lb2 lc2]) ∧ Below w.heap.size w w5) := ⟨HV.out.kept (fun g hq hg => hI.2.2.2.2.2 g hg (by have := HQR.out; omega)) (fun g hg => by have := HQR.out; omega), hI.2.1⟩
     clear hI hD h8
     go_wp2_with fail
     exact bodyPost_ret (v := .tuple #[.agg #[.int .i64 k2, .int .i64 n2, .string t2, .slice b2 bb2 bc2, .slice f2 fb2 fc2, .slice l2 lb2 lc2], .int .i64 0]) (by simp [results, Tryz.results106, go_sem, *]) rfl ⟨_, by rw [HRE.out], by rw [HRE.out]; exact HEND.out.1, HEND.out.2⟩
    ·by_cases hk1' : k1 = 4
     ·have hk1 := hk1'
      have hnb : numB k1 = true := by rw [hk1]; rfl
      have hre : res = (0, itemAt x.l y.n) := by rw [HRI.out]; unfold Expr.itemV; rw [if_neg HNO.out, if_neg (fun h => h.elim (fun h => h (by rw [← HXY.out.1, hk0])) (fun h => by rw [← HXY.out.2.1, hnb] at h; cases h))]; rfl
      have HRE := Lib.hid hre
      clear hre hnb
      subst hk0 hk1
      go_upto_region 9 with fail
      refine wp_region_inv0 (fun V => { tmps := #[Value.agg #[Value.func (Fn.func 106) #[] #[], Value.slice a n c], Value.agg #[Value.int .i64 dk, Value.int .i64 dn, Value.string ds, Value.slice da ba bc, Value.slice df fa fc, Value.slice dl la lc], Value.pointer (some ⟨w.heap.size, 0, none⟩), Value.pointer (some ⟨w.heap.size + 1, 0, none⟩), Value.pointer (some ⟨w.heap.size + 1 + 1, 0, none⟩), V 8, Value.slice (some ⟨g, o, none⟩) 2 c', Value.int .i64 0, Value.pointer (some ⟨T, 0, none⟩), Value.tuple #[Value.slice (some ⟨g, o, none⟩) 2 c', Value.int .i64 0], Value.pointer (some ⟨w.heap.size, 1, none⟩), Value.slice a n c, Value.agg #[Value.int .i64 dk, Value.int .i64 dn, Value.string ds, Value.slice da ba bc, Value.slice df fa fc, Value.slice dl la lc], Value.tuple #[Value.slice (some ⟨g, o, none⟩) 2 c', Value.int .i64 0], Value.slice (some ⟨g, o, none⟩) 2 c', Value.int .i64 0, Value.int .i64 0, Value.bool false, undef, undef, Value.slice (some ⟨g, o, none⟩) 2 c', Value.bool false, undef, Value.slice (some ⟨g, o, none⟩) 2 c', Value.pointer (some ⟨g, o + 6, none⟩), Value.agg #[Value.int .i64 4, Value.int .i64 n1, Value.string t1, Value.slice b1 bb1 bc1, Value.slice f1 fb1 fc1, Value.slice l1 lb1 lc1], Value.slice (some ⟨g, o, none⟩) 2 c', Value.pointer (some ⟨g, o, none⟩), Value.pointer (some ⟨g, o, none⟩), Value.int .i64 7, Value.bool false, Value.bool false, Value.pointer (some ⟨T, 0, none⟩), Value.int .i64 4, Value.bool true, Value.bool true, Value.pointer (some ⟨T, 0, none⟩), Value.int .i64 4, Value.bool false, Value.bool false, Value.bool false, undef, V 0, V 1, V 2, V 3, V 4, V 5, V 6], defers := [] }) (RJ w W4 [(.slice (some ⟨g, o, none⟩) 2 c'), (.pointer (some ⟨g, o, none⟩)), (.pointer (some ⟨g, o + 5, none⟩)), (.slice l0 lb0 lc0), (.pointer (some ⟨T, 1, none⟩)), (.int .i64 n1), (.agg #[.int .i64 k2, .int .i64 n2, .string t2, .slice b2 bb2 bc2, .slice f2 fb2 fc2, .slice l2 lb2 lc2]), undef, (.int .i64 0)] (w.heap.size + 1 + 1) #[.int .i64 k2, .int .i64 n2, .string t2, .slice b2 bb2 bc2, .slice f2 fb2 fc2, .slice l2 lb2 lc2] 7) (by kernel_rfl) (by kernel_rfl) (by kernel_rfl) (fun V => by kernel_rfl) ?_ (RJ.start HB4.out.below) ?_
      ·refine ⟨?_, ?_⟩
       ·refine inv_free rfl (fun D9 V w5 hDi hpre hI K hK => ?_)
        go_simp
        exact put_is (by kernel_rfl) (hK.out ((.slice (some ⟨g, o, none⟩) 2 c')) w5 (hI.pure (by decide) (by have := HB4.out.size; omega) rfl))
       refine ⟨?_, ?_⟩
       ·refine inv_free rfl (fun D9 V w5 hDi hpre hI K hK => ?_)
        have h0 : V 0 = (.slice (some ⟨g, o, none⟩) 2 c') := hI.1 0 (hpre.out 0 (by kernel_rfl))
        go_simp
        exact put_is (by rw [h0]; kernel_rfl) (hK.out ((.pointer (some ⟨g, o, none⟩))) w5 (hI.pure (by decide) (by have := HB4.out.size; omega) rfl))
       refine ⟨?_, ?_⟩
       ·refine inv_free rfl (fun D9 V w5 hDi hpre hI K hK => ?_)
        have h1 : V 1 = (.pointer (some ⟨g, o, none⟩)) := hI.1 1 (hpre.out 1 (by kernel_rfl))
        go_simp
        exact put_is (by rw [h1]; kernel_rfl) (hK.out ((.pointer (some ⟨g, o + 5, none⟩))) w5 (hI.pure (by decide) (by have := HB4.out.size; omega) rfl))
       refine ⟨?_, ?_⟩
       ·refine inv_free rfl (fun D9 V w5 hDi hpre hI K hK => ?_)
        have h2 : V 2 = (.pointer (some ⟨g, o + 5, none⟩)) := hI.1 2 (hpre.out 2 (by kernel_rfl))
        obtain ⟨y0, y1, y2, y3, y4, y5⟩ := six_old HS0.out (fun g hg hne => hI.2.2.2.2.2 g hg hne) HG.out.1 HG.out.2
        go_simp
        exact put_is (by rw [h2]; kernel_rfl) (hK.out ((.slice l0 lb0 lc0)) w5 (hI.pure (by decide) (by have := HB4.out.size; omega) rfl))
       refine ⟨?_, ?_⟩
       ·refine inv_free rfl (fun D9 V w5 hDi hpre hI K hK => ?_)
        go_simp
        exact put_is (by kernel_rfl) (hK.out ((.pointer (some ⟨T, 1, none⟩))) w5 (hI.pure (by decide) (by have := HB4.out.size; omega) rfl))
       refine ⟨?_, ?_⟩
       ·refine inv_free rfl (fun D9 V w5 hDi hpre hI K hK => ?_)
        have h4 : V 4 = (.pointer (some ⟨T, 1, none⟩)) := hI.1 4 (hpre.out 4 (by kernel_rfl))
        have hc : IsBox w5 T (.int .i64 4) (.int .i64 n1) (.string t1) (.slice b1 bb1 bc1) (.slice f1 fb1 fc1) (.slice l1 lb1 lc1) := (hI.2.2.2.2.2 T HT.out.1 HT.out.2).trans HX.out
        obtain ⟨x0, x1, x2, x3, x4, x5⟩ := hc.cells
        clear hc
        go_simp
        exact put_is (by rw [h4]; kernel_rfl) (hK.out ((.int .i64 n1)) w5 (hI.pure (by decide) (by have := HB4.out.size; omega) rfl))
       refine ⟨?_, ?_⟩
       ·refine inv_free rfl (fun D9 V w5 hDi hpre hI K hK => ?_)
        have h3 : V 3 = (.slice l0 lb0 lc0) := hI.1 3 (hpre.out 3 (by kernel_rfl))
        have h5 : V 5 = (.int .i64 n1) := hI.1 5 (hpre.out 5 (by kernel_rfl))
        have CI := HIM.out w5 (fun g hq hg => hI.2.2.2.2.2 g hg (by have := HB4.out.size; have := HQR.out; omega))
        go_simp
        refine CI.mono ?_
        rintro e w6 ⟨rfl, hb6⟩
        exact put_is (by rw [h3, h5]; kernel_rfl) (hK.out (.agg #[.int .i64 k2, .int .i64 n2, .string t2, .slice b2 bb2 bc2, .slice f2 fb2 fc2, .slice l2 lb2 lc2]) w6 (hI.step (by decide) (by have := HB4.out.size; omega) hb6 rfl))
       refine ⟨?_, ?_⟩
       ·refine inv_free rfl (fun D9 V w5 hDi hpre hI K hK => ?_)
        have h6 : V 6 = (.agg #[.int .i64 k2, .int .i64 n2, .string t2, .slice b2 bb2 bc2, .slice f2 fb2 fc2, .slice l2 lb2 lc2]) := hI.1 6 (hpre.out 6 (by kernel_rfl))
        obtain ⟨hbx, h10⟩ := hI.store hDi (by have := HB4.out.size; omega) (by omega) (fun W hW => (HB4.out.keep hW).res) rfl
        obtain ⟨z0, z1, z2, z3, z4, z5⟩ := hbx.cells
        obtain ⟨q0, q1, q2, q3, q4, q5⟩ := hbx.thaw
        go_simp
        exact put_is (by rw [h6]; kernel_rfl) (hK.out undef _ h10)
       refine ⟨?_, ?_⟩
       ·refine inv_free rfl (fun D9 V w5 hDi hpre hI K hK => ?_)
        go_simp
        exact put_is (by kernel_rfl) (hK.out ((.int .i64 0)) w5 (hI.pure (by decide) (by have := HB4.out.size; omega) rfl))
       trivial
      intro V0 V w5 hD hI
      have h8 : V 8 = .int .i64 0 := hI.1 8 (hD 8 (by decide))
      rw [h8]
      have hbx : IsBox w5 (w.heap.size + 1 + 1) (.int .i64 k2) (.int .i64 n2) (.string t2) (.slice b2 bb2 bc2) (.slice f2 fb2 fc2) (.slice l2 lb2 lc2) := hI.2.2.2.1 (hD 7 (by decide))
      obtain ⟨r0, r1, r2, r3, r4, r5⟩ := hbx.cells
      have HEND : Hid (VIn w5 (fun g => w.heap.size ≤ g) (H + hd + 1) (itemAt x.l y.n) (.agg #[.int .i64 k2, .int .i64 n2, .string t2, .slice b2 bb2 bc2, .slice f2 fb2 fc2, .slice l2 lb2 lc2]) ∧ Below w.heap.size w w5) := ⟨HV.out.kept (fun g hq hg => hI.2.2.2.2.2 g hg (by have := HQR.out; omega)) (fun g hg => by have := HQR.out; omega), hI.2.1⟩
      clear hI hD h8
      go_wp2_with fail
      exact bodyPost_ret (v := .tuple #[.agg #[.int .i64 k2, .int .i64 n2, .string t2, .slice b2 bb2 bc2, .slice f2 fb2 fc2, .slice l2 lb2 lc2], .int .i64 0]) (by simp [results, Tryz.results106, go_sem, *]) rfl ⟨_, by rw [HRE.out], by rw [HRE.out]; exact HEND.out.1, HEND.out.2⟩
     ·have h3 : (k1 == 3) = false := by rw [beq_eq_false_iff_ne]; exact hk1
      have h4 : (k1 == 4) = false := by rw [beq_eq_false_iff_ne]; exact hk1'
      have h3' : (k1 != 3) = true := by unfold bne; rw [h3]; rfl
      have h4' : (k1 != 4) = true := by unfold bne; rw [h4]; rfl
      have hre : res = (12, Bson.zero) := by rw [HRI.out]; unfold Expr.itemV; rw [if_neg HNO.out, if_pos (by right; rw [← HXY.out.2.1]; unfold numB; rw [h3, h4]; rfl)]; rfl
      have HRE := Lib.hid hre
      have HEND := Lib.hid (below_six HB4.out.below (by omega : w.heap.size ≤ w.heap.size + 1 + 1) (.int .i64 0) (.int .i64 0) (.string ⟨#[]⟩) (.slice none 0 0) (.slice none 0 0) (.slice none 0 0))
      obtain ⟨r0, r1, r2, r3, r4, r5⟩ := HB4.out.res.cells
      obtain ⟨q0, q1, q2, q3, q4, q5⟩ := HB4.out.res.thaw
      subst hk0
      clear hk1 hk1'
      clear hre
      go_wp2_with fail
      refine bodyPost_ret (v := .tuple #[.agg #[.int .i64 0, .int .i64 0, .string ⟨#[]⟩, .slice none 0 0, .slice none 0 0, .slice none 0 0], .int .i64 12]) ?_ rfl ?_
      ·simp [results, Tryz.results106, go_sem, *]
      ·exact ⟨_, by rw [HRE.out], by rw [HRE.out]; exact (zero_in _ _).up (by omega), HEND.out⟩
   ·have h7 : (k0 == 7) = false := by rw [beq_eq_false_iff_ne]; exact hk0
    have h7' : (k0 != 7) = true := by unfold bne; rw [h7]; rfl
    have hre : res = (12, Bson.zero) := by rw [HRI.out]; unfold Expr.itemV; rw [if_neg HNO.out, if_pos (by left; rw [← HXY.out.1]; exact hk0)]; rfl
    have HRE := Lib.hid hre
    have HEND := Lib.hid (below_six HB4.out.below (by omega : w.heap.size ≤ w.heap.size + 1 + 1) (.int .i64 0) (.int .i64 0) (.string ⟨#[]⟩) (.slice none 0 0) (.slice none 0 0) (.slice none 0 0))
    obtain ⟨r0, r1, r2, r3, r4, r5⟩ := HB4.out.res.cells
    obtain ⟨q0, q1, q2, q3, q4, q5⟩ := HB4.out.res.thaw
    clear hk0
    clear hre
    go_wp2_with fail
    refine bodyPost_ret (v := .tuple #[.agg #[.int .i64 0, .int .i64 0, .string ⟨#[]⟩, .slice none 0 0, .slice none 0 0, .slice none 0 0], .int .i64 12]) ?_ rfl ?_
    ·simp [results, Tryz.results106, go_sem, *]
    ·exact ⟨_, by rw [HRE.out], by rw [HRE.out]; exact (zero_in _ _).up (by omega), HEND.out⟩
 ·have hz2 : (r.1 == 0) = false := by rw [beq_eq_false_iff_ne]; exact hz
  have hre : res = (r.1, Bson.zero) := by rw [HRES.out, if_neg hz]; rfl
  have HRE := Lib.hid hre
  obtain rfl := hN hz
  have HEND := Lib.hid (below_six HB2.out.below (by omega : w.heap.size ≤ w.heap.size + 1 + 1) (.int .i64 0) (.int .i64 0) (.string ⟨#[]⟩) (.slice none 0 0) (.slice none 0 0) (.slice none 0 0))
  obtain ⟨r0, r1, r2, r3, r4, r5⟩ := HB2.out.res.cells
  obtain ⟨q0, q1, q2, q3, q4, q5⟩ := HB2.out.res.thaw
  clear hA hN hb2 hz hre
  go_wp2_with fail
  refine bodyPost_ret (v := .tuple #[.agg #[.int .i64 0, .int .i64 0, .string ⟨#[]⟩, .slice none 0 0, .slice none 0 0, .slice none 0 0], .int .i64 r.1]) ?_ rfl ?_
  ·simp [results, Tryz.results106, go_sem, *]
  ·exact ⟨_, by rw [HRE.out], by rw [HRE.out]; exact (zero_in _ _).up (by omega), HEND.out⟩
theorem ev_boxes3 (w : World) (cs : Array Value) (t : TypeId) (d0 d1 d2 d3 d4 d5 : Value) (W0 : World) (hW0 : W0 = ((w.alloc (.cells cs t)).alloc (.cells #[d0, d1, d2, d3, d4, d5] 26)).alloc (.cells #[.int .i64 0, .int .i64 0, .string ⟨#[]⟩, .slice none 0 0, .slice none 0 0, .slice none 0 0] 26)) :
  Below w.heap.size w W0 ∧ W0.heap.size = w.heap.size + 3 ∧ W0.heap[w.heap.size]? = some (.cells cs t (0, 0)) ∧ IsBox W0 (w.heap.size + 1) d0 d1 d2 d3 d4 d5 ∧ IsBox W0 (w.heap.size + 1 + 1) (.int .i64 0) (.int .i64 0) (.string ⟨#[]⟩) (.slice none 0 0) (.slice none 0 0) (.slice none 0 0) := by
 have b1 := (Below.refl w.heap.size w).alloc (Nat.le_refl _) (.cells cs t)
 have b2 := b1.alloc b1.size (.cells #[d0, d1, d2, d3, d4, d5] 26)
 have b3 := b2.alloc b2.size (.cells #[.int .i64 0, .int .i64 0, .string ⟨#[]⟩, .slice none 0 0, .slice none 0 0, .slice none 0 0] 26)
 subst hW0
 refine ⟨b3, by simp, ?_, ?_, ?_⟩
 ·exact (Below.heap_alloc _ _ _ (by simp; omega)).trans ((Below.heap_alloc _ _ _ (by simp)).trans (heap_alloc_new w _))
 ·exact (IsBox.new2 w (.cells cs t) d0 d1 d2 d3 d4 d5).keep ((Below.refl _ _).alloc (Nat.le_refl _) _)
 ·have := IsBox.new ((w.alloc (.cells cs t)).alloc (.cells #[d0, d1, d2, d3, d4, d5] 26)) (.int .i64 0) (.int .i64 0) (.string ⟨#[]⟩) (.slice none 0 0) (.slice none 0 0) (.slice none 0 0)
  simpa using this
theorem ev_boxes2 (w : World) (d0 d1 d2 d3 d4 d5 : Value) (W0 : World) (hW0 : W0 = (w.alloc (.cells #[d0, d1, d2, d3, d4, d5] 26)).alloc (.cells #[.int .i64 0, .int .i64 0, .string ⟨#[]⟩, .slice none 0 0, .slice none 0 0, .slice none 0 0] 26)) :
  Below w.heap.size w W0 ∧ W0.heap.size = w.heap.size + 2 ∧ IsBox W0 w.heap.size d0 d1 d2 d3 d4 d5 ∧ IsBox W0 (w.heap.size + 1) (.int .i64 0) (.int .i64 0) (.string ⟨#[]⟩) (.slice none 0 0) (.slice none 0 0) (.slice none 0 0) := by
 have b1 := (Below.refl w.heap.size w).alloc (Nat.le_refl _) (.cells #[d0, d1, d2, d3, d4, d5] 26)
 have b2 := b1.alloc b1.size (.cells #[.int .i64 0, .int .i64 0, .string ⟨#[]⟩, .slice none 0 0, .slice none 0 0, .slice none 0 0] 26)
 subst hW0
 refine ⟨b2, by simp, ?_, ?_⟩
 ·exact (IsBox.new w d0 d1 d2 d3 d4 d5).keep ((Below.refl _ _).alloc (Nat.le_refl _) _)
 ·exact IsBox.new2 w (.cells #[d0, d1, d2, d3, d4, d5] 26) (.int .i64 0) (.int .i64 0) (.string ⟨#[]⟩) (.slice none 0 0) (.slice none 0 0) (.slice none 0 0)
theorem evConst_any (HH h hd : Nat) (hup : h + 1 ≤ HH) (Qc Q : Nat → Prop) (x d : Val) (cv dv : Value) (w : World) (hc : VIn w Qc (h + 1) x cv) (hd0 : VIn w Q (hd + 1) d dv) :
  Calls Tryz.prog 193 #[cv, dv] w (EvPost w HH (0, x)) := by
 obtain ⟨dk, dn, ds, da, df, dl, ba, bc, fa, fc, la, lc, rfl⟩ := hd0.shape
 obtain ⟨ck, cn, cs, ca, cf, cl, ba1, bc1, fa1, fc1, la1, lc1, rfl⟩ := hc.shape
 obtain ⟨W0, hW0⟩ : ∃ W0, W0 = ((w.alloc (.cells #[.int .i64 ck, .int .i64 cn, .string cs, .slice ca ba1 bc1, .slice cf fa1 fc1, .slice cl la1 lc1] 95)).alloc (.cells #[.int .i64 dk, .int .i64 dn, .string ds, .slice da ba bc, .slice df fa fc, .slice dl la lc] 26)).alloc (.cells #[.int .i64 0, .int .i64 0, .string ⟨#[]⟩, .slice none 0 0, .slice none 0 0, .slice none 0 0] 26) := ⟨_, rfl⟩
 obtain ⟨hb0, hsz, h0, hx, hr⟩ := ev_boxes3 w #[.int .i64 ck, .int .i64 cn, .string cs, .slice ca ba1 bc1, .slice cf fa1 fc1, .slice cl la1 lc1] 95 (.int .i64 dk) (.int .i64 dn) (.string ds) (.slice da ba bc) (.slice df fa fc) (.slice dl la lc) W0 hW0
 have CP := Lib.hid (copy_any Qc (h + 1) x _ W0 (VIn.keep hb0 hc))
 have HB := Lib.hid hb0
 have HSZ : Hid (w.heap.size + 3 = W0.heap.size) := hsz.symm
 have HR := Lib.hid hr
 have HW0 := Lib.hid hW0
 have HUP := Lib.hid hup
 have c0 : W0.cell? ⟨w.heap.size, 0, none⟩ = some (.int .i64 ck) := (cell_of_row W0 _ 0 _ _ _ h0).trans rfl
 have c1 : W0.cell? ⟨w.heap.size, 1, none⟩ = some (.int .i64 cn) := (cell_of_row W0 _ 1 _ _ _ h0).trans rfl
 have c2 : W0.cell? ⟨w.heap.size, 2, none⟩ = some (.string cs) := (cell_of_row W0 _ 2 _ _ _ h0).trans rfl
 have c3 : W0.cell? ⟨w.heap.size, 3, none⟩ = some (.slice ca ba1 bc1) := (cell_of_row W0 _ 3 _ _ _ h0).trans rfl
 have c4 : W0.cell? ⟨w.heap.size, 4, none⟩ = some (.slice cf fa1 fc1) := (cell_of_row W0 _ 4 _ _ _ h0).trans rfl
 have c5 : W0.cell? ⟨w.heap.size, 5, none⟩ = some (.slice cl la1 lc1) := (cell_of_row W0 _ 5 _ _ _ h0).trans rfl
 clear hc hd0 hW0 hb0 hsz h0 hx hr hup
 go_enter Tryz.func193, Tryz.ntmps193
 go_upto_region 1 with fail
 rw [← HW0.out]
 go_wp2_with fail
 clear c0 c1 c2 c3 c4 c5
 refine CP.out.mono ?_
 rintro e w2 ⟨v2, rfl, hv2, hb2⟩
 obtain ⟨k, m, s, b1, f1, l1, b2, b3, f2, f3, l2, l3, rfl⟩ := hv2.shape
 have HB2 := Lib.hid (HB.out.trans (hb2.mono HB.out.size))
 have HR2 := Lib.hid (HR.out.keep hb2)
 have HEND : Hid (VIn (puts w2 (w.heap.size + 1 + 1) 0 [.int .i64 k, .int .i64 m, .string s, .slice b1 b2 b3, .slice f1 f2 f3, .slice l1 l2 l3]) (fun g => w.heap.size ≤ g) HH x (.agg #[.int .i64 k, .int .i64 m, .string s, .slice b1 b2 b3, .slice f1 f2 f3, .slice l1 l2 l3]) ∧ Below w.heap.size w (puts w2 (w.heap.size + 1 + 1) 0 [.int .i64 k, .int .i64 m, .string s, .slice b1 b2 b3, .slice f1 f2 f3, .slice l1 l2 l3])) :=
  ⟨(hv2.kept (puts_kept (fun g => W0.heap.size ≤ g) (by have := HSZ.out; omega) _ _) (fun g hg => by have := HSZ.out; omega)).up HUP.out, puts_below HB2.out (by omega) _ _⟩
 obtain ⟨r0, r1, r2, r3, r4, r5⟩ := HR2.out.cells
 obtain ⟨q0, q1, q2, q3, q4, q5⟩ := HR2.out.thaw
 clear hv2 hb2 CP
 go_wp2_with fail
 exact bodyPost_ret (v := .tuple #[.agg #[.int .i64 k, .int .i64 m, .string s, .slice b1 b2 b3, .slice f1 f2 f3, .slice l1 l2 l3], .int .i64 0]) (by simp [results, Tryz.results193, go_sem, *]) rfl ⟨_, rfl, HEND.out.1, HEND.out.2⟩
theorem evReach_any (HH n hd : Nat) (hup : hd + 1 ≤ HH) (p : List ByteArray) (pa : Option Addr) (pn pc : Nat) (hle : p.length + hd ≤ n) (hpn : p.length = pn) (hpc : pn ≤ pc) (Q : Nat → Prop) (d : Val) (dv : Value) (w : World) (hp : StrsIn w pa p) (hd0 : VIn w Q (hd + 1) d dv) :
  Calls Tryz.prog 194 #[.slice pa pn pc, dv] w (EvPost w HH (0, Bson.reach n d p)) := by
 obtain ⟨dk, dn, ds, da, df, dl, ba, bc, fa, fc, la, lc, rfl⟩ := hd0.shape
 obtain ⟨W0, hW0⟩ : ∃ W0, W0 = (w.alloc (.cells #[.int .i64 dk, .int .i64 dn, .string ds, .slice da ba bc, .slice df fa fc, .slice dl la lc] 26)).alloc (.cells #[.int .i64 0, .int .i64 0, .string ⟨#[]⟩, .slice none 0 0, .slice none 0 0, .slice none 0 0] 26) := ⟨_, rfl⟩
 obtain ⟨hb0, hsz, hx, hr⟩ := ev_boxes2 w (.int .i64 dk) (.int .i64 dn) (.string ds) (.slice da ba bc) (.slice df fa fc) (.slice dl la lc) W0 hW0
 have CP := Lib.hid (Reach_any n hd p pa pn pc hle hpn hpc Q d _ W0 (VIn.keep hb0 hd0) (hp.keep hb0))
 have HB := Lib.hid hb0
 have HSZ : Hid (w.heap.size + 2 = W0.heap.size) := hsz.symm
 have HR := Lib.hid hr
 have HW0 := Lib.hid hW0
 have HUP := Lib.hid hup
 obtain ⟨x0, x1, x2, x3, x4, x5⟩ := hx.cells
 clear hp hd0 hW0 hb0 hsz hx hr hup hpn hpc hle
 go_enter Tryz.func194, Tryz.ntmps194
 go_upto_region 1 with fail
 rw [← HW0.out]
 go_wp2_with fail
 clear x0 x1 x2 x3 x4 x5
 refine CP.out.mono ?_
 rintro e w2 ⟨v2, rfl, hv2, hb2⟩
 obtain ⟨k, m, s, b1, f1, l1, b2, b3, f2, f3, l2, l3, rfl⟩ := hv2.shape
 have HB2 := Lib.hid (HB.out.trans (hb2.mono HB.out.size))
 have HR2 := Lib.hid (HR.out.keep hb2)
 have HEND : Hid (VIn (puts w2 (w.heap.size + 1) 0 [.int .i64 k, .int .i64 m, .string s, .slice b1 b2 b3, .slice f1 f2 f3, .slice l1 l2 l3]) (fun g => w.heap.size ≤ g) HH (Bson.reach n d p) (.agg #[.int .i64 k, .int .i64 m, .string s, .slice b1 b2 b3, .slice f1 f2 f3, .slice l1 l2 l3]) ∧ Below w.heap.size w (puts w2 (w.heap.size + 1) 0 [.int .i64 k, .int .i64 m, .string s, .slice b1 b2 b3, .slice f1 f2 f3, .slice l1 l2 l3])) :=
  ⟨(hv2.kept (puts_kept (fun g => W0.heap.size ≤ g) (by have := HSZ.out; omega) _ _) (fun g hg => by have := HSZ.out; omega)).up HUP.out, puts_below HB2.out (by omega) _ _⟩
 obtain ⟨r0, r1, r2, r3, r4, r5⟩ := HR2.out.cells
 obtain ⟨q0, q1, q2, q3, q4, q5⟩ := HR2.out.thaw
 clear hv2 hb2 CP
 go_wp2_with fail
 exact bodyPost_ret (v := .tuple #[.agg #[.int .i64 k, .int .i64 m, .string s, .slice b1 b2 b3, .slice f1 f2 f3, .slice l1 l2 l3], .int .i64 0]) (by simp [results, Tryz.results194, go_sem, *]) rfl ⟨_, rfl, HEND.out.1, HEND.out.2⟩
theorem evCall_any (HH hd : Nat) (K : FuncId) (a : Option Addr) (n c : Nat) (ou : Expr.Out) (Q : Nat → Prop) (d : Val) (dv : Value) (w : World) (hd0 : VIn w Q (hd + 1) d dv) (hke : ∀ args (u : World), (callFunc K args).run Tryz.prog u = .ok (.enter K args) u)
  (hK : ∀ W, Below w.heap.size w W → Calls Tryz.prog K #[.agg #[.func (.func K) #[] #[], .slice a n c], dv] W (EvPost W HH ou)) :
  Calls Tryz.prog 200 #[.agg #[.func (.func K) #[] #[], .slice a n c], dv] w (EvPost w HH ou) := by
 obtain ⟨dk, dn, ds, da, df, dl, ba, bc, fa, fc, la, lc, rfl⟩ := hd0.shape
 obtain ⟨W0, hW0⟩ : ∃ W0, W0 = ((w.alloc (.cells #[(.func (.func K) #[] #[]), .slice a n c] 126)).alloc (.cells #[.int .i64 dk, .int .i64 dn, .string ds, .slice da ba bc, .slice df fa fc, .slice dl la lc] 26)).alloc (.cells #[.int .i64 0, .int .i64 0, .string ⟨#[]⟩, .slice none 0 0, .slice none 0 0, .slice none 0 0] 26) := ⟨_, rfl⟩
 have HB0 := Lib.hid (CB.new w (.func (.func K) #[] #[]) a n c (.int .i64 dk) (.int .i64 dn) (.string ds) (.slice da ba bc) (.slice df fa fc) (.slice dl la lc) W0 hW0)
 have HW0 := Lib.hid hW0
 have c0 : W0.cell? ⟨w.heap.size, 0, none⟩ = some (.func (.func K) #[] #[]) := (cell_of_row W0 _ 0 _ _ _ HB0.out.call).trans rfl
 have c1 := HB0.out.c1
 obtain ⟨x0, x1, x2, x3, x4, x5⟩ := HB0.out.doc.cells
 have CP := Lib.hid (hK W0 HB0.out.below)
 have HSZ : Hid (w.heap.size + 3 ≤ W0.heap.size) := HB0.out.size
 have HUP := Lib.hid (Nat.le_refl HH)
 obtain ⟨oe, ov⟩ := ou
 clear hd0 hW0 hK
 go_enter Tryz.func200, Tryz.ntmps200
 go_upto_region 1 with fail
 rw [← HW0.out]
 go_wp2_with fail
 clear c0 c1 x0 x1 x2 x3 x4 x5
 refine CP.out.mono ?_
 rintro e w2 ⟨v2, rfl, hv2, hb2⟩
 obtain ⟨k, m, s, b1, f1, l1, b2, b3, f2, f3, l2, l3, rfl⟩ := hv2.shape
 have HB2 := Lib.hid (HB0.out.keep hb2).below
 have HR2 := Lib.hid (HB0.out.keep hb2).res
 have HEND : Hid (VIn (puts w2 (w.heap.size + 1 + 1) 0 [.int .i64 k, .int .i64 m, .string s, .slice b1 b2 b3, .slice f1 f2 f3, .slice l1 l2 l3]) (fun g => w.heap.size ≤ g) HH ov (.agg #[.int .i64 k, .int .i64 m, .string s, .slice b1 b2 b3, .slice f1 f2 f3, .slice l1 l2 l3]) ∧ Below w.heap.size w (puts w2 (w.heap.size + 1 + 1) 0 [.int .i64 k, .int .i64 m, .string s, .slice b1 b2 b3, .slice f1 f2 f3, .slice l1 l2 l3])) :=
  ⟨(hv2.kept (puts_kept (fun g => W0.heap.size ≤ g) (by have := HSZ.out; omega) _ _) (fun g hg => by have := HSZ.out; omega)).up HUP.out, puts_below HB2.out (by omega) _ _⟩
 obtain ⟨r0, r1, r2, r3, r4, r5⟩ := HR2.out.cells
 obtain ⟨q0, q1, q2, q3, q4, q5⟩ := HR2.out.thaw
 clear hv2 hb2 CP
 go_wp2_with fail
 exact bodyPost_ret (v := .tuple #[.agg #[.int .i64 k, .int .i64 m, .string s, .slice b1 b2 b3, .slice f1 f2 f3, .slice l1 l2 l3], .int .i64 oe]) (by simp [results, Tryz.results200, go_sem, *]) rfl ⟨_, rfl, HEND.out.1, HEND.out.2⟩
theorem ev_const (w : World) (h : Nat) (Qc : Nat → Prop) (x : Val) (cv : Value) (hc : VIn w Qc (h + 1) x cv) : Ev w (.iface 95 cv) (h + 1) (fun _ _ => (0, x)) :=
 ⟨95, 193, cv, rfl, fun u => by kernel_rfl, fun _ _ => rfl, fun W hW Q hd d dv hv => evConst_any (h + 1 + hd) h hd (by omega) Qc Q x d cv dv W (VIn.keep hW hc) hv⟩
theorem ev_reach (w : World) (N : Nat) (p : List ByteArray) (pa : Option Addr) (pn pc : Nat) (hN : p.length ≤ N) (hpn : p.length = pn) (hpc : pn ≤ pc) (hp : StrsIn w pa p) : Ev w (.iface 106 (.slice pa pn pc)) 1 (fun hd d => (0, Bson.reach (N + hd) d p)) :=
 ⟨106, 194, _, rfl, fun u => by kernel_rfl, fun _ _ => rfl, fun W hW Q hd d dv hv => evReach_any (1 + hd) (N + hd) hd (by omega) p pa pn pc (by omega) hpn hpc Q d dv W (hp.keep hW) hv⟩
theorem ev_call (w : World) (H : Nat) (K : FuncId) (a : Option Addr) (n c : Nat) (f : Nat → Val → Expr.Out) (hke : ∀ args (u : World), (callFunc K args).run Tryz.prog u = .ok (.enter K args) u)
  (hK : ∀ W, Below w.heap.size w W → ∀ (Q : Nat → Prop) (hd : Nat) (d : Val) (dv : Value), VIn W Q (hd + 1) d dv → Calls Tryz.prog K #[.agg #[.func (.func K) #[] #[], .slice a n c], dv] W (EvPost W (H + hd) (f hd d))) :
  Ev w (.iface 126 (.agg #[.func (.func K) #[] #[], .slice a n c])) H f :=
 ⟨126, 200, _, rfl, fun u => by kernel_rfl, fun _ _ => rfl, fun W hW Q hd d dv hv => evCall_any (H + hd) hd K a n c (f hd d) Q d dv W hv hke (fun W' hW' => hK W' (hW.trans (hW'.mono hW.size)) Q hd d dv (VIn.keep hW' hv))⟩
end Go.Proofs.YtiajjgehnmkokaaGreatDoor
end
