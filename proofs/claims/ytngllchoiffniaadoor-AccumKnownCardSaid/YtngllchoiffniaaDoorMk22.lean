/- AccumAdd, AccumNew, AccumLaw. -/
import Derived.Test.YtngllchoiffniaaDoorMk21
set_option maxRecDepth 100000
set_option maxHeartbeats 20000000
section
namespace Go.Proofs.YtngllchoiffniaaDoor
open Go.RowKit
open Seal
open Bson (Val)
namespace Acc
theorem afunc_some (F : Fn) (r c : Array Value) (u : World) : Sem.run Tryd.prog (binOp .eql 28 (Value.func F r c) Value.nilFunc) u = .ok (.bool false) u := by kernel_rfl
theorem isNone_any (s : Nat) (F : Fn) (r c : Array Value) (u rv : Value) (wt : Int) (w : World) (hs : Cells w s (.func F r c) u wt rv) :
  Calls Tryd.prog 23 #[.pointer (some ⟨s, 0, none⟩)] w fun e w' => e = .returned (.bool false) ∧ Below w.heap.size w w' := by
 obtain ⟨u0, u1, u2, u3, u4, u5, rfl, hs⟩ := hs
 have c0 := (cell_of_row w _ 0 _ _ _ hs).trans rfl
 have hf := fun u => afunc_some F r c u
 clear hs
 go_enter Tryd.func23, Tryd.ntmps23
 go_wp2_with fail
 go_ret
 exact ⟨rfl, Below.refl _ _⟩
theorem aadd_any (f s : Nat) (hke : ∀ args (u : World), (callFunc f args).run Tryd.prog u = .ok (.enter f args) u) (P : Int → World → World → Prop) (u rv : Value) (wt : Int) (Q : Nat → Prop) (H : Nat) (y : Val) (v : Value) (w : World) (hs : Cells w s (.func (.func f) #[.pointer (some ⟨s, 0, none⟩)] #[]) u wt rv) (hv : VIn w Q (H + 1) y v)
  (hC : ∀ W, Below w.heap.size w W → Calls Tryd.prog f #[.pointer (some ⟨s, 0, none⟩), v] W fun e w' => ∃ r, e = .returned (.int .i64 r) ∧ P r W w') :
  Calls Tryd.prog 7 #[.pointer (some ⟨s, 0, none⟩), v] w fun e w' => ∃ r W, e = .returned (.int .i64 r) ∧ Below w.heap.size w W ∧ P r W w' := by
 have hlt := hs.lt
 obtain ⟨yk, yn, ys, ba, fa, la, bn, bc, fn, fc, ln, lc, rfl, -⟩ := hv.letters
 obtain ⟨W1, hW1⟩ : ∃ W, W = w.alloc (.cells #[.int .i64 yk, .int .i64 yn, .string ys, .slice ba bn bc, .slice fa fn fc, .slice la ln lc] 32) := ⟨_, rfl⟩
 have hb1 : Below w.heap.size w W1 := by rw [hW1]; exact (Below.refl _ _).alloc (Nat.le_refl _) _
 have hbx1 : IsBox W1 w.heap.size (.int .i64 yk) (.int .i64 yn) (.string ys) (.slice ba bn bc) (.slice fa fn fc) (.slice la ln lc) := by rw [hW1]; exact IsBox.new w (.int .i64 yk) (.int .i64 yn) (.string ys) (.slice ba bn bc) (.slice fa fn fc) (.slice la ln lc)
 have CN := Lib.hid (isNone_any s (.func f) #[.pointer (some ⟨s, 0, none⟩)] #[] u rv wt W1 (hs.keep (hb1.block s hlt)))
 have HW1 := Lib.hid hW1; have HB1 := Lib.hid hb1; have HX1 := Lib.hid hbx1; have HS := Lib.hid hs; have HV := Lib.hid hv; have HC := Lib.hid hC
 clear hW1 hb1 hbx1 hs hv hC
 go_enter Tryd.func7, Tryd.ntmps7
 go_upto_region 1 with fail
 rw [← HW1.out]
 go_wp2_with fail
 refine CN.out.mono ?_
 rintro e w2 ⟨rfl, hb2⟩
 have HB2 : Hid (Below w.heap.size w w2) := HB1.out.trans (hb2.mono HB1.out.size)
 obtain ⟨u0, u1, u2, u3, u4, u5, -, hrow2⟩ := HS.out.keep (HB2.out.block s hlt)
 have c0 := (cell_of_row w2 _ 0 _ _ _ hrow2).trans rfl
 have HX2 := Lib.hid (HX1.out.keep hb2)
 obtain ⟨b0, b1, b2, b3, b4, b5⟩ := HX2.out.cells
 have HB2D : Hid (Below w.heap.size w w2.drew) := ⟨HB2.out.os, HB2.out.tape, HB2.out.output, HB2.out.size, HB2.out.block⟩
 have HC2 := Lib.hid (HC.out w2.drew HB2D.out)
 clear hb2 hrow2 CN HC
 go_upto_region 3 with fail
 go_region_with (refine HC2.out.mono ?_; rintro e w3 ⟨r, rfl, hP⟩)
 all_goals (go_wp2_with fail; go_ret; exact ⟨_, w2.drew, rfl, HB2D.out, by assumption⟩)
theorem avalue_any (s : Nat) (F : Fn) (r c : Array Value) (u rv : Value) (wt : Int) (Q : Nat → Prop) (H : Nat) (x : Val) (w : World) (hs : Cells w s (.func F r c) u wt rv) (hx : VIn w Q (H + 1) x u) :
  Calls Tryd.prog 8 #[.pointer (some ⟨s, 0, none⟩)] w fun e w' => ∃ v', e = .returned v' ∧ VIn w' (fun g => w.heap.size ≤ g) (H + 1) (orN x) v' ∧ Below w.heap.size w w' := by
 have hlt := hs.lt
 obtain ⟨xk, xn, xs, xba, xfa, xla, xbn, xbc, xfn, xfc, xln, xlc, rfl, -⟩ := hx.letters
 obtain ⟨W1, hW1⟩ : ∃ W, W = w.alloc (.cells #[.int .i64 0, .int .i64 0, .string ⟨#[]⟩, .slice none 0 0, .slice none 0 0, .slice none 0 0] 32) := ⟨_, rfl⟩
 have hb1 : Below w.heap.size w W1 := by rw [hW1]; exact (Below.refl _ _).alloc (Nat.le_refl _) _
 have hbx1 : IsBox W1 w.heap.size (.int .i64 0) (.int .i64 0) (.string ⟨#[]⟩) (.slice none 0 0) (.slice none 0 0) (.slice none 0 0) := by rw [hW1]; exact IsBox.new w _ _ _ _ _ _
 have hp : W1.heap.size = w.heap.size + 1 := by rw [hW1]; simp
 have HP := Lib.hid hp
 have CN := Lib.hid (isNone_any s F r c _ rv wt W1 (hs.keep (hb1.block s hlt)))
 have HW1 := Lib.hid hW1; have HB1 := Lib.hid hb1; have HX1 := Lib.hid hbx1; have HS := Lib.hid hs; have HX := Lib.hid hx
 clear hW1 hb1 hbx1 hs hx hp
 go_enter Tryd.func8, Tryd.ntmps8
 go_upto_region 1 with fail
 rw [← HW1.out]
 go_wp2_with fail
 refine CN.out.mono ?_
 rintro e w2 ⟨rfl, hb2⟩
 have HB2 : Hid (Below w.heap.size w w2) := HB1.out.trans (hb2.mono HB1.out.size)
 have hrow2 := (HS.out.keep (HB2.out.block s hlt)).row
 have c1 := (cell_of_row w2 _ 1 _ _ _ hrow2).trans rfl
 have c2 := (cell_of_row w2 _ 2 _ _ _ hrow2).trans rfl
 have c3 := (cell_of_row w2 _ 3 _ _ _ hrow2).trans rfl
 have c4 := (cell_of_row w2 _ 4 _ _ _ hrow2).trans rfl
 have c5 := (cell_of_row w2 _ 5 _ _ _ hrow2).trans rfl
 have c6 := (cell_of_row w2 _ 6 _ _ _ hrow2).trans rfl
 have HX2 := Lib.hid (HX1.out.keep hb2)
 clear hrow2
 go_wp2_with fail
 refine (orNull_some Q H x _ w2 (VIn.keep HB2.out HX.out)).mono ?_
 rintro e w3 ⟨v3, rfl, hv3, hb3⟩
 have HX3 := Lib.hid (HX2.out.keep hb3)
 have HB3 : Hid (Below w.heap.size w w3) := HB2.out.trans (hb3.mono HB2.out.size)
 have CC := Lib.hid (copy_any Q (H + 1) (orN x) _ w3 hv3)
 clear hv3
 go_wp2_with fail
 refine CC.out.mono ?_
 rintro e w4 ⟨v4, rfl, hv4, hb4⟩
 obtain ⟨yk, yn, ys, ba, fa, la, bn, bc, fn, fc, ln, lc, rfl⟩ := hv4.shape
 have HX4 := Lib.hid (HX3.out.keep hb4)
 obtain ⟨b0, b1, b2, b3, b4, b5⟩ := HX4.out.cells
 obtain ⟨z0, z1, z2, z3, z4, z5⟩ := HX4.out.thaw
 have HB4 : Hid (Below w.heap.size w w4) := HB3.out.trans (hb4.mono HB3.out.size)
 have HV4 := Lib.hid hv4
 have HS3 := Lib.hid (show w.heap.size + 1 ≤ w3.heap.size from by have := hb2.size; have := hb3.size; have := HP.out; omega)
 clear hb2 hb3 hb4 hv4 c1 c2 c3 c4 c5 c6
 go_wp2_with fail
 exact bodyPost_ret (v := .agg #[.int .i64 yk, .int .i64 yn, .string ys, .slice ba bn bc, .slice fa fn fc, .slice la ln lc]) (by simp [results, Tryd.results8, go_sem, b0, b1, b2, b3, b4, b5]) rfl ⟨_, rfl, HV4.out.kept (fun g hg _ => puts_other w.heap.size g (by have := HS3.out; omega) [.int .i64 yk, .int .i64 yn, .string ys, .slice ba bn bc, .slice fa fn fc, .slice la ln lc] w4 0) (fun g hg => by have := HS3.out; omega), puts_below HB4.out (Nat.le_refl _) [.int .i64 yk, .int .i64 yn, .string ys, .slice ba bn bc, .slice fa fn fc, .slice la ln lc] 0⟩
theorem asize_any (s : Nat) (F : Fn) (r c : Array Value) (u rv : Value) (wt : Int) (w : World) (hs : Cells w s (.func F r c) u wt rv) (hw0 : -9223372036854775808 ≤ 16 + wt) (hw1 : 16 + wt ≤ 9223372036854775807) :
  Calls Tryd.prog 9 #[.pointer (some ⟨s, 0, none⟩)] w fun e w' => e = .returned (.int .i64 (16 + wt)) ∧ Below w.heap.size w w' := by
 have hlt := hs.lt
 have CN := Lib.hid (isNone_any s F r c u rv wt w hs)
 have HS := Lib.hid hs
 clear hs
 have hwr : IntKind.i64.wrap (16 + wt) = 16 + wt := IntWalk.i64_in _ (by omega)
 go_enter Tryd.func9, Tryd.ntmps9
 go_wp2_with fail
 refine CN.out.mono ?_
 rintro e w2 ⟨rfl, hb2⟩
 obtain ⟨u0, u1, u2, u3, u4, u5, -, hrow2⟩ := HS.out.keep (hb2.block s hlt)
 have c7 := (cell_of_row w2 _ 7 _ _ _ hrow2).trans rfl
 have HB2 := Lib.hid hb2
 clear hb2 hrow2
 go_wp2_with fail
 go_ret
 exact ⟨rfl, HB2.out⟩
end Acc
namespace Acc
def mOf (f s : Nat) : Value := .func (.func f) #[.pointer (some ⟨s, 0, none⟩)] #[]
def NewPost (f : Nat) (v : Value) (wt : Int) (w : World) (e : Ending) (w' : World) : Prop := e = .returned (.pointer (some ⟨w.heap.size, 0, none⟩)) ∧ Cells w' w.heap.size (mOf f w.heap.size) v wt (.slice none 0 0) ∧ Below w.heap.size w w'
theorem w_num : wOf (.mk 3 0 ⟨#[]⟩ [] [] []) = 4 := by kernel_rfl
theorem w_list : wOf (.mk 7 0 ⟨#[]⟩ [] [] []) = 5 := by kernel_rfl
theorem new_sum (w : World) (hT : Tabs w) : Calls Tryd.prog 6 #[.int .i64 1] w (NewPost 12 (leafA 3 0) 4 w) := by
 obtain ⟨W0, hW0⟩ : ∃ W, W = w.alloc (.cells #[.nilFunc, .int .i64 0, .int .i64 0, .string ⟨#[]⟩, .slice none 0 0, .slice none 0 0, .slice none 0 0, .int .i64 0, .slice none 0 0] 41) := ⟨_, rfl⟩
 have hb0 : Below w.heap.size w W0 := by rw [hW0]; exact (Below.refl _ _).alloc (Nat.le_refl _) _
 have hr0 : W0.heap[w.heap.size]? = some (.cells #[.nilFunc, .int .i64 0, .int .i64 0, .string ⟨#[]⟩, .slice none 0 0, .slice none 0 0, .slice none 0 0, .int .i64 0, .slice none 0 0] 41 (0, 0)) := by rw [hW0]; exact heap_alloc_new w _
 have hp0 : W0.heap.size = w.heap.size + 1 := by rw [hW0]; simp
 obtain ⟨W1, hW1⟩ : ∃ W, W = W0.setCell ⟨w.heap.size, 0, none⟩ (.func (.func 12) #[.pointer (some ⟨w.heap.size, 0, none⟩)] #[]) := ⟨_, rfl⟩
 have hb1 : Below w.heap.size w W1 := by rw [hW1]; exact puts_below hb0 (Nat.le_refl _) [(.func (.func 12) #[.pointer (some ⟨w.heap.size, 0, none⟩)] #[])] 0
 have hr1 : W1.heap[w.heap.size]? = some (.cells #[.func (.func 12) #[.pointer (some ⟨w.heap.size, 0, none⟩)] #[], .int .i64 0, .int .i64 0, .string ⟨#[]⟩, .slice none 0 0, .slice none 0 0, .slice none 0 0, .int .i64 0, .slice none 0 0] 41 (0, 0)) := by rw [hW1]; exact (heap_setCell_same W0 _ 0 _ _ _ hr0).trans rfl
 have hp : W1.heap.size = w.heap.size + 1 := by rw [hW1, ← hp0]; exact puts_size _ [(.func (.func 12) #[.pointer (some ⟨w.heap.size, 0, none⟩)] #[])] W0 0
 have c0 := (cell_of_row W0 _ 0 _ _ _ hr0).trans rfl
 have z0 := frozen_of_row W0 _ 0 _ _ hr0
 have HW0 := Lib.hid hW0
 have HW1 := Lib.hid hW1; have HB1 := Lib.hid hb1; have HR1 := Lib.hid hr1; have HP := Lib.hid hp; have HT := Lib.hid hT
 have hst := fun (m : Mode) (W : World) => run_store Tryd.prog W ⟨w.heap.size, 0, none⟩ (.func (.func 12) #[.pointer (some ⟨w.heap.size, 0, none⟩)] #[]) m rfl
 clear hW0 hb0 hr0 hp0 hW1 hb1 hr1 hp hT
 go_enter Tryd.func6, Tryd.ntmps6
 go_upto_region 2 with fail
 rw [← HW0.out]
 go_wp2_with fail
 rw [← HW1.out]
 refine (nought_any W1).mono ?_
 rintro e w2 ⟨rfl, hb2⟩
 have HB2 : Hid (Below w.heap.size w w2) := HB1.out.trans (hb2.mono HB1.out.size)
 have HS2 : Hid (Cells w2 w.heap.size (mOf 12 w.heap.size) (leafA 0 0) 0 (.slice none 0 0)) := ⟨_, _, _, _, _, _, rfl, (hb2.block w.heap.size (by have := HP.out; omega)).trans HR1.out⟩
 have CK := Lib.hid (akeep_gen (fun v => v = leafA 3 0) w.heap.size w.heap.size _ _ _ _ (fun _ => False) 0 (.mk 3 0 ⟨#[]⟩ [] [] []) (leafA 3 0) w2 (Nat.le_refl _) HS2.out (leaf_in w2 _ 3 0 (by omega) (by omega) 0) (fun h => h) ((TabsAt.of HT.out).mono HB2.out) (fun W hb => (copy_leaf 3 0 W).mono fun e w3 h => ⟨_, h.1, rfl, leaf_in w3 _ 3 0 (by omega) (by omega) 0, h.2⟩))
 clear hb2
 unfold leafA at CK
 go_wp2_with fail
 refine CK.out.mono ?_
 rintro e w3 ⟨rfl, v3, rfl, hs3, -, hrm⟩
 have HS3 := Lib.hid hs3
 have HB3 := Lib.hid ((RM.of_below HB2.out).trans hrm (fun _ _ h => h))
 clear hs3 hrm
 go_wp2_with fail
 go_ret
 refine ⟨rfl, ?_, HB3.out.below (Nat.le_refl _) (fun k hk => by omega)⟩
 have h := HS3.out
 rw [w_num] at h
 exact h
theorem new_least (w : World) (hT : Tabs w) : Calls Tryd.prog 6 #[.int .i64 2] w (NewPost 15 (leafA 0 0) 0 w) := by
 obtain ⟨W0, hW0⟩ : ∃ W, W = w.alloc (.cells #[.nilFunc, .int .i64 0, .int .i64 0, .string ⟨#[]⟩, .slice none 0 0, .slice none 0 0, .slice none 0 0, .int .i64 0, .slice none 0 0] 41) := ⟨_, rfl⟩
 have hb0 : Below w.heap.size w W0 := by rw [hW0]; exact (Below.refl _ _).alloc (Nat.le_refl _) _
 have hr0 : W0.heap[w.heap.size]? = some (.cells #[.nilFunc, .int .i64 0, .int .i64 0, .string ⟨#[]⟩, .slice none 0 0, .slice none 0 0, .slice none 0 0, .int .i64 0, .slice none 0 0] 41 (0, 0)) := by rw [hW0]; exact heap_alloc_new w _
 have hp0 : W0.heap.size = w.heap.size + 1 := by rw [hW0]; simp
 obtain ⟨W1, hW1⟩ : ∃ W, W = W0.setCell ⟨w.heap.size, 0, none⟩ (.func (.func 15) #[.pointer (some ⟨w.heap.size, 0, none⟩)] #[]) := ⟨_, rfl⟩
 have hb1 : Below w.heap.size w W1 := by rw [hW1]; exact puts_below hb0 (Nat.le_refl _) [(.func (.func 15) #[.pointer (some ⟨w.heap.size, 0, none⟩)] #[])] 0
 have hr1 : W1.heap[w.heap.size]? = some (.cells #[.func (.func 15) #[.pointer (some ⟨w.heap.size, 0, none⟩)] #[], .int .i64 0, .int .i64 0, .string ⟨#[]⟩, .slice none 0 0, .slice none 0 0, .slice none 0 0, .int .i64 0, .slice none 0 0] 41 (0, 0)) := by rw [hW1]; exact (heap_setCell_same W0 _ 0 _ _ _ hr0).trans rfl
 have hp : W1.heap.size = w.heap.size + 1 := by rw [hW1, ← hp0]; exact puts_size _ [(.func (.func 15) #[.pointer (some ⟨w.heap.size, 0, none⟩)] #[])] W0 0
 have c0 := (cell_of_row W0 _ 0 _ _ _ hr0).trans rfl
 have z0 := frozen_of_row W0 _ 0 _ _ hr0
 have HW0 := Lib.hid hW0
 have HW1 := Lib.hid hW1; have HB1 := Lib.hid hb1; have HR1 := Lib.hid hr1; have HP := Lib.hid hp; have HT := Lib.hid hT
 have hst := fun (m : Mode) (W : World) => run_store Tryd.prog W ⟨w.heap.size, 0, none⟩ (.func (.func 15) #[.pointer (some ⟨w.heap.size, 0, none⟩)] #[]) m rfl
 clear hW0 hb0 hr0 hp0 hW1 hb1 hr1 hp hT
 go_enter Tryd.func6, Tryd.ntmps6
 go_upto_region 2 with fail
 rw [← HW0.out]
 go_wp2_with fail
 rw [← HW1.out]
 go_ret
 exact ⟨rfl, ⟨_, _, _, _, _, _, rfl, HR1.out⟩, HB1.out⟩
theorem new_greatest (w : World) (hT : Tabs w) : Calls Tryd.prog 6 #[.int .i64 3] w (NewPost 16 (leafA 0 0) 0 w) := by
 obtain ⟨W0, hW0⟩ : ∃ W, W = w.alloc (.cells #[.nilFunc, .int .i64 0, .int .i64 0, .string ⟨#[]⟩, .slice none 0 0, .slice none 0 0, .slice none 0 0, .int .i64 0, .slice none 0 0] 41) := ⟨_, rfl⟩
 have hb0 : Below w.heap.size w W0 := by rw [hW0]; exact (Below.refl _ _).alloc (Nat.le_refl _) _
 have hr0 : W0.heap[w.heap.size]? = some (.cells #[.nilFunc, .int .i64 0, .int .i64 0, .string ⟨#[]⟩, .slice none 0 0, .slice none 0 0, .slice none 0 0, .int .i64 0, .slice none 0 0] 41 (0, 0)) := by rw [hW0]; exact heap_alloc_new w _
 have hp0 : W0.heap.size = w.heap.size + 1 := by rw [hW0]; simp
 obtain ⟨W1, hW1⟩ : ∃ W, W = W0.setCell ⟨w.heap.size, 0, none⟩ (.func (.func 16) #[.pointer (some ⟨w.heap.size, 0, none⟩)] #[]) := ⟨_, rfl⟩
 have hb1 : Below w.heap.size w W1 := by rw [hW1]; exact puts_below hb0 (Nat.le_refl _) [(.func (.func 16) #[.pointer (some ⟨w.heap.size, 0, none⟩)] #[])] 0
 have hr1 : W1.heap[w.heap.size]? = some (.cells #[.func (.func 16) #[.pointer (some ⟨w.heap.size, 0, none⟩)] #[], .int .i64 0, .int .i64 0, .string ⟨#[]⟩, .slice none 0 0, .slice none 0 0, .slice none 0 0, .int .i64 0, .slice none 0 0] 41 (0, 0)) := by rw [hW1]; exact (heap_setCell_same W0 _ 0 _ _ _ hr0).trans rfl
 have hp : W1.heap.size = w.heap.size + 1 := by rw [hW1, ← hp0]; exact puts_size _ [(.func (.func 16) #[.pointer (some ⟨w.heap.size, 0, none⟩)] #[])] W0 0
 have c0 := (cell_of_row W0 _ 0 _ _ _ hr0).trans rfl
 have z0 := frozen_of_row W0 _ 0 _ _ hr0
 have HW0 := Lib.hid hW0
 have HW1 := Lib.hid hW1; have HB1 := Lib.hid hb1; have HR1 := Lib.hid hr1; have HP := Lib.hid hp; have HT := Lib.hid hT
 have hst := fun (m : Mode) (W : World) => run_store Tryd.prog W ⟨w.heap.size, 0, none⟩ (.func (.func 16) #[.pointer (some ⟨w.heap.size, 0, none⟩)] #[]) m rfl
 clear hW0 hb0 hr0 hp0 hW1 hb1 hr1 hp hT
 go_enter Tryd.func6, Tryd.ntmps6
 go_upto_region 2 with fail
 rw [← HW0.out]
 go_wp2_with fail
 rw [← HW1.out]
 go_ret
 exact ⟨rfl, ⟨_, _, _, _, _, _, rfl, HR1.out⟩, HB1.out⟩
theorem new_first (w : World) (hT : Tabs w) : Calls Tryd.prog 6 #[.int .i64 4] w (NewPost 17 (leafA 0 0) 0 w) := by
 obtain ⟨W0, hW0⟩ : ∃ W, W = w.alloc (.cells #[.nilFunc, .int .i64 0, .int .i64 0, .string ⟨#[]⟩, .slice none 0 0, .slice none 0 0, .slice none 0 0, .int .i64 0, .slice none 0 0] 41) := ⟨_, rfl⟩
 have hb0 : Below w.heap.size w W0 := by rw [hW0]; exact (Below.refl _ _).alloc (Nat.le_refl _) _
 have hr0 : W0.heap[w.heap.size]? = some (.cells #[.nilFunc, .int .i64 0, .int .i64 0, .string ⟨#[]⟩, .slice none 0 0, .slice none 0 0, .slice none 0 0, .int .i64 0, .slice none 0 0] 41 (0, 0)) := by rw [hW0]; exact heap_alloc_new w _
 have hp0 : W0.heap.size = w.heap.size + 1 := by rw [hW0]; simp
 obtain ⟨W1, hW1⟩ : ∃ W, W = W0.setCell ⟨w.heap.size, 0, none⟩ (.func (.func 17) #[.pointer (some ⟨w.heap.size, 0, none⟩)] #[]) := ⟨_, rfl⟩
 have hb1 : Below w.heap.size w W1 := by rw [hW1]; exact puts_below hb0 (Nat.le_refl _) [(.func (.func 17) #[.pointer (some ⟨w.heap.size, 0, none⟩)] #[])] 0
 have hr1 : W1.heap[w.heap.size]? = some (.cells #[.func (.func 17) #[.pointer (some ⟨w.heap.size, 0, none⟩)] #[], .int .i64 0, .int .i64 0, .string ⟨#[]⟩, .slice none 0 0, .slice none 0 0, .slice none 0 0, .int .i64 0, .slice none 0 0] 41 (0, 0)) := by rw [hW1]; exact (heap_setCell_same W0 _ 0 _ _ _ hr0).trans rfl
 have hp : W1.heap.size = w.heap.size + 1 := by rw [hW1, ← hp0]; exact puts_size _ [(.func (.func 17) #[.pointer (some ⟨w.heap.size, 0, none⟩)] #[])] W0 0
 have c0 := (cell_of_row W0 _ 0 _ _ _ hr0).trans rfl
 have z0 := frozen_of_row W0 _ 0 _ _ hr0
 have HW0 := Lib.hid hW0
 have HW1 := Lib.hid hW1; have HB1 := Lib.hid hb1; have HR1 := Lib.hid hr1; have HP := Lib.hid hp; have HT := Lib.hid hT
 have hst := fun (m : Mode) (W : World) => run_store Tryd.prog W ⟨w.heap.size, 0, none⟩ (.func (.func 17) #[.pointer (some ⟨w.heap.size, 0, none⟩)] #[]) m rfl
 clear hW0 hb0 hr0 hp0 hW1 hb1 hr1 hp hT
 go_enter Tryd.func6, Tryd.ntmps6
 go_upto_region 2 with fail
 rw [← HW0.out]
 go_wp2_with fail
 rw [← HW1.out]
 go_ret
 exact ⟨rfl, ⟨_, _, _, _, _, _, rfl, HR1.out⟩, HB1.out⟩
theorem new_last (w : World) (hT : Tabs w) : Calls Tryd.prog 6 #[.int .i64 5] w (NewPost 18 (leafA 0 0) 0 w) := by
 obtain ⟨W0, hW0⟩ : ∃ W, W = w.alloc (.cells #[.nilFunc, .int .i64 0, .int .i64 0, .string ⟨#[]⟩, .slice none 0 0, .slice none 0 0, .slice none 0 0, .int .i64 0, .slice none 0 0] 41) := ⟨_, rfl⟩
 have hb0 : Below w.heap.size w W0 := by rw [hW0]; exact (Below.refl _ _).alloc (Nat.le_refl _) _
 have hr0 : W0.heap[w.heap.size]? = some (.cells #[.nilFunc, .int .i64 0, .int .i64 0, .string ⟨#[]⟩, .slice none 0 0, .slice none 0 0, .slice none 0 0, .int .i64 0, .slice none 0 0] 41 (0, 0)) := by rw [hW0]; exact heap_alloc_new w _
 have hp0 : W0.heap.size = w.heap.size + 1 := by rw [hW0]; simp
 obtain ⟨W1, hW1⟩ : ∃ W, W = W0.setCell ⟨w.heap.size, 0, none⟩ (.func (.func 18) #[.pointer (some ⟨w.heap.size, 0, none⟩)] #[]) := ⟨_, rfl⟩
 have hb1 : Below w.heap.size w W1 := by rw [hW1]; exact puts_below hb0 (Nat.le_refl _) [(.func (.func 18) #[.pointer (some ⟨w.heap.size, 0, none⟩)] #[])] 0
 have hr1 : W1.heap[w.heap.size]? = some (.cells #[.func (.func 18) #[.pointer (some ⟨w.heap.size, 0, none⟩)] #[], .int .i64 0, .int .i64 0, .string ⟨#[]⟩, .slice none 0 0, .slice none 0 0, .slice none 0 0, .int .i64 0, .slice none 0 0] 41 (0, 0)) := by rw [hW1]; exact (heap_setCell_same W0 _ 0 _ _ _ hr0).trans rfl
 have hp : W1.heap.size = w.heap.size + 1 := by rw [hW1, ← hp0]; exact puts_size _ [(.func (.func 18) #[.pointer (some ⟨w.heap.size, 0, none⟩)] #[])] W0 0
 have c0 := (cell_of_row W0 _ 0 _ _ _ hr0).trans rfl
 have z0 := frozen_of_row W0 _ 0 _ _ hr0
 have HW0 := Lib.hid hW0
 have HW1 := Lib.hid hW1; have HB1 := Lib.hid hb1; have HR1 := Lib.hid hr1; have HP := Lib.hid hp; have HT := Lib.hid hT
 have hst := fun (m : Mode) (W : World) => run_store Tryd.prog W ⟨w.heap.size, 0, none⟩ (.func (.func 18) #[.pointer (some ⟨w.heap.size, 0, none⟩)] #[]) m rfl
 clear hW0 hb0 hr0 hp0 hW1 hb1 hr1 hp hT
 go_enter Tryd.func6, Tryd.ntmps6
 go_upto_region 2 with fail
 rw [← HW0.out]
 go_wp2_with fail
 rw [← HW1.out]
 go_ret
 exact ⟨rfl, ⟨_, _, _, _, _, _, rfl, HR1.out⟩, HB1.out⟩
theorem new_push (w : World) (hT : Tabs w) : Calls Tryd.prog 6 #[.int .i64 6] w (NewPost 19 (leafA 7 0) 5 w) := by
 obtain ⟨W0, hW0⟩ : ∃ W, W = w.alloc (.cells #[.nilFunc, .int .i64 0, .int .i64 0, .string ⟨#[]⟩, .slice none 0 0, .slice none 0 0, .slice none 0 0, .int .i64 0, .slice none 0 0] 41) := ⟨_, rfl⟩
 have hb0 : Below w.heap.size w W0 := by rw [hW0]; exact (Below.refl _ _).alloc (Nat.le_refl _) _
 have hr0 : W0.heap[w.heap.size]? = some (.cells #[.nilFunc, .int .i64 0, .int .i64 0, .string ⟨#[]⟩, .slice none 0 0, .slice none 0 0, .slice none 0 0, .int .i64 0, .slice none 0 0] 41 (0, 0)) := by rw [hW0]; exact heap_alloc_new w _
 have hp0 : W0.heap.size = w.heap.size + 1 := by rw [hW0]; simp
 obtain ⟨W1, hW1⟩ : ∃ W, W = W0.setCell ⟨w.heap.size, 0, none⟩ (.func (.func 19) #[.pointer (some ⟨w.heap.size, 0, none⟩)] #[]) := ⟨_, rfl⟩
 have hb1 : Below w.heap.size w W1 := by rw [hW1]; exact puts_below hb0 (Nat.le_refl _) [(.func (.func 19) #[.pointer (some ⟨w.heap.size, 0, none⟩)] #[])] 0
 have hr1 : W1.heap[w.heap.size]? = some (.cells #[.func (.func 19) #[.pointer (some ⟨w.heap.size, 0, none⟩)] #[], .int .i64 0, .int .i64 0, .string ⟨#[]⟩, .slice none 0 0, .slice none 0 0, .slice none 0 0, .int .i64 0, .slice none 0 0] 41 (0, 0)) := by rw [hW1]; exact (heap_setCell_same W0 _ 0 _ _ _ hr0).trans rfl
 have hp : W1.heap.size = w.heap.size + 1 := by rw [hW1, ← hp0]; exact puts_size _ [(.func (.func 19) #[.pointer (some ⟨w.heap.size, 0, none⟩)] #[])] W0 0
 have c0 := (cell_of_row W0 _ 0 _ _ _ hr0).trans rfl
 have z0 := frozen_of_row W0 _ 0 _ _ hr0
 have HW0 := Lib.hid hW0
 have HW1 := Lib.hid hW1; have HB1 := Lib.hid hb1; have HR1 := Lib.hid hr1; have HP := Lib.hid hp; have HT := Lib.hid hT
 have hst := fun (m : Mode) (W : World) => run_store Tryd.prog W ⟨w.heap.size, 0, none⟩ (.func (.func 19) #[.pointer (some ⟨w.heap.size, 0, none⟩)] #[]) m rfl
 clear hW0 hb0 hr0 hp0 hW1 hb1 hr1 hp hT
 go_enter Tryd.func6, Tryd.ntmps6
 go_upto_region 2 with fail
 rw [← HW0.out]
 go_wp2_with fail
 rw [← HW1.out]
 refine (emptyList_any W1).mono ?_
 rintro e w2 ⟨rfl, hb2⟩
 have HB2 : Hid (Below w.heap.size w w2) := HB1.out.trans (hb2.mono HB1.out.size)
 have HS2 : Hid (Cells w2 w.heap.size (mOf 19 w.heap.size) (leafA 0 0) 0 (.slice none 0 0)) := ⟨_, _, _, _, _, _, rfl, (hb2.block w.heap.size (by have := HP.out; omega)).trans HR1.out⟩
 have CK := Lib.hid (akeep_gen (fun v => v = leafA 7 0) w.heap.size w.heap.size _ _ _ _ (fun _ => False) 0 (.mk 7 0 ⟨#[]⟩ [] [] []) (leafA 7 0) w2 (Nat.le_refl _) HS2.out (leaf_in w2 _ 7 0 (by omega) (by omega) 0) (fun h => h) ((TabsAt.of HT.out).mono HB2.out) (fun W hb => (copy_leaf 7 0 W).mono fun e w3 h => ⟨_, h.1, rfl, leaf_in w3 _ 7 0 (by omega) (by omega) 0, h.2⟩))
 clear hb2
 unfold leafA at CK
 go_wp2_with fail
 refine CK.out.mono ?_
 rintro e w3 ⟨rfl, v3, rfl, hs3, -, hrm⟩
 have HS3 := Lib.hid hs3
 have HB3 := Lib.hid ((RM.of_below HB2.out).trans hrm (fun _ _ h => h))
 clear hs3 hrm
 go_wp2_with fail
 go_ret
 refine ⟨rfl, ?_, HB3.out.below (Nat.le_refl _) (fun k hk => by omega)⟩
 have h := HS3.out
 rw [w_list] at h
 exact h
theorem new_set (w : World) (hT : Tabs w) : Calls Tryd.prog 6 #[.int .i64 7] w (NewPost 21 (leafA 7 0) 5 w) := by
 obtain ⟨W0, hW0⟩ : ∃ W, W = w.alloc (.cells #[.nilFunc, .int .i64 0, .int .i64 0, .string ⟨#[]⟩, .slice none 0 0, .slice none 0 0, .slice none 0 0, .int .i64 0, .slice none 0 0] 41) := ⟨_, rfl⟩
 have hb0 : Below w.heap.size w W0 := by rw [hW0]; exact (Below.refl _ _).alloc (Nat.le_refl _) _
 have hr0 : W0.heap[w.heap.size]? = some (.cells #[.nilFunc, .int .i64 0, .int .i64 0, .string ⟨#[]⟩, .slice none 0 0, .slice none 0 0, .slice none 0 0, .int .i64 0, .slice none 0 0] 41 (0, 0)) := by rw [hW0]; exact heap_alloc_new w _
 have hp0 : W0.heap.size = w.heap.size + 1 := by rw [hW0]; simp
 obtain ⟨W1, hW1⟩ : ∃ W, W = W0.setCell ⟨w.heap.size, 0, none⟩ (.func (.func 21) #[.pointer (some ⟨w.heap.size, 0, none⟩)] #[]) := ⟨_, rfl⟩
 have hb1 : Below w.heap.size w W1 := by rw [hW1]; exact puts_below hb0 (Nat.le_refl _) [(.func (.func 21) #[.pointer (some ⟨w.heap.size, 0, none⟩)] #[])] 0
 have hr1 : W1.heap[w.heap.size]? = some (.cells #[.func (.func 21) #[.pointer (some ⟨w.heap.size, 0, none⟩)] #[], .int .i64 0, .int .i64 0, .string ⟨#[]⟩, .slice none 0 0, .slice none 0 0, .slice none 0 0, .int .i64 0, .slice none 0 0] 41 (0, 0)) := by rw [hW1]; exact (heap_setCell_same W0 _ 0 _ _ _ hr0).trans rfl
 have hp : W1.heap.size = w.heap.size + 1 := by rw [hW1, ← hp0]; exact puts_size _ [(.func (.func 21) #[.pointer (some ⟨w.heap.size, 0, none⟩)] #[])] W0 0
 have c0 := (cell_of_row W0 _ 0 _ _ _ hr0).trans rfl
 have z0 := frozen_of_row W0 _ 0 _ _ hr0
 have HW0 := Lib.hid hW0
 have HW1 := Lib.hid hW1; have HB1 := Lib.hid hb1; have HR1 := Lib.hid hr1; have HP := Lib.hid hp; have HT := Lib.hid hT
 have hst := fun (m : Mode) (W : World) => run_store Tryd.prog W ⟨w.heap.size, 0, none⟩ (.func (.func 21) #[.pointer (some ⟨w.heap.size, 0, none⟩)] #[]) m rfl
 clear hW0 hb0 hr0 hp0 hW1 hb1 hr1 hp hT
 go_enter Tryd.func6, Tryd.ntmps6
 go_upto_region 2 with fail
 rw [← HW0.out]
 go_wp2_with fail
 rw [← HW1.out]
 refine (emptyList_any W1).mono ?_
 rintro e w2 ⟨rfl, hb2⟩
 have HB2 : Hid (Below w.heap.size w w2) := HB1.out.trans (hb2.mono HB1.out.size)
 have HS2 : Hid (Cells w2 w.heap.size (mOf 21 w.heap.size) (leafA 0 0) 0 (.slice none 0 0)) := ⟨_, _, _, _, _, _, rfl, (hb2.block w.heap.size (by have := HP.out; omega)).trans HR1.out⟩
 have CK := Lib.hid (akeep_gen (fun v => v = leafA 7 0) w.heap.size w.heap.size _ _ _ _ (fun _ => False) 0 (.mk 7 0 ⟨#[]⟩ [] [] []) (leafA 7 0) w2 (Nat.le_refl _) HS2.out (leaf_in w2 _ 7 0 (by omega) (by omega) 0) (fun h => h) ((TabsAt.of HT.out).mono HB2.out) (fun W hb => (copy_leaf 7 0 W).mono fun e w3 h => ⟨_, h.1, rfl, leaf_in w3 _ 7 0 (by omega) (by omega) 0, h.2⟩))
 clear hb2
 unfold leafA at CK
 go_wp2_with fail
 refine CK.out.mono ?_
 rintro e w3 ⟨rfl, v3, rfl, hs3, -, hrm⟩
 have HS3 := Lib.hid hs3
 have HB3 := Lib.hid ((RM.of_below HB2.out).trans hrm (fun _ _ h => h))
 clear hs3 hrm
 go_wp2_with fail
 go_ret
 refine ⟨rfl, ?_, HB3.out.below (Nat.le_refl _) (fun k hk => by omega)⟩
 have h := HS3.out
 rw [w_list] at h
 exact h
theorem new_count (w : World) (hT : Tabs w) : Calls Tryd.prog 6 #[.int .i64 8] w (NewPost 22 (leafA 3 0) 0 w) := by
 obtain ⟨W0, hW0⟩ : ∃ W, W = w.alloc (.cells #[.nilFunc, .int .i64 0, .int .i64 0, .string ⟨#[]⟩, .slice none 0 0, .slice none 0 0, .slice none 0 0, .int .i64 0, .slice none 0 0] 41) := ⟨_, rfl⟩
 have hb0 : Below w.heap.size w W0 := by rw [hW0]; exact (Below.refl _ _).alloc (Nat.le_refl _) _
 have hr0 : W0.heap[w.heap.size]? = some (.cells #[.nilFunc, .int .i64 0, .int .i64 0, .string ⟨#[]⟩, .slice none 0 0, .slice none 0 0, .slice none 0 0, .int .i64 0, .slice none 0 0] 41 (0, 0)) := by rw [hW0]; exact heap_alloc_new w _
 have hp0 : W0.heap.size = w.heap.size + 1 := by rw [hW0]; simp
 obtain ⟨W1, hW1⟩ : ∃ W, W = W0.setCell ⟨w.heap.size, 0, none⟩ (.func (.func 22) #[.pointer (some ⟨w.heap.size, 0, none⟩)] #[]) := ⟨_, rfl⟩
 have hb1 : Below w.heap.size w W1 := by rw [hW1]; exact puts_below hb0 (Nat.le_refl _) [(.func (.func 22) #[.pointer (some ⟨w.heap.size, 0, none⟩)] #[])] 0
 have hr1 : W1.heap[w.heap.size]? = some (.cells #[.func (.func 22) #[.pointer (some ⟨w.heap.size, 0, none⟩)] #[], .int .i64 0, .int .i64 0, .string ⟨#[]⟩, .slice none 0 0, .slice none 0 0, .slice none 0 0, .int .i64 0, .slice none 0 0] 41 (0, 0)) := by rw [hW1]; exact (heap_setCell_same W0 _ 0 _ _ _ hr0).trans rfl
 have hp : W1.heap.size = w.heap.size + 1 := by rw [hW1, ← hp0]; exact puts_size _ [(.func (.func 22) #[.pointer (some ⟨w.heap.size, 0, none⟩)] #[])] W0 0
 have c0 := (cell_of_row W0 _ 0 _ _ _ hr0).trans rfl
 have z0 := frozen_of_row W0 _ 0 _ _ hr0
 have HW0 := Lib.hid hW0
 have HW1 := Lib.hid hW1; have HB1 := Lib.hid hb1; have HR1 := Lib.hid hr1; have HP := Lib.hid hp; have HT := Lib.hid hT
 have hst := fun (m : Mode) (W : World) => run_store Tryd.prog W ⟨w.heap.size, 0, none⟩ (.func (.func 22) #[.pointer (some ⟨w.heap.size, 0, none⟩)] #[]) m rfl
 clear hW0 hb0 hr0 hp0 hW1 hb1 hr1 hp hT
 go_enter Tryd.func6, Tryd.ntmps6
 go_upto_region 2 with fail
 rw [← HW0.out]
 go_wp2_with fail
 rw [← HW1.out]
 refine (nought_any W1).mono ?_
 rintro e w2 ⟨rfl, hb2⟩
 have hr2 := (hb2.block w.heap.size (by have := HP.out; omega)).trans HR1.out
 have g1 := (cell_of_row w2 _ 1 _ _ _ hr2).trans rfl
 have g2 := (cell_of_row w2 _ 2 _ _ _ hr2).trans rfl
 have g3 := (cell_of_row w2 _ 3 _ _ _ hr2).trans rfl
 have g4 := (cell_of_row w2 _ 4 _ _ _ hr2).trans rfl
 have g5 := (cell_of_row w2 _ 5 _ _ _ hr2).trans rfl
 have g6 := (cell_of_row w2 _ 6 _ _ _ hr2).trans rfl
 have z1 := frozen_of_row w2 _ 1 _ _ hr2
 have z2 := frozen_of_row w2 _ 2 _ _ hr2
 have z3 := frozen_of_row w2 _ 3 _ _ hr2
 have z4 := frozen_of_row w2 _ 4 _ _ hr2
 have z5 := frozen_of_row w2 _ 5 _ _ hr2
 have z6 := frozen_of_row w2 _ 6 _ _ hr2
 have HR2 := Lib.hid hr2
 have HB2 : Hid (Below w.heap.size w w2) := HB1.out.trans (hb2.mono HB1.out.size)
 clear hr2 hb2
 go_wp2_with fail
 go_ret
 exact ⟨rfl, ⟨_, _, _, _, _, _, rfl, six_row HR2.out (.int .i64 3) (.int .i64 0) (.string ⟨#[]⟩) (.slice none 0 0) (.slice none 0 0) (.slice none 0 0)⟩, puts_below HB2.out (Nat.le_refl _) [.int .i64 3, .int .i64 0, .string ⟨#[]⟩, .slice none 0 0, .slice none 0 0, .slice none 0 0] 1⟩
end Acc
namespace Acc
def St (w : World) (s f : Nat) (Q : Nat → Prop) (H : Nat) (x : Val) (wt : Int) : Prop := ∃ v, Cells w s (mOf f s) v wt (.slice none 0 0) ∧ VIn w Q (H + 1) x v ∧ ¬ Q s
def wtO (o : Option Val) (wt : Int) : Int := match o with
 | none => wt
 | some x => wOf x
theorem St.lt {w : World} {s f : Nat} {Q : Nat → Prop} {H : Nat} {x : Val} {wt : Int} (h : St w s f Q H x wt) : s < w.heap.size := by obtain ⟨_, h, _⟩ := h; exact h.lt
theorem St.keep {w w' : World} {s f : Nat} {Q : Nat → Prop} {H : Nat} {x : Val} {wt : Int} {F : Nat → Prop} (h : St w s f Q H x wt) (hr : RM F w w') (hs : ¬ F s) (hF : ∀ g, F g → ¬ Q g) : St w' s f Q H x wt := by
 have hlt := h.lt
 obtain ⟨v, h1, h2, h3⟩ := h
 exact ⟨v, h1.keep (hr.block s hlt hs), h2.kept (fun g hg hl => hr.block g hl (fun e => hF g e hg)) (fun _ h => h), h3⟩
theorem St.below {w w' : World} {s f : Nat} {Q : Nat → Prop} {H : Nat} {x : Val} {wt : Int} (h : St w s f Q H x wt) (hb : Below w.heap.size w w') : St w' s f Q H x wt := h.keep (F := fun _ => False) (RM.of_below hb) (fun h => h) (fun _ h => h.elim)
def AddPost (w : World) (s f : Nat) (Q : Nat → Prop) (H : Nat) (r : Int) (x : Val) (wt : Int) (e : Ending) (w' : World) : Prop := e = .returned (.int .i64 r) ∧ St w' s f Q H x wt ∧ RM (fun g => g = s) w w'
theorem st_new {f s : Nat} {k n wt : Int} {w : World} (hk : Num.In k) (hn : Num.In n) (h : Cells w s (mOf f s) (leafA k n) wt (.slice none 0 0)) (Q : Nat → Prop) (hQ : ¬ Q s) (H : Nat) : St w s f Q H (.mk k n ⟨#[]⟩ [] [] []) wt := ⟨_, h, leaf_in w Q k n hk hn H, hQ⟩
theorem add_of (f s : Nat) (r : Int) (ox : Option Val) (x : Val) (wt : Int) (Q Qy : Nat → Prop) (H : Nat) (y : Val) (v : Value) (w : World) (hke : ∀ args (u : World), (callFunc f args).run Tryd.prog u = .ok (.enter f args) u) (hS : St w s f Q H x wt) (hv : VIn w Qy (H + 1) y v) (hQn : ∀ g, w.heap.size ≤ g → Q g)
  (hm : ∀ W u, Below w.heap.size w W → Cells W s (mOf f s) u wt (.slice none 0 0) → VIn W Q (H + 1) x u → VIn W Qy (H + 1) y v → Calls Tryd.prog f #[.pointer (some ⟨s, 0, none⟩), v] W (KindPost W s (mOf f s) (.slice none 0 0) H r ox)) :
  Calls Tryd.prog 7 #[.pointer (some ⟨s, 0, none⟩), v] w (AddPost w s f Q H r (ox.getD x) (wtO ox wt)) := by
 have hlt := hS.lt
 obtain ⟨u, h1, h2, h3⟩ := hS
 refine (aadd_any f s hke (fun r' W w' => r' = r ∧ KindPost W s (mOf f s) (.slice none 0 0) H r ox (.returned (.int .i64 r)) w') u (.slice none 0 0) wt Qy H y v w h1 hv (fun W hb => (hm W u hb (h1.keep (hb.block s hlt)) (VIn.keep hb h2) (VIn.keep hb hv)).mono fun e w' hk => ⟨r, hk.1, rfl, rfl, hk.2⟩)).mono ?_
 rintro e w' ⟨r', W, rfl, hb, rfl, -, hk⟩
 refine ⟨rfl, ?_⟩
 cases ox with
 | none =>
  have hb2 : Below w.heap.size w w' := hb.trans (Below.mono hk hb.size)
  exact ⟨⟨u, h1.keep (hb2.block s hlt), VIn.keep hb2 h2, h3⟩, RM.of_below hb2⟩
 | some z =>
  obtain ⟨v', k1, k2, k3⟩ := KeptX.of hb hk
  exact ⟨⟨v', k1, k2.kept (Kept.of_below (Below.refl _ _)) hQn, h3⟩, k3⟩
theorem add_first (B s : Nat) (x : Val) (wt : Int) (Q Qy : Nat → Prop) (H : Nat) (y : Val) (v : Value) (w : World) (hB : B ≤ s) (hS : St w s 17 Q H x wt) (hv : VIn w Qy (H + 1) y v) (hQ : ¬ Qy s) (hQn : ∀ g, w.heap.size ≤ g → Q g) (hT : TabsAt B w) :
  Calls Tryd.prog 7 #[.pointer (some ⟨s, 0, none⟩), v] w (AddPost w s 17 Q H 0 (((if x.kind = 0 then some (orN y) else none) : Option Val).getD x) (wtO (if x.kind = 0 then some (orN y) else none) wt)) :=
 add_of 17 s 0 (if x.kind = 0 then some (orN y) else none) x wt Q Qy H y v w (enters_of Tryd.func17 (by kernel_rfl) rfl) hS hv hQn (fun W u hb h1 h2 h3 => afirst_any B s _ u _ wt Q Qy H x y v W hB h1 h2 h3 hQ (hT.mono (hb.mono hT.1)))
theorem add_last (B s : Nat) (x : Val) (wt : Int) (Q Qy : Nat → Prop) (H : Nat) (y : Val) (v : Value) (w : World) (hB : B ≤ s) (hS : St w s 18 Q H x wt) (hv : VIn w Qy (H + 1) y v) (hQ : ¬ Qy s) (hQn : ∀ g, w.heap.size ≤ g → Q g) (hT : TabsAt B w) :
  Calls Tryd.prog 7 #[.pointer (some ⟨s, 0, none⟩), v] w (AddPost w s 18 Q H 0 (((some (orN y)) : Option Val).getD x) (wtO (some (orN y)) wt)) :=
 add_of 18 s 0 (some (orN y)) x wt Q Qy H y v w (enters_of Tryd.func18 (by kernel_rfl) rfl) hS hv hQn (fun W u hb h1 h2 h3 => alast_any B s _ u _ wt Q Qy H x y v W hB h1 h2 h3 hQ (hT.mono (hb.mono hT.1)))
theorem add_least (B s : Nat) (x : Val) (wt : Int) (Q Qy : Nat → Prop) (H : Nat) (y : Val) (v : Value) (w : World) (hB : B ≤ s) (hS : St w s 15 Q H x wt) (hv : VIn w Qy (H + 1) y v) (hQ : ¬ Qy s) (hQn : ∀ g, w.heap.size ≤ g → Q g) (hT : TabsAt B w) :
  Calls Tryd.prog 7 #[.pointer (some ⟨s, 0, none⟩), v] w (AddPost w s 15 Q H 0 (((if y.kind = 0 ∨ y.kind = 2 then none else if x.kind = 0 ∨ Order.cmp (H + 1) y x = (-1) then some y else none) : Option Val).getD x) (wtO (if y.kind = 0 ∨ y.kind = 2 then none else if x.kind = 0 ∨ Order.cmp (H + 1) y x = (-1) then some y else none) wt)) :=
 add_of 15 s 0 (if y.kind = 0 ∨ y.kind = 2 then none else if x.kind = 0 ∨ Order.cmp (H + 1) y x = (-1) then some y else none) x wt Q Qy H y v w (enters_of Tryd.func15 (by kernel_rfl) rfl) hS hv hQn (fun W u hb h1 h2 h3 => aleast_any B s _ u _ wt Q Qy H x y v W hB h1 h2 h3 hQ (hT.mono (hb.mono hT.1)))
theorem add_greatest (B s : Nat) (x : Val) (wt : Int) (Q Qy : Nat → Prop) (H : Nat) (y : Val) (v : Value) (w : World) (hB : B ≤ s) (hS : St w s 16 Q H x wt) (hv : VIn w Qy (H + 1) y v) (hQ : ¬ Qy s) (hQn : ∀ g, w.heap.size ≤ g → Q g) (hT : TabsAt B w) :
  Calls Tryd.prog 7 #[.pointer (some ⟨s, 0, none⟩), v] w (AddPost w s 16 Q H 0 (((if y.kind = 0 ∨ y.kind = 2 then none else if x.kind = 0 ∨ Order.cmp (H + 1) y x = 1 then some y else none) : Option Val).getD x) (wtO (if y.kind = 0 ∨ y.kind = 2 then none else if x.kind = 0 ∨ Order.cmp (H + 1) y x = 1 then some y else none) wt)) :=
 add_of 16 s 0 (if y.kind = 0 ∨ y.kind = 2 then none else if x.kind = 0 ∨ Order.cmp (H + 1) y x = 1 then some y else none) x wt Q Qy H y v w (enters_of Tryd.func16 (by kernel_rfl) rfl) hS hv hQn (fun W u hb h1 h2 h3 => agreatest_any B s _ u _ wt Q Qy H x y v W hB h1 h2 h3 hQ (hT.mono (hb.mono hT.1)))
theorem add_sum_num (B s : Nat) (x : Val) (wt : Int) (Q Qy : Nat → Prop) (H : Nat) (y : Val) (v : Value) (w : World) (hB : B ≤ s) (hS : St w s 12 Q H x wt) (hv : VIn w Qy (H + 1) y v) (hQ : ¬ Qy s) (hQn : ∀ g, w.heap.size ≤ g → Q g) (hT : TabsAt B w) (hn : numB y.kind = true) :
  Calls Tryd.prog 7 #[.pointer (some ⟨s, 0, none⟩), v] w (AddPost w s 12 Q H (Num.reck (Num.sumR x.n y.n) x.kind y.kind).2.2 ((if (Num.reck (Num.sumR x.n y.n) x.kind y.kind).2.2 = 0 then some (numV (Num.reck (Num.sumR x.n y.n) x.kind y.kind).1 (Num.reck (Num.sumR x.n y.n) x.kind y.kind).2.1) else none : Option Val).getD x) (wtO (if (Num.reck (Num.sumR x.n y.n) x.kind y.kind).2.2 = 0 then some (numV (Num.reck (Num.sumR x.n y.n) x.kind y.kind).1 (Num.reck (Num.sumR x.n y.n) x.kind y.kind).2.1) else none) wt)) :=
 add_of 12 s _ _ x wt Q Qy H y v w (enters_of Tryd.func12 (by kernel_rfl) rfl) hS hv hQn (fun W u hb h1 h2 h3 => by have h := asum_any B s _ u _ wt Q Qy H x y v W hB h1 h2 h3 hQ (hT.mono (hb.mono hT.1)); rw [if_pos hn] at h; exact h)
theorem add_sum_not (B s : Nat) (x : Val) (wt : Int) (Q Qy : Nat → Prop) (H : Nat) (y : Val) (v : Value) (w : World) (hB : B ≤ s) (hS : St w s 12 Q H x wt) (hv : VIn w Qy (H + 1) y v) (hQ : ¬ Qy s) (hQn : ∀ g, w.heap.size ≤ g → Q g) (hT : TabsAt B w) (hn : numB y.kind = false) :
  Calls Tryd.prog 7 #[.pointer (some ⟨s, 0, none⟩), v] w (AddPost w s 12 Q H 0 x wt) :=
 add_of 12 s 0 none x wt Q Qy H y v w (enters_of Tryd.func12 (by kernel_rfl) rfl) hS hv hQn (fun W u hb h1 h2 h3 => by have h := asum_any B s _ u _ wt Q Qy H x y v W hB h1 h2 h3 hQ (hT.mono (hb.mono hT.1)); rw [if_neg (by rw [hn]; decide)] at h; exact h)
theorem add_count (B s : Nat) (x : Val) (wt : Int) (Q Qy : Nat → Prop) (H : Nat) (y : Val) (v : Value) (w : World) (hB : B ≤ s) (hS : St w s 22 Q H x wt) (hv : VIn w Qy (H + 1) y v) (hQ : ¬ Qy s) (hQn : ∀ g, w.heap.size ≤ g → Q g) (hT : TabsAt B w) (hn1 : x.n + 1 ≤ 9223372036854775807) :
  Calls Tryd.prog 7 #[.pointer (some ⟨s, 0, none⟩), v] w (AddPost w s 22 Q H 0 (numV (Num.ofK (x.n + 1)) (x.n + 1)) wt) := by
 have hlt := hS.lt
 obtain ⟨u, h1, h2, h3⟩ := hS
 have hin : Num.In (x.n + 1) := ⟨by have := (VIn.lim h2).n0; omega, hn1⟩
 have hok : Num.In (Num.ofK (x.n + 1)) := by unfold Num.ofK Num.In; split <;> omega
 refine (aadd_any 22 s (enters_of Tryd.func22 (by kernel_rfl) rfl) (fun r' W w' => r' = 0 ∧ Cells w' s (mOf 22 s) (leafA (Num.ofK (x.n + 1)) (x.n + 1)) wt (.slice none 0 0) ∧ RM (fun g => g = s) W w') u (.slice none 0 0) wt Qy H y v w h1 hv (fun W hb => (acount_any B s _ u _ wt Q Qy H x y v W hB (h1.keep (hb.block s hlt)) (VIn.keep hb h2) (VIn.keep hb hv) hQ (hT.mono (hb.mono hT.1)) hn1).mono fun e w' hk => ⟨0, hk.1, rfl, hk.2⟩)).mono ?_
 rintro e w' ⟨r', W, rfl, hb, rfl, k1, k2⟩
 exact ⟨rfl, st_new hok hin k1 Q h3 H, (RM.of_below hb).trans k2 (fun _ _ h => h)⟩
def names12 : List ByteArray := [⟨#[36, 115, 117, 109]⟩, ⟨#[36, 109, 105, 110]⟩, ⟨#[36, 109, 97, 120]⟩, ⟨#[36, 102, 105, 114, 115, 116]⟩, ⟨#[36, 108, 97, 115, 116]⟩, ⟨#[36, 112, 117, 115, 104]⟩, ⟨#[36, 97, 100, 100, 84, 111, 83, 101, 116]⟩, ⟨#[36, 99, 111, 117, 110, 116]⟩]
def Nms12 (w : World) : Prop := ∀ j, j < 8 → w.cell? ⟨0, j, none⟩ = some (.string (names12.getD j ByteArray.empty))
theorem Nms12.keep {w w' : World} (h : Nms12 w) (hb : Below w.heap.size w w') : Nms12 w' := fun j hj => cell_keep hb (h j hj)
theorem kind12_any (s : ByteArray) (k : Int) (hk : Lib.idxOfS names12 s = k) (hk0 : -1 ≤ k) (hk8 : k < 8) (w : World) (hN : Nms12 w) : Calls Tryd.prog 11 #[.string s] w fun e w' => e = .returned (.int .i64 (k + 1)) ∧ w' = w := by
 have CI := Lib.hid (Tryd.slices_Index_string 0 0 8 8 names12 s w (by decide) (by decide) (fun j hj => by rw [Nat.zero_add]; exact hN j hj))
 have ht : names12.take 8 = names12 := rfl
 rw [ht, hk] at CI
 have hwr : IntKind.i64.wrap (k + 1) = k + 1 := IntWalk.i64_in _ (by omega)
 clear hN hk ht
 go_enter Tryd.func11, Tryd.ntmps11
 go_wp2_with fail
 refine CI.out.mono ?_
 rintro e w' ⟨rfl, rfl⟩
 go_wp2_with fail
 go_ret
 exact ⟨rfl, rfl⟩
theorem w_33 : wOf (numV 3 3) = 4 := by kernel_rfl
theorem text_in (w : World) (Q : Nat → Prop) (s : ByteArray) (hs : s.size ≤ 140737488355328) (h : Nat) : VIn w Q (h + 1) (.mk 5 0 s [] [] []) (.agg #[.int .i64 5, .int .i64 0, .string s, .slice none 0 0, .slice none 0 0, .slice none 0 0]) :=
 ⟨none, none, none, 0, 0, 0, rfl, ⟨by show (-9223372036854775808 : Int) ≤ 5; omega, by show (5 : Int) ≤ _; omega, by show (-9223372036854775808 : Int) ≤ 0; omega, by show (0 : Int) ≤ _; omega, hs, by show (0 : Nat) ≤ _; omega, by show (0 : Nat) ≤ _; omega, by show (0 : Nat) ≤ _; omega, (fun _ h => by cases h)⟩, ⟨Nat.le_refl _, by omega⟩, ⟨Nat.le_refl _, by omega⟩, ⟨Nat.le_refl _, by omega⟩, .inl rfl, .inl rfl, .inl rfl⟩
theorem awake12_any (w : World) (hT : Tabs w) (hN : Nms12 w) : Calls Tryd.prog 5 #[] w fun e w' => e = .returned (.bool true) ∧ Below w.heap.size w w' := by
 have hb0 := Below.refl w.heap.size w
 have CN := Lib.hid (new_sum w hT)
 have HN := Lib.hid hN
 have HT := Lib.hid (TabsAt.of hT)
 clear hT hN hb0
 go_enter Tryd.func5, Tryd.ntmps5
 go_wp2_with fail
 refine CN.out.mono ?_
 rintro e w1 ⟨rfl, hs1, hb1⟩
 have HR1 := Lib.hid (RM.of_below (F := fun g => g = w.heap.size) hb1)
 have HS1 := Lib.hid (st_new (by unfold Num.In; omega) (by unfold Num.In; omega) hs1 (fun g => g ≠ w.heap.size) (fun h => h rfl) 0)
 clear hs1 hb1 CN
 have CA1 := Lib.hid (add_sum_num w.heap.size w.heap.size (numV 3 0) (4) (fun g => g ≠ w.heap.size) (fun _ => False) 0 (.mk 3 1 ⟨#[]⟩ [] [] []) _ w1 (Nat.le_refl _) HS1.out (leaf_in w1 (fun _ => False) 3 1 (by omega) (by omega) 0) (fun h => h) (fun g hg => by have := HS1.out.lt; omega) (HT.out.mono (HR1.out.below (Nat.le_refl _) (fun k hk => by omega))) rfl)
 go_wp2_with fail
 refine CA1.out.mono ?_
 rintro e w2 ⟨rfl, hs, hr⟩
 have HS2 : Hid (St w2 w.heap.size 12 (fun g => g ≠ w.heap.size) 0 (numV 3 1) (wOf (numV 3 1))) := hs
 have HR2 := Lib.hid (HR1.out.trans hr (fun _ _ h => h))
 clear hs hr CA1 HS1
 have CA2 := Lib.hid (add_sum_not w.heap.size w.heap.size (numV 3 1) (wOf (numV 3 1)) (fun g => g ≠ w.heap.size) (fun _ => False) 0 (.mk 5 0 ⟨#[120]⟩ [] [] []) _ w2 (Nat.le_refl _) HS2.out (text_in w2 (fun _ => False) ⟨#[120]⟩ (by decide) 0) (fun h => h) (fun g hg => by have := HS2.out.lt; omega) (HT.out.mono (HR2.out.below (Nat.le_refl _) (fun k hk => by omega))) rfl)
 go_wp2_with fail
 refine CA2.out.mono ?_
 rintro e w3 ⟨rfl, hs, hr⟩
 have HS3 : Hid (St w3 w.heap.size 12 (fun g => g ≠ w.heap.size) 0 (numV 3 1) (wOf (numV 3 1))) := hs
 have HR3 := Lib.hid (HR2.out.trans hr (fun _ _ h => h))
 clear hs hr CA2 HS2
 have CA3 := Lib.hid (add_sum_num w.heap.size w.heap.size (numV 3 1) (wOf (numV 3 1)) (fun g => g ≠ w.heap.size) (fun _ => False) 0 (.mk 3 2 ⟨#[]⟩ [] [] []) _ w3 (Nat.le_refl _) HS3.out (leaf_in w3 (fun _ => False) 3 2 (by omega) (by omega) 0) (fun h => h) (fun g hg => by have := HS3.out.lt; omega) (HT.out.mono (HR3.out.below (Nat.le_refl _) (fun k hk => by omega))) rfl)
 go_wp2_with fail
 refine CA3.out.mono ?_
 rintro e w4 ⟨rfl, hs, hr⟩
 have HS4 : Hid (St w4 w.heap.size 12 (fun g => g ≠ w.heap.size) 0 (numV 3 3) (wOf (numV 3 3))) := hs
 have HR4 := Lib.hid (HR3.out.trans hr (fun _ _ h => h))
 clear hs hr CA3 HS3
 obtain ⟨u, hc4, hv4, -⟩ := HS4.out
 have CV := Lib.hid (avalue_any w.heap.size _ _ _ u _ _ _ 0 (numV 3 3) w4 hc4 hv4)
 go_wp2_with fail
 refine CV.out.mono ?_
 rintro e w5 ⟨v5, rfl, hv5, hb5⟩
 obtain ⟨k5, n5, s5, a1, a2, a3, p1, p2, p3, p4, p5, p6, rfl, hk5, hn5, -⟩ := hv5.letters
 obtain rfl : k5 = 3 := hk5
 obtain rfl : n5 = 3 := hn5
 have HS5 := Lib.hid (HS4.out.below hb5)
 have HR5 := Lib.hid (HR4.out.trans (RM.of_below (F := fun g => g = w.heap.size) hb5) (fun _ _ h => h))
 clear hv5 hb5 hc4 hv4 CV
 obtain ⟨W6, hW6⟩ : ∃ W, W = w5.alloc (.cells #[.int .i64 3, .int .i64 3, .string s5, .slice a1 p1 p2, .slice a2 p3 p4, .slice a3 p5 p6] 32) := ⟨_, rfl⟩
 have hb6 : Below w5.heap.size w5 W6 := by rw [hW6]; exact (Below.refl _ _).alloc (Nat.le_refl _) _
 have hx6 : IsBox W6 w5.heap.size (.int .i64 3) (.int .i64 3) (.string s5) (.slice a1 p1 p2) (.slice a2 p3 p4) (.slice a3 p5 p6) := by rw [hW6]; exact IsBox.new w5 _ _ _ _ _ _
 have HS6 := Lib.hid (HS5.out.below hb6)
 have HR6 := Lib.hid (HR5.out.trans (RM.of_below (F := fun g => g = w.heap.size) hb6) (fun _ _ h => h))
 have HW6 := Lib.hid hW6
 clear hb6 hW6
 have hb6 : Below w.heap.size w W6 := HR6.out.below (Nat.le_refl _) (fun k hk => by omega)
 have CK := Lib.hid (kind12_any ⟨#[36, 112, 117, 115, 104]⟩ 5 (by kernel_rfl) (by omega) (by omega) W6 (HN.out.keep hb6))
 obtain ⟨u6, hc6, hv6, -⟩ := HS6.out
 have CS := Lib.hid (asize_any w.heap.size _ _ _ u6 _ _ W6 hc6 (by rw [w_33]; omega) (by rw [w_33]; omega))
 rw [w_33] at CS
 clear hc6 hv6
 obtain ⟨b0, b1, b2, b3, b4, b5⟩ := hx6.cells
 clear hx6
 go_upto_region 6 with fail
 rw [← HW6.out]
 go_wp2_with fail
 refine CK.out.mono ?_
 rintro e w7 ⟨rfl, rfl⟩
 go_wp2_with fail
 refine CS.out.mono ?_
 rintro e w8 ⟨rfl, hb8⟩
 have HB8 := Lib.hid (hb6.trans (hb8.mono hb6.size))
 clear hb8
 go_wp2_with fail
 go_ret
 exact ⟨rfl, HB8.out⟩
end Acc
end Go.Proofs.YtngllchoiffniaaDoor
end
