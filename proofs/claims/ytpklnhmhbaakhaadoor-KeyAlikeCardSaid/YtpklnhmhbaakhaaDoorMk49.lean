/- KeyAlikeTop. -/
import Derived.Test.YtpklnhmhbaakhaaDoorMk48
set_option maxRecDepth 100000
section
namespace Go.Proofs.YtpklnhmhbaakhaaDoor
open Go.RowKit
open Seal
open Bson (Val)
set_option maxRecDepth 100000 in
set_option maxHeartbeats 4000000 in
theorem keyAlike_any (Q : Nat → Prop) (h : Nat) (hh : 34 ≤ h) (n : Int) (hn0 : -2147483648 ≤ n) (hn1 : n ≤ 2147483647) (la : Option Addr) (m lc : Nat) (l : List Val) (x y : Val) (p0 p1 p2 p3 p4 p5 q0 q1 q2 q3 q4 q5 : Value) (w : World) (hm : l.length = m) (hI : ItemsIn w Q (VIn w Q (h + 1)) la l) (hx : VIn w Q (h + 1) x (.agg #[p0, p1, p2, p3, p4, p5])) (hy : VIn w Q (h + 1) y (.agg #[q0, q1, q2, q3, q4, q5])) (hQ : ∀ g, Q g → g < w.heap.size) (hX : Maxl w w.heap.size) (hmb : m ≤ 1353245080339) :
    Calls Tryd.prog 5 #[.int .i32 n, .slice la m lc, .agg #[p0, p1, p2, p3, p4, p5, q0, q1, q2, q3, q4, q5]] w fun e w' => e = .returned (.bool true) ∧ Below w.heap.size w w' := by
  have HB0 : Hid (Below w.heap.size w (w.alloc (.cells #[p0, p1, p2, p3, p4, p5, q0, q1, q2, q3, q4, q5] 40))) := (Below.refl _ w).alloc (Nat.le_refl _) _
  have HR0 := Lib.hid (heap_alloc_new w (.cells #[p0, p1, p2, p3, p4, p5, q0, q1, q2, q3, q4, q5] 40))
  have HAL : Hid (∀ W, Below w.heap.size w W → Calls Tryd.prog 16 #[.int .i32 n, .slice la m lc, .agg #[p0, p1, p2, p3, p4, p5], .agg #[q0, q1, q2, q3, q4, q5]] W fun e w' => e = .returned (.bool true) ∧ Below W.heap.size W w') := fun W hb => alike_any Q h hh n hn0 hn1 la m lc l x y _ _ W hm (hI.kept (Kept.of_below hb) (fun _ z => z) (fun _ _ z => VIn.keep (h := h + 1) hb z)) (VIn.keep (h := h + 1) hb hx) (VIn.keep (h := h + 1) hb hy) (fun g hg => Nat.lt_of_lt_of_le (hQ g hg) hb.size) ((hX.keep hb).mono hb.size) hmb
  have HAW := Lib.hid (key_awake (w.alloc (.cells #[p0, p1, p2, p3, p4, p5, q0, q1, q2, q3, q4, q5] 40)) ((hX.keep HB0.out).mono HB0.out.size))
  clear hI hx hy hQ hX hm
  go_enter Tryd.func5, Tryd.ntmps5
  go_wp2_with fail
  go_at_call 15
  refine HAW.out.mono ?_
  rintro e w1 ⟨rfl, hb⟩
  have HB1 := Lib.hid (HB0.out.trans (hb.mono HB0.out.size))
  have hr := (hb.block w.heap.size (Array.getElem?_eq_some_iff.1 HR0.out).1).trans HR0.out
  have HR1 := Lib.hid hr
  clear hr hb
  have k0 : w1.cell? ⟨w.heap.size, 0, none⟩ = some p0 := (cell_of_row _ _ 0 _ _ _ HR1.out).trans rfl
  have k1 : w1.cell? ⟨w.heap.size, 1, none⟩ = some p1 := (cell_of_row _ _ 1 _ _ _ HR1.out).trans rfl
  have k2 : w1.cell? ⟨w.heap.size, 2, none⟩ = some p2 := (cell_of_row _ _ 2 _ _ _ HR1.out).trans rfl
  have k3 : w1.cell? ⟨w.heap.size, 3, none⟩ = some p3 := (cell_of_row _ _ 3 _ _ _ HR1.out).trans rfl
  have k4 : w1.cell? ⟨w.heap.size, 4, none⟩ = some p4 := (cell_of_row _ _ 4 _ _ _ HR1.out).trans rfl
  have k5 : w1.cell? ⟨w.heap.size, 5, none⟩ = some p5 := (cell_of_row _ _ 5 _ _ _ HR1.out).trans rfl
  have k6 : w1.cell? ⟨w.heap.size, 6, none⟩ = some q0 := (cell_of_row _ _ 6 _ _ _ HR1.out).trans rfl
  have k7 : w1.cell? ⟨w.heap.size, 7, none⟩ = some q1 := (cell_of_row _ _ 7 _ _ _ HR1.out).trans rfl
  have k8 : w1.cell? ⟨w.heap.size, 8, none⟩ = some q2 := (cell_of_row _ _ 8 _ _ _ HR1.out).trans rfl
  have k9 : w1.cell? ⟨w.heap.size, 9, none⟩ = some q3 := (cell_of_row _ _ 9 _ _ _ HR1.out).trans rfl
  have k10 : w1.cell? ⟨w.heap.size, 10, none⟩ = some q4 := (cell_of_row _ _ 10 _ _ _ HR1.out).trans rfl
  have k11 : w1.cell? ⟨w.heap.size, 11, none⟩ = some q5 := (cell_of_row _ _ 11 _ _ _ HR1.out).trans rfl
  go_wp2_with fail
  go_at_call 16
  refine (HAL.out w1 HB1.out).mono ?_
  rintro e w2 ⟨rfl, hb⟩
  have HB2 := Lib.hid (HB1.out.trans (hb.mono HB1.out.size))
  clear hb k0 k1 k2 k3 k4 k5 k6 k7 k8 k9 k10 k11
  go_wp2_with fail
  go_ret
  exact ⟨rfl, HB2.out⟩
end Go.Proofs.YtpklnhmhbaakhaaDoor
end
