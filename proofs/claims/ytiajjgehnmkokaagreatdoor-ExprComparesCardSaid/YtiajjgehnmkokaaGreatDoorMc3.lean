/- SixIs, ValByt, Boxed2, Boxes, NumLeaf, OrderLeaf, PathCopyF, Seven, ValBuild. -/
import Derived.Deep.QuietTactic
import Derived.BigQuiet
import Derived.Lib.BytesEntry
import Derived.Lib.Bytealg
import Derived.Laws.Externs
import Derived.Test.YtiajjgehnmkokaaGreatDoorMc2
import Derived.Test.YtiajjgehnmkokaaGreatDoorMc0
import Derived.Test.YtiajjgehnmkokaaGreatDoorMc1
set_option maxRecDepth 100000
set_option maxHeartbeats 20000000
section
namespace Go.Proofs.YtiajjgehnmkokaaGreatDoor
open Go.RowKit
open Seal
def SixIs (W : World) (n : Nat) (c0 c1 c2 c3 c4 c5 : Value) : Prop := W.cell? ⟨n, 0, none⟩ = some c0 ∧ W.cell? ⟨n, 1, none⟩ = some c1 ∧ W.cell? ⟨n, 2, none⟩ = some c2 ∧ W.cell? ⟨n, 3, none⟩ = some c3 ∧ W.cell? ⟨n, 4, none⟩ = some c4 ∧ W.cell? ⟨n, 5, none⟩ = some c5
theorem SixIs.keep {W W' : World} {n : Nat} {c0 c1 c2 c3 c4 c5 : Value} (h : SixIs W n c0 c1 c2 c3 c4 c5) (hb : Below W.heap.size W W') : SixIs W' n c0 c1 c2 c3 c4 c5 := by
 obtain ⟨h0, h1, h2, h3, h4, h5⟩ := h
 exact ⟨cell_keep hb h0, cell_keep hb h1, cell_keep hb h2, cell_keep hb h3, cell_keep hb h4, cell_keep hb h5⟩
theorem SixIs.new (w : World) (c0 c1 c2 c3 c4 c5 : Value) (t : TypeId) : SixIs (w.alloc (.cells #[c0, c1, c2, c3, c4, c5] t)) w.heap.size c0 c1 c2 c3 c4 c5 := by
 have e := heap_alloc_new w (.cells #[c0, c1, c2, c3, c4, c5] t)
 exact ⟨(cell_of_row _ _ 0 _ _ _ e).trans rfl, (cell_of_row _ _ 1 _ _ _ e).trans rfl, (cell_of_row _ _ 2 _ _ _ e).trans rfl, (cell_of_row _ _ 3 _ _ _ e).trans rfl, (cell_of_row _ _ 4 _ _ _ e).trans rfl, (cell_of_row _ _ 5 _ _ _ e).trans rfl⟩
end Go.Proofs.YtiajjgehnmkokaaGreatDoor
end
section
namespace Go.Proofs.YtiajjgehnmkokaaGreatDoor
open Go.RowKit
open Seal
open Bson (Val)
theorem VIn.byt {w : World} {Q : Nat → Prop} {h : Nat} {x : Val} {k n : Int} {s : ByteArray} {ba fa la : Option Addr} {bn bc fn fc ln lc : Nat} (hv : VIn w Q (h + 1) x (.agg #[.int .i64 k, .int .i64 n, .string s, .slice ba bn bc, .slice fa fn fc, .slice la ln lc])) : Oct x.b ∧ SliceIs w ba x.b := by
 obtain ⟨ba', fa', la', bc', fc', lc', e, hL, _, _, _, hB, _⟩ := hv
 unfold agg at e
 injection e with e; injection e with e; injection e with _ e; injection e with _ e; injection e with _ e; injection e with e3 _
 injection e3 with e3 _ _
 subst e3
 refine ⟨hL.o, ?_⟩
 rcases hB with h | ⟨g, o, e, _, h⟩
 ·exact .inl h
 ·exact .inr ⟨g, o, e, h⟩
end Go.Proofs.YtiajjgehnmkokaaGreatDoor
end
section
namespace Go.Proofs.YtiajjgehnmkokaaGreatDoor
open Go.RowKit
open Seal
open Bson (Val)
def Boxed2 (w : World) (ca cb : Array Value) (t : TypeId) (wr : World) : Prop := Below (w.heap.size + 2) ((w.alloc (.cells ca t)).alloc (.cells cb t)) wr
section
variable {w wr w' : World} {ca cb : Array Value} {t : TypeId}
theorem Boxed2.refl (w : World) (ca cb : Array Value) (t : TypeId) : Boxed2 w ca cb t ((w.alloc (.cells ca t)).alloc (.cells cb t)) := Below.refl _ _
theorem Boxed2.one (h : Boxed2 w ca cb t wr) (j : Nat) : wr.cell? ⟨w.heap.size, j, none⟩ = ca[j]? := by
 refine (Below.cell h (p := ⟨w.heap.size, j, none⟩) (by show w.heap.size < _; omega)).trans ?_
 refine (cell_of_row _ _ j ca t (0, 0) ?_)
 rw [Below.heap_alloc _ _ _ (by simp)]
 exact heap_alloc_new w _
theorem Boxed2.two (h : Boxed2 w ca cb t wr) (j : Nat) : wr.cell? ⟨w.heap.size + 1, j, none⟩ = cb[j]? := by
 refine (Below.cell h (p := ⟨w.heap.size + 1, j, none⟩) (by show w.heap.size + 1 < _; omega)).trans ?_
 refine (cell_of_row _ _ j cb t (0, 0) ?_)
 have := heap_alloc_new (w.alloc (.cells ca t)) (.cells cb t)
 simpa using this
theorem Boxed2.size (h : Boxed2 w ca cb t wr) : w.heap.size + 2 ≤ wr.heap.size := by have := Below.size h; simpa using this
theorem Boxed2.below (h : Boxed2 w ca cb t wr) : Below w.heap.size w wr := (((Below.refl _ w).alloc (Nat.le_refl _) _).alloc (by simp) _).trans (Below.mono h (by simp))
theorem Boxed2.step (h : Boxed2 w ca cb t wr) (hb : Below wr.heap.size wr w') : Boxed2 w ca cb t w' := Below.trans h (hb.mono h.size)
end
end Go.Proofs.YtiajjgehnmkokaaGreatDoor
end
section
namespace Go.Proofs.YtiajjgehnmkokaaGreatDoor
open Go.RowKit
open Seal
open Bson (Val)
def IsBox (W : World) (n : Nat) (c0 c1 c2 c3 c4 c5 : Value) : Prop := W.heap[n]? = some (.cells #[c0, c1, c2, c3, c4, c5] 26 (0, 0))
section
variable {W W' : World} {n : Nat} {c0 c1 c2 c3 c4 c5 : Value}
theorem IsBox.lt (h : IsBox W n c0 c1 c2 c3 c4 c5) : n < W.heap.size := (Array.getElem?_eq_some_iff.1 h).1
theorem IsBox.cells (h : IsBox W n c0 c1 c2 c3 c4 c5) : W.cell? ⟨n, 0, none⟩ = some c0 ∧ W.cell? ⟨n, 1, none⟩ = some c1 ∧ W.cell? ⟨n, 2, none⟩ = some c2 ∧ W.cell? ⟨n, 3, none⟩ = some c3 ∧ W.cell? ⟨n, 4, none⟩ = some c4 ∧ W.cell? ⟨n, 5, none⟩ = some c5 :=
 ⟨(cell_of_row W _ 0 _ _ _ h).trans rfl, (cell_of_row W _ 1 _ _ _ h).trans rfl, (cell_of_row W _ 2 _ _ _ h).trans rfl, (cell_of_row W _ 3 _ _ _ h).trans rfl, (cell_of_row W _ 4 _ _ _ h).trans rfl, (cell_of_row W _ 5 _ _ _ h).trans rfl⟩
theorem IsBox.thaw (h : IsBox W n c0 c1 c2 c3 c4 c5) : W.frozen? ⟨n, 0, none⟩ = false ∧ W.frozen? ⟨n, 1, none⟩ = false ∧ W.frozen? ⟨n, 2, none⟩ = false ∧ W.frozen? ⟨n, 3, none⟩ = false ∧ W.frozen? ⟨n, 4, none⟩ = false ∧ W.frozen? ⟨n, 5, none⟩ = false :=
 ⟨frozen_of_row W _ 0 _ _ h, frozen_of_row W _ 1 _ _ h, frozen_of_row W _ 2 _ _ h, frozen_of_row W _ 3 _ _ h, frozen_of_row W _ 4 _ _ h, frozen_of_row W _ 5 _ _ h⟩
theorem IsBox.keep (h : IsBox W n c0 c1 c2 c3 c4 c5) (hb : Below W.heap.size W W') : IsBox W' n c0 c1 c2 c3 c4 c5 := (hb.block _ h.lt).trans h
theorem IsBox.new (w : World) (c0 c1 c2 c3 c4 c5 : Value) : IsBox (w.alloc (.cells #[c0, c1, c2, c3, c4, c5] 26)) w.heap.size c0 c1 c2 c3 c4 c5 := heap_alloc_new w _
theorem IsBox.new2 (w : World) (o : Obj) (c0 c1 c2 c3 c4 c5 : Value) : IsBox ((w.alloc o).alloc (.cells #[c0, c1, c2, c3, c4, c5] 26)) (w.heap.size + 1) c0 c1 c2 c3 c4 c5 := by
 have := IsBox.new (w.alloc o) c0 c1 c2 c3 c4 c5
 simpa using this
theorem IsBox.other (h : IsBox W n c0 c1 c2 c3 c4 c5) {m : Nat} (hm : n ≠ m) (o : Nat) (vs : List Value) : IsBox (puts W m o vs) n c0 c1 c2 c3 c4 c5 := (puts_other m n hm vs W o).trans h
theorem IsBox.put (h : IsBox W n c0 c1 c2 c3 c4 c5) (d0 d1 d2 d3 d4 d5 : Value) : IsBox (puts W n 0 [d0, d1, d2, d3, d4, d5]) n d0 d1 d2 d3 d4 d5 := by
 obtain ⟨ds, h1, h2, _, _, h3⟩ := puts_same n 26 [d0, d1, d2, d3, d4, d5] W 0 _ h
 have e : ds = #[d0, d1, d2, d3, d4, d5] := by
  apply Array.ext_getElem?
  intro j
  by_cases hj : j < 6
  ·have := h3 (by simp) j (by simpa using hj)
   rw [Nat.zero_add] at this
   rw [this]
   match j, hj with | 0, _ => rfl | 1, _ => rfl | 2, _ => rfl | 3, _ => rfl | 4, _ => rfl | 5, _ => rfl
  ·rw [Array.getElem?_eq_none (by rw [h2]; simp; omega), Array.getElem?_eq_none (by simp; omega)]
 unfold IsBox
 rw [h1, e]
end
end Go.Proofs.YtiajjgehnmkokaaGreatDoor
end
section
namespace Go.Proofs.YtiajjgehnmkokaaGreatDoor
open Go.RowKit
open Seal
namespace Num
def sumR (a b : Int) : Int × Int := if In (a + b) then (a + b, 0) else (0, 10)
def difR (a b : Int) : Int × Int := if In (a - b) then (a - b, 0) else (0, 10)
def mulR (a b : Int) : Int × Int := if In (a * b) then (a * b, 0) else (0, 10)
def quoR (a b : Int) : Int × Int := if b = 0 then (0, 11) else if In (a.tdiv b) then (a.tdiv b, 0) else (0, 10)
def remR (a b : Int) : Int × Int := if b = 0 then (0, 11) else (a.tmod b, 0)
def absR (a : Int) : Int × Int := if a < 0 then difR 0 a else (a, 0)
def ofK (n : Int) : Int := if -2147483648 ≤ n ∧ n < 2147483648 then 3 else 4
end Num
open Num
def PairIs (r : Int × Int) (w : World) (e : Ending) (w' : World) : Prop := e = .returned (.tuple #[.int .i64 r.1, .int .i64 r.2]) ∧ w = w'
def BoolIs (b : Bool) (w : World) (e : Ending) (w' : World) : Prop := e = .returned (.bool b) ∧ w = w'
def BoolBe (b : Bool) (w : World) (e : Ending) (w' : World) : Prop := e = .returned (.bool b) ∧ Below w.heap.size w w'
theorem pair_is {r : Int × Int} {n m : Int} {w : World} (h : r = (n, m)) : PairIs r w (.returned (.tuple #[.int .i64 n, .int .i64 m])) w := by subst h; exact ⟨rfl, rfl⟩
theorem watched_yes (n : Int) (w : World) : Calls Tryz.prog 154 #[.int .i64 n, .bool true] w (PairIs (n, 0) w) := by
 go_enter Tryz.func154, Tryz.ntmps154
 go_wp2
 go_ret2
 exact ⟨rfl, rfl⟩
theorem watched_no (n : Int) (w : World) : Calls Tryz.prog 154 #[.int .i64 n, .bool false] w (PairIs (0, 10) w) := by
 go_enter Tryz.func154, Tryz.ntmps154
 go_wp2
 go_ret2
 exact ⟨rfl, rfl⟩
theorem sum_any (a b : Int) (w : World) (ha : In a) (hb : In b) : Calls Tryz.prog 142 #[.int .i64 a, .int .i64 b] w (PairIs (sumR a b) w) := by
 have hs := sum_sign ha hb
 by_cases h : In (a + b)
 ·have hR := Lib.hid (show sumR a b = (a + b, 0) from if_pos h)
  have hd : decide (bits .and .i64 (bits .xor .i64 a (wrap64 (a + b))) (bits .xor .i64 b (wrap64 (a + b))) ≥ 0) = true := decide_eq_true (hs.2 h)
  rw [IntWalk.wrap64_in _ h] at hd
  have hw : IntKind.i64.wrap (a + b) = a + b := IntWalk.i64_in _ h
  clear hs ha hb h
  go_enter Tryz.func142, Tryz.ntmps142
  go_wp2_with (go_at_call 154; refine (watched_yes _ _).mono ?_; rintro e w' ⟨rfl, rfl⟩)
  go_ret2
  exact pair_is hR.out
 ·have hR := Lib.hid (show sumR a b = (0, 10) from if_neg h)
  have hd : decide (bits .and .i64 (bits .xor .i64 a (wrap64 (a + b))) (bits .xor .i64 b (wrap64 (a + b))) ≥ 0) = false := decide_eq_false (fun x => h (hs.1 x))
  clear hs ha hb h
  go_enter Tryz.func142, Tryz.ntmps142
  go_wp2_with (go_at_call 154; refine (watched_no _ _).mono ?_; rintro e w' ⟨rfl, rfl⟩)
  go_ret2
  exact pair_is hR.out
theorem dif_any (a b : Int) (w : World) (ha : In a) (hb : In b) : Calls Tryz.prog 144 #[.int .i64 a, .int .i64 b] w (PairIs (difR a b) w) := by
 have hs := dif_sign ha hb
 by_cases h : In (a - b)
 ·have hR := Lib.hid (show difR a b = (a - b, 0) from if_pos h)
  have hd : decide (bits .and .i64 (bits .xor .i64 a b) (bits .xor .i64 a (wrap64 (a - b))) ≥ 0) = true := decide_eq_true (hs.2 h)
  rw [IntWalk.wrap64_in _ h] at hd
  have hw : IntKind.i64.wrap (a - b) = a - b := IntWalk.i64_in _ h
  clear hs ha hb h
  go_enter Tryz.func144, Tryz.ntmps144
  go_wp2_with (go_at_call 154; refine (watched_yes _ _).mono ?_; rintro e w' ⟨rfl, rfl⟩)
  go_ret2
  exact pair_is hR.out
 ·have hR := Lib.hid (show difR a b = (0, 10) from if_neg h)
  have hd : decide (bits .and .i64 (bits .xor .i64 a b) (bits .xor .i64 a (wrap64 (a - b))) ≥ 0) = false := decide_eq_false (fun x => h (hs.1 x))
  clear hs ha hb h
  go_enter Tryz.func144, Tryz.ntmps144
  go_wp2_with (go_at_call 154; refine (watched_no _ _).mono ?_; rintro e w' ⟨rfl, rfl⟩)
  go_ret2
  exact pair_is hR.out
theorem turns_yes (w : World) : Calls Tryz.prog 155 #[.int .i64 (-9223372036854775808), .int .i64 (-1)] w (BoolIs true w) := by
 go_enter Tryz.func155, Tryz.ntmps155
 go_wp2
 go_ret
 exact ⟨rfl, rfl⟩
theorem turns_no (a b : Int) (w : World) (h : ¬ (a = -9223372036854775808 ∧ b = -1)) : Calls Tryz.prog 155 #[.int .i64 a, .int .i64 b] w (BoolIs false w) := by
 by_cases ha : a = -9223372036854775808
 ·subst ha
  have hb : ((b : Int) == -1) = false := by rw [beq_eq_false_iff_ne]; exact fun e => h ⟨rfl, e⟩
  clear h
  go_enter Tryz.func155, Tryz.ntmps155
  go_wp2
  go_ret
  exact ⟨rfl, rfl⟩
 ·have hb : ((a : Int) == -9223372036854775808) = false := by rw [beq_eq_false_iff_ne]; exact ha
  clear h ha
  go_enter Tryz.func155, Tryz.ntmps155
  go_wp2
  go_ret
  exact ⟨rfl, rfl⟩
theorem mul_nought (b : Int) (w : World) : Calls Tryz.prog 143 #[.int .i64 0, .int .i64 b] w (PairIs (mulR 0 b) w) := by
 have hR := Lib.hid (show mulR 0 b = (0 * b, 0) from if_pos (by rw [Int.zero_mul]; decide))
 go_enter Tryz.func143, Tryz.ntmps143
 go_wp2_with (go_at_call 154; refine (watched_yes _ _).mono ?_; rintro e w' ⟨rfl, rfl⟩)
 go_ret2
 exact pair_is (by rw [hR.out]; simp)
theorem mul_fits (a b : Int) (w : World) (ha : In a) (hb : In b) (h0 : a ≠ 0) (h : In (a * b)) : Calls Tryz.prog 143 #[.int .i64 a, .int .i64 b] w (PairIs (mulR a b) w) := by
 have hs := mul_asked ha hb h0
 have e0 : ((a : Int) == 0) = false := by rw [beq_eq_false_iff_ne]; exact h0
 have hR := Lib.hid (show mulR a b = (wrap64 (a * b), 0) by rw [IntWalk.wrap64_in _ h]; exact if_pos h)
 obtain ⟨h1, h2⟩ := hs.2 h
 have hT := Lib.hid (turns_no b a w h2)
 have hq : ((wrap64 ((wrap64 (a * b)).tdiv a) : Int) == b) = true := by rw [h1]; exact beq_self_eq_true b
 clear hs ha hb h h1 h2
 go_enter Tryz.func143, Tryz.ntmps143
 go_wp2_with fail
 go_at_call 155
 refine hT.out.mono ?_
 rintro e w' ⟨rfl, rfl⟩
 go_wp2_with fail
 go_at_call 154
 refine (watched_yes _ _).mono ?_
 rintro e w' ⟨rfl, rfl⟩
 go_wp2_with fail
 go_ret2
 exact pair_is hR.out
theorem mul_least (a b : Int) (w : World) (hb : b = -9223372036854775808) (ha : a = -1) : Calls Tryz.prog 143 #[.int .i64 a, .int .i64 b] w (PairIs (mulR a b) w) := by
 have hR := Lib.hid (show mulR a b = (0, 10) by subst ha hb; decide)
 have h0 : a ≠ 0 := by omega
 have e0 : ((a : Int) == 0) = false := by rw [beq_eq_false_iff_ne]; exact h0
 have hq : ((wrap64 ((wrap64 (a * b)).tdiv a) : Int) == b) = true := by subst ha hb; rw [beq_iff_eq]; simp [wrap64]
 have hT := Lib.hid (show Calls Tryz.prog 155 #[.int .i64 b, .int .i64 a] w (BoolIs true w) by subst ha hb; exact turns_yes w)
 clear ha hb
 go_enter Tryz.func143, Tryz.ntmps143
 go_wp2_with fail
 go_at_call 155
 refine hT.out.mono ?_
 rintro e w' ⟨rfl, rfl⟩
 go_wp2_with fail
 go_at_call 154
 refine (watched_no _ _).mono ?_
 rintro e w' ⟨rfl, rfl⟩
 go_wp2_with fail
 go_ret2
 exact pair_is hR.out
theorem mul_not (a b : Int) (w : World) (h0 : a ≠ 0) (h : ¬ In (a * b)) (h1 : wrap64 ((wrap64 (a * b)).tdiv a) ≠ b) : Calls Tryz.prog 143 #[.int .i64 a, .int .i64 b] w (PairIs (mulR a b) w) := by
 have e0 : ((a : Int) == 0) = false := by rw [beq_eq_false_iff_ne]; exact h0
 have hR := Lib.hid (show mulR a b = (0, 10) from if_neg h)
 have hq : ((wrap64 ((wrap64 (a * b)).tdiv a) : Int) == b) = false := by rw [beq_eq_false_iff_ne]; exact h1
 clear h h1
 go_enter Tryz.func143, Tryz.ntmps143
 go_wp2_with fail
 go_at_call 154
 refine (watched_no _ _).mono ?_
 rintro e w' ⟨rfl, rfl⟩
 go_wp2_with fail
 go_ret2
 exact pair_is hR.out
theorem mul_any (a b : Int) (w : World) (ha : In a) (hb : In b) : Calls Tryz.prog 143 #[.int .i64 a, .int .i64 b] w (PairIs (mulR a b) w) := by
 by_cases h0 : a = 0
 ·subst h0; exact mul_nought b w
 by_cases h : In (a * b)
 ·exact mul_fits a b w ha hb h0 h
 by_cases h1 : wrap64 ((wrap64 (a * b)).tdiv a) = b
 ·by_cases h2 : b = -9223372036854775808 ∧ a = -1
  ·exact mul_least a b w h2.1 h2.2
  ·exact absurd ((mul_asked ha hb h0).1 ⟨h1, h2⟩) h
 ·exact mul_not a b w h0 h h1
theorem quo_nought (a : Int) (w : World) : Calls Tryz.prog 145 #[.int .i64 a, .int .i64 0] w (PairIs (quoR a 0) w) := by
 have hR := Lib.hid (show quoR a 0 = (0, 11) from if_pos rfl)
 go_enter Tryz.func145, Tryz.ntmps145
 go_wp2
 go_ret2
 exact pair_is hR.out
theorem watched_q (n : Int) (w : World) : Calls Tryz.prog 154 #[.int .i64 n, .bool true] w fun e w' => e = .returned (.tuple #[.int .i64 n, .int .i64 0]) ∧ w' = w := (watched_yes n w).mono fun _ _ ⟨h1, h2⟩ => ⟨h1, h2.symm⟩
theorem watched_qn (n : Int) (w : World) : Calls Tryz.prog 154 #[.int .i64 n, .bool false] w fun e w' => e = .returned (.tuple #[.int .i64 0, .int .i64 10]) ∧ w' = w := (watched_no n w).mono fun _ _ ⟨h1, h2⟩ => ⟨h1, h2.symm⟩
def PairDr (r : Int × Int) (w : World) (e : Ending) (w' : World) : Prop := e = .returned (.tuple #[.int .i64 r.1, .int .i64 r.2]) ∧ ∃ n, w' = w.drewN n
theorem pair_dr {r : Int × Int} {n m : Int} {w : World} {q : Nat} (h : r = (n, m)) : PairDr r w (.returned (.tuple #[.int .i64 n, .int .i64 m])) (w.drewN q) := by subst h; exact ⟨rfl, _, rfl⟩
theorem PairIs.dr {r : Int × Int} {w w' : World} {e : Ending} (h : PairIs r w e w') : PairDr r w e w' := ⟨h.1, 0, h.2.symm⟩
theorem quo_fits (a b : Int) (w : World) (h0 : b ≠ 0) (h : In (a.tdiv b)) : Calls Tryz.prog 145 #[.int .i64 a, .int .i64 b] w (PairDr (quoR a b) w) := by
 have e0 : ((b : Int) == 0) = false := by rw [beq_eq_false_iff_ne]; exact h0
 have hR := Lib.hid (show quoR a b = (wrap64 (a.tdiv b), 0) by rw [quoR, if_neg h0, if_pos h, IntWalk.wrap64_in _ h])
 have hT := Lib.hid (fun n => (turns_no a b (w.drewN n) (fun x => tdiv_not x h)).mono fun _ _ h => And.intro h.1 h.2.symm)
 clear h
 go_enter Tryz.func145, Tryz.ntmps145
 go_wp2_with fail
 go_quiet ((first | (go_at_call 154; exact Calls.quiet_of_same (watched_q _ _)) | (go_at_call 155; exact Calls.quiet_of_same (hT.out _))))
 go_wp2_with fail
 go_ret2
 exact pair_dr hR.out
theorem quo_least (a b : Int) (w : World) (ha : a = -9223372036854775808) (hb : b = -1) : Calls Tryz.prog 145 #[.int .i64 a, .int .i64 b] w (PairDr (quoR a b) w) := by
 have h0 : b ≠ 0 := by omega
 have e0 : ((b : Int) == 0) = false := by rw [beq_eq_false_iff_ne]; exact h0
 have hR := Lib.hid (show quoR a b = (0, 10) by subst ha hb; decide)
 have hT := Lib.hid (fun n => show Calls Tryz.prog 155 #[.int .i64 a, .int .i64 b] (w.drewN n) (fun e w' => e = .returned (.bool true) ∧ w' = w.drewN n) by subst ha hb; exact (turns_yes _).mono fun _ _ h => And.intro h.1 h.2.symm)
 clear ha hb
 go_enter Tryz.func145, Tryz.ntmps145
 go_wp2_with fail
 go_quiet ((first | (go_at_call 154; exact Calls.quiet_of_same (watched_qn _ _)) | (go_at_call 155; exact Calls.quiet_of_same (hT.out _))))
 go_wp2_with fail
 go_ret2
 exact pair_dr hR.out
theorem quo_any (a b : Int) (w : World) (ha : In a) : Calls Tryz.prog 145 #[.int .i64 a, .int .i64 b] w (PairDr (quoR a b) w) := by
 by_cases h0 : b = 0
 ·subst h0; exact (quo_nought a w).mono fun _ _ h => h.dr
 by_cases h : a = -9223372036854775808 ∧ b = -1
 ·exact quo_least a b w h.1 h.2
 ·exact quo_fits a b w h0 (tdiv_in ha h)
theorem rem_any (a b : Int) (w : World) : Calls Tryz.prog 146 #[.int .i64 a, .int .i64 b] w (PairIs (remR a b) w) := by
 by_cases h0 : b = 0
 ·subst h0
  have hR := Lib.hid (show remR a 0 = (0, 11) from if_pos rfl)
  go_enter Tryz.func146, Tryz.ntmps146
  go_wp2_with fail
  go_ret2
  exact pair_is hR.out
 ·have hR := Lib.hid (show remR a b = (a.tmod b, 0) from if_neg h0)
  go_enter Tryz.func146, Tryz.ntmps146
  go_wp2_with fail
  go_ret2
  exact pair_is hR.out
theorem abs_any (a b : Int) (w : World) (ha : In a) : Calls Tryz.prog 147 #[.int .i64 a, .int .i64 b] w (PairIs (absR a) w) := by
 by_cases h : a < 0
 ·have hR := Lib.hid (show absR a = ((difR 0 a).1, (difR 0 a).2) from if_pos h)
  have hT := Lib.hid (dif_any 0 a w (by decide) ha)
  clear ha
  go_enter Tryz.func147, Tryz.ntmps147
  go_wp2_with (go_at_call 144; refine hT.out.mono ?_; rintro e w' ⟨rfl, rfl⟩)
  go_ret2
  exact pair_is hR.out
 ·have hR := Lib.hid (show absR a = (a, 0) from if_neg h)
  go_enter Tryz.func147, Tryz.ntmps147
  go_wp2_with fail
  go_ret2
  exact pair_is hR.out
def ValBe (k n : Int) (w : World) (e : Ending) (w' : World) : Prop := e = .returned (.agg #[.int .i64 k, .int .i64 n, .string ⟨#[]⟩, .slice none 0 0, .slice none 0 0, .slice none 0 0]) ∧ Below w.heap.size w w'
def noneB (k : Int) : Bool := k == 2 || k == 0
def numB (k : Int) : Bool := k == 3 || k == 4
theorem of_any (n : Int) (w : World) : Calls Tryz.prog 112 #[.int .i64 n] w (ValBe (ofK n) n w) := by
 by_cases h : -2147483648 ≤ n ∧ n < 2147483648
 ·have hK := Lib.hid (show ofK n = 3 from if_pos h)
  rw [hK.out]
  clear hK
  have hq : ((n : Int) == wrap32 n) = true := by rw [IntWalk.wrap32_in n ⟨h.1, by omega⟩]; exact beq_self_eq_true n
  obtain ⟨h1, h2⟩ := h
  go_enter Tryz.func112, Tryz.ntmps112
  go_wp2_with fail
  exact bodyPost_ret (v := .agg #[.int .i64 3, .int .i64 n, .string ⟨#[]⟩, .slice none 0 0, .slice none 0 0, .slice none 0 0]) (by simp [results, Tryz.results112, go_sem]) rfl ⟨rfl, ((Below.refl _ _).alloc (Nat.le_refl _) _)⟩
 ·have hK := Lib.hid (show ofK n = 4 from if_neg h)
  rw [hK.out]
  clear hK
  have hn : ¬ n = wrap64 (wrap32 n) := by unfold wrap64 wrap32; omega
  have hq : ((n : Int) == wrap64 (wrap32 n)) = false := by rw [beq_eq_false_iff_ne]; exact hn
  clear h
  go_enter Tryz.func112, Tryz.ntmps112
  go_wp2_with fail
  exact bodyPost_ret (v := .agg #[.int .i64 4, .int .i64 n, .string ⟨#[]⟩, .slice none 0 0, .slice none 0 0, .slice none 0 0]) (by simp [results, Tryz.results112, go_sem]) rfl ⟨rfl, ((Below.refl _ _).alloc (Nat.le_refl _) _)⟩
theorem nothing_any (k : Int) (c1 c2 c3 c4 c5 : Value) (w : World) : Calls Tryz.prog 152 #[.agg #[.int .i64 k, c1, c2, c3, c4, c5]] w (BoolBe (noneB k) w) := by
 by_cases h : k = 2
 ·subst h
  go_enter Tryz.func152, Tryz.ntmps152
  go_wp2_with fail
  go_ret
  exact ⟨rfl, (Below.refl _ _).alloc (Nat.le_refl _) _⟩
 by_cases h2 : k = 0
 ·subst h2
  go_enter Tryz.func152, Tryz.ntmps152
  go_wp2_with fail
  go_ret
  exact ⟨rfl, (Below.refl _ _).alloc (Nat.le_refl _) _⟩
 have hB := Lib.hid (show noneB k = false by simp [noneB, h, h2])
 have e1 : ((k : Int) == 2) = false := by rw [beq_eq_false_iff_ne]; exact h
 have e2 : ((k : Int) == 0) = false := by rw [beq_eq_false_iff_ne]; exact h2
 rw [hB.out]
 go_enter Tryz.func152, Tryz.ntmps152
 go_wp2_with fail
 go_ret
 exact ⟨rfl, (Below.refl _ _).alloc (Nat.le_refl _) _⟩
theorem number_any (k : Int) (c1 c2 c3 c4 c5 : Value) (w : World) : Calls Tryz.prog 153 #[.agg #[.int .i64 k, c1, c2, c3, c4, c5]] w (BoolBe (numB k) w) := by
 by_cases h : k = 3
 ·subst h
  go_enter Tryz.func153, Tryz.ntmps153
  go_wp2_with fail
  go_ret
  exact ⟨rfl, (Below.refl _ _).alloc (Nat.le_refl _) _⟩
 by_cases h2 : k = 4
 ·subst h2
  go_enter Tryz.func153, Tryz.ntmps153
  go_wp2_with fail
  go_ret
  exact ⟨rfl, (Below.refl _ _).alloc (Nat.le_refl _) _⟩
 have hB := Lib.hid (show numB k = false by simp [numB, h, h2])
 have e1 : ((k : Int) == 3) = false := by rw [beq_eq_false_iff_ne]; exact h
 have e2 : ((k : Int) == 4) = false := by rw [beq_eq_false_iff_ne]; exact h2
 rw [hB.out]
 go_enter Tryz.func153, Tryz.ntmps153
 go_wp2_with fail
 go_ret
 exact ⟨rfl, (Below.refl _ _).alloc (Nat.le_refl _) _⟩
end Go.Proofs.YtiajjgehnmkokaaGreatDoor
end
section
namespace Go.Proofs.YtiajjgehnmkokaaGreatDoor
open Go.RowKit
open Seal
theorem refClass_any (k : Int) (w : World) (hk : -9223372036854775808 ≤ k ∧ k ≤ 9223372036854775807) : Calls Tryz.prog 35 #[.int .i64 k] w (IntPost (Order.cls k) w) := by
 obtain ⟨hk0, hk1⟩ := hk
 by_cases h0 : k < 0
 ·have HC := Lib.hid (show Order.cls k = -1 from if_pos (.inl h0))
  go_enter Tryz.func35, Tryz.ntmps35
  go_wp2
  go_ret
  exact ⟨ret_i HC.out.symm, rfl⟩
 by_cases h1 : 12 < k
 ·have HC := Lib.hid (show Order.cls k = -1 from if_pos (.inr h1))
  have hd0 : decide (k < 0) = false := by simpa using h0
  have hd1 : decide (k > 12) = true := by simpa using h1
  clear h0 h1
  go_enter Tryz.func35, Tryz.ntmps35
  go_wp2
  go_ret
  exact ⟨ret_i HC.out.symm, rfl⟩
 by_cases h2 : k ≤ 3
 ·have HC := Lib.hid (show Order.cls k = k by rw [Order.cls, if_neg (by omega), if_pos h2])
  go_enter Tryz.func35, Tryz.ntmps35
  go_wp2
  go_ret
  exact ⟨ret_i HC.out.symm, rfl⟩
 ·have HC := Lib.hid (show Order.cls k = k - 1 by rw [Order.cls, if_neg (by omega), if_neg h2])
  go_enter Tryz.func35, Tryz.ntmps35
  go_wp2
  go_ret
  exact ⟨ret_i HC.out.symm, rfl⟩
theorem nan_int (k : Int) (w : World) : Calls Tryz.prog 167 #[.int .i64 k] w fun e w' => e = .returned (.bool false) ∧ w = w' := by
 go_enter Tryz.func167, Tryz.ntmps167
 go_wp2
 go_ret
 exact ⟨rfl, rfl⟩
theorem nan_i64 (k : Int) (w : World) : Calls Tryz.prog 168 #[.int .i64 k] w fun e w' => e = .returned (.bool false) ∧ w = w' := by
 go_enter Tryz.func168, Tryz.ntmps168
 go_wp2
 go_ret
 exact ⟨rfl, rfl⟩
theorem cmpInt_any (a b : Int) (w : World) : Calls Tryz.prog 156 #[.int .i64 a, .int .i64 b] w (IntPost (Order.sgn a b) w) := by
 rcases Int.lt_trichotomy a b with h | h | h
 ·have HC := Lib.hid (Order.sgn_lt h)
  go_enter Tryz.func156, Tryz.ntmps156
  go_wp2_with (go_at_call 167; refine (nan_int _ _).mono ?_; rintro e w' ⟨rfl, rfl⟩)
  go_ret
  exact ⟨ret_i HC.out.symm, rfl⟩
 ·subst h
  have HC := Lib.hid (Order.sgn_self a)
  go_enter Tryz.func156, Tryz.ntmps156
  go_wp2_with (go_at_call 167; refine (nan_int _ _).mono ?_; rintro e w' ⟨rfl, rfl⟩)
  go_ret
  exact ⟨ret_i HC.out.symm, rfl⟩
 ·have HC := Lib.hid (Order.sgn_gt h)
  have h' : ¬ a < b := by omega
  go_enter Tryz.func156, Tryz.ntmps156
  go_wp2_with (go_at_call 167; refine (nan_int _ _).mono ?_; rintro e w' ⟨rfl, rfl⟩)
  go_ret
  exact ⟨ret_i HC.out.symm, rfl⟩
theorem cmpI64_any (a b : Int) (w : World) : Calls Tryz.prog 157 #[.int .i64 a, .int .i64 b] w (IntPost (Order.sgn a b) w) := by
 rcases Int.lt_trichotomy a b with h | h | h
 ·have HC := Lib.hid (Order.sgn_lt h)
  go_enter Tryz.func157, Tryz.ntmps157
  go_wp2_with (go_at_call 168; refine (nan_i64 _ _).mono ?_; rintro e w' ⟨rfl, rfl⟩)
  go_ret
  exact ⟨ret_i HC.out.symm, rfl⟩
 ·subst h
  have HC := Lib.hid (Order.sgn_self a)
  go_enter Tryz.func157, Tryz.ntmps157
  go_wp2_with (go_at_call 168; refine (nan_i64 _ _).mono ?_; rintro e w' ⟨rfl, rfl⟩)
  go_ret
  exact ⟨ret_i HC.out.symm, rfl⟩
 ·have HC := Lib.hid (Order.sgn_gt h)
  have h' : ¬ a < b := by omega
  go_enter Tryz.func157, Tryz.ntmps157
  go_wp2_with (go_at_call 168; refine (nan_i64 _ _).mono ?_; rintro e w' ⟨rfl, rfl⟩)
  go_ret
  exact ⟨ret_i HC.out.symm, rfl⟩
theorem sign_any (a b : Int) (w : World) : Calls Tryz.prog 34 #[.int .i64 a, .int .i64 b] w (IntPost (Order.sgn a b) w) := by
 rcases Int.lt_trichotomy a b with h | h | h
 ·have HC := Lib.hid (Order.sgn_lt h)
  go_enter Tryz.func34, Tryz.ntmps34
  go_wp2
  go_ret
  exact ⟨ret_i HC.out.symm, rfl⟩
 ·subst h
  have HC := Lib.hid (Order.sgn_self a)
  go_enter Tryz.func34, Tryz.ntmps34
  go_wp2
  go_ret
  exact ⟨ret_i HC.out.symm, rfl⟩
 ·have HC := Lib.hid (Order.sgn_gt h)
  have h' : ¬ a < b := by omega
  go_enter Tryz.func34, Tryz.ntmps34
  go_wp2
  go_ret
  exact ⟨ret_i HC.out.symm, rfl⟩
theorem strCmp_any (a b : ByteArray) (w : World) : Calls Tryz.prog 158 #[.string a, .string b] w (IntPost (Order.text a b) w) := by
 refine (Tryz.strings_Compare a b w).mono ?_
 rintro e w' ⟨rfl, rfl⟩
 exact ⟨by rw [Order.compareBytes_text], rfl⟩
theorem run_bytesOf (w : World) (a : Option Addr) (l : List Nat) (n c : Nat) (hl : l.length = n) (h : SliceIs w a l) : (Extern.Bytes.bytesOf (.slice a n c)).run Tryz.prog w = .ok (strB l) w := by
 rcases h with rfl | ⟨g, o, rfl, hr⟩
 ·subst hl
  cases a with
  | none => rfl
  | some p => rfl
 ·have hx : (l.map fun x : Nat => (x : Int)).length = n := by simp [hl]
  have hq := Lib.run_loadBytesX (P := Tryz.prog) w (l.map fun x : Nat => (x : Int)) ⟨g, o, none⟩ .empty (fun j x hj => by
   have hjl : j < l.length := by have := (List.getElem?_eq_some_iff.1 hj).1; simpa using this
   have e : (⟨g, o, none⟩ : Addr).add j = ⟨g, o + j, none⟩ := by unfold Addr.add; split <;> simp_all
   rw [e, hr j hjl]
   have hj' : (l.map fun x : Nat => (x : Int))[j]? = some ((l.getD j 0 : Nat) : Int) := by simp [List.getD_eq_getElem?_getD, List.getElem?_eq_getElem hjl]
   rw [hj'] at hj
   rw [Option.some.inj hj])
  rw [hx] at hq
  show (Extern.Bytes.loadBytes ⟨g, o, none⟩ n .empty).run Tryz.prog w = _
  rw [hq]
  congr 1
  apply ByteArray.ext
  show (#[] : Array UInt8) ++ (Lib.bytesOf _).toArray = _
  unfold Lib.bytesOf strB
  rw [List.map_map]
  simp
theorem map_nat {l : List Nat} (h : Oct l) : (l.map UInt8.ofNat).map UInt8.toNat = l := by
 rw [List.map_map]
 conv => rhs; rw [← List.map_id l]
 apply List.map_congr_left
 intro x hx
 have := h x hx
 simp [Nat.mod_eq_of_lt this]
theorem bytes_strB {l : List Nat} (h : Oct l) : Order.bytes (strB l) = l := by
 unfold Order.bytes strB
 simpa using map_nat h
theorem run_octs (w : World) (a b : Option Addr) (l m : List Nat) (n c n2 c2 : Nat) (hl : l.length = n) (hm : m.length = n2) (h : SliceIs w a l) (h2 : SliceIs w b m) (ho : Oct l) (ho2 : Oct m) :
  (Extern.BytealgCompare.compare #[.slice a n c, .slice b n2 c2]).run Tryz.prog w = .ok (.int .i64 (Order.octs l m)) w := by
 change Sem.run Tryz.prog (do pure (goInt (Extern.BytealgCompare.cmp (← Extern.Bytes.bytesOf (.slice a n c)) (← Extern.Bytes.bytesOf (.slice b n2 c2))))) w = _
 simp only [Sem.run_bind, Sem.run_pure, Result.andThen, run_bytesOf w a l n c hl h, run_bytesOf w b m n2 c2 hm h2]
 rw [Lib.cmp_eq, Order.compareBytes_text, Order.text, bytes_strB ho, bytes_strB ho2]
 rfl
theorem bytesCmp_any (w : World) (a b : Option Addr) (l m : List Nat) (n c n2 c2 : Nat) (hl : l.length = n) (hm : m.length = n2) (h : SliceIs w a l) (h2 : SliceIs w b m) (ho : Oct l) (ho2 : Oct m) :
  Calls Tryz.prog 163 #[.slice a n c, .slice b n2 c2] w (IntPost (Order.octs l m) w) := by
 have hcall := run_callFunc_extern Tryz.func170 (by kernel_rfl) (by kernel_rfl) (by kernel_rfl) (e := Extern.BytealgCompare.compare) (by kernel_rfl) #[.slice a n c, .slice b n2 c2] w
 rw [run_octs w a b l m n c n2 c2 hl hm h h2 ho ho2] at hcall
 have HC := Lib.hid hcall
 clear hcall h h2 ho ho2 hl hm
 go_enter Tryz.func163, Tryz.ntmps163
 go_wp2
 rw [HC.out]
 simp only [Result.andThen]
 rw [Oper.upon_value]
 go_wp2
 go_ret
 exact ⟨rfl, rfl⟩
end Go.Proofs.YtiajjgehnmkokaaGreatDoor
end
section
namespace Go.Proofs.YtiajjgehnmkokaaGreatDoor
open Go.RowKit
open Seal
open Bson (Val)
def CopyPost (w : World) (h : Nat) (x : Val) (e : Ending) (w' : World) : Prop := ∃ v', e = .returned v' ∧ VIn w' (fun g => w.heap.size ≤ g) h x v' ∧ Below w.heap.size w w'
def CopyAt (Q : Nat → Prop) (h : Nat) : Prop := ∀ (x : Val) (v : Value) (w : World), VIn w Q h x v → Calls Tryz.prog 25 #[v] w (CopyPost w h x)
def BoxF (nm : ByteArray) (c0 c1 c2 c3 c4 c5 : Value) (w W : World) : Prop := W.heap[w.heap.size]? = some (.cells #[Value.string nm, c0, c1, c2, c3, c4, c5] 40 (0, 0)) ∧ W.heap[w.heap.size + 1]? = some (.cells #[Value.string ⟨#[]⟩, .int .i64 0, .int .i64 0, .string ⟨#[]⟩, .slice none 0 0, .slice none 0 0, .slice none 0 0] 40 (0, 0))
theorem BoxF.facts {nm : ByteArray} {c0 c1 c2 c3 c4 c5 : Value} {w W : World} (h : BoxF nm c0 c1 c2 c3 c4 c5 w W) : W.cell? ⟨w.heap.size, 0, none⟩ = some (.string nm) ∧ W.cell? ⟨w.heap.size, 1, none⟩ = some c0 ∧ W.cell? ⟨w.heap.size, 2, none⟩ = some c1 ∧ W.cell? ⟨w.heap.size, 3, none⟩ = some c2 ∧ W.cell? ⟨w.heap.size, 4, none⟩ = some c3 ∧ W.cell? ⟨w.heap.size, 5, none⟩ = some c4 ∧ W.cell? ⟨w.heap.size, 6, none⟩ = some c5 :=
 ⟨(cell_of_row W _ 0 _ _ _ h.1).trans rfl, (cell_of_row W _ 1 _ _ _ h.1).trans rfl, (cell_of_row W _ 2 _ _ _ h.1).trans rfl, (cell_of_row W _ 3 _ _ _ h.1).trans rfl, (cell_of_row W _ 4 _ _ _ h.1).trans rfl, (cell_of_row W _ 5 _ _ _ h.1).trans rfl, (cell_of_row W _ 6 _ _ _ h.1).trans rfl⟩
theorem BoxF.zeros {nm : ByteArray} {c0 c1 c2 c3 c4 c5 : Value} {w W : World} (h : BoxF nm c0 c1 c2 c3 c4 c5 w W) : W.cell? ⟨w.heap.size + 1, 0, none⟩ = some (.string { data := #[] }) ∧ W.cell? ⟨w.heap.size + 1, 1, none⟩ = some (.int .i64 0) ∧ W.cell? ⟨w.heap.size + 1, 2, none⟩ = some (.int .i64 0) ∧ W.cell? ⟨w.heap.size + 1, 3, none⟩ = some (.string { data := #[] }) ∧ W.cell? ⟨w.heap.size + 1, 4, none⟩ = some (.slice none 0 0) ∧ W.cell? ⟨w.heap.size + 1, 5, none⟩ = some (.slice none 0 0) ∧ W.cell? ⟨w.heap.size + 1, 6, none⟩ = some (.slice none 0 0) ∧ W.frozen? ⟨w.heap.size + 1, 0, none⟩ = false ∧ W.frozen? ⟨w.heap.size + 1, 1, none⟩ = false ∧ W.frozen? ⟨w.heap.size + 1, 2, none⟩ = false ∧ W.frozen? ⟨w.heap.size + 1, 3, none⟩ = false ∧ W.frozen? ⟨w.heap.size + 1, 4, none⟩ = false ∧ W.frozen? ⟨w.heap.size + 1, 5, none⟩ = false ∧ W.frozen? ⟨w.heap.size + 1, 6, none⟩ = false :=
 ⟨(cell_of_row W _ 0 _ _ _ h.2).trans rfl, (cell_of_row W _ 1 _ _ _ h.2).trans rfl, (cell_of_row W _ 2 _ _ _ h.2).trans rfl, (cell_of_row W _ 3 _ _ _ h.2).trans rfl, (cell_of_row W _ 4 _ _ _ h.2).trans rfl, (cell_of_row W _ 5 _ _ _ h.2).trans rfl, (cell_of_row W _ 6 _ _ _ h.2).trans rfl, frozen_of_row W _ 0 _ _ h.2, frozen_of_row W _ 1 _ _ h.2, frozen_of_row W _ 2 _ _ h.2, frozen_of_row W _ 3 _ _ h.2, frozen_of_row W _ 4 _ _ h.2, frozen_of_row W _ 5 _ _ h.2, frozen_of_row W _ 6 _ _ h.2⟩
theorem BoxF.after {nm : ByteArray} {c0 c1 c2 c3 c4 c5 : Value} {w W : World} (h : BoxF nm c0 c1 c2 c3 c4 c5 w W) (vs : List Value) : (W.setCells (w.heap.size + 1) 0 vs).cell? ⟨w.heap.size, 0, none⟩ = some (.string nm) ∧ (W.setCells (w.heap.size + 1) 0 vs).cell? ⟨w.heap.size, 1, none⟩ = some c0 ∧ (W.setCells (w.heap.size + 1) 0 vs).cell? ⟨w.heap.size, 2, none⟩ = some c1 ∧ (W.setCells (w.heap.size + 1) 0 vs).cell? ⟨w.heap.size, 3, none⟩ = some c2 ∧ (W.setCells (w.heap.size + 1) 0 vs).cell? ⟨w.heap.size, 4, none⟩ = some c3 ∧ (W.setCells (w.heap.size + 1) 0 vs).cell? ⟨w.heap.size, 5, none⟩ = some c4 ∧ (W.setCells (w.heap.size + 1) 0 vs).cell? ⟨w.heap.size, 6, none⟩ = some c5 := by
 have e : (W.setCells (w.heap.size + 1) 0 vs).heap[w.heap.size]? = _ := (puts_other (w.heap.size + 1) w.heap.size (by omega) vs W 0).trans h.1
 exact ⟨(cell_of_row _ _ 0 _ _ _ e).trans rfl, (cell_of_row _ _ 1 _ _ _ e).trans rfl, (cell_of_row _ _ 2 _ _ _ e).trans rfl, (cell_of_row _ _ 3 _ _ _ e).trans rfl, (cell_of_row _ _ 4 _ _ _ e).trans rfl, (cell_of_row _ _ 5 _ _ _ e).trans rfl, (cell_of_row _ _ 6 _ _ _ e).trans rfl⟩
theorem BoxF.row {nm : ByteArray} {c0 c1 c2 c3 c4 c5 : Value} {w W : World} (h : BoxF nm c0 c1 c2 c3 c4 c5 w W) : Row6 W (w.heap.size + 1) 40 7 := ⟨_, h.2, rfl⟩
theorem BoxF.new (nm : ByteArray) (c0 c1 c2 c3 c4 c5 : Value) (w : World) : BoxF nm c0 c1 c2 c3 c4 c5 w ((w.alloc (.cells #[Value.string nm, c0, c1, c2, c3, c4, c5] 40)).alloc (.cells #[Value.string ⟨#[]⟩, .int .i64 0, .int .i64 0, .string ⟨#[]⟩, .slice none 0 0, .slice none 0 0, .slice none 0 0] 40)) :=
 ⟨(Below.heap_alloc _ _ _ (by simp)).trans (heap_alloc_new w _), by have := heap_alloc_new (w.alloc (.cells #[Value.string nm, c0, c1, c2, c3, c4, c5] 40)) (.cells #[Value.string ⟨#[]⟩, .int .i64 0, .int .i64 0, .string ⟨#[]⟩, .slice none 0 0, .slice none 0 0, .slice none 0 0] 40); simpa using this⟩
theorem BoxF.keep {nm : ByteArray} {c0 c1 c2 c3 c4 c5 : Value} {w W W' : World} (h : BoxF nm c0 c1 c2 c3 c4 c5 w W) (hb : Below W.heap.size W W') : BoxF nm c0 c1 c2 c3 c4 c5 w W' :=
 ⟨(hb.block _ (Array.getElem?_eq_some_iff.1 h.1).1).trans h.1, (hb.block _ (Array.getElem?_eq_some_iff.1 h.2).1).trans h.2⟩
theorem copyfield_any (Q : Nat → Prop) (h : Nat) (IH0 : CopyAt Q h) (nm : ByteArray) (x : Val) (c0 c1 c2 c3 c4 c5 : Value) (w : World) (hv : VIn w Q h x (.agg #[c0, c1, c2, c3, c4, c5])) :
  Calls Tryz.prog 44 #[.agg #[.string nm, c0, c1, c2, c3, c4, c5]] w fun e w' => ∃ c0 c1 c2 c3 c4 c5, e = .returned (.agg #[.string nm, c0, c1, c2, c3, c4, c5]) ∧ VIn w' (fun g => w.heap.size ≤ g) h x (.agg #[c0, c1, c2, c3, c4, c5]) ∧ Below w.heap.size w w' := by
 have IH := Lib.hid IH0
 have HV := Lib.hid hv
 have HX := Lib.hid (BoxF.new nm c0 c1 c2 c3 c4 c5 w)
 clear hv IH0
 go_enter Tryz.func44, Tryz.ntmps44
 go_wp2_with fail
 generalize hW0 : (w.alloc (Obj.cells #[Value.string nm, c0, c1, c2, c3, c4, c5] 40)).alloc (Obj.cells #[Value.string { data := #[] }, Value.int IntKind.i64 0, Value.int IntKind.i64 0, Value.string { data := #[] }, Value.slice none 0 0, Value.slice none 0 0, Value.slice none 0 0] 40) = W0 at HX ⊢
 have HB0 : Hid (Below w.heap.size w W0) := by
  rw [← hW0]; exact ((Below.refl _ w).alloc (Nat.le_refl _) _).alloc (by simp) _
 have HS0 : Hid (w.heap.size + 2 ≤ W0.heap.size) := by rw [← hW0]; show _ ≤ _; simp
 clear hW0
 have HVW := Lib.hid (VIn.keep HB0.out HV.out)
 have hf := HX.out.facts
 go_region_held3 (fun W => W.cell? ⟨w.heap.size, 0, none⟩ = some (.string nm) ∧ W.cell? ⟨w.heap.size, 1, none⟩ = some c0 ∧ W.cell? ⟨w.heap.size, 2, none⟩ = some c1 ∧ W.cell? ⟨w.heap.size, 3, none⟩ = some c2 ∧ W.cell? ⟨w.heap.size, 4, none⟩ = some c3 ∧ W.cell? ⟨w.heap.size, 5, none⟩ = some c4 ∧ W.cell? ⟨w.heap.size, 6, none⟩ = some c5)
  (first | with_reducible exact hf | with_reducible exact hf2 | with_reducible exact hf3 | go_keep)
  ((go_at_call 25; refine (IH.out x _ W0.drew (VIn.keep ((Below.refl _ W0).drew) HVW.out)).mono ?_; rintro e w' ⟨v', rfl, hv', hb'⟩; obtain ⟨ka, na, sa, ba, fa, la, bl, bc, fl, fc, ll, lc, rfl⟩ := hv'.shape; have HV' := Lib.hid hv'; have HB' : Hid (Below W0.heap.size W0 w') := (Below.refl _ W0).drew.trans hb'; have HX' := Lib.hid (HX.out.keep HB'.out); have hf2 := HX'.out.facts; obtain ⟨g0, g1, g2, g3, g4, g5, g6, g7, g8, g9, g10, g11, g12, g13⟩ := HX'.out.zeros; have hf3 : (((((((w'.setCell ⟨w.heap.size + 1, 0, none⟩ (.string nm)).setCell ⟨w.heap.size + 1, 1, none⟩ (.int .i64 ka)).setCell ⟨w.heap.size + 1, 2, none⟩ (.int .i64 na)).setCell ⟨w.heap.size + 1, 3, none⟩ (.string sa)).setCell ⟨w.heap.size + 1, 4, none⟩ (.slice ba bl bc)).setCell ⟨w.heap.size + 1, 5, none⟩ (.slice fa fl fc)).setCell ⟨w.heap.size + 1, 6, none⟩ (.slice la ll lc)).cell? ⟨w.heap.size, 0, none⟩ = some (.string nm) ∧ (((((((w'.setCell ⟨w.heap.size + 1, 0, none⟩ (.string nm)).setCell ⟨w.heap.size + 1, 1, none⟩ (.int .i64 ka)).setCell ⟨w.heap.size + 1, 2, none⟩ (.int .i64 na)).setCell ⟨w.heap.size + 1, 3, none⟩ (.string sa)).setCell ⟨w.heap.size + 1, 4, none⟩ (.slice ba bl bc)).setCell ⟨w.heap.size + 1, 5, none⟩ (.slice fa fl fc)).setCell ⟨w.heap.size + 1, 6, none⟩ (.slice la ll lc)).cell? ⟨w.heap.size, 1, none⟩ = some c0 ∧ (((((((w'.setCell ⟨w.heap.size + 1, 0, none⟩ (.string nm)).setCell ⟨w.heap.size + 1, 1, none⟩ (.int .i64 ka)).setCell ⟨w.heap.size + 1, 2, none⟩ (.int .i64 na)).setCell ⟨w.heap.size + 1, 3, none⟩ (.string sa)).setCell ⟨w.heap.size + 1, 4, none⟩ (.slice ba bl bc)).setCell ⟨w.heap.size + 1, 5, none⟩ (.slice fa fl fc)).setCell ⟨w.heap.size + 1, 6, none⟩ (.slice la ll lc)).cell? ⟨w.heap.size, 2, none⟩ = some c1 ∧ (((((((w'.setCell ⟨w.heap.size + 1, 0, none⟩ (.string nm)).setCell ⟨w.heap.size + 1, 1, none⟩ (.int .i64 ka)).setCell ⟨w.heap.size + 1, 2, none⟩ (.int .i64 na)).setCell ⟨w.heap.size + 1, 3, none⟩ (.string sa)).setCell ⟨w.heap.size + 1, 4, none⟩ (.slice ba bl bc)).setCell ⟨w.heap.size + 1, 5, none⟩ (.slice fa fl fc)).setCell ⟨w.heap.size + 1, 6, none⟩ (.slice la ll lc)).cell? ⟨w.heap.size, 3, none⟩ = some c2 ∧ (((((((w'.setCell ⟨w.heap.size + 1, 0, none⟩ (.string nm)).setCell ⟨w.heap.size + 1, 1, none⟩ (.int .i64 ka)).setCell ⟨w.heap.size + 1, 2, none⟩ (.int .i64 na)).setCell ⟨w.heap.size + 1, 3, none⟩ (.string sa)).setCell ⟨w.heap.size + 1, 4, none⟩ (.slice ba bl bc)).setCell ⟨w.heap.size + 1, 5, none⟩ (.slice fa fl fc)).setCell ⟨w.heap.size + 1, 6, none⟩ (.slice la ll lc)).cell? ⟨w.heap.size, 4, none⟩ = some c3 ∧ (((((((w'.setCell ⟨w.heap.size + 1, 0, none⟩ (.string nm)).setCell ⟨w.heap.size + 1, 1, none⟩ (.int .i64 ka)).setCell ⟨w.heap.size + 1, 2, none⟩ (.int .i64 na)).setCell ⟨w.heap.size + 1, 3, none⟩ (.string sa)).setCell ⟨w.heap.size + 1, 4, none⟩ (.slice ba bl bc)).setCell ⟨w.heap.size + 1, 5, none⟩ (.slice fa fl fc)).setCell ⟨w.heap.size + 1, 6, none⟩ (.slice la ll lc)).cell? ⟨w.heap.size, 5, none⟩ = some c4 ∧ (((((((w'.setCell ⟨w.heap.size + 1, 0, none⟩ (.string nm)).setCell ⟨w.heap.size + 1, 1, none⟩ (.int .i64 ka)).setCell ⟨w.heap.size + 1, 2, none⟩ (.int .i64 na)).setCell ⟨w.heap.size + 1, 3, none⟩ (.string sa)).setCell ⟨w.heap.size + 1, 4, none⟩ (.slice ba bl bc)).setCell ⟨w.heap.size + 1, 5, none⟩ (.slice fa fl fc)).setCell ⟨w.heap.size + 1, 6, none⟩ (.slice la ll lc)).cell? ⟨w.heap.size, 6, none⟩ = some c5 := HX'.out.after [.string nm, .int .i64 ka, .int .i64 na, .string sa, .slice ba bl bc, .slice fa fl fc, .slice la ll lc]; clear hv' hb'))
 have HBw : Hid (Below w.heap.size w w') := HB0.out.trans (HB'.out.mono (by have := HS0.out; omega))
 have hk := puts_kept (fun g => W0.heap.size ≤ g) (w := w') (G := w.heap.size + 1) (by have := HS0.out; omega) 0 [.string nm, .int .i64 ka, .int .i64 na, .string sa, .slice ba bl bc, .slice fa fl fc, .slice la ll lc]
 have hb9 := puts_below HBw.out (G := w.heap.size + 1) (by omega) [.string nm, .int .i64 ka, .int .i64 na, .string sa, .slice ba bl bc, .slice fa fl fc, .slice la ll lc] 0
 have hv9 := HV'.out.kept hk (Q' := fun g => w.heap.size ≤ g) (fun g hg => by have := HS0.out; omega)
 clear hf2 hf3 hf
 go_wp2_with fail
 exact bodyPost_ret (v := .agg #[.string nm, .int .i64 ka, .int .i64 na, .string sa, .slice ba bl bc, .slice fa fl fc, .slice la ll lc]) (by simp [results, Tryz.results44, go_sem, g0, g1, g2, g3, g4, g5, g6]) rfl ⟨_, _, _, _, _, _, rfl, hv9, hb9⟩
end Go.Proofs.YtiajjgehnmkokaaGreatDoor
end
section
namespace Go.Proofs.YtiajjgehnmkokaaGreatDoor
open Go.RowKit
open Seal
theorem infoField : (Tryz.prog.info? 40).map (fun i => (i.zero, i.size, i.bytes)) = some (some (.agg #[.string ⟨#[]⟩, .int .i64 0, .int .i64 0, .string ⟨#[]⟩, .slice none 0 0, .slice none 0 0, .slice none 0 0]), 7, 120) := by kernel_rfl
theorem seven_new (w : World) (c0 c1 c2 c3 c4 c5 c6 : Value) (t : TypeId) : ∀ j u, ([c0, c1, c2, c3, c4, c5, c6] : List Value)[j]? = some u → (w.alloc (.cells #[c0, c1, c2, c3, c4, c5, c6] t)).cell? (Addr.add ⟨w.heap.size, 0, none⟩ j) = some u := by
 intro j u hj
 rw [Addr.add_mid, Nat.zero_add, cell_of_row _ _ j _ _ _ (heap_alloc_new w _)]
 simpa using hj
theorem seven_one (nm : ByteArray) (k n : Int) (s : ByteArray) (ba fa la : Option Addr) (bl bc fl fc ll lc : Nat) : ∀ u ∈ ([.string nm, .int .i64 k, .int .i64 n, .string s, .slice ba bl bc, .slice fa fl fc, .slice la ll lc] : List Value), u.oneCell' = true := by
 intro u hu
 simp at hu
 rcases hu with rfl | rfl | rfl | rfl | rfl | rfl | rfl <;> rfl
end Go.Proofs.YtiajjgehnmkokaaGreatDoor
end
section
namespace Go.Proofs.YtiajjgehnmkokaaGreatDoor
open Go.RowKit
open Seal
open Bson (Val)
theorem plain_lim (k n : Int) (f : List (ByteArray × Val)) (l : List Val) (hk : -9223372036854775808 ≤ k ∧ k ≤ 9223372036854775807) (hn : -9223372036854775808 ≤ n ∧ n ≤ 9223372036854775807) (hf : f.length ≤ 1172812402961) (hl : l.length ≤ 1353245080339) : Lim (.mk k n ⟨#[]⟩ [] f l) :=
 ⟨hk.1, hk.2, hn.1, hn.2, by show (0 : Nat) ≤ _; omega, by show (0 : Nat) ≤ _; omega, hf, hl, fun c hc => by cases hc⟩
theorem leaf_in (w : World) (Q : Nat → Prop) (k n : Int) (hk : -9223372036854775808 ≤ k ∧ k ≤ 9223372036854775807) (hn : -9223372036854775808 ≤ n ∧ n ≤ 9223372036854775807) (h : Nat) :
  VIn w Q (h + 1) (.mk k n ⟨#[]⟩ [] [] []) (.agg #[.int .i64 k, .int .i64 n, .string ⟨#[]⟩, .slice none 0 0, .slice none 0 0, .slice none 0 0]) :=
 ⟨none, none, none, 0, 0, 0, rfl, plain_lim k n [] [] hk hn (by simp) (by simp), ⟨Nat.le_refl _, by omega⟩, ⟨Nat.le_refl _, by omega⟩, ⟨Nat.le_refl _, by omega⟩, .inl rfl, .inl rfl, .inl rfl⟩
theorem doc_in {w : World} {Q : Nat → Prop} {h g : Nat} {nm : ByteArray} {x : Val} {c0 c1 c2 c3 c4 c5 : Value} {t : TypeId} (hr : w.heap[g]? = some (.cells #[.string nm, c0, c1, c2, c3, c4, c5] t (0, 0))) (hq : Q g) (hnm : nm.size ≤ 140737488355328) (hx : VIn w Q h x (.agg #[c0, c1, c2, c3, c4, c5])) :
  VIn w Q (h + 1) (.mk 6 0 ⟨#[]⟩ [] [(nm, x)] []) (.agg #[.int .i64 6, .int .i64 0, .string ⟨#[]⟩, .slice none 0 0, .slice (some ⟨g, 0, none⟩) 1 1, .slice none 0 0]) := by
 refine ⟨none, some ⟨g, 0, none⟩, none, 0, 1, 0, rfl, plain_lim 6 0 _ [] (by omega) (by omega) (by simp) (by simp), ⟨Nat.le_refl _, by omega⟩, ⟨Nat.le_refl _, by omega⟩, ⟨Nat.le_refl _, by omega⟩, .inl rfl, .inr ⟨g, 0, rfl, hq, fun i hi => ?_⟩, .inl rfl⟩
 obtain rfl : i = 0 := by simp [Val.f] at hi; omega
 refine ⟨(cell_of_row _ _ 0 _ _ _ hr).trans rfl, hnm, _, ⟨c0, c1, c2, c3, c4, c5, rfl, ?_, ?_, ?_, ?_, ?_, ?_⟩, hx⟩
 ·exact (cell_of_row _ _ 1 _ _ _ hr).trans rfl
 ·exact (cell_of_row _ _ 2 _ _ _ hr).trans rfl
 ·exact (cell_of_row _ _ 3 _ _ _ hr).trans rfl
 ·exact (cell_of_row _ _ 4 _ _ _ hr).trans rfl
 ·exact (cell_of_row _ _ 5 _ _ _ hr).trans rfl
 ·exact (cell_of_row _ _ 6 _ _ _ hr).trans rfl
end Go.Proofs.YtiajjgehnmkokaaGreatDoor
end
