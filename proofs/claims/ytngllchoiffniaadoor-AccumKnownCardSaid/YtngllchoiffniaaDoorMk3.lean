/- NumLeaf, OrderLeaf, PathCopyF, ValBuild, AccumLeaf, BsonHoldM, NumBox. -/
import Derived.Deep.QuietTactic
import Derived.BigQuiet
import Derived.Lib.BytesEntry
import Derived.Lib.Bytealg
import Derived.Laws.Externs
import Derived.Deep.CutRange
import Derived.Deep.RegionHeld3
import Derived.Test.YtngllchoiffniaaDoorMk0
import Derived.Test.YtngllchoiffniaaDoorMk2
import Derived.Test.YtngllchoiffniaaDoorMk1
set_option maxRecDepth 100000
set_option maxHeartbeats 20000000
section
namespace Go.Proofs.YtngllchoiffniaaDoor
open Go.RowKit
open Seal
namespace Num
def sumR (a b : Int) : Int × Int := if In (a + b) then (a + b, 0) else (0, 10)
def difR (a b : Int) : Int × Int := if In (a - b) then (a - b, 0) else (0, 10)
def mulR (a b : Int) : Int × Int := if In (a * b) then (a * b, 0) else (0, 10)
def quoR (a b : Int) : Int × Int := if b = 0 then (0, 11) else if In (a.tdiv b) then (a.tdiv b, 0) else (0, 10)
def remR (a b : Int) : Int × Int := if b = 0 then (0, 11) else (a.tmod b, 0)
def absR (a : Int) : Int × Int := if a < 0 then difR 0 a else (a, 0)
def ofK (n : Int) : Int := if -2147483648 ≤ n ∧ n < 2147483648 then 3 else 4
end Num
open Num
def PairIs (r : Int × Int) (w : World) (e : Ending) (w' : World) : Prop := e = .returned (.tuple #[.int .i64 r.1, .int .i64 r.2]) ∧ w = w'
def BoolBe (b : Bool) (w : World) (e : Ending) (w' : World) : Prop := e = .returned (.bool b) ∧ Below w.heap.size w w'
theorem pair_is {r : Int × Int} {n m : Int} {w : World} (h : r = (n, m)) : PairIs r w (.returned (.tuple #[.int .i64 n, .int .i64 m])) w := by subst h; exact ⟨rfl, rfl⟩
theorem watched_yes (n : Int) (w : World) : Calls Tryd.prog 49 #[.int .i64 n, .bool true] w (PairIs (n, 0) w) := by
 go_enter Tryd.func49, Tryd.ntmps49
 go_wp2
 go_ret2
 exact ⟨rfl, rfl⟩
theorem watched_no (n : Int) (w : World) : Calls Tryd.prog 49 #[.int .i64 n, .bool false] w (PairIs (0, 10) w) := by
 go_enter Tryd.func49, Tryd.ntmps49
 go_wp2
 go_ret2
 exact ⟨rfl, rfl⟩
theorem sum_any (a b : Int) (w : World) (ha : In a) (hb : In b) : Calls Tryd.prog 41 #[.int .i64 a, .int .i64 b] w (PairIs (sumR a b) w) := by
 have hs := sum_sign ha hb
 by_cases h : In (a + b)
 ·have hR := Lib.hid (show sumR a b = (a + b, 0) from if_pos h)
  have hd : decide (bits .and .i64 (bits .xor .i64 a (wrap64 (a + b))) (bits .xor .i64 b (wrap64 (a + b))) ≥ 0) = true := decide_eq_true (hs.2 h)
  rw [IntWalk.wrap64_in _ h] at hd
  have hw : IntKind.i64.wrap (a + b) = a + b := IntWalk.i64_in _ h
  clear hs ha hb h
  go_enter Tryd.func41, Tryd.ntmps41
  go_wp2_with (go_at_call 49; refine (watched_yes _ _).mono ?_; rintro e w' ⟨rfl, rfl⟩)
  go_ret2
  exact pair_is hR.out
 ·have hR := Lib.hid (show sumR a b = (0, 10) from if_neg h)
  have hd : decide (bits .and .i64 (bits .xor .i64 a (wrap64 (a + b))) (bits .xor .i64 b (wrap64 (a + b))) ≥ 0) = false := decide_eq_false (fun x => h (hs.1 x))
  clear hs ha hb h
  go_enter Tryd.func41, Tryd.ntmps41
  go_wp2_with (go_at_call 49; refine (watched_no _ _).mono ?_; rintro e w' ⟨rfl, rfl⟩)
  go_ret2
  exact pair_is hR.out
def PairDr (r : Int × Int) (w : World) (e : Ending) (w' : World) : Prop := e = .returned (.tuple #[.int .i64 r.1, .int .i64 r.2]) ∧ ∃ n, w' = w.drewN n
theorem PairIs.dr {r : Int × Int} {w w' : World} {e : Ending} (h : PairIs r w e w') : PairDr r w e w' := ⟨h.1, 0, h.2.symm⟩
def ValBe (k n : Int) (w : World) (e : Ending) (w' : World) : Prop := e = .returned (.agg #[.int .i64 k, .int .i64 n, .string ⟨#[]⟩, .slice none 0 0, .slice none 0 0, .slice none 0 0]) ∧ Below w.heap.size w w'
def noneB (k : Int) : Bool := k == 2 || k == 0
def numB (k : Int) : Bool := k == 3 || k == 4
theorem of_any (n : Int) (w : World) : Calls Tryd.prog 30 #[.int .i64 n] w (ValBe (ofK n) n w) := by
 by_cases h : -2147483648 ≤ n ∧ n < 2147483648
 ·have hK := Lib.hid (show ofK n = 3 from if_pos h)
  rw [hK.out]
  clear hK
  have hq : ((n : Int) == wrap32 n) = true := by rw [IntWalk.wrap32_in n ⟨h.1, by omega⟩]; exact beq_self_eq_true n
  obtain ⟨h1, h2⟩ := h
  go_enter Tryd.func30, Tryd.ntmps30
  go_wp2_with fail
  exact bodyPost_ret (v := .agg #[.int .i64 3, .int .i64 n, .string ⟨#[]⟩, .slice none 0 0, .slice none 0 0, .slice none 0 0]) (by simp [results, Tryd.results30, go_sem]) rfl ⟨rfl, ((Below.refl _ _).alloc (Nat.le_refl _) _)⟩
 ·have hK := Lib.hid (show ofK n = 4 from if_neg h)
  rw [hK.out]
  clear hK
  have hn : ¬ n = wrap64 (wrap32 n) := by unfold wrap64 wrap32; omega
  have hq : ((n : Int) == wrap64 (wrap32 n)) = false := by rw [beq_eq_false_iff_ne]; exact hn
  clear h
  go_enter Tryd.func30, Tryd.ntmps30
  go_wp2_with fail
  exact bodyPost_ret (v := .agg #[.int .i64 4, .int .i64 n, .string ⟨#[]⟩, .slice none 0 0, .slice none 0 0, .slice none 0 0]) (by simp [results, Tryd.results30, go_sem]) rfl ⟨rfl, ((Below.refl _ _).alloc (Nat.le_refl _) _)⟩
theorem nothing_any (k : Int) (c1 c2 c3 c4 c5 : Value) (w : World) : Calls Tryd.prog 47 #[.agg #[.int .i64 k, c1, c2, c3, c4, c5]] w (BoolBe (noneB k) w) := by
 by_cases h : k = 2
 ·subst h
  go_enter Tryd.func47, Tryd.ntmps47
  go_wp2_with fail
  go_ret
  exact ⟨rfl, (Below.refl _ _).alloc (Nat.le_refl _) _⟩
 by_cases h2 : k = 0
 ·subst h2
  go_enter Tryd.func47, Tryd.ntmps47
  go_wp2_with fail
  go_ret
  exact ⟨rfl, (Below.refl _ _).alloc (Nat.le_refl _) _⟩
 have hB := Lib.hid (show noneB k = false by simp [noneB, h, h2])
 have e1 : ((k : Int) == 2) = false := by rw [beq_eq_false_iff_ne]; exact h
 have e2 : ((k : Int) == 0) = false := by rw [beq_eq_false_iff_ne]; exact h2
 rw [hB.out]
 go_enter Tryd.func47, Tryd.ntmps47
 go_wp2_with fail
 go_ret
 exact ⟨rfl, (Below.refl _ _).alloc (Nat.le_refl _) _⟩
theorem number_any (k : Int) (c1 c2 c3 c4 c5 : Value) (w : World) : Calls Tryd.prog 48 #[.agg #[.int .i64 k, c1, c2, c3, c4, c5]] w (BoolBe (numB k) w) := by
 by_cases h : k = 3
 ·subst h
  go_enter Tryd.func48, Tryd.ntmps48
  go_wp2_with fail
  go_ret
  exact ⟨rfl, (Below.refl _ _).alloc (Nat.le_refl _) _⟩
 by_cases h2 : k = 4
 ·subst h2
  go_enter Tryd.func48, Tryd.ntmps48
  go_wp2_with fail
  go_ret
  exact ⟨rfl, (Below.refl _ _).alloc (Nat.le_refl _) _⟩
 have hB := Lib.hid (show numB k = false by simp [numB, h, h2])
 have e1 : ((k : Int) == 3) = false := by rw [beq_eq_false_iff_ne]; exact h
 have e2 : ((k : Int) == 4) = false := by rw [beq_eq_false_iff_ne]; exact h2
 rw [hB.out]
 go_enter Tryd.func48, Tryd.ntmps48
 go_wp2_with fail
 go_ret
 exact ⟨rfl, (Below.refl _ _).alloc (Nat.le_refl _) _⟩
end Go.Proofs.YtngllchoiffniaaDoor
end
section
namespace Go.Proofs.YtngllchoiffniaaDoor
open Go.RowKit
open Seal
theorem nan_i64 (k : Int) (w : World) : Calls Tryd.prog 68 #[.int .i64 k] w fun e w' => e = .returned (.bool false) ∧ w = w' := by
 go_enter Tryd.func68, Tryd.ntmps68
 go_wp2
 go_ret
 exact ⟨rfl, rfl⟩
theorem cmpI64_any (a b : Int) (w : World) : Calls Tryd.prog 53 #[.int .i64 a, .int .i64 b] w (IntPost (Order.sgn a b) w) := by
 rcases Int.lt_trichotomy a b with h | h | h
 ·have HC := Lib.hid (Order.sgn_lt h)
  go_enter Tryd.func53, Tryd.ntmps53
  go_wp2_with (go_at_call 68; refine (nan_i64 _ _).mono ?_; rintro e w' ⟨rfl, rfl⟩)
  go_ret
  exact ⟨ret_i HC.out.symm, rfl⟩
 ·subst h
  have HC := Lib.hid (Order.sgn_self a)
  go_enter Tryd.func53, Tryd.ntmps53
  go_wp2_with (go_at_call 68; refine (nan_i64 _ _).mono ?_; rintro e w' ⟨rfl, rfl⟩)
  go_ret
  exact ⟨ret_i HC.out.symm, rfl⟩
 ·have HC := Lib.hid (Order.sgn_gt h)
  have h' : ¬ a < b := by omega
  go_enter Tryd.func53, Tryd.ntmps53
  go_wp2_with (go_at_call 68; refine (nan_i64 _ _).mono ?_; rintro e w' ⟨rfl, rfl⟩)
  go_ret
  exact ⟨ret_i HC.out.symm, rfl⟩
theorem strCmp_any (a b : ByteArray) (w : World) : Calls Tryd.prog 54 #[.string a, .string b] w (IntPost (Order.text a b) w) := by
 refine (Tryd.strings_Compare a b w).mono ?_
 rintro e w' ⟨rfl, rfl⟩
 exact ⟨by rw [Order.compareBytes_text], rfl⟩
end Go.Proofs.YtngllchoiffniaaDoor
end
section
namespace Go.Proofs.YtngllchoiffniaaDoor
open Go.RowKit
open Seal
open Bson (Val)
def CopyPost (w : World) (h : Nat) (x : Val) (e : Ending) (w' : World) : Prop := ∃ v', e = .returned v' ∧ VIn w' (fun g => w.heap.size ≤ g) h x v' ∧ Below w.heap.size w w'
def CopyAt (Q : Nat → Prop) (h : Nat) : Prop := ∀ (x : Val) (v : Value) (w : World), VIn w Q h x v → Calls Tryd.prog 24 #[v] w (CopyPost w h x)
def BoxF (nm : ByteArray) (c0 c1 c2 c3 c4 c5 : Value) (w W : World) : Prop := W.heap[w.heap.size]? = some (.cells #[Value.string nm, c0, c1, c2, c3, c4, c5] 59 (0, 0)) ∧ W.heap[w.heap.size + 1]? = some (.cells #[Value.string ⟨#[]⟩, .int .i64 0, .int .i64 0, .string ⟨#[]⟩, .slice none 0 0, .slice none 0 0, .slice none 0 0] 59 (0, 0))
theorem BoxF.facts {nm : ByteArray} {c0 c1 c2 c3 c4 c5 : Value} {w W : World} (h : BoxF nm c0 c1 c2 c3 c4 c5 w W) : W.cell? ⟨w.heap.size, 0, none⟩ = some (.string nm) ∧ W.cell? ⟨w.heap.size, 1, none⟩ = some c0 ∧ W.cell? ⟨w.heap.size, 2, none⟩ = some c1 ∧ W.cell? ⟨w.heap.size, 3, none⟩ = some c2 ∧ W.cell? ⟨w.heap.size, 4, none⟩ = some c3 ∧ W.cell? ⟨w.heap.size, 5, none⟩ = some c4 ∧ W.cell? ⟨w.heap.size, 6, none⟩ = some c5 :=
 ⟨(cell_of_row W _ 0 _ _ _ h.1).trans rfl, (cell_of_row W _ 1 _ _ _ h.1).trans rfl, (cell_of_row W _ 2 _ _ _ h.1).trans rfl, (cell_of_row W _ 3 _ _ _ h.1).trans rfl, (cell_of_row W _ 4 _ _ _ h.1).trans rfl, (cell_of_row W _ 5 _ _ _ h.1).trans rfl, (cell_of_row W _ 6 _ _ _ h.1).trans rfl⟩
theorem BoxF.zeros {nm : ByteArray} {c0 c1 c2 c3 c4 c5 : Value} {w W : World} (h : BoxF nm c0 c1 c2 c3 c4 c5 w W) : W.cell? ⟨w.heap.size + 1, 0, none⟩ = some (.string ⟨#[]⟩) ∧ W.cell? ⟨w.heap.size + 1, 1, none⟩ = some (.int .i64 0) ∧ W.cell? ⟨w.heap.size + 1, 2, none⟩ = some (.int .i64 0) ∧ W.cell? ⟨w.heap.size + 1, 3, none⟩ = some (.string ⟨#[]⟩) ∧ W.cell? ⟨w.heap.size + 1, 4, none⟩ = some (.slice none 0 0) ∧ W.cell? ⟨w.heap.size + 1, 5, none⟩ = some (.slice none 0 0) ∧ W.cell? ⟨w.heap.size + 1, 6, none⟩ = some (.slice none 0 0) ∧ W.frozen? ⟨w.heap.size + 1, 0, none⟩ = false ∧ W.frozen? ⟨w.heap.size + 1, 1, none⟩ = false ∧ W.frozen? ⟨w.heap.size + 1, 2, none⟩ = false ∧ W.frozen? ⟨w.heap.size + 1, 3, none⟩ = false ∧ W.frozen? ⟨w.heap.size + 1, 4, none⟩ = false ∧ W.frozen? ⟨w.heap.size + 1, 5, none⟩ = false ∧ W.frozen? ⟨w.heap.size + 1, 6, none⟩ = false :=
 ⟨(cell_of_row W _ 0 _ _ _ h.2).trans rfl, (cell_of_row W _ 1 _ _ _ h.2).trans rfl, (cell_of_row W _ 2 _ _ _ h.2).trans rfl, (cell_of_row W _ 3 _ _ _ h.2).trans rfl, (cell_of_row W _ 4 _ _ _ h.2).trans rfl, (cell_of_row W _ 5 _ _ _ h.2).trans rfl, (cell_of_row W _ 6 _ _ _ h.2).trans rfl, frozen_of_row W _ 0 _ _ h.2, frozen_of_row W _ 1 _ _ h.2, frozen_of_row W _ 2 _ _ h.2, frozen_of_row W _ 3 _ _ h.2, frozen_of_row W _ 4 _ _ h.2, frozen_of_row W _ 5 _ _ h.2, frozen_of_row W _ 6 _ _ h.2⟩
theorem BoxF.after {nm : ByteArray} {c0 c1 c2 c3 c4 c5 : Value} {w W : World} (h : BoxF nm c0 c1 c2 c3 c4 c5 w W) (vs : List Value) : (W.setCells (w.heap.size + 1) 0 vs).cell? ⟨w.heap.size, 0, none⟩ = some (.string nm) ∧ (W.setCells (w.heap.size + 1) 0 vs).cell? ⟨w.heap.size, 1, none⟩ = some c0 ∧ (W.setCells (w.heap.size + 1) 0 vs).cell? ⟨w.heap.size, 2, none⟩ = some c1 ∧ (W.setCells (w.heap.size + 1) 0 vs).cell? ⟨w.heap.size, 3, none⟩ = some c2 ∧ (W.setCells (w.heap.size + 1) 0 vs).cell? ⟨w.heap.size, 4, none⟩ = some c3 ∧ (W.setCells (w.heap.size + 1) 0 vs).cell? ⟨w.heap.size, 5, none⟩ = some c4 ∧ (W.setCells (w.heap.size + 1) 0 vs).cell? ⟨w.heap.size, 6, none⟩ = some c5 := by
 have e : (W.setCells (w.heap.size + 1) 0 vs).heap[w.heap.size]? = _ := (puts_other (w.heap.size + 1) w.heap.size (by omega) vs W 0).trans h.1
 exact ⟨(cell_of_row _ _ 0 _ _ _ e).trans rfl, (cell_of_row _ _ 1 _ _ _ e).trans rfl, (cell_of_row _ _ 2 _ _ _ e).trans rfl, (cell_of_row _ _ 3 _ _ _ e).trans rfl, (cell_of_row _ _ 4 _ _ _ e).trans rfl, (cell_of_row _ _ 5 _ _ _ e).trans rfl, (cell_of_row _ _ 6 _ _ _ e).trans rfl⟩
theorem BoxF.row {nm : ByteArray} {c0 c1 c2 c3 c4 c5 : Value} {w W : World} (h : BoxF nm c0 c1 c2 c3 c4 c5 w W) : Row6 W (w.heap.size + 1) 59 7 := ⟨_, h.2, rfl⟩
theorem BoxF.new (nm : ByteArray) (c0 c1 c2 c3 c4 c5 : Value) (w : World) : BoxF nm c0 c1 c2 c3 c4 c5 w ((w.alloc (.cells #[Value.string nm, c0, c1, c2, c3, c4, c5] 59)).alloc (.cells #[Value.string ⟨#[]⟩, .int .i64 0, .int .i64 0, .string ⟨#[]⟩, .slice none 0 0, .slice none 0 0, .slice none 0 0] 59)) :=
 ⟨(Below.heap_alloc _ _ _ (by simp)).trans (heap_alloc_new w _), by have := heap_alloc_new (w.alloc (.cells #[Value.string nm, c0, c1, c2, c3, c4, c5] 59)) (.cells #[Value.string ⟨#[]⟩, .int .i64 0, .int .i64 0, .string ⟨#[]⟩, .slice none 0 0, .slice none 0 0, .slice none 0 0] 59); simpa using this⟩
theorem BoxF.keep {nm : ByteArray} {c0 c1 c2 c3 c4 c5 : Value} {w W W' : World} (h : BoxF nm c0 c1 c2 c3 c4 c5 w W) (hb : Below W.heap.size W W') : BoxF nm c0 c1 c2 c3 c4 c5 w W' :=
 ⟨(hb.block _ (Array.getElem?_eq_some_iff.1 h.1).1).trans h.1, (hb.block _ (Array.getElem?_eq_some_iff.1 h.2).1).trans h.2⟩
theorem copyfield_any (Q : Nat → Prop) (h : Nat) (IH0 : CopyAt Q h) (nm : ByteArray) (x : Val) (c0 c1 c2 c3 c4 c5 : Value) (w : World) (hv : VIn w Q h x (.agg #[c0, c1, c2, c3, c4, c5])) :
  Calls Tryd.prog 38 #[.agg #[.string nm, c0, c1, c2, c3, c4, c5]] w fun e w' => ∃ c0 c1 c2 c3 c4 c5, e = .returned (.agg #[.string nm, c0, c1, c2, c3, c4, c5]) ∧ VIn w' (fun g => w.heap.size ≤ g) h x (.agg #[c0, c1, c2, c3, c4, c5]) ∧ Below w.heap.size w w' := by
 have IH := Lib.hid IH0
 have HV := Lib.hid hv
 have HX := Lib.hid (BoxF.new nm c0 c1 c2 c3 c4 c5 w)
 clear hv IH0
 go_enter Tryd.func38, Tryd.ntmps38
 go_wp2_with fail
 generalize hW0 : (w.alloc (Obj.cells #[Value.string nm, c0, c1, c2, c3, c4, c5] 59)).alloc (Obj.cells #[Value.string ⟨#[]⟩, Value.int .i64 0, Value.int .i64 0, Value.string ⟨#[]⟩, Value.slice none 0 0, Value.slice none 0 0, Value.slice none 0 0] 59) = W0 at HX ⊢
 have HB0 : Hid (Below w.heap.size w W0) := by
  rw [← hW0]; exact ((Below.refl _ w).alloc (Nat.le_refl _) _).alloc (by simp) _
 have HS0 : Hid (w.heap.size + 2 ≤ W0.heap.size) := by rw [← hW0]; show _ ≤ _; simp
 clear hW0
 have HVW := Lib.hid (VIn.keep HB0.out HV.out)
 have hf := HX.out.facts
 go_region_held3 (fun W => W.cell? ⟨w.heap.size, 0, none⟩ = some (.string nm) ∧ W.cell? ⟨w.heap.size, 1, none⟩ = some c0 ∧ W.cell? ⟨w.heap.size, 2, none⟩ = some c1 ∧ W.cell? ⟨w.heap.size, 3, none⟩ = some c2 ∧ W.cell? ⟨w.heap.size, 4, none⟩ = some c3 ∧ W.cell? ⟨w.heap.size, 5, none⟩ = some c4 ∧ W.cell? ⟨w.heap.size, 6, none⟩ = some c5)
  (first | with_reducible exact hf | with_reducible exact hf2 | with_reducible exact hf3 | go_keep)
  ((go_at_call 24; refine (IH.out x _ W0.drew (VIn.keep ((Below.refl _ W0).drew) HVW.out)).mono ?_; rintro e w' ⟨v', rfl, hv', hb'⟩; obtain ⟨ka, na, sa, ba, fa, la, bl, bc, fl, fc, ll, lc, rfl⟩ := hv'.shape; have HV' := Lib.hid hv'; have HB' : Hid (Below W0.heap.size W0 w') := (Below.refl _ W0).drew.trans hb'; have HX' := Lib.hid (HX.out.keep HB'.out); have hf2 := HX'.out.facts; obtain ⟨g0, g1, g2, g3, g4, g5, g6, g7, g8, g9, g10, g11, g12, g13⟩ := HX'.out.zeros; have hf3 : (((((((w'.setCell ⟨w.heap.size + 1, 0, none⟩ (.string nm)).setCell ⟨w.heap.size + 1, 1, none⟩ (.int .i64 ka)).setCell ⟨w.heap.size + 1, 2, none⟩ (.int .i64 na)).setCell ⟨w.heap.size + 1, 3, none⟩ (.string sa)).setCell ⟨w.heap.size + 1, 4, none⟩ (.slice ba bl bc)).setCell ⟨w.heap.size + 1, 5, none⟩ (.slice fa fl fc)).setCell ⟨w.heap.size + 1, 6, none⟩ (.slice la ll lc)).cell? ⟨w.heap.size, 0, none⟩ = some (.string nm) ∧ (((((((w'.setCell ⟨w.heap.size + 1, 0, none⟩ (.string nm)).setCell ⟨w.heap.size + 1, 1, none⟩ (.int .i64 ka)).setCell ⟨w.heap.size + 1, 2, none⟩ (.int .i64 na)).setCell ⟨w.heap.size + 1, 3, none⟩ (.string sa)).setCell ⟨w.heap.size + 1, 4, none⟩ (.slice ba bl bc)).setCell ⟨w.heap.size + 1, 5, none⟩ (.slice fa fl fc)).setCell ⟨w.heap.size + 1, 6, none⟩ (.slice la ll lc)).cell? ⟨w.heap.size, 1, none⟩ = some c0 ∧ (((((((w'.setCell ⟨w.heap.size + 1, 0, none⟩ (.string nm)).setCell ⟨w.heap.size + 1, 1, none⟩ (.int .i64 ka)).setCell ⟨w.heap.size + 1, 2, none⟩ (.int .i64 na)).setCell ⟨w.heap.size + 1, 3, none⟩ (.string sa)).setCell ⟨w.heap.size + 1, 4, none⟩ (.slice ba bl bc)).setCell ⟨w.heap.size + 1, 5, none⟩ (.slice fa fl fc)).setCell ⟨w.heap.size + 1, 6, none⟩ (.slice la ll lc)).cell? ⟨w.heap.size, 2, none⟩ = some c1 ∧ (((((((w'.setCell ⟨w.heap.size + 1, 0, none⟩ (.string nm)).setCell ⟨w.heap.size + 1, 1, none⟩ (.int .i64 ka)).setCell ⟨w.heap.size + 1, 2, none⟩ (.int .i64 na)).setCell ⟨w.heap.size + 1, 3, none⟩ (.string sa)).setCell ⟨w.heap.size + 1, 4, none⟩ (.slice ba bl bc)).setCell ⟨w.heap.size + 1, 5, none⟩ (.slice fa fl fc)).setCell ⟨w.heap.size + 1, 6, none⟩ (.slice la ll lc)).cell? ⟨w.heap.size, 3, none⟩ = some c2 ∧ (((((((w'.setCell ⟨w.heap.size + 1, 0, none⟩ (.string nm)).setCell ⟨w.heap.size + 1, 1, none⟩ (.int .i64 ka)).setCell ⟨w.heap.size + 1, 2, none⟩ (.int .i64 na)).setCell ⟨w.heap.size + 1, 3, none⟩ (.string sa)).setCell ⟨w.heap.size + 1, 4, none⟩ (.slice ba bl bc)).setCell ⟨w.heap.size + 1, 5, none⟩ (.slice fa fl fc)).setCell ⟨w.heap.size + 1, 6, none⟩ (.slice la ll lc)).cell? ⟨w.heap.size, 4, none⟩ = some c3 ∧ (((((((w'.setCell ⟨w.heap.size + 1, 0, none⟩ (.string nm)).setCell ⟨w.heap.size + 1, 1, none⟩ (.int .i64 ka)).setCell ⟨w.heap.size + 1, 2, none⟩ (.int .i64 na)).setCell ⟨w.heap.size + 1, 3, none⟩ (.string sa)).setCell ⟨w.heap.size + 1, 4, none⟩ (.slice ba bl bc)).setCell ⟨w.heap.size + 1, 5, none⟩ (.slice fa fl fc)).setCell ⟨w.heap.size + 1, 6, none⟩ (.slice la ll lc)).cell? ⟨w.heap.size, 5, none⟩ = some c4 ∧ (((((((w'.setCell ⟨w.heap.size + 1, 0, none⟩ (.string nm)).setCell ⟨w.heap.size + 1, 1, none⟩ (.int .i64 ka)).setCell ⟨w.heap.size + 1, 2, none⟩ (.int .i64 na)).setCell ⟨w.heap.size + 1, 3, none⟩ (.string sa)).setCell ⟨w.heap.size + 1, 4, none⟩ (.slice ba bl bc)).setCell ⟨w.heap.size + 1, 5, none⟩ (.slice fa fl fc)).setCell ⟨w.heap.size + 1, 6, none⟩ (.slice la ll lc)).cell? ⟨w.heap.size, 6, none⟩ = some c5 := HX'.out.after [.string nm, .int .i64 ka, .int .i64 na, .string sa, .slice ba bl bc, .slice fa fl fc, .slice la ll lc]; clear hv' hb'))
 have HBw : Hid (Below w.heap.size w w') := HB0.out.trans (HB'.out.mono (by have := HS0.out; omega))
 have hk := puts_kept (fun g => W0.heap.size ≤ g) (w := w') (G := w.heap.size + 1) (by have := HS0.out; omega) 0 [.string nm, .int .i64 ka, .int .i64 na, .string sa, .slice ba bl bc, .slice fa fl fc, .slice la ll lc]
 have hb9 := puts_below HBw.out (G := w.heap.size + 1) (by omega) [.string nm, .int .i64 ka, .int .i64 na, .string sa, .slice ba bl bc, .slice fa fl fc, .slice la ll lc] 0
 have hv9 := HV'.out.kept hk (Q' := fun g => w.heap.size ≤ g) (fun g hg => by have := HS0.out; omega)
 clear hf2 hf3 hf
 go_wp2_with fail
 exact bodyPost_ret (v := .agg #[.string nm, .int .i64 ka, .int .i64 na, .string sa, .slice ba bl bc, .slice fa fl fc, .slice la ll lc]) (by simp [results, Tryd.results38, go_sem, g0, g1, g2, g3, g4, g5, g6]) rfl ⟨_, _, _, _, _, _, rfl, hv9, hb9⟩
theorem plain_lim (k n : Int) (f : List (ByteArray × Val)) (l : List Val) (hk : -9223372036854775808 ≤ k ∧ k ≤ 9223372036854775807) (hn : -9223372036854775808 ≤ n ∧ n ≤ 9223372036854775807) (hf : f.length ≤ 1172812402961) (hl : l.length ≤ 1353245080339) : Lim (.mk k n ⟨#[]⟩ [] f l) :=
 ⟨hk.1, hk.2, hn.1, hn.2, by show (0 : Nat) ≤ _; omega, by show (0 : Nat) ≤ _; omega, hf, hl, fun c hc => by cases hc⟩
theorem leaf_in (w : World) (Q : Nat → Prop) (k n : Int) (hk : -9223372036854775808 ≤ k ∧ k ≤ 9223372036854775807) (hn : -9223372036854775808 ≤ n ∧ n ≤ 9223372036854775807) (h : Nat) :
  VIn w Q (h + 1) (.mk k n ⟨#[]⟩ [] [] []) (.agg #[.int .i64 k, .int .i64 n, .string ⟨#[]⟩, .slice none 0 0, .slice none 0 0, .slice none 0 0]) :=
 ⟨none, none, none, 0, 0, 0, rfl, plain_lim k n [] [] hk hn (by simp) (by simp), ⟨Nat.le_refl _, by omega⟩, ⟨Nat.le_refl _, by omega⟩, ⟨Nat.le_refl _, by omega⟩, .inl rfl, .inl rfl, .inl rfl⟩
theorem doc_in {w : World} {Q : Nat → Prop} {h g : Nat} {nm : ByteArray} {x : Val} {c0 c1 c2 c3 c4 c5 : Value} {t : TypeId} (hr : w.heap[g]? = some (.cells #[.string nm, c0, c1, c2, c3, c4, c5] t (0, 0))) (hq : Q g) (hnm : nm.size ≤ 140737488355328) (hx : VIn w Q h x (.agg #[c0, c1, c2, c3, c4, c5])) :
  VIn w Q (h + 1) (.mk 6 0 ⟨#[]⟩ [] [(nm, x)] []) (.agg #[.int .i64 6, .int .i64 0, .string ⟨#[]⟩, .slice none 0 0, .slice (some ⟨g, 0, none⟩) 1 1, .slice none 0 0]) := by
 refine ⟨none, some ⟨g, 0, none⟩, none, 0, 1, 0, rfl, plain_lim 6 0 _ [] (by omega) (by omega) (by simp) (by simp), ⟨Nat.le_refl _, by omega⟩, ⟨Nat.le_refl _, by omega⟩, ⟨Nat.le_refl _, by omega⟩, .inl rfl, .inr ⟨g, 0, rfl, hq, fun i hi => ?_⟩, .inl rfl⟩
 obtain rfl : i = 0 := by simp [Val.f] at hi; omega
 refine ⟨(cell_of_row _ _ 0 _ _ _ hr).trans rfl, hnm, _, ⟨c0, c1, c2, c3, c4, c5, rfl, ?_, ?_, ?_, ?_, ?_, ?_⟩, hx⟩
 ·exact (cell_of_row _ _ 1 _ _ _ hr).trans rfl
 ·exact (cell_of_row _ _ 2 _ _ _ hr).trans rfl
 ·exact (cell_of_row _ _ 3 _ _ _ hr).trans rfl
 ·exact (cell_of_row _ _ 4 _ _ _ hr).trans rfl
 ·exact (cell_of_row _ _ 5 _ _ _ hr).trans rfl
 ·exact (cell_of_row _ _ 6 _ _ _ hr).trans rfl
end Go.Proofs.YtngllchoiffniaaDoor
end
section
namespace Go.Proofs.YtngllchoiffniaaDoor
open Go.RowKit
open Seal
namespace Acc
open Num
theorem number_any (k : Int) (c1 c2 c3 c4 c5 : Value) (w : World) : Calls Tryd.prog 27 #[.agg #[.int .i64 k, c1, c2, c3, c4, c5]] w (BoolBe (numB k) w) := by
 by_cases h : k = 3
 ·subst h
  go_enter Tryd.func27, Tryd.ntmps27
  go_wp2_with fail
  go_ret
  exact ⟨rfl, (Below.refl _ _).alloc (Nat.le_refl _) _⟩
 by_cases h2 : k = 4
 ·subst h2
  go_enter Tryd.func27, Tryd.ntmps27
  go_wp2_with fail
  go_ret
  exact ⟨rfl, (Below.refl _ _).alloc (Nat.le_refl _) _⟩
 have hB := Lib.hid (show numB k = false by simp [numB, h, h2])
 have e1 : ((k : Int) == 3) = false := by rw [beq_eq_false_iff_ne]; exact h
 have e2 : ((k : Int) == 4) = false := by rw [beq_eq_false_iff_ne]; exact h2
 rw [hB.out]
 go_enter Tryd.func27, Tryd.ntmps27
 go_wp2_with fail
 go_ret
 exact ⟨rfl, (Below.refl _ _).alloc (Nat.le_refl _) _⟩
theorem nought_any (w : World) : Calls Tryd.prog 14 #[] w (ValBe 3 0 w) := by
 have hO := Lib.hid (fun w : World => (show Calls Tryd.prog 30 #[.int .i64 0] w (ValBe 3 0 w) from of_any 0 w))
 go_enter Tryd.func14, Tryd.ntmps14
 go_wp2_with (go_at_call 30; refine (hO.out _).mono ?_; rintro e w' ⟨rfl, hb⟩; have HE : w'.heap[w.heap.size]? = some (.cells #[.int .i64 0, .int .i64 0, .string ⟨#[]⟩, .slice none 0 0, .slice none 0 0, .slice none 0 0] 32 (0, 0)) := (hb.block _ (by simp)).trans (heap_alloc_new w _); have g0 := (cell_of_row w' _ 0 _ _ _ HE).trans rfl; have z0 := frozen_of_row w' _ 0 _ _ HE; have g1 := (cell_of_row w' _ 1 _ _ _ HE).trans rfl; have z1 := frozen_of_row w' _ 1 _ _ HE; have g2 := (cell_of_row w' _ 2 _ _ _ HE).trans rfl; have z2 := frozen_of_row w' _ 2 _ _ HE; have g3 := (cell_of_row w' _ 3 _ _ _ HE).trans rfl; have z3 := frozen_of_row w' _ 3 _ _ HE; have g4 := (cell_of_row w' _ 4 _ _ _ HE).trans rfl; have z4 := frozen_of_row w' _ 4 _ _ HE; have g5 := (cell_of_row w' _ 5 _ _ _ HE).trans rfl; have z5 := frozen_of_row w' _ 5 _ _ HE)
 have h0 : Below w.heap.size w w' := ((Below.refl _ _).alloc (Nat.le_refl _) _).trans (hb.mono (by simp))
 exact bodyPost_ret (v := .agg #[.int .i64 3, .int .i64 0, .string ⟨#[]⟩, .slice none 0 0, .slice none 0 0, .slice none 0 0]) (by simp [results, Tryd.results14, go_sem, g0, g1, g2, g3, g4, g5]) rfl ⟨rfl, puts_below h0 (G := w.heap.size) (Nat.le_refl _) [.int .i64 3, .int .i64 0, .string ⟨#[]⟩, .slice none 0 0, .slice none 0 0, .slice none 0 0] 0⟩
theorem emptyList_any (w : World) : Calls Tryd.prog 20 #[] w (ValBe 7 0 w) := by
 go_enter Tryd.func20, Tryd.ntmps20
 go_wp2_with fail
 exact bodyPost_ret (v := .agg #[.int .i64 7, .int .i64 0, .string ⟨#[]⟩, .slice none 0 0, .slice none 0 0, .slice none 0 0]) (by simp [results, Tryd.results20, go_sem]) rfl ⟨rfl, ((Below.refl _ _).alloc (Nat.le_refl _) _)⟩
theorem orNull_null (c1 c2 c3 c4 c5 : Value) (w : World) : Calls Tryd.prog 25 #[.agg #[.int .i64 0, c1, c2, c3, c4, c5]] w (ValBe 2 0 w) := by
 go_enter Tryd.func25, Tryd.ntmps25
 go_wp2_with fail
 exact bodyPost_ret (v := .agg #[.int .i64 2, .int .i64 0, .string ⟨#[]⟩, .slice none 0 0, .slice none 0 0, .slice none 0 0]) (by simp [results, Tryd.results25, go_sem]) rfl ⟨rfl, (((Below.refl _ _).alloc (Nat.le_refl _) _).alloc (by simp) _)⟩
end Acc
end Go.Proofs.YtngllchoiffniaaDoor
end
section
namespace Go.Proofs.YtngllchoiffniaaDoor
open Go.RowKit
open Seal
open Bson (Val)
theorem same_keyS (s t : ByteArray) : (keyS t).sameKey (keyS s) = true ↔ s = t := by
 unfold keyS
 show (t.data.toList == s.data.toList) = true ↔ _
 rw [beq_iff_eq]
 constructor
 ·intro h2
  exact ByteArray.ext (Array.ext' h2.symm)
 ·rintro rfl; rfl
theorem keys_any (l : List ByteArray) (s : ByteArray) : (l.map keyS).any (fun y => y.sameKey (keyS s)) = true ↔ s ∈ l := by
 rw [List.any_eq_true]
 constructor
 ·rintro ⟨x, h1, h2⟩
  obtain ⟨t, h3, rfl⟩ := List.mem_map.1 h1
  rw [(same_keyS s t).1 h2]; exact h3
 ·intro h
  exact ⟨keyS s, List.mem_map.2 ⟨s, h, rfl⟩, (same_keyS s s).2 rfl⟩
theorem keys_lit (l : List ByteArray) : ∀ x ∈ l.map keyS, WideAt.IsKeyLit x := by
 intro x hx
 obtain ⟨s, _, rfl⟩ := List.mem_map.1 hx
 trivial
theorem keys_fold : ∀ (l p : List ByteArray), (p ++ l).Nodup → (l.map keyS).foldl Maps.addKey (p.map keyS) = (p ++ l).map keyS
 | [], p, _ => by simp
 | s :: r, p, h => by
  rw [List.map_cons, List.foldl_cons]
  have hs : s ∉ p := by
   rw [List.nodup_append] at h
   exact fun hm => h.2.2 s hm s List.mem_cons_self rfl
  have e : Maps.addKey (p.map keyS) (keyS s) = (p ++ [s]).map keyS := by
   unfold Maps.addKey
   rw [if_neg (fun hh => hs ((keys_any p s).1 hh))]
   simp
  rw [e, keys_fold r (p ++ [s]) (by simpa using h)]
  simp
theorem setNms_size (f : List (ByteArray × Val)) (k : Nat) (hk : k ≤ f.length) (hd : (f.map (·.1)).Nodup) : Maps.size (setNms f k) = k := by
 have e : (f.take k).map (fun p => keyS p.1) = ((f.take k).map (·.1)).map keyS := by rw [List.map_map]; rfl
 unfold setNms
 rw [e, Maps.size_setOf _ _ (keys_lit _)]
 have h := keys_fold ((f.take k).map (·.1)) [] (by
  rw [List.nil_append, List.map_take]; exact hd.sublist (List.take_sublist _ _))
 rw [List.map_nil, List.nil_append] at h
 rw [h]
 simp
 omega
theorem setNms_next (f : List (ByteArray × Val)) (k : Nat) (hk : k < f.length) : setNms f (k + 1) = (setNms f k).put (keyS f[k].1) (.agg []) := by
 unfold setNms
 rw [List.take_succ_eq_append_getElem hk, List.map_append]
 exact Maps.setOf_snoc _ _ _
theorem setNms_has (f : List (ByteArray × Val)) (s : ByteArray) : Maps.has (setNms f f.length) (keyS s) = hasName f s := by
 have e : (f.take f.length).map (fun p => keyS p.1) = (f.map (·.1)).map keyS := by rw [List.take_length, List.map_map]; rfl
 unfold setNms
 rw [e, Maps.has_setOf _ _ _ (keys_lit _)]
 unfold hasName
 rw [Bool.eq_iff_iff, keys_any, List.any_eq_true, List.mem_map]
 constructor
 ·rintro ⟨p, h1, h2⟩; exact ⟨p, h1, decide_eq_true h2⟩
 ·rintro ⟨p, h1, h2⟩; exact ⟨p, h1, of_decide_eq_true h2⟩
theorem setNms_zero (f : List (ByteArray × Val)) : setNms f 0 = .map [] := rfl
section
variable {w w1 w' : World} {gn bm g o : Nat} {v : Value} {f : List (ByteArray × Val)}
theorem cell_block (h : w.cell? ⟨g, o, none⟩ = some v) : ∃ cs t fr, w.heap[g]? = some (.cells cs t fr) := by
 unfold World.cell? at h
 cases hb : w.heap[g]? with
 | none => rw [hb] at h; cases h
 | some b =>
  cases b with
  | cells cs t fr => exact ⟨cs, t, fr, rfl⟩
  | _ => rw [hb] at h; cases h
theorem HMove.cell (h : HMove gn w w') (hc : w.cell? ⟨g, o, none⟩ = some v) (hne : g ≠ gn) : w'.cell? ⟨g, o, none⟩ = some v := by
 obtain ⟨cs, t, fr, hb⟩ := cell_block hc
 exact (World.cell?_of_block (a := ⟨g, o, none⟩) (h.2.2.2.2.1 g cs t fr hne hb)).trans hc
theorem HMove.refl (gn : Nat) (w : World) : HMove gn w w := ⟨rfl, rfl, rfl, Nat.le_refl _, fun _ _ _ _ _ _ => rfl, fun _ _ => rfl⟩
theorem HMove.trans (h : HMove gn w w1) (h2 : HMove gn w1 w') : HMove gn w w' :=
 ⟨h2.1.trans h.1, h2.2.1.trans h.2.1, h2.2.2.1.trans h.2.2.1, Nat.le_trans h.2.2.2.1 h2.2.2.2.1, fun g cs t fr hne hb => (h2.2.2.2.2.1 g cs t fr hne ((h.2.2.2.2.1 g cs t fr hne hb).trans hb)).trans (h.2.2.2.2.1 g cs t fr hne hb), fun g hg => (h2.2.2.2.2.2 g hg).trans (h.2.2.2.2.2 g hg)⟩
theorem HMove.of_map (hg : w.grownBy w' (some bm)) (hm : ∀ cs t fr, w.heap[bm]? ≠ some (.cells cs t fr)) (hlt : gn < bm) (hgl : gn < w.heap.size) : HMove gn w w' :=
 ⟨hg.os, hg.tape, hg.output, hg.size, fun g cs t fr _ hb => hg.block g (Array.getElem?_eq_some_iff.1 hb).1 (fun e => hm cs t fr (by rw [← Option.some.inj e]; exact hb)), fun g hgg => hg.block g (by omega) (fun e => by have := Option.some.inj e; omega)⟩
theorem HMove.set (u : Value) : HMove gn w (w.setCell ⟨gn, 0, none⟩ u) :=
 ⟨rfl, rfl, rfl, by simp, fun g cs t fr hne _ => Below.heap_setCell w ⟨gn, 0, none⟩ u g hne, fun g hgg => Below.heap_setCell w ⟨gn, 0, none⟩ u g (by show g ≠ gn; omega)⟩
theorem no_cells {k : Nat} {D : DataW Unit} (h : w.ownsMap Tryd.prog 9 (unitElem (H := Unit)) bm k D) : ∀ cs t fr, w.heap[bm]? ≠ some (.cells cs t fr) := by
 obtain ⟨es, clock, hb, _⟩ := h
 intro cs t fr h2
 rw [hb] at h2
 cases h2
end
theorem set_map {w : World} {gn : Nat} {u0 u : Value} {t : TypeId} (h : w.heap[gn]? = some (.cells #[u0] t (0, 0))) : (w.setCell ⟨gn, 0, none⟩ u).heap[gn]? = some (.cells #[u] t (0, 0)) := by
 rw [heap_setCell_same w gn 0 _ t u h]; rfl
theorem key_str (s : ByteArray) (hs : s.size ≤ maxLen) : keyOf Tryd.prog 9 (.string s) = some (keyS s) := by
 rw [keyOf_string Tryd.underlying9]
 unfold mapKey
 rw [Tryd.underlying9]
 exact if_pos hs
def HoldAt (w : World) (gn bm k m : Nat) (f : List (ByteArray × Val)) : Prop := w.heap[gn]? = some (.cells #[.map (some bm)] 98 (0, 0)) ∧ gn < bm ∧ w.ownsMap Tryd.prog 9 (unitElem (H := Unit)) bm m (setNms f k)
theorem HoldAt.cell {w : World} {gn bm k m : Nat} {f : List (ByteArray × Val)} (h : HoldAt w gn bm k m f) : w.cell? ⟨gn, 0, none⟩ = some (.map (some bm)) := cell_of_row w gn 0 _ _ _ h.1
theorem HoldAt.gl {w : World} {gn bm k m : Nat} {f : List (ByteArray × Val)} (h : HoldAt w gn bm k m f) : gn < w.heap.size := (Array.getElem?_eq_some_iff.1 h.1).1
theorem HoldAt.keep {w w' : World} {gn bm k m : Nat} {f : List (ByteArray × Val)} (h : HoldAt w gn bm k m f) (hb : Below w.heap.size w w') : HoldAt w' gn bm k m f :=
 ⟨(hb.block gn h.gl).trans h.1, h.2.1, h.2.2.kept (row := none) ⟨hb.os, hb.tape, hb.output, hb.size, fun j hj _ => hb.block j hj⟩ nofun⟩
theorem hold_many (Q : Nat → Prop) (h : Nat) (w : World) (gn : Nat) (a : Option Addr) (n c : Nat) (f : List (ByteArray × Val)) (s : ByteArray) (hn : f.length = n) (hm : 16 < n) (hmx : n ≤ 140737488355328) (hnc : n ≤ c) (hc2 : c ≤ 9223372036854775807) (hss : s.size ≤ 140737488355328)
  (hF : FieldsIn w Q (VIn w Q h) a f) (hd : (f.map (·.1)).Nodup) (hN : Nms w gn f) :
  Calls Tryd.prog 75 #[.pointer (some ⟨gn, 0, none⟩), .slice a n c, .string s] w fun e w' => e = .returned (.bool (hasName f s)) ∧ HMove gn w w' ∧ Nms w' gn f := by
 have HN := Lib.hid hn
 have HD := Lib.hid hd
 have hgl := hN.lt
 obtain ⟨g, o, rfl, -, hall⟩ := hF.resolve_left (fun e => by rw [e] at hn; simp at hn; omega)
 have HALL : Hid (∀ (i : Nat) (hi : i < f.length), w.cell? ⟨g, o + i * 7, none⟩ = some (.string f[i].1) ∧ f[i].1.size ≤ 140737488355328 ∧ ∃ (q1 q2 : Int) (q3 : ByteArray) (a1 : Option Addr) (n1 c1 : Nat) (a2 : Option Addr) (n2 c2 : Nat) (a3 : Option Addr) (n3 c3 : Nat), SixAt w g (o + i * 7 + 1) (.agg #[.int .i64 q1, .int .i64 q2, .string q3, .slice a1 n1 c1, .slice a2 n2 c2, .slice a3 n3 c3])) := fun i hi => ⟨(hall i hi).1, (hall i hi).2.1, by
  obtain ⟨v, h1, h2⟩ := (hall i hi).2.2
  obtain ⟨q1, q2, q3, a1, n1, c1, a2, n2, c2, a3, n3, c3, rfl⟩ := VIn.form h2
  exact ⟨q1, q2, q3, a1, n1, c1, a2, n2, c2, a3, n3, c3, h1⟩⟩
 have HG : Hid (g ≠ gn) := by
  intro e
  have h1 := (hall 0 (by omega)).1
  rw [Nat.zero_mul, Nat.add_zero, e] at h1
  rcases hN with h2 | ⟨bm, k, h2, _⟩
  all_goals
   unfold World.cell? at h1
   rw [h2] at h1
   cases o with
   | zero => simp at h1
   | succ o => simp at h1
 have hem : ∀ (w : World) (r : Option Nat), (binOp .eql 96 (.map r) (.map none)).run Tryd.prog w = .ok (.bool r.isNone) w := fun w r => run_eql_map_nil w _ _ _ r Tryd.underlying96
 have hmm := @run_makeMap Tryd.prog
 obtain ⟨r, hr, hcase⟩ : ∃ r, w.heap[gn]? = some (.cells #[.map r] 98 (0, 0)) ∧ (r = none ∨ ∃ bm k, r = some bm ∧ k ≤ n ∧ HoldAt w gn bm k k f) := by
  rcases hN with h2 | ⟨bm, k, h2, h3, h4, h5⟩
  ·exact ⟨none, h2, .inl rfl⟩
  ·exact ⟨some bm, h2, .inr ⟨bm, k, rfl, by omega, h2, h3, h5⟩⟩
 have c0 := cell_of_row w gn 0 _ _ _ hr
 have HR := Lib.hid hr
 have HC := Lib.hid hcase
 have hmi : ¬ ((n : Int) ≤ 16) := by omega
 clear hall hF hd hn hr hcase hN
 go_enter Tryd.func75, Tryd.ntmps75
 go_upto_if 22 with fail
 go_cut [] from 22 to 26 (fun W => Hid (∃ bm k, k ≤ n ∧ HoldAt W gn bm k k f ∧ HMove gn w W))
 case first =>
  cases r with
  | none =>
   have HB : Hid (Below w.heap.size w (w.alloc (.map #[] 0))) := (Below.refl _ w).alloc (Nat.le_refl _) _
   have c1 := cell_keep HB.out c0
   have f1 : (w.alloc (.map #[] 0)).frozen? ⟨gn, 0, none⟩ = false := frozen_of_row _ gn 0 _ _ ((HB.out.block gn hgl).trans HR.out)
   have hss2 : (w.setCell ⟨gn, 0, none⟩ (.map (some w.heap.size))).heap.size = w.heap.size := by simp
   have HB2 : Hid (Below (w.setCell ⟨gn, 0, none⟩ (.map (some w.heap.size))).heap.size (w.setCell ⟨gn, 0, none⟩ (.map (some w.heap.size))) ((w.setCell ⟨gn, 0, none⟩ (.map (some w.heap.size))).alloc (.map #[] 0))) := (Below.refl _ _).alloc (Nat.le_refl _) _
   have HN2 : Hid (∃ bm k, k ≤ n ∧ HoldAt ((w.setCell ⟨gn, 0, none⟩ (.map (some w.heap.size))).alloc (.map #[] 0)) gn bm k k f ∧ HMove gn w ((w.setCell ⟨gn, 0, none⟩ (.map (some w.heap.size))).alloc (.map #[] 0))) := by
    refine ⟨w.heap.size, 0, Nat.zero_le _, ⟨?_, hgl, ?_⟩, (HMove.set _).trans (HMove.of_below HB2.out (by rw [hss2]; exact hgl))⟩
    ·exact (HB2.out.block gn (by rw [hss2]; exact hgl)).trans (set_map HR.out)
    ·have h1 := World.ownsMap_made (H := Unit) (w.setCell ⟨gn, 0, none⟩ (.map (some w.heap.size))) Tryd.prog 9 unitElem
     rw [hss2] at h1
     rw [setNms_zero]
     exact h1
   clear hss2 HB2
   go_wp2_with fail
   go_meet
   exact HN2
  | some bm =>
   have HN2 : Hid (∃ bm k, k ≤ n ∧ HoldAt w gn bm k k f ∧ HMove gn w w) := by
    rcases HC.out with e | ⟨bm2, k, e, hk, ha⟩
    ·cases e
    ·exact ⟨bm2, k, hk, ha, HMove.refl _ _⟩
   go_wp2_with fail
   go_meet
   exact HN2
 case rest =>
  obtain ⟨bm, k, hk, hO, hM⟩ := hcut.out
  have HO := Lib.hid hO
  have HM := Lib.hid hM
  have c1 := hO.cell
  have hsz := setNms_size f k (by have := HN.out; omega) HD.out
  have ZU : ∀ w, (zeroValue 109).run Tryd.prog w = .ok (.agg #[]) w := fun w => by kernel_rfl
  have KS : Maps.Keyed Tryd.prog 9 := Maps.string_keyed Tryd.underlying9
  have hlr := hO.2.2.len Tryd.underlying96 3
  rw [hsz] at hlr
  clear hcut hO hM c0 hmi HR HC
  by_cases hkn : k < n
  ·have hck : ¬ c = k := by omega
   have hck2 : ¬ (c : Int) = (k : Int) := by omega
   have hck3 : ¬ c - k = 0 := by omega
   go_wp2_with fail
   go_loopw [35] (fun i wr => ∃ j : Nat, i = .int .i64 j ∧ k + j ≤ n ∧ Hid (HoldAt wr gn bm (k + j) (k + j) f) ∧ Hid (HMove gn w wr)) (fun i _ => n - k - (intOf i).toNat)
   case atStart => exact ⟨0, rfl, hk, HO, HM⟩
   case round =>
    obtain ⟨j, rfl, hj, HOJ, HMJ⟩ := hrel
    by_cases hlt : k + j < n
    ·have hf : k + j < f.length := by rw [HN.out]; exact hlt
     obtain ⟨hnm, hnl, x1, x2, x3, a1, n1, c1x, a2, n2, c2, a3, n3, c3, hsix⟩ := HALL.out (k + j) hf
     obtain ⟨d0, d1, d2, d3, d4, d5, he6, s0, s1, s2, s3, s4, s5⟩ := hsix
     obtain ⟨rfl, rfl, rfl, rfl, rfl, rfl⟩ : d0 = .int .i64 x1 ∧ d1 = .int .i64 x2 ∧ d2 = .string x3 ∧ d3 = .slice a1 n1 c1x ∧ d4 = .slice a2 n2 c2 ∧ d5 = .slice a3 n3 c3 := by
      simp only [Value.agg.injEq, Array.mk.injEq, List.cons.injEq, and_true] at he6
      obtain ⟨e0, e1, e2, e3, e4, e5⟩ := he6
      exact ⟨e0.symm, e1.symm, e2.symm, e3.symm, e4.symm, e5.symm⟩
     clear he6
     have q0 := HMJ.out.cell hnm HG.out
     have q1 := HMJ.out.cell s0 HG.out
     have q2 := HMJ.out.cell s1 HG.out
     have q3 := HMJ.out.cell s2 HG.out
     have q4 := HMJ.out.cell s3 HG.out
     have q5 := HMJ.out.cell s4 HG.out
     have q6 := HMJ.out.cell s5 HG.out
     have eo : o + (k + j) * 7 = o + k * 7 + j * 7 := by omega
     rw [eo] at q0 q1 q2 q3 q4 q5 q6
     have HNX := Lib.hid (setNms_next f (k + j) hf)
     have hks := key_str f[k + j].1 (by unfold maxLen; omega)
     generalize f[k + j].1 = nm at *
     have hlj : j < n - k := by omega
     have hmx2 : k + j < maxLen := by unfold maxLen; omega
     clear s0 s1 s2 s3 s4 s5 hnm
     go_upto_region 8 with fail
     have HBX : Hid (Below wr.heap.size wr (wr.alloc (.cells #[.string nm, .int .i64 x1, .int .i64 x2, .string x3, .slice a1 n1 c1x, .slice a2 n2 c2, .slice a3 n3 c3] 59))) := (Below.refl _ wr).alloc (Nat.le_refl _) _
     have HOB := Lib.hid (HOJ.out.keep HBX.out)
     have cm := HOB.out.cell
     have cb : (wr.alloc (.cells #[.string nm, .int .i64 x1, .int .i64 x2, .string x3, .slice a1 n1 c1x, .slice a2 n2 c2, .slice a3 n3 c3] 59)).cell? ⟨wr.heap.size, 0, none⟩ = some (.string nm) := (cell_of_row _ _ 0 _ _ _ (heap_alloc_new wr _)).trans rfl
     have HMB := Lib.hid (HMJ.out.trans (HMove.of_below HBX.out HOJ.out.gl))
     generalize (wr.alloc (.cells #[.string nm, .int .i64 x1, .int .i64 x2, .string x3, .slice a1 n1 c1x, .slice a2 n2 c2, .slice a3 n3 c3] 59)) = W2 at *
     refine wp_region_still_tail 7 (by kernel_rfl) (by kernel_rfl) ?_
     simp only [List.take_succ_cons, List.take_zero, List.drop_succ_cons, List.drop_zero]
     iterate 7 still_step
     refine wpStill_nil ?_
     change wpList _ _ _ _ _ W2.drew
     have HOD : Hid (HoldAt W2.drew gn bm (k + j) (k + j) f) := HOB.out
     have HMD : Hid (HMove gn w W2.drew) := HMB.out
     refine wpList_mapUpdate_own _ rfl _ _ _ 96 rfl 9 109 KS Tryd.underlying96 (unitElem (H := Unit)) bm (k + j) _ rfl HOD.out.2.2 hmx2 _ _ _ rfl rfl hks _ [] unitElem_mk ?_
     intro w1 hown1 hgrow1
     have HO2 : Hid (HoldAt w1 gn bm (k + (j + 1)) (k + (j + 1)) f) := by
      refine ⟨(hgrow1.block gn HOD.out.gl (fun e => by have := Option.some.inj e; have := HOD.out.2.1; omega)).trans HOD.out.1, HOD.out.2.1, ?_⟩
      rw [show k + (j + 1) = k + j + 1 by omega, HNX.out]
      exact hown1
     have HM2 : Hid (HMove gn w w1) := HMD.out.trans (HMove.of_map hgrow1 (no_cells HOD.out.2.2) HOD.out.2.1 HOD.out.gl)
     clear hown1 hgrow1 HNX
     go_wp2_with fail
     go_roundw
     case rel => exact ⟨j + 1, by go_num, by omega, HO2, HM2⟩
     case measure => simp [intOf]; omega
    ·obtain rfl : j = n - k := by omega
     have HOE : Hid (HoldAt wr gn bm n n f) := by have h1 := HOJ.out; rw [show k + (n - k) = n by omega] at h1; exact h1
     have hme := HMJ.out
     have hce := HOE.out.cell
     have hks := key_str s (by unfold maxLen; omega)
     have hhas : Maps.has (setNms f n) (keyS s) = hasName f s := by have h1 := setNms_has f s; rw [HN.out] at h1; exact h1
     obtain ⟨hb, hhb⟩ : ∃ b, b = hasName f s := ⟨_, rfl⟩
     rw [← hhb] at hhas
     have HHB := Lib.hid hhb
     clear hhb
     have HME := Lib.hid hme
     clear hme
     go_wp2_with (at_lookup; refine wpList_lookup_own_unit _ rfl _ _ 96 rfl 9 109 KS Tryd.underlying96 (ZU _) bm n _ rfl HOE.out.2.2 _ _ rfl hks ?_; rw [hhas])
     go_ret
     have hBE := (Below.refl wr.heap.size wr).alloc (Nat.le_refl _) (.cells #[] 109)
     exact ⟨ret_eq (by rw [← HHB.out]; rfl), HME.out.trans (HMove.of_below hBE HOE.out.gl), .inr ⟨bm, n, (HOE.out.keep hBE).1, HOE.out.2.1, by rw [HN.out]; exact Nat.le_refl _, (HOE.out.keep hBE).2.2⟩⟩
  ·obtain rfl : k = n := by omega
   go_wp2_with fail
   all_goals
    go_loopw [35] (fun i wr => i = .int .i64 0 ∧ Hid (HoldAt wr gn bm k k f) ∧ Hid (HMove gn w wr)) (fun _ _ => 0)
    case atStart => exact ⟨rfl, HO, HM⟩
    case round =>
     obtain ⟨rfl, HOE, HMJ⟩ := hrel
     have hme := HMJ.out
     have hce := HOE.out.cell
     have hks := key_str s (by unfold maxLen; omega)
     have hhas : Maps.has (setNms f k) (keyS s) = hasName f s := by have h1 := setNms_has f s; rw [HN.out] at h1; exact h1
     obtain ⟨hb, hhb⟩ : ∃ b, b = hasName f s := ⟨_, rfl⟩
     rw [← hhb] at hhas
     have HHB := Lib.hid hhb
     clear hhb
     have HME := Lib.hid hme
     clear hme
     go_wp2_with (at_lookup; refine wpList_lookup_own_unit _ rfl _ _ 96 rfl 9 109 KS Tryd.underlying96 (ZU _) bm k _ rfl HOE.out.2.2 _ _ rfl hks ?_; rw [hhas])
     go_ret
     have hBE := (Below.refl wr.heap.size wr).alloc (Nat.le_refl _) (.cells #[] 109)
     exact ⟨ret_eq (by rw [← HHB.out]; rfl), HME.out.trans (HMove.of_below hBE HOE.out.gl), .inr ⟨bm, k, (HOE.out.keep hBE).1, HOE.out.2.1, by rw [HN.out]; exact Nat.le_refl _, (HOE.out.keep hBE).2.2⟩⟩
end Go.Proofs.YtngllchoiffniaaDoor
end
section
namespace Go.Proofs.YtngllchoiffniaaDoor
open Go.RowKit
open Seal
open Num
def Got (w : World) (g : Nat) (cs : Array Value) : Prop := w.heap[g]? = some (.cells cs 32 (0, 0))
theorem Got.lt {w : World} {g : Nat} {cs : Array Value} (h : Got w g cs) : g < w.heap.size := (Array.getElem?_eq_some_iff.1 h).1
theorem Got.keep {w w' : World} {g : Nat} {cs : Array Value} (h : Got w g cs) (hb : Below w.heap.size w w') : Got w' g cs := (hb.block g h.lt).trans h
theorem Got.cell {w : World} {g : Nat} {cs : Array Value} (h : Got w g cs) (j : Nat) (v : Value) (hj : cs[j]? = some v) : w.cell? ⟨g, j, none⟩ = some v := (cell_of_row w g j _ _ _ h).trans hj
theorem Got.frozen {w : World} {g : Nat} {cs : Array Value} (h : Got w g cs) (j : Nat) : w.frozen? ⟨g, j, none⟩ = false := frozen_of_row w g j _ _ h
theorem Got.new (w : World) (cs : Array Value) : Got (w.alloc (.cells cs 32)) w.heap.size cs := heap_alloc_new w _
def R3 (w : World) (ca cb : Array Value) (wr : World) : Prop := Got wr w.heap.size ca ∧ Got wr (w.heap.size + 1) cb ∧ Got wr (w.heap.size + 2) #[.int .i64 0, .int .i64 0, .string ⟨#[]⟩, .slice none 0 0, .slice none 0 0, .slice none 0 0] ∧ Below w.heap.size w wr
theorem R3.step {w wr w' : World} {ca cb : Array Value} (h : R3 w ca cb wr) (hb : Below wr.heap.size wr w') : R3 w ca cb w' := ⟨h.1.keep hb, h.2.1.keep hb, h.2.2.1.keep hb, h.2.2.2.trans (hb.mono h.2.2.2.size)⟩
theorem R3.new (w : World) (ca cb : Array Value) : R3 w ca cb (((w.alloc (.cells ca 32)).alloc (.cells cb 32)).alloc (.cells #[.int .i64 0, .int .i64 0, .string ⟨#[]⟩, .slice none 0 0, .slice none 0 0, .slice none 0 0] 32)) := by
 have h1 := Got.new w ca
 have h2 := Got.new (w.alloc (.cells ca 32)) cb
 have h3 := Got.new ((w.alloc (.cells ca 32)).alloc (.cells cb 32)) #[.int .i64 0, .int .i64 0, .string ⟨#[]⟩, .slice none 0 0, .slice none 0 0, .slice none 0 0]
 have k2 : Below (w.alloc (.cells ca 32)).heap.size (w.alloc (.cells ca 32)) ((w.alloc (.cells ca 32)).alloc (.cells cb 32)) := (Below.refl _ _).alloc (Nat.le_refl _) _
 have k3 : Below ((w.alloc (.cells ca 32)).alloc (.cells cb 32)).heap.size ((w.alloc (.cells ca 32)).alloc (.cells cb 32)) (((w.alloc (.cells ca 32)).alloc (.cells cb 32)).alloc (.cells #[.int .i64 0, .int .i64 0, .string ⟨#[]⟩, .slice none 0 0, .slice none 0 0, .slice none 0 0] 32)) := (Below.refl _ _).alloc (Nat.le_refl _) _
 have e1 : (w.alloc (.cells ca 32)).heap.size = w.heap.size + 1 := by simp
 have e2 : ((w.alloc (.cells ca 32)).alloc (.cells cb 32)).heap.size = w.heap.size + 2 := by simp
 have h1' := (h1.keep k2).keep k3
 have h2' := h2.keep k3
 rw [e1] at h2'
 rw [e2] at h3
 exact ⟨h1', h2', h3, (((Below.refl _ w).alloc (Nat.le_refl _) _).alloc (by simp) _).alloc (by simp; omega) _⟩
def Six6 (w : World) (g : Nat) (c0 c1 c2 c3 c4 c5 : Value) : Prop := w.cell? ⟨g, 0, none⟩ = some c0 ∧ w.cell? ⟨g, 1, none⟩ = some c1 ∧ w.cell? ⟨g, 2, none⟩ = some c2 ∧ w.cell? ⟨g, 3, none⟩ = some c3 ∧ w.cell? ⟨g, 4, none⟩ = some c4 ∧ w.cell? ⟨g, 5, none⟩ = some c5
theorem Got.six {w : World} {g : Nat} {c0 c1 c2 c3 c4 c5 : Value} (h : Got w g #[c0, c1, c2, c3, c4, c5]) : Six6 w g c0 c1 c2 c3 c4 c5 := ⟨h.cell 0 _ rfl, h.cell 1 _ rfl, h.cell 2 _ rfl, h.cell 3 _ rfl, h.cell 4 _ rfl, h.cell 5 _ rfl⟩
theorem R3.all {w wr : World} {c0 c1 c2 c3 c4 c5 d0 d1 d2 d3 d4 d5 : Value} (h : R3 w #[c0, c1, c2, c3, c4, c5] #[d0, d1, d2, d3, d4, d5] wr) :
  Six6 wr w.heap.size c0 c1 c2 c3 c4 c5 ∧ Six6 wr (w.heap.size + 1) d0 d1 d2 d3 d4 d5 ∧ Six6 wr (w.heap.size + 2) (.int .i64 0) (.int .i64 0) (.string ⟨#[]⟩) (.slice none 0 0) (.slice none 0 0) (.slice none 0 0) ∧
   wr.frozen? ⟨w.heap.size + 2, 0, none⟩ = false ∧ wr.frozen? ⟨w.heap.size + 2, 1, none⟩ = false ∧ wr.frozen? ⟨w.heap.size + 2, 2, none⟩ = false ∧ wr.frozen? ⟨w.heap.size + 2, 3, none⟩ = false ∧ wr.frozen? ⟨w.heap.size + 2, 4, none⟩ = false ∧ wr.frozen? ⟨w.heap.size + 2, 5, none⟩ = false :=
 ⟨h.1.six, h.2.1.six, h.2.2.1.six, h.2.2.1.frozen 0, h.2.2.1.frozen 1, h.2.2.1.frozen 2, h.2.2.1.frozen 3, h.2.2.1.frozen 4, h.2.2.1.frozen 5⟩
theorem below_six {w w' : World} {B : Nat} (h : Below w.heap.size w w') (hB : w.heap.size ≤ B) (v0 v1 v2 v3 v4 v5 : Value) :
  Below w.heap.size w ((((((w'.setCell ⟨B, 0, none⟩ v0).setCell ⟨B, 1, none⟩ v1).setCell ⟨B, 2, none⟩ v2).setCell ⟨B, 3, none⟩ v3).setCell ⟨B, 4, none⟩ v4).setCell ⟨B, 5, none⟩ v5) :=
 (((((h.setCell hB _).setCell hB _).setCell hB _).setCell hB _).setCell hB _).setCell hB _
def ValE (r : Int × Int × Int) (w : World) (e : Ending) (w' : World) : Prop := e = .returned (.tuple #[.agg #[.int .i64 r.1, .int .i64 r.2.1, .string ⟨#[]⟩, .slice none 0 0, .slice none 0 0, .slice none 0 0], .int .i64 r.2.2]) ∧ Below w.heap.size w w'
theorem val_e {r : Int × Int × Int} {k n e : Int} {w w' : World} (h : r = (k, n, e)) (hb : Below w.heap.size w w') : ValE r w (.returned (.tuple #[.agg #[.int .i64 k, .int .i64 n, .string ⟨#[]⟩, .slice none 0 0, .slice none 0 0, .slice none 0 0], .int .i64 e])) w' := by subst h; exact ⟨rfl, hb⟩
namespace Num
def reck (o : Int × Int) (ak bk : Int) : Int × Int × Int :=
 if noneB ak = true then (2, 0, 0) else if noneB bk = true then (2, 0, 0) else if numB ak = false then (0, 0, 12) else if numB bk = false then (0, 0, 12) else
  if o.2 ≠ 0 then (0, 0, o.2) else if ak = 4 then (4, o.1, 0) else if bk = 4 then (4, o.1, 0) else (ofK o.1, o.1, 0)
end Num
end Go.Proofs.YtngllchoiffniaaDoor
end
