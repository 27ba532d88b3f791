/- OrderLeaf, PathCopyF, Seven, ValBuild, NumBox, OrderRowsIn, OrderText, PathEachF, PathEachV, NumRkAny. -/
import Derived.Lib.BytesEntry
import Derived.Lib.Bytealg
import Derived.Laws.Externs
import Derived.BigQuiet
import Derived.Deep.QuietTactic
import Derived.IntWalk
import Derived.WalkSpells
import Derived.Test.YtiajjgehnmkokaaGreatDoorMl1
import Derived.Test.YtiajjgehnmkokaaGreatDoorMl2
import Derived.Test.YtiajjgehnmkokaaGreatDoorMl0
set_option maxRecDepth 100000
set_option maxHeartbeats 20000000
section
namespace Go.Proofs.YtiajjgehnmkokaaGreatDoor
open Go.RowKit
open Seal
theorem nan_int (k : Int) (w : World) : Calls Tryz.prog 167 #[.int .i64 k] w fun e w' => e = .returned (.bool false) ∧ w = w' := by
 go_enter Tryz.func167, Tryz.ntmps167
 go_wp2
 go_ret
 exact ⟨rfl, rfl⟩
theorem nan_i64 (k : Int) (w : World) : Calls Tryz.prog 168 #[.int .i64 k] w fun e w' => e = .returned (.bool false) ∧ w = w' := by
 go_enter Tryz.func168, Tryz.ntmps168
 go_wp2
 go_ret
 exact ⟨rfl, rfl⟩
theorem cmpInt_any (a b : Int) (w : World) : Calls Tryz.prog 156 #[.int .i64 a, .int .i64 b] w (IntPost (Order.sgn a b) w) := by
 rcases Int.lt_trichotomy a b with h | h | h
 ·have HC := Lib.hid (Order.sgn_lt h)
  go_enter Tryz.func156, Tryz.ntmps156
  go_wp2_with (go_at_call 167; refine (nan_int _ _).mono ?_; rintro e w' ⟨rfl, rfl⟩)
  go_ret
  exact ⟨ret_i HC.out.symm, rfl⟩
 ·subst h
  have HC := Lib.hid (Order.sgn_self a)
  go_enter Tryz.func156, Tryz.ntmps156
  go_wp2_with (go_at_call 167; refine (nan_int _ _).mono ?_; rintro e w' ⟨rfl, rfl⟩)
  go_ret
  exact ⟨ret_i HC.out.symm, rfl⟩
 ·have HC := Lib.hid (Order.sgn_gt h)
  have h' : ¬ a < b := by omega
  go_enter Tryz.func156, Tryz.ntmps156
  go_wp2_with (go_at_call 167; refine (nan_int _ _).mono ?_; rintro e w' ⟨rfl, rfl⟩)
  go_ret
  exact ⟨ret_i HC.out.symm, rfl⟩
theorem cmpI64_any (a b : Int) (w : World) : Calls Tryz.prog 157 #[.int .i64 a, .int .i64 b] w (IntPost (Order.sgn a b) w) := by
 rcases Int.lt_trichotomy a b with h | h | h
 ·have HC := Lib.hid (Order.sgn_lt h)
  go_enter Tryz.func157, Tryz.ntmps157
  go_wp2_with (go_at_call 168; refine (nan_i64 _ _).mono ?_; rintro e w' ⟨rfl, rfl⟩)
  go_ret
  exact ⟨ret_i HC.out.symm, rfl⟩
 ·subst h
  have HC := Lib.hid (Order.sgn_self a)
  go_enter Tryz.func157, Tryz.ntmps157
  go_wp2_with (go_at_call 168; refine (nan_i64 _ _).mono ?_; rintro e w' ⟨rfl, rfl⟩)
  go_ret
  exact ⟨ret_i HC.out.symm, rfl⟩
 ·have HC := Lib.hid (Order.sgn_gt h)
  have h' : ¬ a < b := by omega
  go_enter Tryz.func157, Tryz.ntmps157
  go_wp2_with (go_at_call 168; refine (nan_i64 _ _).mono ?_; rintro e w' ⟨rfl, rfl⟩)
  go_ret
  exact ⟨ret_i HC.out.symm, rfl⟩
theorem strCmp_any (a b : ByteArray) (w : World) : Calls Tryz.prog 158 #[.string a, .string b] w (IntPost (Order.text a b) w) := by
 refine (Tryz.strings_Compare a b w).mono ?_
 rintro e w' ⟨rfl, rfl⟩
 exact ⟨by rw [Order.compareBytes_text], rfl⟩
theorem run_bytesOf (w : World) (a : Option Addr) (l : List Nat) (n c : Nat) (hl : l.length = n) (h : SliceIs w a l) : (Extern.Bytes.bytesOf (.slice a n c)).run Tryz.prog w = .ok (strB l) w := by
 rcases h with rfl | ⟨g, o, rfl, hr⟩
 ·subst hl
  cases a with
  | none => rfl
  | some p => rfl
 ·have hx : (l.map fun x : Nat => (x : Int)).length = n := by simp [hl]
  have hq := Lib.run_loadBytesX (P := Tryz.prog) w (l.map fun x : Nat => (x : Int)) ⟨g, o, none⟩ .empty (fun j x hj => by
   have hjl : j < l.length := by have := (List.getElem?_eq_some_iff.1 hj).1; simpa using this
   have e : (⟨g, o, none⟩ : Addr).add j = ⟨g, o + j, none⟩ := by unfold Addr.add; split <;> simp_all
   rw [e, hr j hjl]
   have hj' : (l.map fun x : Nat => (x : Int))[j]? = some ((l.getD j 0 : Nat) : Int) := by simp [List.getD_eq_getElem?_getD, List.getElem?_eq_getElem hjl]
   rw [hj'] at hj
   rw [Option.some.inj hj])
  rw [hx] at hq
  show (Extern.Bytes.loadBytes ⟨g, o, none⟩ n .empty).run Tryz.prog w = _
  rw [hq]
  congr 1
  apply ByteArray.ext
  show (#[] : Array UInt8) ++ (Lib.bytesOf _).toArray = _
  unfold Lib.bytesOf strB
  rw [List.map_map]
  simp
theorem map_nat {l : List Nat} (h : Oct l) : (l.map UInt8.ofNat).map UInt8.toNat = l := by
 rw [List.map_map]
 conv => rhs; rw [← List.map_id l]
 apply List.map_congr_left
 intro x hx
 have := h x hx
 simp [Nat.mod_eq_of_lt this]
theorem bytes_strB {l : List Nat} (h : Oct l) : Order.bytes (strB l) = l := by
 unfold Order.bytes strB
 simpa using map_nat h
theorem run_octs (w : World) (a b : Option Addr) (l m : List Nat) (n c n2 c2 : Nat) (hl : l.length = n) (hm : m.length = n2) (h : SliceIs w a l) (h2 : SliceIs w b m) (ho : Oct l) (ho2 : Oct m) :
  (Extern.BytealgCompare.compare #[.slice a n c, .slice b n2 c2]).run Tryz.prog w = .ok (.int .i64 (Order.octs l m)) w := by
 change Sem.run Tryz.prog (do pure (goInt (Extern.BytealgCompare.cmp (← Extern.Bytes.bytesOf (.slice a n c)) (← Extern.Bytes.bytesOf (.slice b n2 c2))))) w = _
 simp only [Sem.run_bind, Sem.run_pure, Result.andThen, run_bytesOf w a l n c hl h, run_bytesOf w b m n2 c2 hm h2]
 rw [Lib.cmp_eq, Order.compareBytes_text, Order.text, bytes_strB ho, bytes_strB ho2]
 rfl
theorem bytesCmp_any (w : World) (a b : Option Addr) (l m : List Nat) (n c n2 c2 : Nat) (hl : l.length = n) (hm : m.length = n2) (h : SliceIs w a l) (h2 : SliceIs w b m) (ho : Oct l) (ho2 : Oct m) :
  Calls Tryz.prog 163 #[.slice a n c, .slice b n2 c2] w (IntPost (Order.octs l m) w) := by
 have hcall := run_callFunc_extern Tryz.func170 (by kernel_rfl) (by kernel_rfl) (by kernel_rfl) (e := Extern.BytealgCompare.compare) (by kernel_rfl) #[.slice a n c, .slice b n2 c2] w
 rw [run_octs w a b l m n c n2 c2 hl hm h h2 ho ho2] at hcall
 have HC := Lib.hid hcall
 clear hcall h h2 ho ho2 hl hm
 go_enter Tryz.func163, Tryz.ntmps163
 go_wp2
 rw [HC.out]
 simp only [Result.andThen]
 rw [Oper.upon_value]
 go_wp2
 go_ret
 exact ⟨rfl, rfl⟩
end Go.Proofs.YtiajjgehnmkokaaGreatDoor
end
section
namespace Go.Proofs.YtiajjgehnmkokaaGreatDoor
open Go.RowKit
open Seal
open Bson (Val)
def CopyPost (w : World) (h : Nat) (x : Val) (e : Ending) (w' : World) : Prop := ∃ v', e = .returned v' ∧ VIn w' (fun g => w.heap.size ≤ g) h x v' ∧ Below w.heap.size w w'
def CopyAt (Q : Nat → Prop) (h : Nat) : Prop := ∀ (x : Val) (v : Value) (w : World), VIn w Q h x v → Calls Tryz.prog 25 #[v] w (CopyPost w h x)
def BoxF (nm : ByteArray) (c0 c1 c2 c3 c4 c5 : Value) (w W : World) : Prop := W.heap[w.heap.size]? = some (.cells #[Value.string nm, c0, c1, c2, c3, c4, c5] 40 (0, 0)) ∧ W.heap[w.heap.size + 1]? = some (.cells #[Value.string ⟨#[]⟩, .int .i64 0, .int .i64 0, .string ⟨#[]⟩, .slice none 0 0, .slice none 0 0, .slice none 0 0] 40 (0, 0))
theorem BoxF.facts {nm : ByteArray} {c0 c1 c2 c3 c4 c5 : Value} {w W : World} (h : BoxF nm c0 c1 c2 c3 c4 c5 w W) : W.cell? ⟨w.heap.size, 0, none⟩ = some (.string nm) ∧ W.cell? ⟨w.heap.size, 1, none⟩ = some c0 ∧ W.cell? ⟨w.heap.size, 2, none⟩ = some c1 ∧ W.cell? ⟨w.heap.size, 3, none⟩ = some c2 ∧ W.cell? ⟨w.heap.size, 4, none⟩ = some c3 ∧ W.cell? ⟨w.heap.size, 5, none⟩ = some c4 ∧ W.cell? ⟨w.heap.size, 6, none⟩ = some c5 :=
 ⟨(cell_of_row W _ 0 _ _ _ h.1).trans rfl, (cell_of_row W _ 1 _ _ _ h.1).trans rfl, (cell_of_row W _ 2 _ _ _ h.1).trans rfl, (cell_of_row W _ 3 _ _ _ h.1).trans rfl, (cell_of_row W _ 4 _ _ _ h.1).trans rfl, (cell_of_row W _ 5 _ _ _ h.1).trans rfl, (cell_of_row W _ 6 _ _ _ h.1).trans rfl⟩
theorem BoxF.zeros {nm : ByteArray} {c0 c1 c2 c3 c4 c5 : Value} {w W : World} (h : BoxF nm c0 c1 c2 c3 c4 c5 w W) : W.cell? ⟨w.heap.size + 1, 0, none⟩ = some (.string ⟨#[]⟩) ∧ W.cell? ⟨w.heap.size + 1, 1, none⟩ = some (.int .i64 0) ∧ W.cell? ⟨w.heap.size + 1, 2, none⟩ = some (.int .i64 0) ∧ W.cell? ⟨w.heap.size + 1, 3, none⟩ = some (.string ⟨#[]⟩) ∧ W.cell? ⟨w.heap.size + 1, 4, none⟩ = some (.slice none 0 0) ∧ W.cell? ⟨w.heap.size + 1, 5, none⟩ = some (.slice none 0 0) ∧ W.cell? ⟨w.heap.size + 1, 6, none⟩ = some (.slice none 0 0) ∧ W.frozen? ⟨w.heap.size + 1, 0, none⟩ = false ∧ W.frozen? ⟨w.heap.size + 1, 1, none⟩ = false ∧ W.frozen? ⟨w.heap.size + 1, 2, none⟩ = false ∧ W.frozen? ⟨w.heap.size + 1, 3, none⟩ = false ∧ W.frozen? ⟨w.heap.size + 1, 4, none⟩ = false ∧ W.frozen? ⟨w.heap.size + 1, 5, none⟩ = false ∧ W.frozen? ⟨w.heap.size + 1, 6, none⟩ = false :=
 ⟨(cell_of_row W _ 0 _ _ _ h.2).trans rfl, (cell_of_row W _ 1 _ _ _ h.2).trans rfl, (cell_of_row W _ 2 _ _ _ h.2).trans rfl, (cell_of_row W _ 3 _ _ _ h.2).trans rfl, (cell_of_row W _ 4 _ _ _ h.2).trans rfl, (cell_of_row W _ 5 _ _ _ h.2).trans rfl, (cell_of_row W _ 6 _ _ _ h.2).trans rfl, frozen_of_row W _ 0 _ _ h.2, frozen_of_row W _ 1 _ _ h.2, frozen_of_row W _ 2 _ _ h.2, frozen_of_row W _ 3 _ _ h.2, frozen_of_row W _ 4 _ _ h.2, frozen_of_row W _ 5 _ _ h.2, frozen_of_row W _ 6 _ _ h.2⟩
theorem BoxF.after {nm : ByteArray} {c0 c1 c2 c3 c4 c5 : Value} {w W : World} (h : BoxF nm c0 c1 c2 c3 c4 c5 w W) (vs : List Value) : (W.setCells (w.heap.size + 1) 0 vs).cell? ⟨w.heap.size, 0, none⟩ = some (.string nm) ∧ (W.setCells (w.heap.size + 1) 0 vs).cell? ⟨w.heap.size, 1, none⟩ = some c0 ∧ (W.setCells (w.heap.size + 1) 0 vs).cell? ⟨w.heap.size, 2, none⟩ = some c1 ∧ (W.setCells (w.heap.size + 1) 0 vs).cell? ⟨w.heap.size, 3, none⟩ = some c2 ∧ (W.setCells (w.heap.size + 1) 0 vs).cell? ⟨w.heap.size, 4, none⟩ = some c3 ∧ (W.setCells (w.heap.size + 1) 0 vs).cell? ⟨w.heap.size, 5, none⟩ = some c4 ∧ (W.setCells (w.heap.size + 1) 0 vs).cell? ⟨w.heap.size, 6, none⟩ = some c5 := by
 have e : (W.setCells (w.heap.size + 1) 0 vs).heap[w.heap.size]? = _ := (puts_other (w.heap.size + 1) w.heap.size (by omega) vs W 0).trans h.1
 exact ⟨(cell_of_row _ _ 0 _ _ _ e).trans rfl, (cell_of_row _ _ 1 _ _ _ e).trans rfl, (cell_of_row _ _ 2 _ _ _ e).trans rfl, (cell_of_row _ _ 3 _ _ _ e).trans rfl, (cell_of_row _ _ 4 _ _ _ e).trans rfl, (cell_of_row _ _ 5 _ _ _ e).trans rfl, (cell_of_row _ _ 6 _ _ _ e).trans rfl⟩
theorem BoxF.row {nm : ByteArray} {c0 c1 c2 c3 c4 c5 : Value} {w W : World} (h : BoxF nm c0 c1 c2 c3 c4 c5 w W) : Row6 W (w.heap.size + 1) 40 7 := ⟨_, h.2, rfl⟩
theorem BoxF.new (nm : ByteArray) (c0 c1 c2 c3 c4 c5 : Value) (w : World) : BoxF nm c0 c1 c2 c3 c4 c5 w ((w.alloc (.cells #[Value.string nm, c0, c1, c2, c3, c4, c5] 40)).alloc (.cells #[Value.string ⟨#[]⟩, .int .i64 0, .int .i64 0, .string ⟨#[]⟩, .slice none 0 0, .slice none 0 0, .slice none 0 0] 40)) :=
 ⟨(Below.heap_alloc _ _ _ (by simp)).trans (heap_alloc_new w _), by have := heap_alloc_new (w.alloc (.cells #[Value.string nm, c0, c1, c2, c3, c4, c5] 40)) (.cells #[Value.string ⟨#[]⟩, .int .i64 0, .int .i64 0, .string ⟨#[]⟩, .slice none 0 0, .slice none 0 0, .slice none 0 0] 40); simpa using this⟩
theorem BoxF.keep {nm : ByteArray} {c0 c1 c2 c3 c4 c5 : Value} {w W W' : World} (h : BoxF nm c0 c1 c2 c3 c4 c5 w W) (hb : Below W.heap.size W W') : BoxF nm c0 c1 c2 c3 c4 c5 w W' :=
 ⟨(hb.block _ (Array.getElem?_eq_some_iff.1 h.1).1).trans h.1, (hb.block _ (Array.getElem?_eq_some_iff.1 h.2).1).trans h.2⟩
theorem copyfield_any (Q : Nat → Prop) (h : Nat) (IH0 : CopyAt Q h) (nm : ByteArray) (x : Val) (c0 c1 c2 c3 c4 c5 : Value) (w : World) (hv : VIn w Q h x (.agg #[c0, c1, c2, c3, c4, c5])) :
  Calls Tryz.prog 44 #[.agg #[.string nm, c0, c1, c2, c3, c4, c5]] w fun e w' => ∃ c0 c1 c2 c3 c4 c5, e = .returned (.agg #[.string nm, c0, c1, c2, c3, c4, c5]) ∧ VIn w' (fun g => w.heap.size ≤ g) h x (.agg #[c0, c1, c2, c3, c4, c5]) ∧ Below w.heap.size w w' := by
 have IH := Lib.hid IH0
 have HV := Lib.hid hv
 have HX := Lib.hid (BoxF.new nm c0 c1 c2 c3 c4 c5 w)
 clear hv IH0
 go_enter Tryz.func44, Tryz.ntmps44
 go_wp2_with fail
 generalize hW0 : (w.alloc (Obj.cells #[Value.string nm, c0, c1, c2, c3, c4, c5] 40)).alloc (Obj.cells #[Value.string ⟨#[]⟩, Value.int .i64 0, Value.int .i64 0, Value.string ⟨#[]⟩, Value.slice none 0 0, Value.slice none 0 0, Value.slice none 0 0] 40) = W0 at HX ⊢
 have HB0 : Hid (Below w.heap.size w W0) := by
  rw [← hW0]; exact ((Below.refl _ w).alloc (Nat.le_refl _) _).alloc (by simp) _
 have HS0 : Hid (w.heap.size + 2 ≤ W0.heap.size) := by rw [← hW0]; show _ ≤ _; simp
 clear hW0
 have HVW := Lib.hid (VIn.keep HB0.out HV.out)
 have hf := HX.out.facts
 go_region_held3 (fun W => W.cell? ⟨w.heap.size, 0, none⟩ = some (.string nm) ∧ W.cell? ⟨w.heap.size, 1, none⟩ = some c0 ∧ W.cell? ⟨w.heap.size, 2, none⟩ = some c1 ∧ W.cell? ⟨w.heap.size, 3, none⟩ = some c2 ∧ W.cell? ⟨w.heap.size, 4, none⟩ = some c3 ∧ W.cell? ⟨w.heap.size, 5, none⟩ = some c4 ∧ W.cell? ⟨w.heap.size, 6, none⟩ = some c5)
  (first | with_reducible exact hf | with_reducible exact hf2 | with_reducible exact hf3 | go_keep)
  ((go_at_call 25; refine (IH.out x _ W0.drew (VIn.keep ((Below.refl _ W0).drew) HVW.out)).mono ?_; rintro e w' ⟨v', rfl, hv', hb'⟩; obtain ⟨ka, na, sa, ba, fa, la, bl, bc, fl, fc, ll, lc, rfl⟩ := hv'.shape; have HV' := Lib.hid hv'; have HB' : Hid (Below W0.heap.size W0 w') := (Below.refl _ W0).drew.trans hb'; have HX' := Lib.hid (HX.out.keep HB'.out); have hf2 := HX'.out.facts; obtain ⟨g0, g1, g2, g3, g4, g5, g6, g7, g8, g9, g10, g11, g12, g13⟩ := HX'.out.zeros; have hf3 : (((((((w'.setCell ⟨w.heap.size + 1, 0, none⟩ (.string nm)).setCell ⟨w.heap.size + 1, 1, none⟩ (.int .i64 ka)).setCell ⟨w.heap.size + 1, 2, none⟩ (.int .i64 na)).setCell ⟨w.heap.size + 1, 3, none⟩ (.string sa)).setCell ⟨w.heap.size + 1, 4, none⟩ (.slice ba bl bc)).setCell ⟨w.heap.size + 1, 5, none⟩ (.slice fa fl fc)).setCell ⟨w.heap.size + 1, 6, none⟩ (.slice la ll lc)).cell? ⟨w.heap.size, 0, none⟩ = some (.string nm) ∧ (((((((w'.setCell ⟨w.heap.size + 1, 0, none⟩ (.string nm)).setCell ⟨w.heap.size + 1, 1, none⟩ (.int .i64 ka)).setCell ⟨w.heap.size + 1, 2, none⟩ (.int .i64 na)).setCell ⟨w.heap.size + 1, 3, none⟩ (.string sa)).setCell ⟨w.heap.size + 1, 4, none⟩ (.slice ba bl bc)).setCell ⟨w.heap.size + 1, 5, none⟩ (.slice fa fl fc)).setCell ⟨w.heap.size + 1, 6, none⟩ (.slice la ll lc)).cell? ⟨w.heap.size, 1, none⟩ = some c0 ∧ (((((((w'.setCell ⟨w.heap.size + 1, 0, none⟩ (.string nm)).setCell ⟨w.heap.size + 1, 1, none⟩ (.int .i64 ka)).setCell ⟨w.heap.size + 1, 2, none⟩ (.int .i64 na)).setCell ⟨w.heap.size + 1, 3, none⟩ (.string sa)).setCell ⟨w.heap.size + 1, 4, none⟩ (.slice ba bl bc)).setCell ⟨w.heap.size + 1, 5, none⟩ (.slice fa fl fc)).setCell ⟨w.heap.size + 1, 6, none⟩ (.slice la ll lc)).cell? ⟨w.heap.size, 2, none⟩ = some c1 ∧ (((((((w'.setCell ⟨w.heap.size + 1, 0, none⟩ (.string nm)).setCell ⟨w.heap.size + 1, 1, none⟩ (.int .i64 ka)).setCell ⟨w.heap.size + 1, 2, none⟩ (.int .i64 na)).setCell ⟨w.heap.size + 1, 3, none⟩ (.string sa)).setCell ⟨w.heap.size + 1, 4, none⟩ (.slice ba bl bc)).setCell ⟨w.heap.size + 1, 5, none⟩ (.slice fa fl fc)).setCell ⟨w.heap.size + 1, 6, none⟩ (.slice la ll lc)).cell? ⟨w.heap.size, 3, none⟩ = some c2 ∧ (((((((w'.setCell ⟨w.heap.size + 1, 0, none⟩ (.string nm)).setCell ⟨w.heap.size + 1, 1, none⟩ (.int .i64 ka)).setCell ⟨w.heap.size + 1, 2, none⟩ (.int .i64 na)).setCell ⟨w.heap.size + 1, 3, none⟩ (.string sa)).setCell ⟨w.heap.size + 1, 4, none⟩ (.slice ba bl bc)).setCell ⟨w.heap.size + 1, 5, none⟩ (.slice fa fl fc)).setCell ⟨w.heap.size + 1, 6, none⟩ (.slice la ll lc)).cell? ⟨w.heap.size, 4, none⟩ = some c3 ∧ (((((((w'.setCell ⟨w.heap.size + 1, 0, none⟩ (.string nm)).setCell ⟨w.heap.size + 1, 1, none⟩ (.int .i64 ka)).setCell ⟨w.heap.size + 1, 2, none⟩ (.int .i64 na)).setCell ⟨w.heap.size + 1, 3, none⟩ (.string sa)).setCell ⟨w.heap.size + 1, 4, none⟩ (.slice ba bl bc)).setCell ⟨w.heap.size + 1, 5, none⟩ (.slice fa fl fc)).setCell ⟨w.heap.size + 1, 6, none⟩ (.slice la ll lc)).cell? ⟨w.heap.size, 5, none⟩ = some c4 ∧ (((((((w'.setCell ⟨w.heap.size + 1, 0, none⟩ (.string nm)).setCell ⟨w.heap.size + 1, 1, none⟩ (.int .i64 ka)).setCell ⟨w.heap.size + 1, 2, none⟩ (.int .i64 na)).setCell ⟨w.heap.size + 1, 3, none⟩ (.string sa)).setCell ⟨w.heap.size + 1, 4, none⟩ (.slice ba bl bc)).setCell ⟨w.heap.size + 1, 5, none⟩ (.slice fa fl fc)).setCell ⟨w.heap.size + 1, 6, none⟩ (.slice la ll lc)).cell? ⟨w.heap.size, 6, none⟩ = some c5 := HX'.out.after [.string nm, .int .i64 ka, .int .i64 na, .string sa, .slice ba bl bc, .slice fa fl fc, .slice la ll lc]; clear hv' hb'))
 have HBw : Hid (Below w.heap.size w w') := HB0.out.trans (HB'.out.mono (by have := HS0.out; omega))
 have hk := puts_kept (fun g => W0.heap.size ≤ g) (w := w') (G := w.heap.size + 1) (by have := HS0.out; omega) 0 [.string nm, .int .i64 ka, .int .i64 na, .string sa, .slice ba bl bc, .slice fa fl fc, .slice la ll lc]
 have hb9 := puts_below HBw.out (G := w.heap.size + 1) (by omega) [.string nm, .int .i64 ka, .int .i64 na, .string sa, .slice ba bl bc, .slice fa fl fc, .slice la ll lc] 0
 have hv9 := HV'.out.kept hk (Q' := fun g => w.heap.size ≤ g) (fun g hg => by have := HS0.out; omega)
 clear hf2 hf3 hf
 go_wp2_with fail
 exact bodyPost_ret (v := .agg #[.string nm, .int .i64 ka, .int .i64 na, .string sa, .slice ba bl bc, .slice fa fl fc, .slice la ll lc]) (by simp [results, Tryz.results44, go_sem, g0, g1, g2, g3, g4, g5, g6]) rfl ⟨_, _, _, _, _, _, rfl, hv9, hb9⟩
end Go.Proofs.YtiajjgehnmkokaaGreatDoor
end
section
namespace Go.Proofs.YtiajjgehnmkokaaGreatDoor
open Go.RowKit
open Seal
theorem infoField : (Tryz.prog.info? 40).map (fun i => (i.zero, i.size, i.bytes)) = some (some (.agg #[.string ⟨#[]⟩, .int .i64 0, .int .i64 0, .string ⟨#[]⟩, .slice none 0 0, .slice none 0 0, .slice none 0 0]), 7, 120) := by kernel_rfl
theorem seven_new (w : World) (c0 c1 c2 c3 c4 c5 c6 : Value) (t : TypeId) : ∀ j u, ([c0, c1, c2, c3, c4, c5, c6] : List Value)[j]? = some u → (w.alloc (.cells #[c0, c1, c2, c3, c4, c5, c6] t)).cell? (Addr.add ⟨w.heap.size, 0, none⟩ j) = some u := by
 intro j u hj
 rw [Addr.add_mid, Nat.zero_add, cell_of_row _ _ j _ _ _ (heap_alloc_new w _)]
 simpa using hj
theorem seven_one (nm : ByteArray) (k n : Int) (s : ByteArray) (ba fa la : Option Addr) (bl bc fl fc ll lc : Nat) : ∀ u ∈ ([.string nm, .int .i64 k, .int .i64 n, .string s, .slice ba bl bc, .slice fa fl fc, .slice la ll lc] : List Value), u.oneCell' = true := by
 intro u hu
 simp at hu
 rcases hu with rfl | rfl | rfl | rfl | rfl | rfl | rfl <;> rfl
end Go.Proofs.YtiajjgehnmkokaaGreatDoor
end
section
namespace Go.Proofs.YtiajjgehnmkokaaGreatDoor
open Go.RowKit
open Seal
open Bson (Val)
theorem plain_lim (k n : Int) (f : List (ByteArray × Val)) (l : List Val) (hk : -9223372036854775808 ≤ k ∧ k ≤ 9223372036854775807) (hn : -9223372036854775808 ≤ n ∧ n ≤ 9223372036854775807) (hf : f.length ≤ 1172812402961) (hl : l.length ≤ 1353245080339) : Lim (.mk k n ⟨#[]⟩ [] f l) :=
 ⟨hk.1, hk.2, hn.1, hn.2, by show (0 : Nat) ≤ _; omega, by show (0 : Nat) ≤ _; omega, hf, hl, fun c hc => by cases hc⟩
theorem leaf_in (w : World) (Q : Nat → Prop) (k n : Int) (hk : -9223372036854775808 ≤ k ∧ k ≤ 9223372036854775807) (hn : -9223372036854775808 ≤ n ∧ n ≤ 9223372036854775807) (h : Nat) :
  VIn w Q (h + 1) (.mk k n ⟨#[]⟩ [] [] []) (.agg #[.int .i64 k, .int .i64 n, .string ⟨#[]⟩, .slice none 0 0, .slice none 0 0, .slice none 0 0]) :=
 ⟨none, none, none, 0, 0, 0, rfl, plain_lim k n [] [] hk hn (by simp) (by simp), ⟨Nat.le_refl _, by omega⟩, ⟨Nat.le_refl _, by omega⟩, ⟨Nat.le_refl _, by omega⟩, .inl rfl, .inl rfl, .inl rfl⟩
theorem doc_in {w : World} {Q : Nat → Prop} {h g : Nat} {nm : ByteArray} {x : Val} {c0 c1 c2 c3 c4 c5 : Value} {t : TypeId} (hr : w.heap[g]? = some (.cells #[.string nm, c0, c1, c2, c3, c4, c5] t (0, 0))) (hq : Q g) (hnm : nm.size ≤ 140737488355328) (hx : VIn w Q h x (.agg #[c0, c1, c2, c3, c4, c5])) :
  VIn w Q (h + 1) (.mk 6 0 ⟨#[]⟩ [] [(nm, x)] []) (.agg #[.int .i64 6, .int .i64 0, .string ⟨#[]⟩, .slice none 0 0, .slice (some ⟨g, 0, none⟩) 1 1, .slice none 0 0]) := by
 refine ⟨none, some ⟨g, 0, none⟩, none, 0, 1, 0, rfl, plain_lim 6 0 _ [] (by omega) (by omega) (by simp) (by simp), ⟨Nat.le_refl _, by omega⟩, ⟨Nat.le_refl _, by omega⟩, ⟨Nat.le_refl _, by omega⟩, .inl rfl, .inr ⟨g, 0, rfl, hq, fun i hi => ?_⟩, .inl rfl⟩
 obtain rfl : i = 0 := by simp [Val.f] at hi; omega
 refine ⟨(cell_of_row _ _ 0 _ _ _ hr).trans rfl, hnm, _, ⟨c0, c1, c2, c3, c4, c5, rfl, ?_, ?_, ?_, ?_, ?_, ?_⟩, hx⟩
 ·exact (cell_of_row _ _ 1 _ _ _ hr).trans rfl
 ·exact (cell_of_row _ _ 2 _ _ _ hr).trans rfl
 ·exact (cell_of_row _ _ 3 _ _ _ hr).trans rfl
 ·exact (cell_of_row _ _ 4 _ _ _ hr).trans rfl
 ·exact (cell_of_row _ _ 5 _ _ _ hr).trans rfl
 ·exact (cell_of_row _ _ 6 _ _ _ hr).trans rfl
end Go.Proofs.YtiajjgehnmkokaaGreatDoor
end
section
namespace Go.Proofs.YtiajjgehnmkokaaGreatDoor
open Go.RowKit
open Seal
open Num
def Got (w : World) (g : Nat) (cs : Array Value) : Prop := w.heap[g]? = some (.cells cs 26 (0, 0))
theorem Got.lt {w : World} {g : Nat} {cs : Array Value} (h : Got w g cs) : g < w.heap.size := (Array.getElem?_eq_some_iff.1 h).1
theorem Got.keep {w w' : World} {g : Nat} {cs : Array Value} (h : Got w g cs) (hb : Below w.heap.size w w') : Got w' g cs := (hb.block g h.lt).trans h
theorem Got.cell {w : World} {g : Nat} {cs : Array Value} (h : Got w g cs) (j : Nat) (v : Value) (hj : cs[j]? = some v) : w.cell? ⟨g, j, none⟩ = some v := (cell_of_row w g j _ _ _ h).trans hj
theorem Got.frozen {w : World} {g : Nat} {cs : Array Value} (h : Got w g cs) (j : Nat) : w.frozen? ⟨g, j, none⟩ = false := frozen_of_row w g j _ _ h
theorem Got.new (w : World) (cs : Array Value) : Got (w.alloc (.cells cs 26)) w.heap.size cs := heap_alloc_new w _
def R3 (w : World) (ca cb : Array Value) (wr : World) : Prop := Got wr w.heap.size ca ∧ Got wr (w.heap.size + 1) cb ∧ Got wr (w.heap.size + 2) #[.int .i64 0, .int .i64 0, .string ⟨#[]⟩, .slice none 0 0, .slice none 0 0, .slice none 0 0] ∧ Below w.heap.size w wr
theorem R3.step {w wr w' : World} {ca cb : Array Value} (h : R3 w ca cb wr) (hb : Below wr.heap.size wr w') : R3 w ca cb w' := ⟨h.1.keep hb, h.2.1.keep hb, h.2.2.1.keep hb, h.2.2.2.trans (hb.mono h.2.2.2.size)⟩
theorem R3.new (w : World) (ca cb : Array Value) : R3 w ca cb (((w.alloc (.cells ca 26)).alloc (.cells cb 26)).alloc (.cells #[.int .i64 0, .int .i64 0, .string ⟨#[]⟩, .slice none 0 0, .slice none 0 0, .slice none 0 0] 26)) := by
 have h1 := Got.new w ca
 have h2 := Got.new (w.alloc (.cells ca 26)) cb
 have h3 := Got.new ((w.alloc (.cells ca 26)).alloc (.cells cb 26)) #[.int .i64 0, .int .i64 0, .string ⟨#[]⟩, .slice none 0 0, .slice none 0 0, .slice none 0 0]
 have k2 : Below (w.alloc (.cells ca 26)).heap.size (w.alloc (.cells ca 26)) ((w.alloc (.cells ca 26)).alloc (.cells cb 26)) := (Below.refl _ _).alloc (Nat.le_refl _) _
 have k3 : Below ((w.alloc (.cells ca 26)).alloc (.cells cb 26)).heap.size ((w.alloc (.cells ca 26)).alloc (.cells cb 26)) (((w.alloc (.cells ca 26)).alloc (.cells cb 26)).alloc (.cells #[.int .i64 0, .int .i64 0, .string ⟨#[]⟩, .slice none 0 0, .slice none 0 0, .slice none 0 0] 26)) := (Below.refl _ _).alloc (Nat.le_refl _) _
 have e1 : (w.alloc (.cells ca 26)).heap.size = w.heap.size + 1 := by simp
 have e2 : ((w.alloc (.cells ca 26)).alloc (.cells cb 26)).heap.size = w.heap.size + 2 := by simp
 have h1' := (h1.keep k2).keep k3
 have h2' := h2.keep k3
 rw [e1] at h2'
 rw [e2] at h3
 exact ⟨h1', h2', h3, (((Below.refl _ w).alloc (Nat.le_refl _) _).alloc (by simp) _).alloc (by simp; omega) _⟩
def Six6 (w : World) (g : Nat) (c0 c1 c2 c3 c4 c5 : Value) : Prop := w.cell? ⟨g, 0, none⟩ = some c0 ∧ w.cell? ⟨g, 1, none⟩ = some c1 ∧ w.cell? ⟨g, 2, none⟩ = some c2 ∧ w.cell? ⟨g, 3, none⟩ = some c3 ∧ w.cell? ⟨g, 4, none⟩ = some c4 ∧ w.cell? ⟨g, 5, none⟩ = some c5
theorem Got.six {w : World} {g : Nat} {c0 c1 c2 c3 c4 c5 : Value} (h : Got w g #[c0, c1, c2, c3, c4, c5]) : Six6 w g c0 c1 c2 c3 c4 c5 := ⟨h.cell 0 _ rfl, h.cell 1 _ rfl, h.cell 2 _ rfl, h.cell 3 _ rfl, h.cell 4 _ rfl, h.cell 5 _ rfl⟩
theorem R3.all {w wr : World} {c0 c1 c2 c3 c4 c5 d0 d1 d2 d3 d4 d5 : Value} (h : R3 w #[c0, c1, c2, c3, c4, c5] #[d0, d1, d2, d3, d4, d5] wr) :
  Six6 wr w.heap.size c0 c1 c2 c3 c4 c5 ∧ Six6 wr (w.heap.size + 1) d0 d1 d2 d3 d4 d5 ∧ Six6 wr (w.heap.size + 2) (.int .i64 0) (.int .i64 0) (.string ⟨#[]⟩) (.slice none 0 0) (.slice none 0 0) (.slice none 0 0) ∧
   wr.frozen? ⟨w.heap.size + 2, 0, none⟩ = false ∧ wr.frozen? ⟨w.heap.size + 2, 1, none⟩ = false ∧ wr.frozen? ⟨w.heap.size + 2, 2, none⟩ = false ∧ wr.frozen? ⟨w.heap.size + 2, 3, none⟩ = false ∧ wr.frozen? ⟨w.heap.size + 2, 4, none⟩ = false ∧ wr.frozen? ⟨w.heap.size + 2, 5, none⟩ = false :=
 ⟨h.1.six, h.2.1.six, h.2.2.1.six, h.2.2.1.frozen 0, h.2.2.1.frozen 1, h.2.2.1.frozen 2, h.2.2.1.frozen 3, h.2.2.1.frozen 4, h.2.2.1.frozen 5⟩
theorem below_six {w w' : World} {B : Nat} (h : Below w.heap.size w w') (hB : w.heap.size ≤ B) (v0 v1 v2 v3 v4 v5 : Value) :
  Below w.heap.size w ((((((w'.setCell ⟨B, 0, none⟩ v0).setCell ⟨B, 1, none⟩ v1).setCell ⟨B, 2, none⟩ v2).setCell ⟨B, 3, none⟩ v3).setCell ⟨B, 4, none⟩ v4).setCell ⟨B, 5, none⟩ v5) :=
 (((((h.setCell hB _).setCell hB _).setCell hB _).setCell hB _).setCell hB _).setCell hB _
def ValE (r : Int × Int × Int) (w : World) (e : Ending) (w' : World) : Prop := e = .returned (.tuple #[.agg #[.int .i64 r.1, .int .i64 r.2.1, .string ⟨#[]⟩, .slice none 0 0, .slice none 0 0, .slice none 0 0], .int .i64 r.2.2]) ∧ Below w.heap.size w w'
theorem val_e {r : Int × Int × Int} {k n e : Int} {w w' : World} (h : r = (k, n, e)) (hb : Below w.heap.size w w') : ValE r w (.returned (.tuple #[.agg #[.int .i64 k, .int .i64 n, .string ⟨#[]⟩, .slice none 0 0, .slice none 0 0, .slice none 0 0], .int .i64 e])) w' := by subst h; exact ⟨rfl, hb⟩
namespace Num
def reck (o : Int × Int) (ak bk : Int) : Int × Int × Int :=
 if noneB ak = true then (2, 0, 0) else if noneB bk = true then (2, 0, 0) else if numB ak = false then (0, 0, 12) else if numB bk = false then (0, 0, 12) else
  if o.2 ≠ 0 then (0, 0, o.2) else if ak = 4 then (4, o.1, 0) else if bk = 4 then (4, o.1, 0) else (ofK o.1, o.1, 0)
end Num
end Go.Proofs.YtiajjgehnmkokaaGreatDoor
end
section
namespace Go.Proofs.YtiajjgehnmkokaaGreatDoor
open Go.RowKit
open Seal
open Bson (Val)
theorem two_items {w : World} {Q : Nat → Prop} {h g : Nat} {x y : Val} {a0 a1 a2 a3 a4 a5 b0 b1 b2 b3 b4 b5 : Value} {t : TypeId}
  (hr : w.heap[g]? = some (.cells #[a0, a1, a2, a3, a4, a5, b0, b1, b2, b3, b4, b5] t (0, 0))) (hq : Q g) (hx : VIn w Q h x (.agg #[a0, a1, a2, a3, a4, a5])) (hy : VIn w Q h y (.agg #[b0, b1, b2, b3, b4, b5])) :
  ItemsIn w Q (VIn w Q h) (some ⟨g, 0, none⟩) [x, y] := by
 have e : ∀ j c, (#[a0, a1, a2, a3, a4, a5, b0, b1, b2, b3, b4, b5] : Array Value)[j]? = some c → w.cell? ⟨g, j, none⟩ = some c := fun j c hc => (cell_of_row _ _ j _ _ _ hr).trans hc
 refine .inr ⟨g, 0, rfl, hq, fun i hi => ?_⟩
 match i, hi with
 | 0, _ => exact ⟨_, ⟨a0, a1, a2, a3, a4, a5, rfl, e _ _ rfl, e _ _ rfl, e _ _ rfl, e _ _ rfl, e _ _ rfl, e _ _ rfl⟩, hx⟩
 | 1, _ => exact ⟨_, ⟨b0, b1, b2, b3, b4, b5, rfl, e _ _ rfl, e _ _ rfl, e _ _ rfl, e _ _ rfl, e _ _ rfl, e _ _ rfl⟩, hy⟩
theorem one_items {w : World} {Q : Nat → Prop} {h g : Nat} {x : Val} {a0 a1 a2 a3 a4 a5 : Value} {t : TypeId}
  (hr : w.heap[g]? = some (.cells #[a0, a1, a2, a3, a4, a5] t (0, 0))) (hq : Q g) (hx : VIn w Q h x (.agg #[a0, a1, a2, a3, a4, a5])) :
  ItemsIn w Q (VIn w Q h) (some ⟨g, 0, none⟩) [x] := by
 have e : ∀ j c, (#[a0, a1, a2, a3, a4, a5] : Array Value)[j]? = some c → w.cell? ⟨g, j, none⟩ = some c := fun j c hc => (cell_of_row _ _ j _ _ _ hr).trans hc
 refine .inr ⟨g, 0, rfl, hq, fun i hi => ?_⟩
 match i, hi with
 | 0, _ => exact ⟨_, ⟨a0, a1, a2, a3, a4, a5, rfl, e _ _ rfl, e _ _ rfl, e _ _ rfl, e _ _ rfl, e _ _ rfl, e _ _ rfl⟩, hx⟩
theorem VIn.any {w : World} {Q : Nat → Prop} {h : Nat} {x : Val} {v : Value} (hv : VIn w Q h x v) : VIn w (fun _ => True) h x v := VIn.kept (Kept.of_below (Below.refl _ _)) (fun _ _ => trivial) hv
end Go.Proofs.YtiajjgehnmkokaaGreatDoor
end
section
namespace Go.Proofs.YtiajjgehnmkokaaGreatDoor
open Go.RowKit
open Seal
theorem bytes_len (s : ByteArray) : (Order.bytes s).length = s.size := by unfold Order.bytes; rw [List.length_map]; exact Array.length_toList
theorem bytes_at (s : ByteArray) (k : Nat) (h : k < s.size) : (Order.bytes s)[k]'(by rw [bytes_len]; exact h) = s[k].toNat := by
 unfold Order.bytes
 rw [List.getElem_map]
 rfl
def TextGo (a b : ByteArray) (k : Nat) : Prop := Order.text a b = Order.lex Order.oct ((Order.bytes a).drop k) ((Order.bytes b).drop k)
theorem TextGo.next {a b : ByteArray} {k : Nat} (h : TextGo a b k) (ha : k < a.size) (hb : k < b.size) (e : a[k].toNat = b[k].toNat) : TextGo a b (k + 1) := by
 unfold TextGo at h ⊢
 rw [h]
 refine Order.lex_step (by rw [bytes_len]; exact ha) (by rw [bytes_len]; exact hb) ?_
 rw [bytes_at a k ha, bytes_at b k hb, e]
 exact Order.sgn_self _
theorem TextGo.here {a b : ByteArray} {k : Nat} (h : TextGo a b k) (ha : k < a.size) (hb : k < b.size) (e : ¬ a[k].toNat = b[k].toNat) : Order.text a b = Order.sgn (a[k].toNat : Int) (b[k].toNat : Int) := by
 unfold TextGo at h
 rw [h]
 refine (Order.lex_here (by rw [bytes_len]; exact ha) (by rw [bytes_len]; exact hb) ?_).trans ?_
 ·rw [bytes_at a k ha, bytes_at b k hb]
  intro e2
  have := Order.sgn_zero.1 e2
  omega
 ·rw [bytes_at a k ha, bytes_at b k hb]; rfl
theorem TextGo.last {a b : ByteArray} {k : Nat} (h : TextGo a b k) (ha : k ≤ a.size) (hb : k ≤ b.size) (e : ¬ (k < a.size ∧ k < b.size)) : Order.text a b = Order.sgn (a.size : Int) (b.size : Int) := by
 unfold TextGo at h
 rw [h, Order.lex_end (by rw [bytes_len]; exact ha) (by rw [bytes_len]; exact hb) (by rw [bytes_len, bytes_len]; omega), bytes_len, bytes_len]
theorem cmpBytes_any (w : World) (a b : Option Addr) (l m : List Nat) (n c n2 c2 : Nat) (hl : l.length = n) (hm : m.length = n2) (h : SliceIs w a l) (h2 : SliceIs w b m) (ho : Oct l) (ho2 : Oct m) :
  Calls Tryz.prog 162 #[.slice a n c, .slice b n2 c2] w (IntPost (Order.blob l m) w) := by
 have HC := Lib.hid (bytesCmp_any w a b l m n c n2 c2 hl hm h h2 ho ho2)
 by_cases e : n = n2
 ·have HB := Lib.hid (show Order.blob l m = Order.octs l m by rw [Order.blob, if_pos (Order.sgn_zero.2 (by omega))])
  have he : Order.sgn (n : Int) (n2 : Int) = 0 := Order.sgn_zero.2 (by omega)
  have hb : (Order.sgn (n : Int) (n2 : Int) != 0) = false := by rw [he]; rfl
  clear h h2 ho ho2 hl hm e he
  go_enter Tryz.func162, Tryz.ntmps162
  go_wp2_with (first | (go_at_call 156; refine (cmpInt_any _ _ _).mono ?_; rintro e w' ⟨rfl, rfl⟩) | (go_at_call 163; refine HC.out.mono ?_; rintro e w' ⟨rfl, rfl⟩))
  go_ret
  exact ⟨ret_i HB.out.symm, rfl⟩
 ·have HB := Lib.hid (show Order.blob l m = Order.sgn (n : Int) (n2 : Int) by
   rw [Order.blob, if_neg (fun x => e (by have := Order.sgn_zero.1 x; omega)), hl, hm])
  have hb : (Order.sgn (n : Int) (n2 : Int) != 0) = true := by
   rw [bne_iff_ne]; intro x; have := Order.sgn_zero.1 x; omega
  clear h h2 ho ho2 hl hm e
  go_enter Tryz.func162, Tryz.ntmps162
  go_wp2_with (go_at_call 156; refine (cmpInt_any _ _ _).mono ?_; rintro e w' ⟨rfl, rfl⟩)
  go_ret
  exact ⟨ret_i HB.out.symm, rfl⟩
end Go.Proofs.YtiajjgehnmkokaaGreatDoor
end
section
namespace Go.Proofs.YtiajjgehnmkokaaGreatDoor
open Go.RowKit
open Seal
open Bson (Val)
theorem infoF7 : (Tryz.prog.info? 40).map (fun i => (i.zero, i.size, i.bytes)) = some (some (.agg #[.string ⟨#[]⟩, .int .i64 0, .int .i64 0, .string ⟨#[]⟩, .slice none 0 0, .slice none 0 0, .slice none 0 0]), 7, 120) := by kernel_rfl
theorem run_makeFlds (n : Nat) (hn : n ≤ 1172812402961) (u : World) : (Instr.makeSlice 23 (.int .i64 (n : Int)) (.int .i64 (n : Int))).run Tryz.prog u = .ok (.slice (some ⟨u.heap.size, 0, none⟩) n n) (u.alloc (.cells (madeCells #[.string ⟨#[]⟩, .int .i64 0, .int .i64 0, .string ⟨#[]⟩, .slice none 0 0, .slice none 0 0, .slice none 0 0] (n * 7)) 40)) := by
 obtain ⟨i0, hi, hz0, hz1, hz2⟩ := info_parts infoF7
 have h := run_make (P := Tryz.prog) u 23 40 i0 (.agg #[.string ⟨#[]⟩, .int .i64 0, .int .i64 0, .string ⟨#[]⟩, .slice none 0 0, .slice none 0 0, .slice none 0 0]) Tryz.underlying23 hi hz0 .i64 .i64 (n : Int) (n : Int) (by omega) (Int.le_refl _) (by rw [hz2]; omega) (by omega)
 rw [Int.toNat_natCast] at h
 simpa [hz1, Value.cells] using h
theorem eachF_any (Q : Nat → Prop) (h : Nat) (IH0 : CopyAt Q h) (a : Option Addr) (n c : Nat) (f : List (ByteArray × Val)) (w : World) (hn : f.length = n) (hnb : n ≤ 1172812402961) (hI : FieldsIn w Q (VIn w Q h) a f) :
  Calls Tryz.prog 43 #[.slice a n c, .func (.func 44) #[] #[]] w fun e w' => ∃ a' c', e = .returned (.slice a' n c') ∧ (n ≤ c' ∧ c' ≤ 9223372036854775807) ∧ FieldsIn w' (fun g => w.heap.size ≤ g) (VIn w' (fun g => w.heap.size ≤ g) h) a' f ∧ Below w.heap.size w w' := by
 have IH := Lib.hid (fun nm x c0 c1 c2 c3 c4 c5 w hv => copyfield_any Q h IH0 nm x c0 c1 c2 c3 c4 c5 w hv)
 have HI := Lib.hid hI
 have HN := Lib.hid hn
 have HNL : Hid (∀ i (hi : i < f.length), f[i].1.size ≤ 140737488355328) := by
  intro i hi
  rcases hI with h | ⟨g, o, _, _, h⟩
  ·rw [h] at hi; simp at hi
  ·exact (h i hi).2.1
 clear hI IH0 hn
 have hmk := run_makeFlds n hnb
 have he := fun u : World => Lib.run_eql_slice_nil (P := Tryz.prog) u 23 40 a n c 0 0 Tryz.underlying23
 cases a with
 | none =>
  have hnil : f = [] := by
   rcases HI.out with h | ⟨g, o, e, _⟩
   ·exact h
   ·cases e
  have hn0 : n = 0 := by rw [← HN.out, hnil]; rfl
  subst hn0
  have HNIL := Lib.hid hnil
  clear hnil
  go_enter Tryz.func43, Tryz.ntmps43
  go_wp2_with fail
  go_ret
  exact ⟨none, 0, rfl, ⟨Nat.le_refl _, by omega⟩, .inl HNIL.out, Below.refl _ _⟩
 | some p =>
  go_enter Tryz.func43, Tryz.ntmps43
  go_wp2_with fail
  go_loopw [15] (fun i wr => ∃ k : Nat, i = .int .i64 k ∧ k ≤ n ∧ Hid (Row6 wr w.heap.size 40 (n * 7)) ∧ Hid (Flds wr w.heap.size h f k) ∧ Hid (Below w.heap.size w wr)) (fun i _ => n - (intOf i).toNat)
  case atStart => exact ⟨0, rfl, Nat.zero_le _, ⟨_, heap_alloc_new w _, size_madeCells _ _⟩, Flds.none _ _ _ _, (Below.refl _ w).alloc (Nat.le_refl _) _⟩
  case round =>
   obtain ⟨k, rfl, hk, HR, HVS, HB⟩ := hrel
   by_cases hlt : k < n
   ·obtain ⟨g, o, hla, _, hall⟩ := HI.out.resolve_left (fun e => by have := HN.out; rw [e] at this; simp at this; omega)
    obtain ⟨hnm, hns, v', hsix, hV⟩ := hall k (by have := HN.out; omega)
    obtain rfl := Option.some.inj hla
    obtain ⟨ka, na, sa, ba, fa, la, bl, bc, fl, fc, ll, lc, rfl⟩ := hV.shape
    have HV := Lib.hid (VIn.keep HB.out hV)
    obtain ⟨s0, s1, s2, s3, s4, s5⟩ := (hsix.keep HB.out).cells
    obtain ⟨nm, hnme⟩ : ∃ nm, nm = (f[k]'(by have := HN.out; omega)).1 := ⟨_, rfl⟩
    have HNM := Lib.hid hnme
    clear hnme
    have s6 : wr.cell? ⟨g, o + k * 7, none⟩ = some (.string nm) := by rw [HNM.out]; exact cell_keep HB.out hnm
    have HNS : Hid (nm.size ≤ 140737488355328) := by rw [HNM.out]; exact hns
    clear hall hsix hV hnm hns
    go_wp2_with fail
    have HVa := Lib.hid (VIn.keep ((Below.refl _ wr).alloc (Nat.le_refl _) (.cells #[.string nm, .int .i64 ka, .int .i64 na, .string sa, .slice ba bl bc, .slice fa fl fc, .slice la ll lc] 40)) HV.out)
    refine (IH.out nm _ _ _ _ _ _ _ _ HVa.out).mono ?_
    rintro e w2 ⟨e0, e1, e2, e3, e4, e5, rfl, hv2, hb2⟩
    obtain ⟨kd, nd, sd, bd, fd, ld, bm, bz, fm, fz, lm, lz, hsh⟩ := hv2.shape
    injection hsh with hsh
    injection hsh with hsh
    injection hsh with x0 hsh; injection hsh with x1 hsh; injection hsh with x2 hsh; injection hsh with x3 hsh; injection hsh with x4 hsh; injection hsh with x5 hsh
    subst x0 x1 x2 x3 x4 x5
    clear hsh
    have HB2 : Hid (Below wr.heap.size wr w2) := ((Below.refl _ wr).alloc (Nat.le_refl _) _).trans (hb2.mono (by simp))
    have HR2 := Lib.hid (HR.out.keep HB2.out)
    have HVS2 := Lib.hid (HVS.out.keep HB2.out)
    have HBw2 : Hid (Below w.heap.size w w2) := HB.out.trans (HB2.out.mono HB.out.size)
    have hGlt : w.heap.size < wr.heap.size := HR.out.lt
    have HV2 : Hid (VIn w2 (fun g => w.heap.size < g) h (f[k]'(by have := HN.out; omega)).2 (.agg #[.int .i64 kd, .int .i64 nd, .string sd, .slice bd bm bz, .slice fd fm fz, .slice ld lm lz])) := hv2.kept (Kept.of_below (Below.refl _ _)) (fun g hg => by simp at hg; omega)
    clear hv2 hb2
    obtain ⟨⟨z0, g0⟩, f0⟩ := HR2.out.at (j := k * 7) (by omega)
    obtain ⟨⟨z1, g1⟩, f1⟩ := HR2.out.at (j := k * 7 + 1) (by omega)
    obtain ⟨⟨z2, g2⟩, f2⟩ := HR2.out.at (j := k * 7 + 2) (by omega)
    obtain ⟨⟨z3, g3⟩, f3⟩ := HR2.out.at (j := k * 7 + 3) (by omega)
    obtain ⟨⟨z4, g4⟩, f4⟩ := HR2.out.at (j := k * 7 + 4) (by omega)
    obtain ⟨⟨z5, g5⟩, f5⟩ := HR2.out.at (j := k * 7 + 5) (by omega)
    obtain ⟨⟨z6, g6⟩, f6⟩ := HR2.out.at (j := k * 7 + 6) (by omega)
    have HN2 : Hid (Flds (puts w2 w.heap.size (k * 7) [.string nm, .int .i64 kd, .int .i64 nd, .string sd, .slice bd bm bz, .slice fd fm fz, .slice ld lm lz]) w.heap.size h f (k + 1)) := by
     have := HVS2.out.put HR2.out (by have := HN.out; omega) (by rw [HN.out]) HV2.out
     rw [← HNM.out] at this
     exact this
    have HR3 := Lib.hid (HR2.out.puts (k * 7) [.string nm, .int .i64 kd, .int .i64 nd, .string sd, .slice bd bm bz, .slice fd fm fz, .slice ld lm lz] (by simp; omega)).1
    have HB3 := Lib.hid (puts_below HBw2.out (G := w.heap.size) (Nat.le_refl _) [.string nm, .int .i64 kd, .int .i64 nd, .string sd, .slice bd bm bz, .slice fd fm fz, .slice ld lm lz] (k * 7))
    clear s0 s1 s2 s3 s4 s5 s6 HV HVa HVS HR HB
    go_wp2_with fail
    go_roundw
    case rel => exact ⟨k + 1, by go_num, by omega, HR3, HN2, HB3⟩
    case measure => simp [intOf]; omega
   ·have hkk : k = n := by omega
    subst hkk
    go_wp2_with fail
    go_ret
    refine ⟨some ⟨w.heap.size, 0, none⟩, k, rfl, ⟨Nat.le_refl _, by omega⟩, .inr ⟨w.heap.size, 0, rfl, Nat.le_refl _, fun i hi => ?_⟩, HB.out⟩
    obtain ⟨h0, v, h1, h2⟩ := HVS.out i hi (by rw [← HN.out]; exact hi)
    rw [Nat.zero_add]
    exact ⟨h0, HNL.out i hi, v, h1, h2.kept (Kept.of_below (Below.refl _ _)) (fun g hg => Nat.le_of_lt hg)⟩
theorem infoV6 : (Tryz.prog.info? 26).map (fun i => (i.zero, i.size, i.bytes)) = some (some (.agg #[.int .i64 0, .int .i64 0, .string ⟨#[]⟩, .slice none 0 0, .slice none 0 0, .slice none 0 0]), 6, 104) := by kernel_rfl
theorem run_makeVals (n : Nat) (hn : n ≤ 1353245080339) (u : World) : (Instr.makeSlice 24 (.int .i64 (n : Int)) (.int .i64 (n : Int))).run Tryz.prog u = .ok (.slice (some ⟨u.heap.size, 0, none⟩) n n) (u.alloc (.cells (madeCells #[.int .i64 0, .int .i64 0, .string ⟨#[]⟩, .slice none 0 0, .slice none 0 0, .slice none 0 0] (n * 6)) 26)) := by
 obtain ⟨i0, hi, hz0, hz1, hz2⟩ := info_parts infoV6
 have h := run_make (P := Tryz.prog) u 24 26 i0 (.agg #[.int .i64 0, .int .i64 0, .string ⟨#[]⟩, .slice none 0 0, .slice none 0 0, .slice none 0 0]) Tryz.underlying24 hi hz0 .i64 .i64 (n : Int) (n : Int) (by omega) (Int.le_refl _) (by rw [hz2]; omega) (by omega)
 rw [Int.toNat_natCast] at h
 simpa [hz1, Value.cells] using h
theorem eachV_any (Q : Nat → Prop) (h : Nat) (IH0 : CopyAt Q h) (a : Option Addr) (n c : Nat) (l : List Val) (w : World) (hn : l.length = n) (hnb : n ≤ 1353245080339) (hI : ItemsIn w Q (VIn w Q h) a l) :
  Calls Tryz.prog 45 #[.slice a n c, .func (.func 25) #[] #[]] w fun e w' => ∃ a' c', e = .returned (.slice a' n c') ∧ (n ≤ c' ∧ c' ≤ 9223372036854775807) ∧ ItemsIn w' (fun g => w.heap.size ≤ g) (VIn w' (fun g => w.heap.size ≤ g) h) a' l ∧ Below w.heap.size w w' := by
 have IH := Lib.hid IH0
 have HI := Lib.hid hI
 have HN := Lib.hid hn
 clear hI IH0 hn
 have hmk := run_makeVals n hnb
 have he := fun u : World => Lib.run_eql_slice_nil (P := Tryz.prog) u 24 26 a n c 0 0 Tryz.underlying24
 cases a with
 | none =>
  have hnil : l = [] := by
   rcases HI.out with h | ⟨g, o, e, _⟩
   ·exact h
   ·cases e
  have hn0 : n = 0 := by rw [← HN.out, hnil]; rfl
  subst hn0
  have HNIL := Lib.hid hnil
  clear hnil
  go_enter Tryz.func45, Tryz.ntmps45
  go_wp2_with fail
  go_ret
  exact ⟨none, 0, rfl, ⟨Nat.le_refl _, by omega⟩, .inl HNIL.out, Below.refl _ _⟩
 | some p =>
  go_enter Tryz.func45, Tryz.ntmps45
  go_wp2_with fail
  go_loopw [15] (fun i wr => ∃ k : Nat, i = .int .i64 k ∧ k ≤ n ∧ Hid (Row6 wr w.heap.size 26 (n * 6)) ∧ Hid (Vals wr w.heap.size h l k) ∧ Hid (Below w.heap.size w wr)) (fun i _ => n - (intOf i).toNat)
  case atStart => exact ⟨0, rfl, Nat.zero_le _, ⟨_, heap_alloc_new w _, size_madeCells _ _⟩, Vals.none _ _ _ _, (Below.refl _ w).alloc (Nat.le_refl _) _⟩
  case round =>
   obtain ⟨k, rfl, hk, HR, HVS, HB⟩ := hrel
   by_cases hlt : k < n
   ·obtain ⟨g, o, hla, _, hall⟩ := HI.out.resolve_left (fun e => by have := HN.out; rw [e] at this; simp at this; omega)
    obtain ⟨v', hsix, hV⟩ := hall k (by have := HN.out; omega)
    obtain rfl := Option.some.inj hla
    obtain ⟨ka, na, sa, ba, fa, la, bl, bc, fl, fc, ll, lc, rfl⟩ := hV.shape
    have HV := Lib.hid (VIn.keep HB.out hV)
    obtain ⟨s0, s1, s2, s3, s4, s5⟩ := (hsix.keep HB.out).cells
    clear hall hsix hV
    go_wp2_with fail
    have HVa := Lib.hid (VIn.keep ((Below.refl _ wr).alloc (Nat.le_refl _) (.cells #[.int .i64 ka, .int .i64 na, .string sa, .slice ba bl bc, .slice fa fl fc, .slice la ll lc] 26)) HV.out)
    refine (IH.out _ _ _ HVa.out).mono ?_
    rintro e w2 ⟨v2, rfl, hv2, hb2⟩
    obtain ⟨kd, nd, sd, bd, fd, ld, bm, bz, fm, fz, lm, lz, rfl⟩ := hv2.shape
    have HB2 : Hid (Below wr.heap.size wr w2) := ((Below.refl _ wr).alloc (Nat.le_refl _) _).trans (hb2.mono (by simp))
    have HR2 := Lib.hid (HR.out.keep HB2.out)
    have HVS2 := Lib.hid (HVS.out.keep HB2.out)
    have HBw2 : Hid (Below w.heap.size w w2) := HB.out.trans (HB2.out.mono HB.out.size)
    have hGlt : w.heap.size < wr.heap.size := HR.out.lt
    have HV2 : Hid (VIn w2 (fun g => w.heap.size < g) h (l[k]'(by have := HN.out; omega)) (.agg #[.int .i64 kd, .int .i64 nd, .string sd, .slice bd bm bz, .slice fd fm fz, .slice ld lm lz])) := hv2.kept (Kept.of_below (Below.refl _ _)) (fun g hg => by simp at hg; omega)
    clear hv2 hb2
    obtain ⟨⟨z0, g0⟩, f0⟩ := HR2.out.at (j := k * 6) (by omega)
    obtain ⟨⟨z1, g1⟩, f1⟩ := HR2.out.at (j := k * 6 + 1) (by omega)
    obtain ⟨⟨z2, g2⟩, f2⟩ := HR2.out.at (j := k * 6 + 2) (by omega)
    obtain ⟨⟨z3, g3⟩, f3⟩ := HR2.out.at (j := k * 6 + 3) (by omega)
    obtain ⟨⟨z4, g4⟩, f4⟩ := HR2.out.at (j := k * 6 + 4) (by omega)
    obtain ⟨⟨z5, g5⟩, f5⟩ := HR2.out.at (j := k * 6 + 5) (by omega)
    have HN2 : Hid (Vals (puts w2 w.heap.size (k * 6) [.int .i64 kd, .int .i64 nd, .string sd, .slice bd bm bz, .slice fd fm fz, .slice ld lm lz]) w.heap.size h l (k + 1)) := HVS2.out.put HR2.out (by have := HN.out; omega) (by rw [HN.out]) HV2.out
    have HR3 := Lib.hid (HR2.out.puts (k * 6) [.int .i64 kd, .int .i64 nd, .string sd, .slice bd bm bz, .slice fd fm fz, .slice ld lm lz] (by simp; omega)).1
    have HB3 := Lib.hid (puts_below HBw2.out (G := w.heap.size) (Nat.le_refl _) [.int .i64 kd, .int .i64 nd, .string sd, .slice bd bm bz, .slice fd fm fz, .slice ld lm lz] (k * 6))
    clear s0 s1 s2 s3 s4 s5 HV HVa HVS HR HB
    go_wp2_with fail
    go_roundw
    case rel => exact ⟨k + 1, by go_num, by omega, HR3, HN2, HB3⟩
    case measure => simp [intOf]; omega
   ·have hkk : k = n := by omega
    subst hkk
    go_wp2_with fail
    go_ret
    refine ⟨some ⟨w.heap.size, 0, none⟩, k, rfl, ⟨Nat.le_refl _, by omega⟩, .inr ⟨w.heap.size, 0, rfl, Nat.le_refl _, fun i hi => ?_⟩, HB.out⟩
    obtain ⟨v, h1, h2⟩ := HVS.out i hi (by rw [← HN.out]; exact hi)
    rw [Nat.zero_add]
    exact ⟨v, h1, h2.kept (Kept.of_below (Below.refl _ _)) (fun g hg => Nat.le_of_lt hg)⟩
end Go.Proofs.YtiajjgehnmkokaaGreatDoor
end
section
namespace Go.Proofs.YtiajjgehnmkokaaGreatDoor
open Go.RowKit
open Seal
open Num
theorem reckon_gen (K : FuncId) (hke : ∀ args (u : World), (callFunc K args).run Tryz.prog u = .ok (.enter K args) u) (o0 : Int × Int) (ak an bk bn : Int) (p2 p3 p4 p5 q2 q3 q4 q5 : Value) (w : World) (hop : ∀ u, Calls Tryz.prog K #[.int .i64 an, .int .i64 bn] u (PairDr o0 u)) : Calls Tryz.prog 141 #[.agg #[.int .i64 ak, .int .i64 an, p2, p3, p4, p5], .agg #[.int .i64 bk, .int .i64 bn, q2, q3, q4, q5], .func (.func K) #[] #[]] w (ValE (reck o0 ak bk) w) := by
 have HR0 := Lib.hid (R3.new w #[Value.int .i64 ak, .int .i64 an, p2, p3, p4, p5] #[Value.int .i64 bk, .int .i64 bn, q2, q3, q4, q5])
 have HNA := Lib.hid (fun w => nothing_any ak (.int .i64 an) p2 p3 p4 p5 w)
 have HNB := Lib.hid (fun w => nothing_any bk (.int .i64 bn) q2 q3 q4 q5 w)
 have HMA := Lib.hid (fun w => number_any ak (.int .i64 an) p2 p3 p4 p5 w)
 have HMB := Lib.hid (fun w => number_any bk (.int .i64 bn) q2 q3 q4 q5 w)
 obtain ⟨r, hr⟩ : ∃ r, r = reck o0 ak bk := ⟨_, rfl⟩
 rw [← hr]
 by_cases c1 : noneB ak = true
 ·rw [c1] at HNA
  have HQ := Lib.hid (show r = (2, 0, 0) by rw [hr, reck, if_pos c1])
  clear c1 hr
  go_enter Tryz.func141, Tryz.ntmps141
  go_wp2_with fail
  generalize hW : (((w.alloc (.cells #[Value.int .i64 ak, .int .i64 an, p2, p3, p4, p5] 26)).alloc (.cells #[Value.int .i64 bk, .int .i64 bn, q2, q3, q4, q5] 26)).alloc (.cells #[Value.int .i64 0, .int .i64 0, .string ⟨#[]⟩, .slice none 0 0, .slice none 0 0, .slice none 0 0] 26)) = W0 at *
  clear hW
  obtain ⟨⟨a0, a1, a2, a3, a4, a5⟩, ⟨b0, b1, b2, b3, b4, b5⟩, ⟨z0, z1, z2, z3, z4, z5⟩, f0, f1, f2, f3, f4, f5⟩ := HR0.out.all
  go_wp2_with fail
  go_at_call 152
  refine (HNA.out _).mono ?_
  rintro e w1 ⟨rfl, hb⟩
  clear a0 a1 a2 a3 a4 a5 b0 b1 b2 b3 b4 b5 z0 z1 z2 z3 z4 z5 f0 f1 f2 f3 f4 f5
  have HR1 := Lib.hid (HR0.out.step hb)
  clear hb
  obtain ⟨⟨a0, a1, a2, a3, a4, a5⟩, ⟨b0, b1, b2, b3, b4, b5⟩, ⟨z0, z1, z2, z3, z4, z5⟩, f0, f1, f2, f3, f4, f5⟩ := HR1.out.all
  go_wp2_with fail
  exact bodyPost_ret (v := .tuple #[.agg #[.int .i64 2, .int .i64 0, .string ⟨#[]⟩, .slice none 0 0, .slice none 0 0, .slice none 0 0], .int .i64 0]) (by simp [results, Tryz.results141, go_sem, *]) rfl (val_e HQ.out (below_six HR1.out.2.2.2 (by omega) _ _ _ _ _ _))
 by_cases c2 : noneB bk = true
 ·rw [eq_false_of_ne_true c1] at HNA
  rw [c2] at HNB
  have HQ := Lib.hid (show r = (2, 0, 0) by rw [hr, reck, if_neg c1, if_pos c2])
  clear c1 c2 hr
  go_enter Tryz.func141, Tryz.ntmps141
  go_wp2_with fail
  generalize hW : (((w.alloc (.cells #[Value.int .i64 ak, .int .i64 an, p2, p3, p4, p5] 26)).alloc (.cells #[Value.int .i64 bk, .int .i64 bn, q2, q3, q4, q5] 26)).alloc (.cells #[Value.int .i64 0, .int .i64 0, .string ⟨#[]⟩, .slice none 0 0, .slice none 0 0, .slice none 0 0] 26)) = W0 at *
  clear hW
  obtain ⟨⟨a0, a1, a2, a3, a4, a5⟩, ⟨b0, b1, b2, b3, b4, b5⟩, ⟨z0, z1, z2, z3, z4, z5⟩, f0, f1, f2, f3, f4, f5⟩ := HR0.out.all
  go_wp2_with fail
  go_at_call 152
  refine (HNA.out _).mono ?_
  rintro e w1 ⟨rfl, hb⟩
  clear a0 a1 a2 a3 a4 a5 b0 b1 b2 b3 b4 b5 z0 z1 z2 z3 z4 z5 f0 f1 f2 f3 f4 f5
  have HR1 := Lib.hid (HR0.out.step hb)
  clear hb
  obtain ⟨⟨a0, a1, a2, a3, a4, a5⟩, ⟨b0, b1, b2, b3, b4, b5⟩, ⟨z0, z1, z2, z3, z4, z5⟩, f0, f1, f2, f3, f4, f5⟩ := HR1.out.all
  go_wp2_with fail
  go_at_call 152
  refine (HNB.out _).mono ?_
  rintro e w2 ⟨rfl, hb⟩
  clear a0 a1 a2 a3 a4 a5 b0 b1 b2 b3 b4 b5 z0 z1 z2 z3 z4 z5 f0 f1 f2 f3 f4 f5
  have HR2 := Lib.hid (HR1.out.step hb)
  clear hb
  obtain ⟨⟨a0, a1, a2, a3, a4, a5⟩, ⟨b0, b1, b2, b3, b4, b5⟩, ⟨z0, z1, z2, z3, z4, z5⟩, f0, f1, f2, f3, f4, f5⟩ := HR2.out.all
  go_wp2_with fail
  exact bodyPost_ret (v := .tuple #[.agg #[.int .i64 2, .int .i64 0, .string ⟨#[]⟩, .slice none 0 0, .slice none 0 0, .slice none 0 0], .int .i64 0]) (by simp [results, Tryz.results141, go_sem, *]) rfl (val_e HQ.out (below_six HR2.out.2.2.2 (by omega) _ _ _ _ _ _))
 rw [eq_false_of_ne_true c1] at HNA
 rw [eq_false_of_ne_true c2] at HNB
 by_cases c3 : numB ak = false
 ·rw [c3] at HMA
  have HQ := Lib.hid (show r = (0, 0, 12) by rw [hr, reck, if_neg c1, if_neg c2, if_pos c3])
  clear c1 c2 c3 hr
  go_enter Tryz.func141, Tryz.ntmps141
  go_wp2_with fail
  generalize hW : (((w.alloc (.cells #[Value.int .i64 ak, .int .i64 an, p2, p3, p4, p5] 26)).alloc (.cells #[Value.int .i64 bk, .int .i64 bn, q2, q3, q4, q5] 26)).alloc (.cells #[Value.int .i64 0, .int .i64 0, .string ⟨#[]⟩, .slice none 0 0, .slice none 0 0, .slice none 0 0] 26)) = W0 at *
  clear hW
  obtain ⟨⟨a0, a1, a2, a3, a4, a5⟩, ⟨b0, b1, b2, b3, b4, b5⟩, ⟨z0, z1, z2, z3, z4, z5⟩, f0, f1, f2, f3, f4, f5⟩ := HR0.out.all
  go_wp2_with fail
  go_at_call 152
  refine (HNA.out _).mono ?_
  rintro e w1 ⟨rfl, hb⟩
  clear a0 a1 a2 a3 a4 a5 b0 b1 b2 b3 b4 b5 z0 z1 z2 z3 z4 z5 f0 f1 f2 f3 f4 f5
  have HR1 := Lib.hid (HR0.out.step hb)
  clear hb
  obtain ⟨⟨a0, a1, a2, a3, a4, a5⟩, ⟨b0, b1, b2, b3, b4, b5⟩, ⟨z0, z1, z2, z3, z4, z5⟩, f0, f1, f2, f3, f4, f5⟩ := HR1.out.all
  go_wp2_with fail
  go_at_call 152
  refine (HNB.out _).mono ?_
  rintro e w2 ⟨rfl, hb⟩
  clear a0 a1 a2 a3 a4 a5 b0 b1 b2 b3 b4 b5 z0 z1 z2 z3 z4 z5 f0 f1 f2 f3 f4 f5
  have HR2 := Lib.hid (HR1.out.step hb)
  clear hb
  obtain ⟨⟨a0, a1, a2, a3, a4, a5⟩, ⟨b0, b1, b2, b3, b4, b5⟩, ⟨z0, z1, z2, z3, z4, z5⟩, f0, f1, f2, f3, f4, f5⟩ := HR2.out.all
  go_wp2_with fail
  go_at_call 153
  refine (HMA.out _).mono ?_
  rintro e w3 ⟨rfl, hb⟩
  clear a0 a1 a2 a3 a4 a5 b0 b1 b2 b3 b4 b5 z0 z1 z2 z3 z4 z5 f0 f1 f2 f3 f4 f5
  have HR3 := Lib.hid (HR2.out.step hb)
  clear hb
  obtain ⟨⟨a0, a1, a2, a3, a4, a5⟩, ⟨b0, b1, b2, b3, b4, b5⟩, ⟨z0, z1, z2, z3, z4, z5⟩, f0, f1, f2, f3, f4, f5⟩ := HR3.out.all
  go_wp2_with fail
  exact bodyPost_ret (v := .tuple #[.agg #[.int .i64 0, .int .i64 0, .string ⟨#[]⟩, .slice none 0 0, .slice none 0 0, .slice none 0 0], .int .i64 12]) (by simp [results, Tryz.results141, go_sem, *]) rfl (val_e HQ.out (below_six HR3.out.2.2.2 (by omega) _ _ _ _ _ _))
 rw [eq_true_of_ne_false c3] at HMA
 by_cases c4 : numB bk = false
 ·rw [c4] at HMB
  have HQ := Lib.hid (show r = (0, 0, 12) by rw [hr, reck, if_neg c1, if_neg c2, if_neg c3, if_pos c4])
  clear c1 c2 c3 c4 hr
  go_enter Tryz.func141, Tryz.ntmps141
  go_wp2_with fail
  generalize hW : (((w.alloc (.cells #[Value.int .i64 ak, .int .i64 an, p2, p3, p4, p5] 26)).alloc (.cells #[Value.int .i64 bk, .int .i64 bn, q2, q3, q4, q5] 26)).alloc (.cells #[Value.int .i64 0, .int .i64 0, .string ⟨#[]⟩, .slice none 0 0, .slice none 0 0, .slice none 0 0] 26)) = W0 at *
  clear hW
  obtain ⟨⟨a0, a1, a2, a3, a4, a5⟩, ⟨b0, b1, b2, b3, b4, b5⟩, ⟨z0, z1, z2, z3, z4, z5⟩, f0, f1, f2, f3, f4, f5⟩ := HR0.out.all
  go_wp2_with fail
  go_at_call 152
  refine (HNA.out _).mono ?_
  rintro e w1 ⟨rfl, hb⟩
  clear a0 a1 a2 a3 a4 a5 b0 b1 b2 b3 b4 b5 z0 z1 z2 z3 z4 z5 f0 f1 f2 f3 f4 f5
  have HR1 := Lib.hid (HR0.out.step hb)
  clear hb
  obtain ⟨⟨a0, a1, a2, a3, a4, a5⟩, ⟨b0, b1, b2, b3, b4, b5⟩, ⟨z0, z1, z2, z3, z4, z5⟩, f0, f1, f2, f3, f4, f5⟩ := HR1.out.all
  go_wp2_with fail
  go_at_call 152
  refine (HNB.out _).mono ?_
  rintro e w2 ⟨rfl, hb⟩
  clear a0 a1 a2 a3 a4 a5 b0 b1 b2 b3 b4 b5 z0 z1 z2 z3 z4 z5 f0 f1 f2 f3 f4 f5
  have HR2 := Lib.hid (HR1.out.step hb)
  clear hb
  obtain ⟨⟨a0, a1, a2, a3, a4, a5⟩, ⟨b0, b1, b2, b3, b4, b5⟩, ⟨z0, z1, z2, z3, z4, z5⟩, f0, f1, f2, f3, f4, f5⟩ := HR2.out.all
  go_wp2_with fail
  go_at_call 153
  refine (HMA.out _).mono ?_
  rintro e w3 ⟨rfl, hb⟩
  clear a0 a1 a2 a3 a4 a5 b0 b1 b2 b3 b4 b5 z0 z1 z2 z3 z4 z5 f0 f1 f2 f3 f4 f5
  have HR3 := Lib.hid (HR2.out.step hb)
  clear hb
  obtain ⟨⟨a0, a1, a2, a3, a4, a5⟩, ⟨b0, b1, b2, b3, b4, b5⟩, ⟨z0, z1, z2, z3, z4, z5⟩, f0, f1, f2, f3, f4, f5⟩ := HR3.out.all
  go_wp2_with fail
  go_at_call 153
  refine (HMB.out _).mono ?_
  rintro e w4 ⟨rfl, hb⟩
  clear a0 a1 a2 a3 a4 a5 b0 b1 b2 b3 b4 b5 z0 z1 z2 z3 z4 z5 f0 f1 f2 f3 f4 f5
  have HR4 := Lib.hid (HR3.out.step hb)
  clear hb
  obtain ⟨⟨a0, a1, a2, a3, a4, a5⟩, ⟨b0, b1, b2, b3, b4, b5⟩, ⟨z0, z1, z2, z3, z4, z5⟩, f0, f1, f2, f3, f4, f5⟩ := HR4.out.all
  go_wp2_with fail
  exact bodyPost_ret (v := .tuple #[.agg #[.int .i64 0, .int .i64 0, .string ⟨#[]⟩, .slice none 0 0, .slice none 0 0, .slice none 0 0], .int .i64 12]) (by simp [results, Tryz.results141, go_sem, *]) rfl (val_e HQ.out (below_six HR4.out.2.2.2 (by omega) _ _ _ _ _ _))
 rw [eq_true_of_ne_false c4] at HMB
 have HOP := Lib.hid hop
 clear hop
 obtain ⟨o, ho⟩ : ∃ o, o = o0 := ⟨_, rfl⟩
 rw [← ho] at HOP hr
 obtain ⟨n, e⟩ := o
 clear ho
 by_cases c5 : e = 0
 ·subst c5
  by_cases c6 : ak = 4
  ·have e6 : ((ak : Int) == 4) = true := by rw [beq_iff_eq]; exact c6
   have HQ := Lib.hid (show r = (4, n, 0) by rw [hr, reck, if_neg c1, if_neg c2, if_neg c3, if_neg c4, if_neg (fun h => h rfl), if_pos c6])
   clear c1 c2 c3 c4 c6 hr
   go_enter Tryz.func141, Tryz.ntmps141
   go_wp2_with fail
   generalize hW : (((w.alloc (.cells #[Value.int .i64 ak, .int .i64 an, p2, p3, p4, p5] 26)).alloc (.cells #[Value.int .i64 bk, .int .i64 bn, q2, q3, q4, q5] 26)).alloc (.cells #[Value.int .i64 0, .int .i64 0, .string ⟨#[]⟩, .slice none 0 0, .slice none 0 0, .slice none 0 0] 26)) = W0 at *
   clear hW
   obtain ⟨⟨a0, a1, a2, a3, a4, a5⟩, ⟨b0, b1, b2, b3, b4, b5⟩, ⟨z0, z1, z2, z3, z4, z5⟩, f0, f1, f2, f3, f4, f5⟩ := HR0.out.all
   go_wp2_with fail
   go_at_call 152
   refine (HNA.out _).mono ?_
   rintro e w1 ⟨rfl, hb⟩
   clear a0 a1 a2 a3 a4 a5 b0 b1 b2 b3 b4 b5 z0 z1 z2 z3 z4 z5 f0 f1 f2 f3 f4 f5
   have HR1 := Lib.hid (HR0.out.step hb)
   clear hb
   obtain ⟨⟨a0, a1, a2, a3, a4, a5⟩, ⟨b0, b1, b2, b3, b4, b5⟩, ⟨z0, z1, z2, z3, z4, z5⟩, f0, f1, f2, f3, f4, f5⟩ := HR1.out.all
   go_wp2_with fail
   go_at_call 152
   refine (HNB.out _).mono ?_
   rintro e w2 ⟨rfl, hb⟩
   clear a0 a1 a2 a3 a4 a5 b0 b1 b2 b3 b4 b5 z0 z1 z2 z3 z4 z5 f0 f1 f2 f3 f4 f5
   have HR2 := Lib.hid (HR1.out.step hb)
   clear hb
   obtain ⟨⟨a0, a1, a2, a3, a4, a5⟩, ⟨b0, b1, b2, b3, b4, b5⟩, ⟨z0, z1, z2, z3, z4, z5⟩, f0, f1, f2, f3, f4, f5⟩ := HR2.out.all
   go_wp2_with fail
   go_at_call 153
   refine (HMA.out _).mono ?_
   rintro e w3 ⟨rfl, hb⟩
   clear a0 a1 a2 a3 a4 a5 b0 b1 b2 b3 b4 b5 z0 z1 z2 z3 z4 z5 f0 f1 f2 f3 f4 f5
   have HR3 := Lib.hid (HR2.out.step hb)
   clear hb
   obtain ⟨⟨a0, a1, a2, a3, a4, a5⟩, ⟨b0, b1, b2, b3, b4, b5⟩, ⟨z0, z1, z2, z3, z4, z5⟩, f0, f1, f2, f3, f4, f5⟩ := HR3.out.all
   go_wp2_with fail
   go_at_call 153
   refine (HMB.out _).mono ?_
   rintro e w4 ⟨rfl, hb⟩
   clear a0 a1 a2 a3 a4 a5 b0 b1 b2 b3 b4 b5 z0 z1 z2 z3 z4 z5 f0 f1 f2 f3 f4 f5
   have HR4 := Lib.hid (HR3.out.step hb)
   clear hb
   obtain ⟨⟨a0, a1, a2, a3, a4, a5⟩, ⟨b0, b1, b2, b3, b4, b5⟩, ⟨z0, z1, z2, z3, z4, z5⟩, f0, f1, f2, f3, f4, f5⟩ := HR4.out.all
   go_wp2_with fail
   refine (HOP.out _).mono ?_
   rintro ee ww ⟨rfl, nq, rfl⟩
   go_wp2_with fail
   exact bodyPost_ret (v := .tuple #[.agg #[.int .i64 4, .int .i64 n, .string ⟨#[]⟩, .slice none 0 0, .slice none 0 0, .slice none 0 0], .int .i64 0]) (by simp [results, Tryz.results141, go_sem, *]) rfl (val_e HQ.out (below_six (below_dr HR4.out.2.2.2 _) (by omega) _ _ _ _ _ _))
  have e6 : ((ak : Int) == 4) = false := by rw [beq_eq_false_iff_ne]; exact c6
  by_cases c7 : bk = 4
  ·have e7 : ((bk : Int) == 4) = true := by rw [beq_iff_eq]; exact c7
   have HQ := Lib.hid (show r = (4, n, 0) by rw [hr, reck, if_neg c1, if_neg c2, if_neg c3, if_neg c4, if_neg (fun h => h rfl), if_neg c6, if_pos c7])
   clear c1 c2 c3 c4 c7 hr
   go_enter Tryz.func141, Tryz.ntmps141
   go_wp2_with fail
   generalize hW : (((w.alloc (.cells #[Value.int .i64 ak, .int .i64 an, p2, p3, p4, p5] 26)).alloc (.cells #[Value.int .i64 bk, .int .i64 bn, q2, q3, q4, q5] 26)).alloc (.cells #[Value.int .i64 0, .int .i64 0, .string ⟨#[]⟩, .slice none 0 0, .slice none 0 0, .slice none 0 0] 26)) = W0 at *
   clear hW
   obtain ⟨⟨a0, a1, a2, a3, a4, a5⟩, ⟨b0, b1, b2, b3, b4, b5⟩, ⟨z0, z1, z2, z3, z4, z5⟩, f0, f1, f2, f3, f4, f5⟩ := HR0.out.all
   go_wp2_with fail
   go_at_call 152
   refine (HNA.out _).mono ?_
   rintro e w1 ⟨rfl, hb⟩
   clear a0 a1 a2 a3 a4 a5 b0 b1 b2 b3 b4 b5 z0 z1 z2 z3 z4 z5 f0 f1 f2 f3 f4 f5
   have HR1 := Lib.hid (HR0.out.step hb)
   clear hb
   obtain ⟨⟨a0, a1, a2, a3, a4, a5⟩, ⟨b0, b1, b2, b3, b4, b5⟩, ⟨z0, z1, z2, z3, z4, z5⟩, f0, f1, f2, f3, f4, f5⟩ := HR1.out.all
   go_wp2_with fail
   go_at_call 152
   refine (HNB.out _).mono ?_
   rintro e w2 ⟨rfl, hb⟩
   clear a0 a1 a2 a3 a4 a5 b0 b1 b2 b3 b4 b5 z0 z1 z2 z3 z4 z5 f0 f1 f2 f3 f4 f5
   have HR2 := Lib.hid (HR1.out.step hb)
   clear hb
   obtain ⟨⟨a0, a1, a2, a3, a4, a5⟩, ⟨b0, b1, b2, b3, b4, b5⟩, ⟨z0, z1, z2, z3, z4, z5⟩, f0, f1, f2, f3, f4, f5⟩ := HR2.out.all
   go_wp2_with fail
   go_at_call 153
   refine (HMA.out _).mono ?_
   rintro e w3 ⟨rfl, hb⟩
   clear a0 a1 a2 a3 a4 a5 b0 b1 b2 b3 b4 b5 z0 z1 z2 z3 z4 z5 f0 f1 f2 f3 f4 f5
   have HR3 := Lib.hid (HR2.out.step hb)
   clear hb
   obtain ⟨⟨a0, a1, a2, a3, a4, a5⟩, ⟨b0, b1, b2, b3, b4, b5⟩, ⟨z0, z1, z2, z3, z4, z5⟩, f0, f1, f2, f3, f4, f5⟩ := HR3.out.all
   go_wp2_with fail
   go_at_call 153
   refine (HMB.out _).mono ?_
   rintro e w4 ⟨rfl, hb⟩
   clear a0 a1 a2 a3 a4 a5 b0 b1 b2 b3 b4 b5 z0 z1 z2 z3 z4 z5 f0 f1 f2 f3 f4 f5
   have HR4 := Lib.hid (HR3.out.step hb)
   clear hb
   obtain ⟨⟨a0, a1, a2, a3, a4, a5⟩, ⟨b0, b1, b2, b3, b4, b5⟩, ⟨z0, z1, z2, z3, z4, z5⟩, f0, f1, f2, f3, f4, f5⟩ := HR4.out.all
   go_wp2_with fail
   refine (HOP.out _).mono ?_
   rintro ee ww ⟨rfl, nq, rfl⟩
   go_wp2_with fail
   exact bodyPost_ret (v := .tuple #[.agg #[.int .i64 4, .int .i64 n, .string ⟨#[]⟩, .slice none 0 0, .slice none 0 0, .slice none 0 0], .int .i64 0]) (by simp [results, Tryz.results141, go_sem, *]) rfl (val_e HQ.out (below_six (below_dr HR4.out.2.2.2 _) (by omega) _ _ _ _ _ _))
  have e7 : ((bk : Int) == 4) = false := by rw [beq_eq_false_iff_ne]; exact c7
  have HQ := Lib.hid (show r = (ofK n, n, 0) by rw [hr, reck, if_neg c1, if_neg c2, if_neg c3, if_neg c4, if_neg (fun h => h rfl), if_neg c6, if_neg c7])
  clear c1 c2 c3 c4 hr
  go_enter Tryz.func141, Tryz.ntmps141
  go_wp2_with fail
  generalize hW : (((w.alloc (.cells #[Value.int .i64 ak, .int .i64 an, p2, p3, p4, p5] 26)).alloc (.cells #[Value.int .i64 bk, .int .i64 bn, q2, q3, q4, q5] 26)).alloc (.cells #[Value.int .i64 0, .int .i64 0, .string ⟨#[]⟩, .slice none 0 0, .slice none 0 0, .slice none 0 0] 26)) = W0 at *
  clear hW
  obtain ⟨⟨a0, a1, a2, a3, a4, a5⟩, ⟨b0, b1, b2, b3, b4, b5⟩, ⟨z0, z1, z2, z3, z4, z5⟩, f0, f1, f2, f3, f4, f5⟩ := HR0.out.all
  go_wp2_with fail
  go_at_call 152
  refine (HNA.out _).mono ?_
  rintro e w1 ⟨rfl, hb⟩
  clear a0 a1 a2 a3 a4 a5 b0 b1 b2 b3 b4 b5 z0 z1 z2 z3 z4 z5 f0 f1 f2 f3 f4 f5
  have HR1 := Lib.hid (HR0.out.step hb)
  clear hb
  obtain ⟨⟨a0, a1, a2, a3, a4, a5⟩, ⟨b0, b1, b2, b3, b4, b5⟩, ⟨z0, z1, z2, z3, z4, z5⟩, f0, f1, f2, f3, f4, f5⟩ := HR1.out.all
  go_wp2_with fail
  go_at_call 152
  refine (HNB.out _).mono ?_
  rintro e w2 ⟨rfl, hb⟩
  clear a0 a1 a2 a3 a4 a5 b0 b1 b2 b3 b4 b5 z0 z1 z2 z3 z4 z5 f0 f1 f2 f3 f4 f5
  have HR2 := Lib.hid (HR1.out.step hb)
  clear hb
  obtain ⟨⟨a0, a1, a2, a3, a4, a5⟩, ⟨b0, b1, b2, b3, b4, b5⟩, ⟨z0, z1, z2, z3, z4, z5⟩, f0, f1, f2, f3, f4, f5⟩ := HR2.out.all
  go_wp2_with fail
  go_at_call 153
  refine (HMA.out _).mono ?_
  rintro e w3 ⟨rfl, hb⟩
  clear a0 a1 a2 a3 a4 a5 b0 b1 b2 b3 b4 b5 z0 z1 z2 z3 z4 z5 f0 f1 f2 f3 f4 f5
  have HR3 := Lib.hid (HR2.out.step hb)
  clear hb
  obtain ⟨⟨a0, a1, a2, a3, a4, a5⟩, ⟨b0, b1, b2, b3, b4, b5⟩, ⟨z0, z1, z2, z3, z4, z5⟩, f0, f1, f2, f3, f4, f5⟩ := HR3.out.all
  go_wp2_with fail
  go_at_call 153
  refine (HMB.out _).mono ?_
  rintro e w4 ⟨rfl, hb⟩
  clear a0 a1 a2 a3 a4 a5 b0 b1 b2 b3 b4 b5 z0 z1 z2 z3 z4 z5 f0 f1 f2 f3 f4 f5
  have HR4 := Lib.hid (HR3.out.step hb)
  clear hb
  obtain ⟨⟨a0, a1, a2, a3, a4, a5⟩, ⟨b0, b1, b2, b3, b4, b5⟩, ⟨z0, z1, z2, z3, z4, z5⟩, f0, f1, f2, f3, f4, f5⟩ := HR4.out.all
  go_wp2_with fail
  refine (HOP.out _).mono ?_
  rintro ee ww ⟨rfl, nq, rfl⟩
  go_wp2_with fail
  go_at_call 112
  refine (of_any _ _).mono ?_
  rintro ee w5 ⟨rfl, hb⟩
  clear a0 a1 a2 a3 a4 a5 b0 b1 b2 b3 b4 b5 z0 z1 z2 z3 z4 z5 f0 f1 f2 f3 f4 f5
  have HR5 := Lib.hid (HR4.out.step ((below_dr (Below.refl _ _) nq).trans (hb.mono (Nat.le_refl _))))
  clear hb
  obtain ⟨⟨a0, a1, a2, a3, a4, a5⟩, ⟨b0, b1, b2, b3, b4, b5⟩, ⟨z0, z1, z2, z3, z4, z5⟩, f0, f1, f2, f3, f4, f5⟩ := HR5.out.all
  go_wp2_with fail
  exact bodyPost_ret (v := .tuple #[.agg #[.int .i64 (ofK n), .int .i64 n, .string ⟨#[]⟩, .slice none 0 0, .slice none 0 0, .slice none 0 0], .int .i64 0]) (by simp [results, Tryz.results141, go_sem, *]) rfl (val_e HQ.out (below_six HR5.out.2.2.2 (by omega) _ _ _ _ _ _))
 ·have e5 : ((e : Int) != 0) = true := by simp [c5]
  have HQ := Lib.hid (show r = (0, 0, e) by rw [hr, reck, if_neg c1, if_neg c2, if_neg c3, if_neg c4, if_pos c5])
  clear c1 c2 c3 c4 hr
  go_enter Tryz.func141, Tryz.ntmps141
  go_wp2_with fail
  generalize hW : (((w.alloc (.cells #[Value.int .i64 ak, .int .i64 an, p2, p3, p4, p5] 26)).alloc (.cells #[Value.int .i64 bk, .int .i64 bn, q2, q3, q4, q5] 26)).alloc (.cells #[Value.int .i64 0, .int .i64 0, .string ⟨#[]⟩, .slice none 0 0, .slice none 0 0, .slice none 0 0] 26)) = W0 at *
  clear hW
  obtain ⟨⟨a0, a1, a2, a3, a4, a5⟩, ⟨b0, b1, b2, b3, b4, b5⟩, ⟨z0, z1, z2, z3, z4, z5⟩, f0, f1, f2, f3, f4, f5⟩ := HR0.out.all
  go_wp2_with fail
  go_at_call 152
  refine (HNA.out _).mono ?_
  rintro e w1 ⟨rfl, hb⟩
  clear a0 a1 a2 a3 a4 a5 b0 b1 b2 b3 b4 b5 z0 z1 z2 z3 z4 z5 f0 f1 f2 f3 f4 f5
  have HR1 := Lib.hid (HR0.out.step hb)
  clear hb
  obtain ⟨⟨a0, a1, a2, a3, a4, a5⟩, ⟨b0, b1, b2, b3, b4, b5⟩, ⟨z0, z1, z2, z3, z4, z5⟩, f0, f1, f2, f3, f4, f5⟩ := HR1.out.all
  go_wp2_with fail
  go_at_call 152
  refine (HNB.out _).mono ?_
  rintro e w2 ⟨rfl, hb⟩
  clear a0 a1 a2 a3 a4 a5 b0 b1 b2 b3 b4 b5 z0 z1 z2 z3 z4 z5 f0 f1 f2 f3 f4 f5
  have HR2 := Lib.hid (HR1.out.step hb)
  clear hb
  obtain ⟨⟨a0, a1, a2, a3, a4, a5⟩, ⟨b0, b1, b2, b3, b4, b5⟩, ⟨z0, z1, z2, z3, z4, z5⟩, f0, f1, f2, f3, f4, f5⟩ := HR2.out.all
  go_wp2_with fail
  go_at_call 153
  refine (HMA.out _).mono ?_
  rintro e w3 ⟨rfl, hb⟩
  clear a0 a1 a2 a3 a4 a5 b0 b1 b2 b3 b4 b5 z0 z1 z2 z3 z4 z5 f0 f1 f2 f3 f4 f5
  have HR3 := Lib.hid (HR2.out.step hb)
  clear hb
  obtain ⟨⟨a0, a1, a2, a3, a4, a5⟩, ⟨b0, b1, b2, b3, b4, b5⟩, ⟨z0, z1, z2, z3, z4, z5⟩, f0, f1, f2, f3, f4, f5⟩ := HR3.out.all
  go_wp2_with fail
  go_at_call 153
  refine (HMB.out _).mono ?_
  rintro e w4 ⟨rfl, hb⟩
  clear a0 a1 a2 a3 a4 a5 b0 b1 b2 b3 b4 b5 z0 z1 z2 z3 z4 z5 f0 f1 f2 f3 f4 f5
  have HR4 := Lib.hid (HR3.out.step hb)
  clear hb
  obtain ⟨⟨a0, a1, a2, a3, a4, a5⟩, ⟨b0, b1, b2, b3, b4, b5⟩, ⟨z0, z1, z2, z3, z4, z5⟩, f0, f1, f2, f3, f4, f5⟩ := HR4.out.all
  go_wp2_with fail
  refine (HOP.out _).mono ?_
  rintro ee ww ⟨rfl, nq, rfl⟩
  go_wp2_with fail
  exact bodyPost_ret (v := .tuple #[.agg #[.int .i64 0, .int .i64 0, .string ⟨#[]⟩, .slice none 0 0, .slice none 0 0, .slice none 0 0], .int .i64 e]) (by simp [results, Tryz.results141, go_sem, *]) rfl (val_e HQ.out (below_six (below_dr HR4.out.2.2.2 _) (by omega) _ _ _ _ _ _))
end Go.Proofs.YtiajjgehnmkokaaGreatDoor
end
