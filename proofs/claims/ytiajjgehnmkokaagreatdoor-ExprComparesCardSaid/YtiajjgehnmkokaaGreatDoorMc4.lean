/- NumBox, OrderRowsIn, OrderText, PathEachF, PathEachV, NumRkAny. -/
import Derived.IntWalk
import Derived.WalkSpells
import Derived.Test.YtiajjgehnmkokaaGreatDoorMc3
import Derived.Test.YtiajjgehnmkokaaGreatDoorMc2
set_option maxRecDepth 100000
set_option maxHeartbeats 20000000
section
namespace Go.Proofs.YtiajjgehnmkokaaGreatDoor
open Go.RowKit
open Seal
open Num
def Got (w : World) (g : Nat) (cs : Array Value) : Prop := w.heap[g]? = some (.cells cs 26 (0, 0))
theorem Got.lt {w : World} {g : Nat} {cs : Array Value} (h : Got w g cs) : g < w.heap.size := (Array.getElem?_eq_some_iff.1 h).1
theorem Got.keep {w w' : World} {g : Nat} {cs : Array Value} (h : Got w g cs) (hb : Below w.heap.size w w') : Got w' g cs := (hb.block g h.lt).trans h
theorem Got.cell {w : World} {g : Nat} {cs : Array Value} (h : Got w g cs) (j : Nat) (v : Value) (hj : cs[j]? = some v) : w.cell? ⟨g, j, none⟩ = some v := (cell_of_row w g j _ _ _ h).trans hj
theorem Got.frozen {w : World} {g : Nat} {cs : Array Value} (h : Got w g cs) (j : Nat) : w.frozen? ⟨g, j, none⟩ = false := frozen_of_row w g j _ _ h
theorem Got.new (w : World) (cs : Array Value) : Got (w.alloc (.cells cs 26)) w.heap.size cs := heap_alloc_new w _
def R3 (w : World) (ca cb : Array Value) (wr : World) : Prop := Got wr w.heap.size ca ∧ Got wr (w.heap.size + 1) cb ∧ Got wr (w.heap.size + 2) #[.int .i64 0, .int .i64 0, .string ⟨#[]⟩, .slice none 0 0, .slice none 0 0, .slice none 0 0] ∧ Below w.heap.size w wr
theorem R3.step {w wr w' : World} {ca cb : Array Value} (h : R3 w ca cb wr) (hb : Below wr.heap.size wr w') : R3 w ca cb w' := ⟨h.1.keep hb, h.2.1.keep hb, h.2.2.1.keep hb, h.2.2.2.trans (hb.mono h.2.2.2.size)⟩
theorem R3.new (w : World) (ca cb : Array Value) : R3 w ca cb (((w.alloc (.cells ca 26)).alloc (.cells cb 26)).alloc (.cells #[.int .i64 0, .int .i64 0, .string ⟨#[]⟩, .slice none 0 0, .slice none 0 0, .slice none 0 0] 26)) := by
 have h1 := Got.new w ca
 have h2 := Got.new (w.alloc (.cells ca 26)) cb
 have h3 := Got.new ((w.alloc (.cells ca 26)).alloc (.cells cb 26)) #[.int .i64 0, .int .i64 0, .string ⟨#[]⟩, .slice none 0 0, .slice none 0 0, .slice none 0 0]
 have k2 : Below (w.alloc (.cells ca 26)).heap.size (w.alloc (.cells ca 26)) ((w.alloc (.cells ca 26)).alloc (.cells cb 26)) := (Below.refl _ _).alloc (Nat.le_refl _) _
 have k3 : Below ((w.alloc (.cells ca 26)).alloc (.cells cb 26)).heap.size ((w.alloc (.cells ca 26)).alloc (.cells cb 26)) (((w.alloc (.cells ca 26)).alloc (.cells cb 26)).alloc (.cells #[.int .i64 0, .int .i64 0, .string ⟨#[]⟩, .slice none 0 0, .slice none 0 0, .slice none 0 0] 26)) := (Below.refl _ _).alloc (Nat.le_refl _) _
 have e1 : (w.alloc (.cells ca 26)).heap.size = w.heap.size + 1 := by simp
 have e2 : ((w.alloc (.cells ca 26)).alloc (.cells cb 26)).heap.size = w.heap.size + 2 := by simp
 have h1' := (h1.keep k2).keep k3
 have h2' := h2.keep k3
 rw [e1] at h2'
 rw [e2] at h3
 exact ⟨h1', h2', h3, (((Below.refl _ w).alloc (Nat.le_refl _) _).alloc (by simp) _).alloc (by simp; omega) _⟩
def Six6 (w : World) (g : Nat) (c0 c1 c2 c3 c4 c5 : Value) : Prop := w.cell? ⟨g, 0, none⟩ = some c0 ∧ w.cell? ⟨g, 1, none⟩ = some c1 ∧ w.cell? ⟨g, 2, none⟩ = some c2 ∧ w.cell? ⟨g, 3, none⟩ = some c3 ∧ w.cell? ⟨g, 4, none⟩ = some c4 ∧ w.cell? ⟨g, 5, none⟩ = some c5
theorem Got.six {w : World} {g : Nat} {c0 c1 c2 c3 c4 c5 : Value} (h : Got w g #[c0, c1, c2, c3, c4, c5]) : Six6 w g c0 c1 c2 c3 c4 c5 := ⟨h.cell 0 _ rfl, h.cell 1 _ rfl, h.cell 2 _ rfl, h.cell 3 _ rfl, h.cell 4 _ rfl, h.cell 5 _ rfl⟩
theorem R3.all {w wr : World} {c0 c1 c2 c3 c4 c5 d0 d1 d2 d3 d4 d5 : Value} (h : R3 w #[c0, c1, c2, c3, c4, c5] #[d0, d1, d2, d3, d4, d5] wr) :
  Six6 wr w.heap.size c0 c1 c2 c3 c4 c5 ∧ Six6 wr (w.heap.size + 1) d0 d1 d2 d3 d4 d5 ∧ Six6 wr (w.heap.size + 2) (.int .i64 0) (.int .i64 0) (.string ⟨#[]⟩) (.slice none 0 0) (.slice none 0 0) (.slice none 0 0) ∧
   wr.frozen? ⟨w.heap.size + 2, 0, none⟩ = false ∧ wr.frozen? ⟨w.heap.size + 2, 1, none⟩ = false ∧ wr.frozen? ⟨w.heap.size + 2, 2, none⟩ = false ∧ wr.frozen? ⟨w.heap.size + 2, 3, none⟩ = false ∧ wr.frozen? ⟨w.heap.size + 2, 4, none⟩ = false ∧ wr.frozen? ⟨w.heap.size + 2, 5, none⟩ = false :=
 ⟨h.1.six, h.2.1.six, h.2.2.1.six, h.2.2.1.frozen 0, h.2.2.1.frozen 1, h.2.2.1.frozen 2, h.2.2.1.frozen 3, h.2.2.1.frozen 4, h.2.2.1.frozen 5⟩
theorem below_six {w w' : World} {B : Nat} (h : Below w.heap.size w w') (hB : w.heap.size ≤ B) (v0 v1 v2 v3 v4 v5 : Value) :
  Below w.heap.size w ((((((w'.setCell ⟨B, 0, none⟩ v0).setCell ⟨B, 1, none⟩ v1).setCell ⟨B, 2, none⟩ v2).setCell ⟨B, 3, none⟩ v3).setCell ⟨B, 4, none⟩ v4).setCell ⟨B, 5, none⟩ v5) :=
 (((((h.setCell hB _).setCell hB _).setCell hB _).setCell hB _).setCell hB _).setCell hB _
def ValE (r : Int × Int × Int) (w : World) (e : Ending) (w' : World) : Prop := e = .returned (.tuple #[.agg #[.int .i64 r.1, .int .i64 r.2.1, .string ⟨#[]⟩, .slice none 0 0, .slice none 0 0, .slice none 0 0], .int .i64 r.2.2]) ∧ Below w.heap.size w w'
theorem val_e {r : Int × Int × Int} {k n e : Int} {w w' : World} (h : r = (k, n, e)) (hb : Below w.heap.size w w') : ValE r w (.returned (.tuple #[.agg #[.int .i64 k, .int .i64 n, .string ⟨#[]⟩, .slice none 0 0, .slice none 0 0, .slice none 0 0], .int .i64 e])) w' := by subst h; exact ⟨rfl, hb⟩
namespace Num
def reck (o : Int × Int) (ak bk : Int) : Int × Int × Int :=
 if noneB ak = true then (2, 0, 0) else if noneB bk = true then (2, 0, 0) else if numB ak = false then (0, 0, 12) else if numB bk = false then (0, 0, 12) else
  if o.2 ≠ 0 then (0, 0, o.2) else if ak = 4 then (4, o.1, 0) else if bk = 4 then (4, o.1, 0) else (ofK o.1, o.1, 0)
end Num
end Go.Proofs.YtiajjgehnmkokaaGreatDoor
end
section
namespace Go.Proofs.YtiajjgehnmkokaaGreatDoor
open Go.RowKit
open Seal
open Bson (Val)
theorem two_items {w : World} {Q : Nat → Prop} {h g : Nat} {x y : Val} {a0 a1 a2 a3 a4 a5 b0 b1 b2 b3 b4 b5 : Value} {t : TypeId}
  (hr : w.heap[g]? = some (.cells #[a0, a1, a2, a3, a4, a5, b0, b1, b2, b3, b4, b5] t (0, 0))) (hq : Q g) (hx : VIn w Q h x (.agg #[a0, a1, a2, a3, a4, a5])) (hy : VIn w Q h y (.agg #[b0, b1, b2, b3, b4, b5])) :
  ItemsIn w Q (VIn w Q h) (some ⟨g, 0, none⟩) [x, y] := by
 have e : ∀ j c, (#[a0, a1, a2, a3, a4, a5, b0, b1, b2, b3, b4, b5] : Array Value)[j]? = some c → w.cell? ⟨g, j, none⟩ = some c := fun j c hc => (cell_of_row _ _ j _ _ _ hr).trans hc
 refine .inr ⟨g, 0, rfl, hq, fun i hi => ?_⟩
 match i, hi with
 | 0, _ => exact ⟨_, ⟨a0, a1, a2, a3, a4, a5, rfl, e _ _ rfl, e _ _ rfl, e _ _ rfl, e _ _ rfl, e _ _ rfl, e _ _ rfl⟩, hx⟩
 | 1, _ => exact ⟨_, ⟨b0, b1, b2, b3, b4, b5, rfl, e _ _ rfl, e _ _ rfl, e _ _ rfl, e _ _ rfl, e _ _ rfl, e _ _ rfl⟩, hy⟩
theorem VIn.any {w : World} {Q : Nat → Prop} {h : Nat} {x : Val} {v : Value} (hv : VIn w Q h x v) : VIn w (fun _ => True) h x v := VIn.kept (Kept.of_below (Below.refl _ _)) (fun _ _ => trivial) hv
end Go.Proofs.YtiajjgehnmkokaaGreatDoor
end
section
namespace Go.Proofs.YtiajjgehnmkokaaGreatDoor
open Go.RowKit
open Seal
theorem sign_q (a b : Int) (w : World) : Calls Tryz.prog 34 #[.int .i64 a, .int .i64 b] w fun e w' => e = .returned (.int .i64 (Order.sgn a b)) ∧ w' = w := (sign_any a b w).mono fun _ _ ⟨h1, h2⟩ => ⟨h1, h2.symm⟩
theorem bytes_len (s : ByteArray) : (Order.bytes s).length = s.size := by unfold Order.bytes; rw [List.length_map]; exact Array.length_toList
theorem bytes_at (s : ByteArray) (k : Nat) (h : k < s.size) : (Order.bytes s)[k]'(by rw [bytes_len]; exact h) = s[k].toNat := by
 unfold Order.bytes
 rw [List.getElem_map]
 rfl
def TextGo (a b : ByteArray) (k : Nat) : Prop := Order.text a b = Order.lex Order.oct ((Order.bytes a).drop k) ((Order.bytes b).drop k)
theorem TextGo.next {a b : ByteArray} {k : Nat} (h : TextGo a b k) (ha : k < a.size) (hb : k < b.size) (e : a[k].toNat = b[k].toNat) : TextGo a b (k + 1) := by
 unfold TextGo at h ⊢
 rw [h]
 refine Order.lex_step (by rw [bytes_len]; exact ha) (by rw [bytes_len]; exact hb) ?_
 rw [bytes_at a k ha, bytes_at b k hb, e]
 exact Order.sgn_self _
theorem TextGo.here {a b : ByteArray} {k : Nat} (h : TextGo a b k) (ha : k < a.size) (hb : k < b.size) (e : ¬ a[k].toNat = b[k].toNat) : Order.text a b = Order.sgn (a[k].toNat : Int) (b[k].toNat : Int) := by
 unfold TextGo at h
 rw [h]
 refine (Order.lex_here (by rw [bytes_len]; exact ha) (by rw [bytes_len]; exact hb) ?_).trans ?_
 ·rw [bytes_at a k ha, bytes_at b k hb]
  intro e2
  have := Order.sgn_zero.1 e2
  omega
 ·rw [bytes_at a k ha, bytes_at b k hb]; rfl
theorem TextGo.last {a b : ByteArray} {k : Nat} (h : TextGo a b k) (ha : k ≤ a.size) (hb : k ≤ b.size) (e : ¬ (k < a.size ∧ k < b.size)) : Order.text a b = Order.sgn (a.size : Int) (b.size : Int) := by
 unfold TextGo at h
 rw [h, Order.lex_end (by rw [bytes_len]; exact ha) (by rw [bytes_len]; exact hb) (by rw [bytes_len, bytes_len]; omega), bytes_len, bytes_len]
theorem refText_any (a b : ByteArray) (w : World) (ha : a.size ≤ 140737488355328) (_ : b.size ≤ 140737488355328) :
  Calls Tryz.prog 36 #[.string a, .string b] w fun e w' => e = .returned (.int .i64 (Order.text a b)) ∧ ∃ q, w' = w.drewN q := by
 go_enter Tryz.func36, Tryz.ntmps36
 go_wp2
 go_loopw [5] (fun i wr => ∃ k : Nat, i = .int .i64 k ∧ k ≤ a.size ∧ k ≤ b.size ∧ Hid (TextGo a b k) ∧ Hid (∃ q, wr = w.drewN q)) (fun i _ => a.size - (intOf i).toNat)
 case atStart => exact ⟨0, rfl, Nat.zero_le _, Nat.zero_le _, rfl, ⟨0, rfl⟩⟩
 case round =>
  obtain ⟨k, rfl, hk, hk2, HT, HQ⟩ := hrel
  by_cases hka : k < a.size
  ·by_cases hkb : k < b.size
   ·by_cases e : a[k].toNat = b[k].toNat
    ·have HN := Lib.hid (HT.out.next hka hkb e)
     have he : (((a[k].toNat : Nat) : Int) != ((b[k].toNat : Nat) : Int)) = false := by simp [e]
     clear e
     go_wp2
     go_quiet (fail)
     go_wp2
     go_roundw
     case rel => exact ⟨k + 1, by go_num, by omega, by omega, HN, by obtain ⟨q, hq⟩ := HQ.out; exact ⟨_, by rw [hq, World.drewN_drewN]⟩⟩
     case measure => simp [intOf]; omega
    ·have HN := Lib.hid (HT.out.here hka hkb e)
     have he : (((a[k].toNat : Nat) : Int) != ((b[k].toNat : Nat) : Int)) = true := by rw [bne_iff_ne]; omega
     clear e
     go_wp2
     go_quiet (fail)
     go_wp2
     generalize hw1 : wr.drewN _ = w1
     have HW1 := Lib.hid hw1
     clear hw1
     have wa := IntWalk.i64_in (n := ((a[k].toNat : Nat) : Int)) (by have := a[k].toNat_lt; omega)
     have wb := IntWalk.i64_in (n := ((b[k].toNat : Nat) : Int)) (by have := b[k].toNat_lt; omega)
     go_quiet ((go_at_call 34; exact Calls.quiet_of_same (sign_q _ _ _)))
     go_wp2
     go_ret
     exact ⟨ret_i HN.out.symm, by obtain ⟨q, hq⟩ := HQ.out; exact ⟨_, by rw [← HW1.out, hq, World.drewN_drewN, World.drewN_drewN]⟩⟩
   ·have HN := Lib.hid (HT.out.last hk hk2 (by omega))
    go_wp2_with (go_at_call 34; refine (sign_any _ _ _).mono ?_; rintro e w' ⟨rfl, rfl⟩)
    go_ret
    exact ⟨ret_i HN.out.symm, HQ.out⟩
  ·have HN := Lib.hid (HT.out.last hk hk2 (by omega))
   go_wp2_with (go_at_call 34; refine (sign_any _ _ _).mono ?_; rintro e w' ⟨rfl, rfl⟩)
   go_ret
   exact ⟨ret_i HN.out.symm, HQ.out⟩
theorem cmpBytes_any (w : World) (a b : Option Addr) (l m : List Nat) (n c n2 c2 : Nat) (hl : l.length = n) (hm : m.length = n2) (h : SliceIs w a l) (h2 : SliceIs w b m) (ho : Oct l) (ho2 : Oct m) :
  Calls Tryz.prog 162 #[.slice a n c, .slice b n2 c2] w (IntPost (Order.blob l m) w) := by
 have HC := Lib.hid (bytesCmp_any w a b l m n c n2 c2 hl hm h h2 ho ho2)
 by_cases e : n = n2
 ·have HB := Lib.hid (show Order.blob l m = Order.octs l m by rw [Order.blob, if_pos (Order.sgn_zero.2 (by omega))])
  have he : Order.sgn (n : Int) (n2 : Int) = 0 := Order.sgn_zero.2 (by omega)
  have hb : (Order.sgn (n : Int) (n2 : Int) != 0) = false := by rw [he]; rfl
  clear h h2 ho ho2 hl hm e he
  go_enter Tryz.func162, Tryz.ntmps162
  go_wp2_with (first | (go_at_call 156; refine (cmpInt_any _ _ _).mono ?_; rintro e w' ⟨rfl, rfl⟩) | (go_at_call 163; refine HC.out.mono ?_; rintro e w' ⟨rfl, rfl⟩))
  go_ret
  exact ⟨ret_i HB.out.symm, rfl⟩
 ·have HB := Lib.hid (show Order.blob l m = Order.sgn (n : Int) (n2 : Int) by
   rw [Order.blob, if_neg (fun x => e (by have := Order.sgn_zero.1 x; omega)), hl, hm])
  have hb : (Order.sgn (n : Int) (n2 : Int) != 0) = true := by
   rw [bne_iff_ne]; intro x; have := Order.sgn_zero.1 x; omega
  clear h h2 ho ho2 hl hm e
  go_enter Tryz.func162, Tryz.ntmps162
  go_wp2_with (go_at_call 156; refine (cmpInt_any _ _ _).mono ?_; rintro e w' ⟨rfl, rfl⟩)
  go_ret
  exact ⟨ret_i HB.out.symm, rfl⟩
end Go.Proofs.YtiajjgehnmkokaaGreatDoor
end
section
namespace Go.Proofs.YtiajjgehnmkokaaGreatDoor
open Go.RowKit
open Seal
open Bson (Val)
theorem infoF7 : (Tryz.prog.info? 40).map (fun i => (i.zero, i.size, i.bytes)) = some (some (.agg #[.string ⟨#[]⟩, .int .i64 0, .int .i64 0, .string ⟨#[]⟩, .slice none 0 0, .slice none 0 0, .slice none 0 0]), 7, 120) := by kernel_rfl
theorem run_makeFlds (n : Nat) (hn : n ≤ 1172812402961) (u : World) : (Instr.makeSlice 23 (.int .i64 (n : Int)) (.int .i64 (n : Int))).run Tryz.prog u = .ok (.slice (some ⟨u.heap.size, 0, none⟩) n n) (u.alloc (.cells (madeCells #[.string ⟨#[]⟩, .int .i64 0, .int .i64 0, .string ⟨#[]⟩, .slice none 0 0, .slice none 0 0, .slice none 0 0] (n * 7)) 40)) := by
 obtain ⟨i0, hi, hz0, hz1, hz2⟩ := info_parts infoF7
 have h := run_make (P := Tryz.prog) u 23 40 i0 (.agg #[.string ⟨#[]⟩, .int .i64 0, .int .i64 0, .string ⟨#[]⟩, .slice none 0 0, .slice none 0 0, .slice none 0 0]) Tryz.underlying23 hi hz0 .i64 .i64 (n : Int) (n : Int) (by omega) (Int.le_refl _) (by rw [hz2]; omega) (by omega)
 rw [Int.toNat_natCast] at h
 simpa [hz1, Value.cells] using h
theorem eachF_any (Q : Nat → Prop) (h : Nat) (IH0 : CopyAt Q h) (a : Option Addr) (n c : Nat) (f : List (ByteArray × Val)) (w : World) (hn : f.length = n) (hnb : n ≤ 1172812402961) (hI : FieldsIn w Q (VIn w Q h) a f) :
  Calls Tryz.prog 43 #[.slice a n c, .func (.func 44) #[] #[]] w fun e w' => ∃ a' c', e = .returned (.slice a' n c') ∧ (n ≤ c' ∧ c' ≤ 9223372036854775807) ∧ FieldsIn w' (fun g => w.heap.size ≤ g) (VIn w' (fun g => w.heap.size ≤ g) h) a' f ∧ Below w.heap.size w w' := by
 have IH := Lib.hid (fun nm x c0 c1 c2 c3 c4 c5 w hv => copyfield_any Q h IH0 nm x c0 c1 c2 c3 c4 c5 w hv)
 have HI := Lib.hid hI
 have HN := Lib.hid hn
 have HNL : Hid (∀ i (hi : i < f.length), f[i].1.size ≤ 140737488355328) := by
  intro i hi
  rcases hI with h | ⟨g, o, _, _, h⟩
  ·rw [h] at hi; simp at hi
  ·exact (h i hi).2.1
 clear hI IH0 hn
 have hmk := run_makeFlds n hnb
 have he := fun u : World => Lib.run_eql_slice_nil (P := Tryz.prog) u 23 40 a n c 0 0 Tryz.underlying23
 cases a with
 | none =>
  have hnil : f = [] := by
   rcases HI.out with h | ⟨g, o, e, _⟩
   ·exact h
   ·cases e
  have hn0 : n = 0 := by rw [← HN.out, hnil]; rfl
  subst hn0
  have HNIL := Lib.hid hnil
  clear hnil
  go_enter Tryz.func43, Tryz.ntmps43
  go_wp2_with fail
  go_ret
  exact ⟨none, 0, rfl, ⟨Nat.le_refl _, by omega⟩, .inl HNIL.out, Below.refl _ _⟩
 | some p =>
  go_enter Tryz.func43, Tryz.ntmps43
  go_wp2_with fail
  go_loopw [15] (fun i wr => ∃ k : Nat, i = .int .i64 k ∧ k ≤ n ∧ Hid (Row6 wr w.heap.size 40 (n * 7)) ∧ Hid (Flds wr w.heap.size h f k) ∧ Hid (Below w.heap.size w wr)) (fun i _ => n - (intOf i).toNat)
  case atStart => exact ⟨0, rfl, Nat.zero_le _, ⟨_, heap_alloc_new w _, size_madeCells _ _⟩, Flds.none _ _ _ _, (Below.refl _ w).alloc (Nat.le_refl _) _⟩
  case round =>
   obtain ⟨k, rfl, hk, HR, HVS, HB⟩ := hrel
   by_cases hlt : k < n
   ·obtain ⟨g, o, hla, _, hall⟩ := HI.out.resolve_left (fun e => by have := HN.out; rw [e] at this; simp at this; omega)
    obtain ⟨hnm, hns, v', hsix, hV⟩ := hall k (by have := HN.out; omega)
    obtain rfl := Option.some.inj hla
    obtain ⟨ka, na, sa, ba, fa, la, bl, bc, fl, fc, ll, lc, rfl⟩ := hV.shape
    have HV := Lib.hid (VIn.keep HB.out hV)
    obtain ⟨s0, s1, s2, s3, s4, s5⟩ := (hsix.keep HB.out).cells
    obtain ⟨nm, hnme⟩ : ∃ nm, nm = (f[k]'(by have := HN.out; omega)).1 := ⟨_, rfl⟩
    have HNM := Lib.hid hnme
    clear hnme
    have s6 : wr.cell? ⟨g, o + k * 7, none⟩ = some (.string nm) := by rw [HNM.out]; exact cell_keep HB.out hnm
    have HNS : Hid (nm.size ≤ 140737488355328) := by rw [HNM.out]; exact hns
    clear hall hsix hV hnm hns
    go_wp2_with fail
    have HVa := Lib.hid (VIn.keep ((Below.refl _ wr).alloc (Nat.le_refl _) (.cells #[.string nm, .int .i64 ka, .int .i64 na, .string sa, .slice ba bl bc, .slice fa fl fc, .slice la ll lc] 40)) HV.out)
    refine (IH.out nm _ _ _ _ _ _ _ _ HVa.out).mono ?_
    rintro e w2 ⟨e0, e1, e2, e3, e4, e5, rfl, hv2, hb2⟩
    obtain ⟨kd, nd, sd, bd, fd, ld, bm, bz, fm, fz, lm, lz, hsh⟩ := hv2.shape
    injection hsh with hsh
    injection hsh with hsh
    injection hsh with x0 hsh; injection hsh with x1 hsh; injection hsh with x2 hsh; injection hsh with x3 hsh; injection hsh with x4 hsh; injection hsh with x5 hsh
    subst x0 x1 x2 x3 x4 x5
    clear hsh
    have HB2 : Hid (Below wr.heap.size wr w2) := ((Below.refl _ wr).alloc (Nat.le_refl _) _).trans (hb2.mono (by simp))
    have HR2 := Lib.hid (HR.out.keep HB2.out)
    have HVS2 := Lib.hid (HVS.out.keep HB2.out)
    have HBw2 : Hid (Below w.heap.size w w2) := HB.out.trans (HB2.out.mono HB.out.size)
    have hGlt : w.heap.size < wr.heap.size := HR.out.lt
    have HV2 : Hid (VIn w2 (fun g => w.heap.size < g) h (f[k]'(by have := HN.out; omega)).2 (.agg #[.int .i64 kd, .int .i64 nd, .string sd, .slice bd bm bz, .slice fd fm fz, .slice ld lm lz])) := hv2.kept (Kept.of_below (Below.refl _ _)) (fun g hg => by simp at hg; omega)
    clear hv2 hb2
    obtain ⟨⟨z0, g0⟩, f0⟩ := HR2.out.at (j := k * 7) (by omega)
    obtain ⟨⟨z1, g1⟩, f1⟩ := HR2.out.at (j := k * 7 + 1) (by omega)
    obtain ⟨⟨z2, g2⟩, f2⟩ := HR2.out.at (j := k * 7 + 2) (by omega)
    obtain ⟨⟨z3, g3⟩, f3⟩ := HR2.out.at (j := k * 7 + 3) (by omega)
    obtain ⟨⟨z4, g4⟩, f4⟩ := HR2.out.at (j := k * 7 + 4) (by omega)
    obtain ⟨⟨z5, g5⟩, f5⟩ := HR2.out.at (j := k * 7 + 5) (by omega)
    obtain ⟨⟨z6, g6⟩, f6⟩ := HR2.out.at (j := k * 7 + 6) (by omega)
    have HN2 : Hid (Flds (puts w2 w.heap.size (k * 7) [.string nm, .int .i64 kd, .int .i64 nd, .string sd, .slice bd bm bz, .slice fd fm fz, .slice ld lm lz]) w.heap.size h f (k + 1)) := by
     have := HVS2.out.put HR2.out (by have := HN.out; omega) (by rw [HN.out]) HV2.out
     rw [← HNM.out] at this
     exact this
    have HR3 := Lib.hid (HR2.out.puts (k * 7) [.string nm, .int .i64 kd, .int .i64 nd, .string sd, .slice bd bm bz, .slice fd fm fz, .slice ld lm lz] (by simp; omega)).1
    have HB3 := Lib.hid (puts_below HBw2.out (G := w.heap.size) (Nat.le_refl _) [.string nm, .int .i64 kd, .int .i64 nd, .string sd, .slice bd bm bz, .slice fd fm fz, .slice ld lm lz] (k * 7))
    clear s0 s1 s2 s3 s4 s5 s6 HV HVa HVS HR HB
    go_wp2_with fail
    go_roundw
    case rel => exact ⟨k + 1, by go_num, by omega, HR3, HN2, HB3⟩
    case measure => simp [intOf]; omega
   ·have hkk : k = n := by omega
    subst hkk
    go_wp2_with fail
    go_ret
    refine ⟨some ⟨w.heap.size, 0, none⟩, k, rfl, ⟨Nat.le_refl _, by omega⟩, .inr ⟨w.heap.size, 0, rfl, Nat.le_refl _, fun i hi => ?_⟩, HB.out⟩
    obtain ⟨h0, v, h1, h2⟩ := HVS.out i hi (by rw [← HN.out]; exact hi)
    rw [Nat.zero_add]
    exact ⟨h0, HNL.out i hi, v, h1, h2.kept (Kept.of_below (Below.refl _ _)) (fun g hg => Nat.le_of_lt hg)⟩
end Go.Proofs.YtiajjgehnmkokaaGreatDoor
end
section
namespace Go.Proofs.YtiajjgehnmkokaaGreatDoor
open Go.RowKit
open Seal
open Bson (Val)
theorem infoV6 : (Tryz.prog.info? 26).map (fun i => (i.zero, i.size, i.bytes)) = some (some (.agg #[.int .i64 0, .int .i64 0, .string ⟨#[]⟩, .slice none 0 0, .slice none 0 0, .slice none 0 0]), 6, 104) := by kernel_rfl
theorem run_makeVals (n : Nat) (hn : n ≤ 1353245080339) (u : World) : (Instr.makeSlice 24 (.int .i64 (n : Int)) (.int .i64 (n : Int))).run Tryz.prog u = .ok (.slice (some ⟨u.heap.size, 0, none⟩) n n) (u.alloc (.cells (madeCells #[.int .i64 0, .int .i64 0, .string ⟨#[]⟩, .slice none 0 0, .slice none 0 0, .slice none 0 0] (n * 6)) 26)) := by
 obtain ⟨i0, hi, hz0, hz1, hz2⟩ := info_parts infoV6
 have h := run_make (P := Tryz.prog) u 24 26 i0 (.agg #[.int .i64 0, .int .i64 0, .string ⟨#[]⟩, .slice none 0 0, .slice none 0 0, .slice none 0 0]) Tryz.underlying24 hi hz0 .i64 .i64 (n : Int) (n : Int) (by omega) (Int.le_refl _) (by rw [hz2]; omega) (by omega)
 rw [Int.toNat_natCast] at h
 simpa [hz1, Value.cells] using h
theorem eachV_any (Q : Nat → Prop) (h : Nat) (IH0 : CopyAt Q h) (a : Option Addr) (n c : Nat) (l : List Val) (w : World) (hn : l.length = n) (hnb : n ≤ 1353245080339) (hI : ItemsIn w Q (VIn w Q h) a l) :
  Calls Tryz.prog 45 #[.slice a n c, .func (.func 25) #[] #[]] w fun e w' => ∃ a' c', e = .returned (.slice a' n c') ∧ (n ≤ c' ∧ c' ≤ 9223372036854775807) ∧ ItemsIn w' (fun g => w.heap.size ≤ g) (VIn w' (fun g => w.heap.size ≤ g) h) a' l ∧ Below w.heap.size w w' := by
 have IH := Lib.hid IH0
 have HI := Lib.hid hI
 have HN := Lib.hid hn
 clear hI IH0 hn
 have hmk := run_makeVals n hnb
 have he := fun u : World => Lib.run_eql_slice_nil (P := Tryz.prog) u 24 26 a n c 0 0 Tryz.underlying24
 cases a with
 | none =>
  have hnil : l = [] := by
   rcases HI.out with h | ⟨g, o, e, _⟩
   ·exact h
   ·cases e
  have hn0 : n = 0 := by rw [← HN.out, hnil]; rfl
  subst hn0
  have HNIL := Lib.hid hnil
  clear hnil
  go_enter Tryz.func45, Tryz.ntmps45
  go_wp2_with fail
  go_ret
  exact ⟨none, 0, rfl, ⟨Nat.le_refl _, by omega⟩, .inl HNIL.out, Below.refl _ _⟩
 | some p =>
  go_enter Tryz.func45, Tryz.ntmps45
  go_wp2_with fail
  go_loopw [15] (fun i wr => ∃ k : Nat, i = .int .i64 k ∧ k ≤ n ∧ Hid (Row6 wr w.heap.size 26 (n * 6)) ∧ Hid (Vals wr w.heap.size h l k) ∧ Hid (Below w.heap.size w wr)) (fun i _ => n - (intOf i).toNat)
  case atStart => exact ⟨0, rfl, Nat.zero_le _, ⟨_, heap_alloc_new w _, size_madeCells _ _⟩, Vals.none _ _ _ _, (Below.refl _ w).alloc (Nat.le_refl _) _⟩
  case round =>
   obtain ⟨k, rfl, hk, HR, HVS, HB⟩ := hrel
   by_cases hlt : k < n
   ·obtain ⟨g, o, hla, _, hall⟩ := HI.out.resolve_left (fun e => by have := HN.out; rw [e] at this; simp at this; omega)
    obtain ⟨v', hsix, hV⟩ := hall k (by have := HN.out; omega)
    obtain rfl := Option.some.inj hla
    obtain ⟨ka, na, sa, ba, fa, la, bl, bc, fl, fc, ll, lc, rfl⟩ := hV.shape
    have HV := Lib.hid (VIn.keep HB.out hV)
    obtain ⟨s0, s1, s2, s3, s4, s5⟩ := (hsix.keep HB.out).cells
    clear hall hsix hV
    go_wp2_with fail
    have HVa := Lib.hid (VIn.keep ((Below.refl _ wr).alloc (Nat.le_refl _) (.cells #[.int .i64 ka, .int .i64 na, .string sa, .slice ba bl bc, .slice fa fl fc, .slice la ll lc] 26)) HV.out)
    refine (IH.out _ _ _ HVa.out).mono ?_
    rintro e w2 ⟨v2, rfl, hv2, hb2⟩
    obtain ⟨kd, nd, sd, bd, fd, ld, bm, bz, fm, fz, lm, lz, rfl⟩ := hv2.shape
    have HB2 : Hid (Below wr.heap.size wr w2) := ((Below.refl _ wr).alloc (Nat.le_refl _) _).trans (hb2.mono (by simp))
    have HR2 := Lib.hid (HR.out.keep HB2.out)
    have HVS2 := Lib.hid (HVS.out.keep HB2.out)
    have HBw2 : Hid (Below w.heap.size w w2) := HB.out.trans (HB2.out.mono HB.out.size)
    have hGlt : w.heap.size < wr.heap.size := HR.out.lt
    have HV2 : Hid (VIn w2 (fun g => w.heap.size < g) h (l[k]'(by have := HN.out; omega)) (.agg #[.int .i64 kd, .int .i64 nd, .string sd, .slice bd bm bz, .slice fd fm fz, .slice ld lm lz])) := hv2.kept (Kept.of_below (Below.refl _ _)) (fun g hg => by simp at hg; omega)
    clear hv2 hb2
    obtain ⟨⟨z0, g0⟩, f0⟩ := HR2.out.at (j := k * 6) (by omega)
    obtain ⟨⟨z1, g1⟩, f1⟩ := HR2.out.at (j := k * 6 + 1) (by omega)
    obtain ⟨⟨z2, g2⟩, f2⟩ := HR2.out.at (j := k * 6 + 2) (by omega)
    obtain ⟨⟨z3, g3⟩, f3⟩ := HR2.out.at (j := k * 6 + 3) (by omega)
    obtain ⟨⟨z4, g4⟩, f4⟩ := HR2.out.at (j := k * 6 + 4) (by omega)
    obtain ⟨⟨z5, g5⟩, f5⟩ := HR2.out.at (j := k * 6 + 5) (by omega)
    have HN2 : Hid (Vals (puts w2 w.heap.size (k * 6) [.int .i64 kd, .int .i64 nd, .string sd, .slice bd bm bz, .slice fd fm fz, .slice ld lm lz]) w.heap.size h l (k + 1)) := HVS2.out.put HR2.out (by have := HN.out; omega) (by rw [HN.out]) HV2.out
    have HR3 := Lib.hid (HR2.out.puts (k * 6) [.int .i64 kd, .int .i64 nd, .string sd, .slice bd bm bz, .slice fd fm fz, .slice ld lm lz] (by simp; omega)).1
    have HB3 := Lib.hid (puts_below HBw2.out (G := w.heap.size) (Nat.le_refl _) [.int .i64 kd, .int .i64 nd, .string sd, .slice bd bm bz, .slice fd fm fz, .slice ld lm lz] (k * 6))
    clear s0 s1 s2 s3 s4 s5 HV HVa HVS HR HB
    go_wp2_with fail
    go_roundw
    case rel => exact ⟨k + 1, by go_num, by omega, HR3, HN2, HB3⟩
    case measure => simp [intOf]; omega
   ·have hkk : k = n := by omega
    subst hkk
    go_wp2_with fail
    go_ret
    refine ⟨some ⟨w.heap.size, 0, none⟩, k, rfl, ⟨Nat.le_refl _, by omega⟩, .inr ⟨w.heap.size, 0, rfl, Nat.le_refl _, fun i hi => ?_⟩, HB.out⟩
    obtain ⟨v, h1, h2⟩ := HVS.out i hi (by rw [← HN.out]; exact hi)
    rw [Nat.zero_add]
    exact ⟨v, h1, h2.kept (Kept.of_below (Below.refl _ _)) (fun g hg => Nat.le_of_lt hg)⟩
end Go.Proofs.YtiajjgehnmkokaaGreatDoor
end
section
namespace Go.Proofs.YtiajjgehnmkokaaGreatDoor
open Go.RowKit
open Seal
open Num
theorem reckon_gen (K : FuncId) (hke : ∀ args (u : World), (callFunc K args).run Tryz.prog u = .ok (.enter K args) u) (o0 : Int × Int) (ak an bk bn : Int) (p2 p3 p4 p5 q2 q3 q4 q5 : Value) (w : World) (hop : ∀ u, Calls Tryz.prog K #[.int .i64 an, .int .i64 bn] u (PairDr o0 u)) : Calls Tryz.prog 141 #[.agg #[.int .i64 ak, .int .i64 an, p2, p3, p4, p5], .agg #[.int .i64 bk, .int .i64 bn, q2, q3, q4, q5], .func (.func K) #[] #[]] w (ValE (reck o0 ak bk) w) := by
 have HR0 := Lib.hid (R3.new w #[Value.int .i64 ak, .int .i64 an, p2, p3, p4, p5] #[Value.int .i64 bk, .int .i64 bn, q2, q3, q4, q5])
 have HNA := Lib.hid (fun w => nothing_any ak (.int .i64 an) p2 p3 p4 p5 w)
 have HNB := Lib.hid (fun w => nothing_any bk (.int .i64 bn) q2 q3 q4 q5 w)
 have HMA := Lib.hid (fun w => number_any ak (.int .i64 an) p2 p3 p4 p5 w)
 have HMB := Lib.hid (fun w => number_any bk (.int .i64 bn) q2 q3 q4 q5 w)
 obtain ⟨r, hr⟩ : ∃ r, r = reck o0 ak bk := ⟨_, rfl⟩
 rw [← hr]
 by_cases c1 : noneB ak = true
 ·rw [c1] at HNA
  have HQ := Lib.hid (show r = (2, 0, 0) by rw [hr, reck, if_pos c1])
  clear c1 hr
  go_enter Tryz.func141, Tryz.ntmps141
  go_wp2_with fail
  generalize hW : (((w.alloc (.cells #[Value.int .i64 ak, .int .i64 an, p2, p3, p4, p5] 26)).alloc (.cells #[Value.int .i64 bk, .int .i64 bn, q2, q3, q4, q5] 26)).alloc (.cells #[Value.int .i64 0, .int .i64 0, .string ⟨#[]⟩, .slice none 0 0, .slice none 0 0, .slice none 0 0] 26)) = W0 at *
  clear hW
  obtain ⟨⟨a0, a1, a2, a3, a4, a5⟩, ⟨b0, b1, b2, b3, b4, b5⟩, ⟨z0, z1, z2, z3, z4, z5⟩, f0, f1, f2, f3, f4, f5⟩ := HR0.out.all
  go_wp2_with fail
  go_at_call 152
  refine (HNA.out _).mono ?_
  rintro e w1 ⟨rfl, hb⟩
  clear a0 a1 a2 a3 a4 a5 b0 b1 b2 b3 b4 b5 z0 z1 z2 z3 z4 z5 f0 f1 f2 f3 f4 f5
  have HR1 := Lib.hid (HR0.out.step hb)
  clear hb
  obtain ⟨⟨a0, a1, a2, a3, a4, a5⟩, ⟨b0, b1, b2, b3, b4, b5⟩, ⟨z0, z1, z2, z3, z4, z5⟩, f0, f1, f2, f3, f4, f5⟩ := HR1.out.all
  go_wp2_with fail
  exact bodyPost_ret (v := .tuple #[.agg #[.int .i64 2, .int .i64 0, .string ⟨#[]⟩, .slice none 0 0, .slice none 0 0, .slice none 0 0], .int .i64 0]) (by simp [results, Tryz.results141, go_sem, *]) rfl (val_e HQ.out (below_six HR1.out.2.2.2 (by omega) _ _ _ _ _ _))
 by_cases c2 : noneB bk = true
 ·rw [eq_false_of_ne_true c1] at HNA
  rw [c2] at HNB
  have HQ := Lib.hid (show r = (2, 0, 0) by rw [hr, reck, if_neg c1, if_pos c2])
  clear c1 c2 hr
  go_enter Tryz.func141, Tryz.ntmps141
  go_wp2_with fail
  generalize hW : (((w.alloc (.cells #[Value.int .i64 ak, .int .i64 an, p2, p3, p4, p5] 26)).alloc (.cells #[Value.int .i64 bk, .int .i64 bn, q2, q3, q4, q5] 26)).alloc (.cells #[Value.int .i64 0, .int .i64 0, .string ⟨#[]⟩, .slice none 0 0, .slice none 0 0, .slice none 0 0] 26)) = W0 at *
  clear hW
  obtain ⟨⟨a0, a1, a2, a3, a4, a5⟩, ⟨b0, b1, b2, b3, b4, b5⟩, ⟨z0, z1, z2, z3, z4, z5⟩, f0, f1, f2, f3, f4, f5⟩ := HR0.out.all
  go_wp2_with fail
  go_at_call 152
  refine (HNA.out _).mono ?_
  rintro e w1 ⟨rfl, hb⟩
  clear a0 a1 a2 a3 a4 a5 b0 b1 b2 b3 b4 b5 z0 z1 z2 z3 z4 z5 f0 f1 f2 f3 f4 f5
  have HR1 := Lib.hid (HR0.out.step hb)
  clear hb
  obtain ⟨⟨a0, a1, a2, a3, a4, a5⟩, ⟨b0, b1, b2, b3, b4, b5⟩, ⟨z0, z1, z2, z3, z4, z5⟩, f0, f1, f2, f3, f4, f5⟩ := HR1.out.all
  go_wp2_with fail
  go_at_call 152
  refine (HNB.out _).mono ?_
  rintro e w2 ⟨rfl, hb⟩
  clear a0 a1 a2 a3 a4 a5 b0 b1 b2 b3 b4 b5 z0 z1 z2 z3 z4 z5 f0 f1 f2 f3 f4 f5
  have HR2 := Lib.hid (HR1.out.step hb)
  clear hb
  obtain ⟨⟨a0, a1, a2, a3, a4, a5⟩, ⟨b0, b1, b2, b3, b4, b5⟩, ⟨z0, z1, z2, z3, z4, z5⟩, f0, f1, f2, f3, f4, f5⟩ := HR2.out.all
  go_wp2_with fail
  exact bodyPost_ret (v := .tuple #[.agg #[.int .i64 2, .int .i64 0, .string ⟨#[]⟩, .slice none 0 0, .slice none 0 0, .slice none 0 0], .int .i64 0]) (by simp [results, Tryz.results141, go_sem, *]) rfl (val_e HQ.out (below_six HR2.out.2.2.2 (by omega) _ _ _ _ _ _))
 rw [eq_false_of_ne_true c1] at HNA
 rw [eq_false_of_ne_true c2] at HNB
 by_cases c3 : numB ak = false
 ·rw [c3] at HMA
  have HQ := Lib.hid (show r = (0, 0, 12) by rw [hr, reck, if_neg c1, if_neg c2, if_pos c3])
  clear c1 c2 c3 hr
  go_enter Tryz.func141, Tryz.ntmps141
  go_wp2_with fail
  generalize hW : (((w.alloc (.cells #[Value.int .i64 ak, .int .i64 an, p2, p3, p4, p5] 26)).alloc (.cells #[Value.int .i64 bk, .int .i64 bn, q2, q3, q4, q5] 26)).alloc (.cells #[Value.int .i64 0, .int .i64 0, .string ⟨#[]⟩, .slice none 0 0, .slice none 0 0, .slice none 0 0] 26)) = W0 at *
  clear hW
  obtain ⟨⟨a0, a1, a2, a3, a4, a5⟩, ⟨b0, b1, b2, b3, b4, b5⟩, ⟨z0, z1, z2, z3, z4, z5⟩, f0, f1, f2, f3, f4, f5⟩ := HR0.out.all
  go_wp2_with fail
  go_at_call 152
  refine (HNA.out _).mono ?_
  rintro e w1 ⟨rfl, hb⟩
  clear a0 a1 a2 a3 a4 a5 b0 b1 b2 b3 b4 b5 z0 z1 z2 z3 z4 z5 f0 f1 f2 f3 f4 f5
  have HR1 := Lib.hid (HR0.out.step hb)
  clear hb
  obtain ⟨⟨a0, a1, a2, a3, a4, a5⟩, ⟨b0, b1, b2, b3, b4, b5⟩, ⟨z0, z1, z2, z3, z4, z5⟩, f0, f1, f2, f3, f4, f5⟩ := HR1.out.all
  go_wp2_with fail
  go_at_call 152
  refine (HNB.out _).mono ?_
  rintro e w2 ⟨rfl, hb⟩
  clear a0 a1 a2 a3 a4 a5 b0 b1 b2 b3 b4 b5 z0 z1 z2 z3 z4 z5 f0 f1 f2 f3 f4 f5
  have HR2 := Lib.hid (HR1.out.step hb)
  clear hb
  obtain ⟨⟨a0, a1, a2, a3, a4, a5⟩, ⟨b0, b1, b2, b3, b4, b5⟩, ⟨z0, z1, z2, z3, z4, z5⟩, f0, f1, f2, f3, f4, f5⟩ := HR2.out.all
  go_wp2_with fail
  go_at_call 153
  refine (HMA.out _).mono ?_
  rintro e w3 ⟨rfl, hb⟩
  clear a0 a1 a2 a3 a4 a5 b0 b1 b2 b3 b4 b5 z0 z1 z2 z3 z4 z5 f0 f1 f2 f3 f4 f5
  have HR3 := Lib.hid (HR2.out.step hb)
  clear hb
  obtain ⟨⟨a0, a1, a2, a3, a4, a5⟩, ⟨b0, b1, b2, b3, b4, b5⟩, ⟨z0, z1, z2, z3, z4, z5⟩, f0, f1, f2, f3, f4, f5⟩ := HR3.out.all
  go_wp2_with fail
  exact bodyPost_ret (v := .tuple #[.agg #[.int .i64 0, .int .i64 0, .string ⟨#[]⟩, .slice none 0 0, .slice none 0 0, .slice none 0 0], .int .i64 12]) (by simp [results, Tryz.results141, go_sem, *]) rfl (val_e HQ.out (below_six HR3.out.2.2.2 (by omega) _ _ _ _ _ _))
 rw [eq_true_of_ne_false c3] at HMA
 by_cases c4 : numB bk = false
 ·rw [c4] at HMB
  have HQ := Lib.hid (show r = (0, 0, 12) by rw [hr, reck, if_neg c1, if_neg c2, if_neg c3, if_pos c4])
  clear c1 c2 c3 c4 hr
  go_enter Tryz.func141, Tryz.ntmps141
  go_wp2_with fail
  generalize hW : (((w.alloc (.cells #[Value.int .i64 ak, .int .i64 an, p2, p3, p4, p5] 26)).alloc (.cells #[Value.int .i64 bk, .int .i64 bn, q2, q3, q4, q5] 26)).alloc (.cells #[Value.int .i64 0, .int .i64 0, .string ⟨#[]⟩, .slice none 0 0, .slice none 0 0, .slice none 0 0] 26)) = W0 at *
  clear hW
  obtain ⟨⟨a0, a1, a2, a3, a4, a5⟩, ⟨b0, b1, b2, b3, b4, b5⟩, ⟨z0, z1, z2, z3, z4, z5⟩, f0, f1, f2, f3, f4, f5⟩ := HR0.out.all
  go_wp2_with fail
  go_at_call 152
  refine (HNA.out _).mono ?_
  rintro e w1 ⟨rfl, hb⟩
  clear a0 a1 a2 a3 a4 a5 b0 b1 b2 b3 b4 b5 z0 z1 z2 z3 z4 z5 f0 f1 f2 f3 f4 f5
  have HR1 := Lib.hid (HR0.out.step hb)
  clear hb
  obtain ⟨⟨a0, a1, a2, a3, a4, a5⟩, ⟨b0, b1, b2, b3, b4, b5⟩, ⟨z0, z1, z2, z3, z4, z5⟩, f0, f1, f2, f3, f4, f5⟩ := HR1.out.all
  go_wp2_with fail
  go_at_call 152
  refine (HNB.out _).mono ?_
  rintro e w2 ⟨rfl, hb⟩
  clear a0 a1 a2 a3 a4 a5 b0 b1 b2 b3 b4 b5 z0 z1 z2 z3 z4 z5 f0 f1 f2 f3 f4 f5
  have HR2 := Lib.hid (HR1.out.step hb)
  clear hb
  obtain ⟨⟨a0, a1, a2, a3, a4, a5⟩, ⟨b0, b1, b2, b3, b4, b5⟩, ⟨z0, z1, z2, z3, z4, z5⟩, f0, f1, f2, f3, f4, f5⟩ := HR2.out.all
  go_wp2_with fail
  go_at_call 153
  refine (HMA.out _).mono ?_
  rintro e w3 ⟨rfl, hb⟩
  clear a0 a1 a2 a3 a4 a5 b0 b1 b2 b3 b4 b5 z0 z1 z2 z3 z4 z5 f0 f1 f2 f3 f4 f5
  have HR3 := Lib.hid (HR2.out.step hb)
  clear hb
  obtain ⟨⟨a0, a1, a2, a3, a4, a5⟩, ⟨b0, b1, b2, b3, b4, b5⟩, ⟨z0, z1, z2, z3, z4, z5⟩, f0, f1, f2, f3, f4, f5⟩ := HR3.out.all
  go_wp2_with fail
  go_at_call 153
  refine (HMB.out _).mono ?_
  rintro e w4 ⟨rfl, hb⟩
  clear a0 a1 a2 a3 a4 a5 b0 b1 b2 b3 b4 b5 z0 z1 z2 z3 z4 z5 f0 f1 f2 f3 f4 f5
  have HR4 := Lib.hid (HR3.out.step hb)
  clear hb
  obtain ⟨⟨a0, a1, a2, a3, a4, a5⟩, ⟨b0, b1, b2, b3, b4, b5⟩, ⟨z0, z1, z2, z3, z4, z5⟩, f0, f1, f2, f3, f4, f5⟩ := HR4.out.all
  go_wp2_with fail
  exact bodyPost_ret (v := .tuple #[.agg #[.int .i64 0, .int .i64 0, .string ⟨#[]⟩, .slice none 0 0, .slice none 0 0, .slice none 0 0], .int .i64 12]) (by simp [results, Tryz.results141, go_sem, *]) rfl (val_e HQ.out (below_six HR4.out.2.2.2 (by omega) _ _ _ _ _ _))
 rw [eq_true_of_ne_false c4] at HMB
 have HOP := Lib.hid hop
 clear hop
 obtain ⟨o, ho⟩ : ∃ o, o = o0 := ⟨_, rfl⟩
 rw [← ho] at HOP hr
 obtain ⟨n, e⟩ := o
 clear ho
 by_cases c5 : e = 0
 ·subst c5
  by_cases c6 : ak = 4
  ·have e6 : ((ak : Int) == 4) = true := by rw [beq_iff_eq]; exact c6
   have HQ := Lib.hid (show r = (4, n, 0) by rw [hr, reck, if_neg c1, if_neg c2, if_neg c3, if_neg c4, if_neg (fun h => h rfl), if_pos c6])
   clear c1 c2 c3 c4 c6 hr
   go_enter Tryz.func141, Tryz.ntmps141
   go_wp2_with fail
   generalize hW : (((w.alloc (.cells #[Value.int .i64 ak, .int .i64 an, p2, p3, p4, p5] 26)).alloc (.cells #[Value.int .i64 bk, .int .i64 bn, q2, q3, q4, q5] 26)).alloc (.cells #[Value.int .i64 0, .int .i64 0, .string ⟨#[]⟩, .slice none 0 0, .slice none 0 0, .slice none 0 0] 26)) = W0 at *
   clear hW
   obtain ⟨⟨a0, a1, a2, a3, a4, a5⟩, ⟨b0, b1, b2, b3, b4, b5⟩, ⟨z0, z1, z2, z3, z4, z5⟩, f0, f1, f2, f3, f4, f5⟩ := HR0.out.all
   go_wp2_with fail
   go_at_call 152
   refine (HNA.out _).mono ?_
   rintro e w1 ⟨rfl, hb⟩
   clear a0 a1 a2 a3 a4 a5 b0 b1 b2 b3 b4 b5 z0 z1 z2 z3 z4 z5 f0 f1 f2 f3 f4 f5
   have HR1 := Lib.hid (HR0.out.step hb)
   clear hb
   obtain ⟨⟨a0, a1, a2, a3, a4, a5⟩, ⟨b0, b1, b2, b3, b4, b5⟩, ⟨z0, z1, z2, z3, z4, z5⟩, f0, f1, f2, f3, f4, f5⟩ := HR1.out.all
   go_wp2_with fail
   go_at_call 152
   refine (HNB.out _).mono ?_
   rintro e w2 ⟨rfl, hb⟩
   clear a0 a1 a2 a3 a4 a5 b0 b1 b2 b3 b4 b5 z0 z1 z2 z3 z4 z5 f0 f1 f2 f3 f4 f5
   have HR2 := Lib.hid (HR1.out.step hb)
   clear hb
   obtain ⟨⟨a0, a1, a2, a3, a4, a5⟩, ⟨b0, b1, b2, b3, b4, b5⟩, ⟨z0, z1, z2, z3, z4, z5⟩, f0, f1, f2, f3, f4, f5⟩ := HR2.out.all
   go_wp2_with fail
   go_at_call 153
   refine (HMA.out _).mono ?_
   rintro e w3 ⟨rfl, hb⟩
   clear a0 a1 a2 a3 a4 a5 b0 b1 b2 b3 b4 b5 z0 z1 z2 z3 z4 z5 f0 f1 f2 f3 f4 f5
   have HR3 := Lib.hid (HR2.out.step hb)
   clear hb
   obtain ⟨⟨a0, a1, a2, a3, a4, a5⟩, ⟨b0, b1, b2, b3, b4, b5⟩, ⟨z0, z1, z2, z3, z4, z5⟩, f0, f1, f2, f3, f4, f5⟩ := HR3.out.all
   go_wp2_with fail
   go_at_call 153
   refine (HMB.out _).mono ?_
   rintro e w4 ⟨rfl, hb⟩
   clear a0 a1 a2 a3 a4 a5 b0 b1 b2 b3 b4 b5 z0 z1 z2 z3 z4 z5 f0 f1 f2 f3 f4 f5
   have HR4 := Lib.hid (HR3.out.step hb)
   clear hb
   obtain ⟨⟨a0, a1, a2, a3, a4, a5⟩, ⟨b0, b1, b2, b3, b4, b5⟩, ⟨z0, z1, z2, z3, z4, z5⟩, f0, f1, f2, f3, f4, f5⟩ := HR4.out.all
   go_wp2_with fail
   refine (HOP.out _).mono ?_
   rintro ee ww ⟨rfl, nq, rfl⟩
   go_wp2_with fail
   exact bodyPost_ret (v := .tuple #[.agg #[.int .i64 4, .int .i64 n, .string ⟨#[]⟩, .slice none 0 0, .slice none 0 0, .slice none 0 0], .int .i64 0]) (by simp [results, Tryz.results141, go_sem, *]) rfl (val_e HQ.out (below_six (below_dr HR4.out.2.2.2 _) (by omega) _ _ _ _ _ _))
  have e6 : ((ak : Int) == 4) = false := by rw [beq_eq_false_iff_ne]; exact c6
  by_cases c7 : bk = 4
  ·have e7 : ((bk : Int) == 4) = true := by rw [beq_iff_eq]; exact c7
   have HQ := Lib.hid (show r = (4, n, 0) by rw [hr, reck, if_neg c1, if_neg c2, if_neg c3, if_neg c4, if_neg (fun h => h rfl), if_neg c6, if_pos c7])
   clear c1 c2 c3 c4 c7 hr
   go_enter Tryz.func141, Tryz.ntmps141
   go_wp2_with fail
   generalize hW : (((w.alloc (.cells #[Value.int .i64 ak, .int .i64 an, p2, p3, p4, p5] 26)).alloc (.cells #[Value.int .i64 bk, .int .i64 bn, q2, q3, q4, q5] 26)).alloc (.cells #[Value.int .i64 0, .int .i64 0, .string ⟨#[]⟩, .slice none 0 0, .slice none 0 0, .slice none 0 0] 26)) = W0 at *
   clear hW
   obtain ⟨⟨a0, a1, a2, a3, a4, a5⟩, ⟨b0, b1, b2, b3, b4, b5⟩, ⟨z0, z1, z2, z3, z4, z5⟩, f0, f1, f2, f3, f4, f5⟩ := HR0.out.all
   go_wp2_with fail
   go_at_call 152
   refine (HNA.out _).mono ?_
   rintro e w1 ⟨rfl, hb⟩
   clear a0 a1 a2 a3 a4 a5 b0 b1 b2 b3 b4 b5 z0 z1 z2 z3 z4 z5 f0 f1 f2 f3 f4 f5
   have HR1 := Lib.hid (HR0.out.step hb)
   clear hb
   obtain ⟨⟨a0, a1, a2, a3, a4, a5⟩, ⟨b0, b1, b2, b3, b4, b5⟩, ⟨z0, z1, z2, z3, z4, z5⟩, f0, f1, f2, f3, f4, f5⟩ := HR1.out.all
   go_wp2_with fail
   go_at_call 152
   refine (HNB.out _).mono ?_
   rintro e w2 ⟨rfl, hb⟩
   clear a0 a1 a2 a3 a4 a5 b0 b1 b2 b3 b4 b5 z0 z1 z2 z3 z4 z5 f0 f1 f2 f3 f4 f5
   have HR2 := Lib.hid (HR1.out.step hb)
   clear hb
   obtain ⟨⟨a0, a1, a2, a3, a4, a5⟩, ⟨b0, b1, b2, b3, b4, b5⟩, ⟨z0, z1, z2, z3, z4, z5⟩, f0, f1, f2, f3, f4, f5⟩ := HR2.out.all
   go_wp2_with fail
   go_at_call 153
   refine (HMA.out _).mono ?_
   rintro e w3 ⟨rfl, hb⟩
   clear a0 a1 a2 a3 a4 a5 b0 b1 b2 b3 b4 b5 z0 z1 z2 z3 z4 z5 f0 f1 f2 f3 f4 f5
   have HR3 := Lib.hid (HR2.out.step hb)
   clear hb
   obtain ⟨⟨a0, a1, a2, a3, a4, a5⟩, ⟨b0, b1, b2, b3, b4, b5⟩, ⟨z0, z1, z2, z3, z4, z5⟩, f0, f1, f2, f3, f4, f5⟩ := HR3.out.all
   go_wp2_with fail
   go_at_call 153
   refine (HMB.out _).mono ?_
   rintro e w4 ⟨rfl, hb⟩
   clear a0 a1 a2 a3 a4 a5 b0 b1 b2 b3 b4 b5 z0 z1 z2 z3 z4 z5 f0 f1 f2 f3 f4 f5
   have HR4 := Lib.hid (HR3.out.step hb)
   clear hb
   obtain ⟨⟨a0, a1, a2, a3, a4, a5⟩, ⟨b0, b1, b2, b3, b4, b5⟩, ⟨z0, z1, z2, z3, z4, z5⟩, f0, f1, f2, f3, f4, f5⟩ := HR4.out.all
   go_wp2_with fail
   refine (HOP.out _).mono ?_
   rintro ee ww ⟨rfl, nq, rfl⟩
   go_wp2_with fail
   exact bodyPost_ret (v := .tuple #[.agg #[.int .i64 4, .int .i64 n, .string ⟨#[]⟩, .slice none 0 0, .slice none 0 0, .slice none 0 0], .int .i64 0]) (by simp [results, Tryz.results141, go_sem, *]) rfl (val_e HQ.out (below_six (below_dr HR4.out.2.2.2 _) (by omega) _ _ _ _ _ _))
  have e7 : ((bk : Int) == 4) = false := by rw [beq_eq_false_iff_ne]; exact c7
  have HQ := Lib.hid (show r = (ofK n, n, 0) by rw [hr, reck, if_neg c1, if_neg c2, if_neg c3, if_neg c4, if_neg (fun h => h rfl), if_neg c6, if_neg c7])
  clear c1 c2 c3 c4 hr
  go_enter Tryz.func141, Tryz.ntmps141
  go_wp2_with fail
  generalize hW : (((w.alloc (.cells #[Value.int .i64 ak, .int .i64 an, p2, p3, p4, p5] 26)).alloc (.cells #[Value.int .i64 bk, .int .i64 bn, q2, q3, q4, q5] 26)).alloc (.cells #[Value.int .i64 0, .int .i64 0, .string ⟨#[]⟩, .slice none 0 0, .slice none 0 0, .slice none 0 0] 26)) = W0 at *
  clear hW
  obtain ⟨⟨a0, a1, a2, a3, a4, a5⟩, ⟨b0, b1, b2, b3, b4, b5⟩, ⟨z0, z1, z2, z3, z4, z5⟩, f0, f1, f2, f3, f4, f5⟩ := HR0.out.all
  go_wp2_with fail
  go_at_call 152
  refine (HNA.out _).mono ?_
  rintro e w1 ⟨rfl, hb⟩
  clear a0 a1 a2 a3 a4 a5 b0 b1 b2 b3 b4 b5 z0 z1 z2 z3 z4 z5 f0 f1 f2 f3 f4 f5
  have HR1 := Lib.hid (HR0.out.step hb)
  clear hb
  obtain ⟨⟨a0, a1, a2, a3, a4, a5⟩, ⟨b0, b1, b2, b3, b4, b5⟩, ⟨z0, z1, z2, z3, z4, z5⟩, f0, f1, f2, f3, f4, f5⟩ := HR1.out.all
  go_wp2_with fail
  go_at_call 152
  refine (HNB.out _).mono ?_
  rintro e w2 ⟨rfl, hb⟩
  clear a0 a1 a2 a3 a4 a5 b0 b1 b2 b3 b4 b5 z0 z1 z2 z3 z4 z5 f0 f1 f2 f3 f4 f5
  have HR2 := Lib.hid (HR1.out.step hb)
  clear hb
  obtain ⟨⟨a0, a1, a2, a3, a4, a5⟩, ⟨b0, b1, b2, b3, b4, b5⟩, ⟨z0, z1, z2, z3, z4, z5⟩, f0, f1, f2, f3, f4, f5⟩ := HR2.out.all
  go_wp2_with fail
  go_at_call 153
  refine (HMA.out _).mono ?_
  rintro e w3 ⟨rfl, hb⟩
  clear a0 a1 a2 a3 a4 a5 b0 b1 b2 b3 b4 b5 z0 z1 z2 z3 z4 z5 f0 f1 f2 f3 f4 f5
  have HR3 := Lib.hid (HR2.out.step hb)
  clear hb
  obtain ⟨⟨a0, a1, a2, a3, a4, a5⟩, ⟨b0, b1, b2, b3, b4, b5⟩, ⟨z0, z1, z2, z3, z4, z5⟩, f0, f1, f2, f3, f4, f5⟩ := HR3.out.all
  go_wp2_with fail
  go_at_call 153
  refine (HMB.out _).mono ?_
  rintro e w4 ⟨rfl, hb⟩
  clear a0 a1 a2 a3 a4 a5 b0 b1 b2 b3 b4 b5 z0 z1 z2 z3 z4 z5 f0 f1 f2 f3 f4 f5
  have HR4 := Lib.hid (HR3.out.step hb)
  clear hb
  obtain ⟨⟨a0, a1, a2, a3, a4, a5⟩, ⟨b0, b1, b2, b3, b4, b5⟩, ⟨z0, z1, z2, z3, z4, z5⟩, f0, f1, f2, f3, f4, f5⟩ := HR4.out.all
  go_wp2_with fail
  refine (HOP.out _).mono ?_
  rintro ee ww ⟨rfl, nq, rfl⟩
  go_wp2_with fail
  go_at_call 112
  refine (of_any _ _).mono ?_
  rintro ee w5 ⟨rfl, hb⟩
  clear a0 a1 a2 a3 a4 a5 b0 b1 b2 b3 b4 b5 z0 z1 z2 z3 z4 z5 f0 f1 f2 f3 f4 f5
  have HR5 := Lib.hid (HR4.out.step ((below_dr (Below.refl _ _) nq).trans (hb.mono (Nat.le_refl _))))
  clear hb
  obtain ⟨⟨a0, a1, a2, a3, a4, a5⟩, ⟨b0, b1, b2, b3, b4, b5⟩, ⟨z0, z1, z2, z3, z4, z5⟩, f0, f1, f2, f3, f4, f5⟩ := HR5.out.all
  go_wp2_with fail
  exact bodyPost_ret (v := .tuple #[.agg #[.int .i64 (ofK n), .int .i64 n, .string ⟨#[]⟩, .slice none 0 0, .slice none 0 0, .slice none 0 0], .int .i64 0]) (by simp [results, Tryz.results141, go_sem, *]) rfl (val_e HQ.out (below_six HR5.out.2.2.2 (by omega) _ _ _ _ _ _))
 ·have e5 : ((e : Int) != 0) = true := by simp [c5]
  have HQ := Lib.hid (show r = (0, 0, e) by rw [hr, reck, if_neg c1, if_neg c2, if_neg c3, if_neg c4, if_pos c5])
  clear c1 c2 c3 c4 hr
  go_enter Tryz.func141, Tryz.ntmps141
  go_wp2_with fail
  generalize hW : (((w.alloc (.cells #[Value.int .i64 ak, .int .i64 an, p2, p3, p4, p5] 26)).alloc (.cells #[Value.int .i64 bk, .int .i64 bn, q2, q3, q4, q5] 26)).alloc (.cells #[Value.int .i64 0, .int .i64 0, .string ⟨#[]⟩, .slice none 0 0, .slice none 0 0, .slice none 0 0] 26)) = W0 at *
  clear hW
  obtain ⟨⟨a0, a1, a2, a3, a4, a5⟩, ⟨b0, b1, b2, b3, b4, b5⟩, ⟨z0, z1, z2, z3, z4, z5⟩, f0, f1, f2, f3, f4, f5⟩ := HR0.out.all
  go_wp2_with fail
  go_at_call 152
  refine (HNA.out _).mono ?_
  rintro e w1 ⟨rfl, hb⟩
  clear a0 a1 a2 a3 a4 a5 b0 b1 b2 b3 b4 b5 z0 z1 z2 z3 z4 z5 f0 f1 f2 f3 f4 f5
  have HR1 := Lib.hid (HR0.out.step hb)
  clear hb
  obtain ⟨⟨a0, a1, a2, a3, a4, a5⟩, ⟨b0, b1, b2, b3, b4, b5⟩, ⟨z0, z1, z2, z3, z4, z5⟩, f0, f1, f2, f3, f4, f5⟩ := HR1.out.all
  go_wp2_with fail
  go_at_call 152
  refine (HNB.out _).mono ?_
  rintro e w2 ⟨rfl, hb⟩
  clear a0 a1 a2 a3 a4 a5 b0 b1 b2 b3 b4 b5 z0 z1 z2 z3 z4 z5 f0 f1 f2 f3 f4 f5
  have HR2 := Lib.hid (HR1.out.step hb)
  clear hb
  obtain ⟨⟨a0, a1, a2, a3, a4, a5⟩, ⟨b0, b1, b2, b3, b4, b5⟩, ⟨z0, z1, z2, z3, z4, z5⟩, f0, f1, f2, f3, f4, f5⟩ := HR2.out.all
  go_wp2_with fail
  go_at_call 153
  refine (HMA.out _).mono ?_
  rintro e w3 ⟨rfl, hb⟩
  clear a0 a1 a2 a3 a4 a5 b0 b1 b2 b3 b4 b5 z0 z1 z2 z3 z4 z5 f0 f1 f2 f3 f4 f5
  have HR3 := Lib.hid (HR2.out.step hb)
  clear hb
  obtain ⟨⟨a0, a1, a2, a3, a4, a5⟩, ⟨b0, b1, b2, b3, b4, b5⟩, ⟨z0, z1, z2, z3, z4, z5⟩, f0, f1, f2, f3, f4, f5⟩ := HR3.out.all
  go_wp2_with fail
  go_at_call 153
  refine (HMB.out _).mono ?_
  rintro e w4 ⟨rfl, hb⟩
  clear a0 a1 a2 a3 a4 a5 b0 b1 b2 b3 b4 b5 z0 z1 z2 z3 z4 z5 f0 f1 f2 f3 f4 f5
  have HR4 := Lib.hid (HR3.out.step hb)
  clear hb
  obtain ⟨⟨a0, a1, a2, a3, a4, a5⟩, ⟨b0, b1, b2, b3, b4, b5⟩, ⟨z0, z1, z2, z3, z4, z5⟩, f0, f1, f2, f3, f4, f5⟩ := HR4.out.all
  go_wp2_with fail
  refine (HOP.out _).mono ?_
  rintro ee ww ⟨rfl, nq, rfl⟩
  go_wp2_with fail
  exact bodyPost_ret (v := .tuple #[.agg #[.int .i64 0, .int .i64 0, .string ⟨#[]⟩, .slice none 0 0, .slice none 0 0, .slice none 0 0], .int .i64 e]) (by simp [results, Tryz.results141, go_sem, *]) rfl (val_e HQ.out (below_six (below_dr HR4.out.2.2.2 _) (by omega) _ _ _ _ _ _))
end Go.Proofs.YtiajjgehnmkokaaGreatDoor
end
