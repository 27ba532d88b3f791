/- cmp.Compare of ints, bytes.Compare. -/
import Derived.Test.YtfkkckadnookoaaOrdLex
import Derived.Test.YtfkkckadnookoaaIntPost
import Derived.Test.YtfkkckadnookoaaBytesStr
import Derived.Lib.BytesEntry
import Derived.Lib.Bytealg
import Derived.Laws.Externs
import Derived.BigQuiet
import Derived.Deep.QuietTactic
namespace Go.Proofs.Ytfkkckadnookoaa
open Go.RowKit
open Seal
theorem nan_int (k : Int) (w : World) : Calls Try.prog 47 #[.int .i64 k] w fun e w' => e = .returned (.bool false) ∧ w = w' := by
  go_enter Try.func47, Try.ntmps47
  go_wp2
  go_ret
  exact ⟨rfl, rfl⟩
set_option maxRecDepth 100000 in
set_option maxHeartbeats 2000000 in
theorem cmpInt_any (a b : Int) (w : World) : Calls Try.prog 32 #[.int .i64 a, .int .i64 b] w (IntPost (Order.sgn a b) w) := by
  rcases Int.lt_trichotomy a b with h | h | h
  · have HC := Lib.hid (Order.sgn_lt h)
    go_enter Try.func32, Try.ntmps32
    go_wp2_with (go_at_call 47; refine (nan_int _ _).mono ?_; rintro e w' ⟨rfl, rfl⟩)
    go_ret
    exact ⟨ret_i HC.out.symm, rfl⟩
  · subst h
    have HC := Lib.hid (Order.sgn_self a)
    go_enter Try.func32, Try.ntmps32
    go_wp2_with (go_at_call 47; refine (nan_int _ _).mono ?_; rintro e w' ⟨rfl, rfl⟩)
    go_ret
    exact ⟨ret_i HC.out.symm, rfl⟩
  · have HC := Lib.hid (Order.sgn_gt h)
    have h' : ¬ a < b := by omega
    go_enter Try.func32, Try.ntmps32
    go_wp2_with (go_at_call 47; refine (nan_int _ _).mono ?_; rintro e w' ⟨rfl, rfl⟩)
    go_ret
    exact ⟨ret_i HC.out.symm, rfl⟩
theorem run_bytesOf (w : World) (a : Option Addr) (l : List Nat) (n c : Nat) (hl : l.length = n) (h : SliceIs w a l) : (Extern.Bytes.bytesOf (.slice a n c)).run Try.prog w = .ok (strB l) w := by
  rcases h with rfl | ⟨g, o, rfl, hr⟩
  · subst hl
    cases a with
    | none => rfl
    | some p => rfl
  · have hx : (l.map fun x : Nat => (x : Int)).length = n := by simp [hl]
    have hq := Lib.run_loadBytesX (P := Try.prog) w (l.map fun x : Nat => (x : Int)) ⟨g, o, none⟩ .empty (fun j x hj => by
      have hjl : j < l.length := by have := (List.getElem?_eq_some_iff.1 hj).1; simpa using this
      have e : (⟨g, o, none⟩ : Addr).add j = ⟨g, o + j, none⟩ := by unfold Addr.add; split <;> simp_all
      rw [e, hr j hjl]
      have hj' : (l.map fun x : Nat => (x : Int))[j]? = some ((l.getD j 0 : Nat) : Int) := by simp [List.getD_eq_getElem?_getD, List.getElem?_eq_getElem hjl]
      rw [hj'] at hj
      rw [Option.some.inj hj])
    rw [hx] at hq
    show (Extern.Bytes.loadBytes ⟨g, o, none⟩ n .empty).run Try.prog w = _
    rw [hq]
    congr 1
    apply ByteArray.ext
    show (#[] : Array UInt8) ++ (Lib.bytesOf _).toArray = _
    unfold Lib.bytesOf strB
    rw [List.map_map]
    simp
theorem map_nat {l : List Nat} (h : Oct l) : (l.map UInt8.ofNat).map UInt8.toNat = l := by
  rw [List.map_map]
  conv => rhs; rw [← List.map_id l]
  apply List.map_congr_left
  intro x hx
  have := h x hx
  simp [Nat.mod_eq_of_lt this]
theorem bytes_strB {l : List Nat} (h : Oct l) : Order.bytes (strB l) = l := by
  unfold Order.bytes strB
  simpa using map_nat h
theorem run_octs (w : World) (a b : Option Addr) (l m : List Nat) (n c n2 c2 : Nat) (hl : l.length = n) (hm : m.length = n2) (h : SliceIs w a l) (h2 : SliceIs w b m) (ho : Oct l) (ho2 : Oct m) :
    (Extern.BytealgCompare.compare #[.slice a n c, .slice b n2 c2]).run Try.prog w = .ok (.int .i64 (Order.octs l m)) w := by
  change Sem.run Try.prog (do pure (goInt (Extern.BytealgCompare.cmp (← Extern.Bytes.bytesOf (.slice a n c)) (← Extern.Bytes.bytesOf (.slice b n2 c2))))) w = _
  simp only [Sem.run_bind, Sem.run_pure, Result.andThen, run_bytesOf w a l n c hl h, run_bytesOf w b m n2 c2 hm h2]
  rw [Lib.cmp_eq, Order.compareBytes_text, Order.text, bytes_strB ho, bytes_strB ho2]
  rfl
set_option maxRecDepth 100000 in
set_option maxHeartbeats 1000000 in
theorem bytesCmp_any (w : World) (a b : Option Addr) (l m : List Nat) (n c n2 c2 : Nat) (hl : l.length = n) (hm : m.length = n2) (h : SliceIs w a l) (h2 : SliceIs w b m) (ho : Oct l) (ho2 : Oct m) :
    Calls Try.prog 25 #[.slice a n c, .slice b n2 c2] w (IntPost (Order.octs l m) w) := by
  have hcall := run_callFunc_extern Try.func34 (by kernel_rfl) (by kernel_rfl) (by kernel_rfl) (e := Extern.BytealgCompare.compare) (by kernel_rfl) #[.slice a n c, .slice b n2 c2] w
  rw [run_octs w a b l m n c n2 c2 hl hm h h2 ho ho2] at hcall
  have HC := Lib.hid hcall
  clear hcall h h2 ho ho2 hl hm
  go_enter Try.func25, Try.ntmps25
  go_wp2
  rw [HC.out]
  simp only [Result.andThen]
  rw [Oper.upon_value]
  go_wp2
  go_ret
  exact ⟨rfl, rfl⟩
end Go.Proofs.Ytfkkckadnookoaa
