/- Class of both; comparisons of numbers, texts, bytes. -/
import Derived.Test.YtngdjdhfciodjaaOrderMath
import Derived.Test.YtngdjdhfciodjaaBsonShallow
import Derived.Test.YtngdjdhfciodjaaShelf
import Derived.Lib.BytesEntry
import Derived.Lib.Bytealg
import Derived.Laws.Externs
import Derived.BigQuiet
import Derived.Deep.QuietTactic
namespace Go.Proofs.Ytngdjdhfciodjaa
open Go.RowKit
open Seal
def IntPost (n : Int) (w : World) (e : Ending) (w' : World) : Prop := e = .returned (.int .i64 n) ∧ w = w'
theorem ret_i {a b : Int} (h : a = b) : Ending.returned (.int .i64 a) = .returned (.int .i64 b) := by rw [h]
theorem kinds (k : Int) (h0 : ¬ k < 0) (h1 : ¬ 12 < k) : k = 0 ∨ k = 1 ∨ k = 2 ∨ k = 3 ∨ k = 4 ∨ k = 5 ∨ k = 6 ∨ k = 7 ∨ k = 8 ∨ k = 9 ∨ k = 10 ∨ k = 11 ∨ k = 12 := by omega
set_option maxRecDepth 100000 in
set_option maxHeartbeats 2000000 in
theorem class_any (k : Int) (w : World) : Calls Try.prog 13 #[.int .i64 k] w (IntPost (Order.cls k) w) := by
  by_cases h : k < 0 ∨ 12 < k
  · have HC := Lib.hid (show Order.cls k = -1 from if_pos h)
    have e0 : (k == 0) = false := by rw [beq_eq_false_iff_ne]; omega
    have e1 : (k == 1) = false := by rw [beq_eq_false_iff_ne]; omega
    have e2 : (k == 2) = false := by rw [beq_eq_false_iff_ne]; omega
    have e3 : (k == 3) = false := by rw [beq_eq_false_iff_ne]; omega
    have e4 : (k == 4) = false := by rw [beq_eq_false_iff_ne]; omega
    have e5 : (k == 5) = false := by rw [beq_eq_false_iff_ne]; omega
    have e6 : (k == 6) = false := by rw [beq_eq_false_iff_ne]; omega
    have e7 : (k == 7) = false := by rw [beq_eq_false_iff_ne]; omega
    have e8 : (k == 8) = false := by rw [beq_eq_false_iff_ne]; omega
    have e9 : (k == 9) = false := by rw [beq_eq_false_iff_ne]; omega
    have e10 : (k == 10) = false := by rw [beq_eq_false_iff_ne]; omega
    have e11 : (k == 11) = false := by rw [beq_eq_false_iff_ne]; omega
    have e12 : (k == 12) = false := by rw [beq_eq_false_iff_ne]; omega
    clear h
    go_enter Try.func13, Try.ntmps13
    go_wp2
    go_ret
    exact ⟨ret_i HC.out.symm, rfl⟩
  · rcases kinds k (by omega) (by omega) with rfl | rfl | rfl | rfl | rfl | rfl | rfl | rfl | rfl | rfl | rfl | rfl | rfl
    all_goals
      clear h
      go_enter Try.func13, Try.ntmps13
      go_wp2
      go_ret
      exact ⟨rfl, rfl⟩
set_option maxRecDepth 100000 in
set_option maxHeartbeats 2000000 in
theorem refClass_any (k : Int) (w : World) (hk : -9223372036854775808 ≤ k ∧ k ≤ 9223372036854775807) : Calls Try.prog 14 #[.int .i64 k] w (IntPost (Order.cls k) w) := by
  obtain ⟨hk0, hk1⟩ := hk
  by_cases h0 : k < 0
  · have HC := Lib.hid (show Order.cls k = -1 from if_pos (.inl h0))
    go_enter Try.func14, Try.ntmps14
    go_wp2
    go_ret
    exact ⟨ret_i HC.out.symm, rfl⟩
  by_cases h1 : 12 < k
  · have HC := Lib.hid (show Order.cls k = -1 from if_pos (.inr h1))
    have hd0 : decide (k < 0) = false := by simpa using h0
    have hd1 : decide (k > 12) = true := by simpa using h1
    clear h0 h1
    go_enter Try.func14, Try.ntmps14
    go_wp2
    go_ret
    exact ⟨ret_i HC.out.symm, rfl⟩
  by_cases h2 : k ≤ 3
  · have HC := Lib.hid (show Order.cls k = k by rw [Order.cls, if_neg (by omega), if_pos h2])
    go_enter Try.func14, Try.ntmps14
    go_wp2
    go_ret
    exact ⟨ret_i HC.out.symm, rfl⟩
  · have HC := Lib.hid (show Order.cls k = k - 1 by rw [Order.cls, if_neg (by omega), if_neg h2])
    go_enter Try.func14, Try.ntmps14
    go_wp2
    go_ret
    exact ⟨ret_i HC.out.symm, rfl⟩
theorem nan_int (k : Int) (w : World) : Calls Try.prog 39 #[.int .i64 k] w fun e w' => e = .returned (.bool false) ∧ w = w' := by
  go_enter Try.func39, Try.ntmps39
  go_wp2
  go_ret
  exact ⟨rfl, rfl⟩
theorem nan_i64 (k : Int) (w : World) : Calls Try.prog 40 #[.int .i64 k] w fun e w' => e = .returned (.bool false) ∧ w = w' := by
  go_enter Try.func40, Try.ntmps40
  go_wp2
  go_ret
  exact ⟨rfl, rfl⟩
set_option maxRecDepth 100000 in
set_option maxHeartbeats 2000000 in
theorem cmpInt_any (a b : Int) (w : World) : Calls Try.prog 24 #[.int .i64 a, .int .i64 b] w (IntPost (Order.sgn a b) w) := by
  rcases Int.lt_trichotomy a b with h | h | h
  · have HC := Lib.hid (Order.sgn_lt h)
    go_enter Try.func24, Try.ntmps24
    go_wp2_with (go_at_call 39; refine (nan_int _ _).mono ?_; rintro e w' ⟨rfl, rfl⟩)
    go_ret
    exact ⟨ret_i HC.out.symm, rfl⟩
  · subst h
    have HC := Lib.hid (Order.sgn_self a)
    go_enter Try.func24, Try.ntmps24
    go_wp2_with (go_at_call 39; refine (nan_int _ _).mono ?_; rintro e w' ⟨rfl, rfl⟩)
    go_ret
    exact ⟨ret_i HC.out.symm, rfl⟩
  · have HC := Lib.hid (Order.sgn_gt h)
    have h' : ¬ a < b := by omega
    go_enter Try.func24, Try.ntmps24
    go_wp2_with (go_at_call 39; refine (nan_int _ _).mono ?_; rintro e w' ⟨rfl, rfl⟩)
    go_ret
    exact ⟨ret_i HC.out.symm, rfl⟩
set_option maxRecDepth 100000 in
set_option maxHeartbeats 2000000 in
theorem cmpI64_any (a b : Int) (w : World) : Calls Try.prog 25 #[.int .i64 a, .int .i64 b] w (IntPost (Order.sgn a b) w) := by
  rcases Int.lt_trichotomy a b with h | h | h
  · have HC := Lib.hid (Order.sgn_lt h)
    go_enter Try.func25, Try.ntmps25
    go_wp2_with (go_at_call 40; refine (nan_i64 _ _).mono ?_; rintro e w' ⟨rfl, rfl⟩)
    go_ret
    exact ⟨ret_i HC.out.symm, rfl⟩
  · subst h
    have HC := Lib.hid (Order.sgn_self a)
    go_enter Try.func25, Try.ntmps25
    go_wp2_with (go_at_call 40; refine (nan_i64 _ _).mono ?_; rintro e w' ⟨rfl, rfl⟩)
    go_ret
    exact ⟨ret_i HC.out.symm, rfl⟩
  · have HC := Lib.hid (Order.sgn_gt h)
    have h' : ¬ a < b := by omega
    go_enter Try.func25, Try.ntmps25
    go_wp2_with (go_at_call 40; refine (nan_i64 _ _).mono ?_; rintro e w' ⟨rfl, rfl⟩)
    go_ret
    exact ⟨ret_i HC.out.symm, rfl⟩
set_option maxRecDepth 100000 in
set_option maxHeartbeats 2000000 in
theorem sign_any (a b : Int) (w : World) : Calls Try.prog 32 #[.int .i64 a, .int .i64 b] w (IntPost (Order.sgn a b) w) := by
  rcases Int.lt_trichotomy a b with h | h | h
  · have HC := Lib.hid (Order.sgn_lt h)
    go_enter Try.func32, Try.ntmps32
    go_wp2
    go_ret
    exact ⟨ret_i HC.out.symm, rfl⟩
  · subst h
    have HC := Lib.hid (Order.sgn_self a)
    go_enter Try.func32, Try.ntmps32
    go_wp2
    go_ret
    exact ⟨ret_i HC.out.symm, rfl⟩
  · have HC := Lib.hid (Order.sgn_gt h)
    have h' : ¬ a < b := by omega
    go_enter Try.func32, Try.ntmps32
    go_wp2
    go_ret
    exact ⟨ret_i HC.out.symm, rfl⟩
theorem strCmp_any (a b : ByteArray) (w : World) : Calls Try.prog 26 #[.string a, .string b] w (IntPost (Order.text a b) w) := by
  refine (Try.strings_Compare a b w).mono ?_
  rintro e w' ⟨rfl, rfl⟩
  exact ⟨by rw [Order.compareBytes_text], rfl⟩
theorem run_bytesOf (w : World) (a : Option Addr) (l : List Nat) (n c : Nat) (hl : l.length = n) (h : SliceIs w a l) : (Extern.Bytes.bytesOf (.slice a n c)).run Try.prog w = .ok (strB l) w := by
  rcases h with rfl | ⟨g, o, rfl, hr⟩
  · subst hl
    cases a with
    | none => rfl
    | some p => rfl
  · have hx : (l.map fun x : Nat => (x : Int)).length = n := by simp [hl]
    have hq := Lib.run_loadBytesX (P := Try.prog) w (l.map fun x : Nat => (x : Int)) ⟨g, o, none⟩ .empty (fun j x hj => by
      have hjl : j < l.length := by have := (List.getElem?_eq_some_iff.1 hj).1; simpa using this
      have e : (⟨g, o, none⟩ : Addr).add j = ⟨g, o + j, none⟩ := by unfold Addr.add; split <;> simp_all
      rw [e, hr j hjl]
      have hj' : (l.map fun x : Nat => (x : Int))[j]? = some ((l.getD j 0 : Nat) : Int) := by simp [List.getD_eq_getElem?_getD, List.getElem?_eq_getElem hjl]
      rw [hj'] at hj
      rw [Option.some.inj hj])
    rw [hx] at hq
    show (Extern.Bytes.loadBytes ⟨g, o, none⟩ n .empty).run Try.prog w = _
    rw [hq]
    congr 1
    apply ByteArray.ext
    show (#[] : Array UInt8) ++ (Lib.bytesOf _).toArray = _
    unfold Lib.bytesOf strB
    rw [List.map_map]
    simp
theorem map_nat {l : List Nat} (h : Oct l) : (l.map UInt8.ofNat).map UInt8.toNat = l := by
  rw [List.map_map]
  conv => rhs; rw [← List.map_id l]
  apply List.map_congr_left
  intro x hx
  have := h x hx
  simp [Nat.mod_eq_of_lt this]
theorem bytes_strB {l : List Nat} (h : Oct l) : Order.bytes (strB l) = l := by
  unfold Order.bytes strB
  simpa using map_nat h
theorem run_octs (w : World) (a b : Option Addr) (l m : List Nat) (n c n2 c2 : Nat) (hl : l.length = n) (hm : m.length = n2) (h : SliceIs w a l) (h2 : SliceIs w b m) (ho : Oct l) (ho2 : Oct m) :
    (Extern.BytealgCompare.compare #[.slice a n c, .slice b n2 c2]).run Try.prog w = .ok (.int .i64 (Order.octs l m)) w := by
  change Sem.run Try.prog (do pure (goInt (Extern.BytealgCompare.cmp (← Extern.Bytes.bytesOf (.slice a n c)) (← Extern.Bytes.bytesOf (.slice b n2 c2))))) w = _
  simp only [Sem.run_bind, Sem.run_pure, Result.andThen, run_bytesOf w a l n c hl h, run_bytesOf w b m n2 c2 hm h2]
  rw [Lib.cmp_eq, Order.compareBytes_text, Order.text, bytes_strB ho, bytes_strB ho2]
  rfl
set_option maxRecDepth 100000 in
set_option maxHeartbeats 1000000 in
theorem bytesCmp_any (w : World) (a b : Option Addr) (l m : List Nat) (n c n2 c2 : Nat) (hl : l.length = n) (hm : m.length = n2) (h : SliceIs w a l) (h2 : SliceIs w b m) (ho : Oct l) (ho2 : Oct m) :
    Calls Try.prog 31 #[.slice a n c, .slice b n2 c2] w (IntPost (Order.octs l m) w) := by
  have hcall := run_callFunc_extern Try.func42 (by kernel_rfl) (by kernel_rfl) (by kernel_rfl) (e := Extern.BytealgCompare.compare) (by kernel_rfl) #[.slice a n c, .slice b n2 c2] w
  rw [run_octs w a b l m n c n2 c2 hl hm h h2 ho ho2] at hcall
  have HC := Lib.hid hcall
  clear hcall h h2 ho ho2 hl hm
  go_enter Try.func31, Try.ntmps31
  go_wp2
  rw [HC.out]
  simp only [Result.andThen]
  rw [Oper.upon_value]
  go_wp2
  go_ret
  exact ⟨rfl, rfl⟩
end Go.Proofs.Ytngdjdhfciodjaa
