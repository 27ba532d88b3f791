/- aqueductref5.text; order.compareBytes. -/
import Derived.Test.YtkpbfocbombpjaaOrderLeaf
import Derived.IntWalk
namespace Go.Proofs.Ytkpbfocbombpjaa
open Go.RowKit
open Seal
theorem bytes_len (s : ByteArray) : (Order.bytes s).length = s.size := by unfold Order.bytes; rw [List.length_map]; exact Array.length_toList
theorem bytes_at (s : ByteArray) (k : Nat) (h : k < s.size) : (Order.bytes s)[k]'(by rw [bytes_len]; exact h) = s[k].toNat := by
  unfold Order.bytes
  rw [List.getElem_map]
  rfl
def TextGo (a b : ByteArray) (k : Nat) : Prop := Order.text a b = Order.lex Order.oct ((Order.bytes a).drop k) ((Order.bytes b).drop k)
theorem TextGo.next {a b : ByteArray} {k : Nat} (h : TextGo a b k) (ha : k < a.size) (hb : k < b.size) (e : a[k].toNat = b[k].toNat) : TextGo a b (k + 1) := by
  unfold TextGo at h ⊢
  rw [h]
  refine Order.lex_step (by rw [bytes_len]; exact ha) (by rw [bytes_len]; exact hb) ?_
  rw [bytes_at a k ha, bytes_at b k hb, e]
  exact Order.sgn_self _
theorem TextGo.here {a b : ByteArray} {k : Nat} (h : TextGo a b k) (ha : k < a.size) (hb : k < b.size) (e : ¬ a[k].toNat = b[k].toNat) : Order.text a b = Order.sgn (a[k].toNat : Int) (b[k].toNat : Int) := by
  unfold TextGo at h
  rw [h]
  refine (Order.lex_here (by rw [bytes_len]; exact ha) (by rw [bytes_len]; exact hb) ?_).trans ?_
  · rw [bytes_at a k ha, bytes_at b k hb]
    intro e2
    have := Order.sgn_zero.1 e2
    omega
  · rw [bytes_at a k ha, bytes_at b k hb]; rfl
theorem TextGo.last {a b : ByteArray} {k : Nat} (h : TextGo a b k) (ha : k ≤ a.size) (hb : k ≤ b.size) (e : ¬ (k < a.size ∧ k < b.size)) : Order.text a b = Order.sgn (a.size : Int) (b.size : Int) := by
  unfold TextGo at h
  rw [h, Order.lex_end (by rw [bytes_len]; exact ha) (by rw [bytes_len]; exact hb) (by rw [bytes_len, bytes_len]; omega), bytes_len, bytes_len]
set_option maxRecDepth 100000 in
set_option maxHeartbeats 4000000 in
theorem cmpBytes_any (w : World) (a b : Option Addr) (l m : List Nat) (n c n2 c2 : Nat) (hl : l.length = n) (hm : m.length = n2) (h : SliceIs w a l) (h2 : SliceIs w b m) (ho : Oct l) (ho2 : Oct m) :
    Calls Try.prog 15 #[.slice a n c, .slice b n2 c2] w (IntPost (Order.blob l m) w) := by
  have HC := Lib.hid (bytesCmp_any w a b l m n c n2 c2 hl hm h h2 ho ho2)
  by_cases e : n = n2
  · have HB := Lib.hid (show Order.blob l m = Order.octs l m by rw [Order.blob, if_pos (Order.sgn_zero.2 (by omega))])
    have he : Order.sgn (n : Int) (n2 : Int) = 0 := Order.sgn_zero.2 (by omega)
    have hb : (Order.sgn (n : Int) (n2 : Int) != 0) = false := by rw [he]; rfl
    clear h h2 ho ho2 hl hm e he
    go_enter Try.func15, Try.ntmps15
    go_wp2_with (first | (go_at_call 9; refine (cmpInt_any _ _ _).mono ?_; rintro e w' ⟨rfl, rfl⟩) | (go_at_call 16; refine HC.out.mono ?_; rintro e w' ⟨rfl, rfl⟩))
    go_ret
    exact ⟨ret_i HB.out.symm, rfl⟩
  · have HB := Lib.hid (show Order.blob l m = Order.sgn (n : Int) (n2 : Int) by
      rw [Order.blob, if_neg (fun x => e (by have := Order.sgn_zero.1 x; omega)), hl, hm])
    have hb : (Order.sgn (n : Int) (n2 : Int) != 0) = true := by
      rw [bne_iff_ne]; intro x; have := Order.sgn_zero.1 x; omega
    clear h h2 ho ho2 hl hm e
    go_enter Try.func15, Try.ntmps15
    go_wp2_with (go_at_call 9; refine (cmpInt_any _ _ _).mono ?_; rintro e w' ⟨rfl, rfl⟩)
    go_ret
    exact ⟨ret_i HB.out.symm, rfl⟩
end Go.Proofs.Ytkpbfocbombpjaa
