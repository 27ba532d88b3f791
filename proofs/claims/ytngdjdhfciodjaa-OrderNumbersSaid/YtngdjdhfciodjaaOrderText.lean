/- aqueductref5.text; order.compareBytes. -/
import Derived.Test.YtngdjdhfciodjaaOrderLeaf
import Derived.IntWalk
namespace Go.Proofs.Ytngdjdhfciodjaa
open Go.RowKit
open Seal
theorem sign_q (a b : Int) (w : World) : Calls Try.prog 32 #[.int .i64 a, .int .i64 b] w fun e w' => e = .returned (.int .i64 (Order.sgn a b)) ∧ w' = w := (sign_any a b w).mono fun _ _ ⟨h1, h2⟩ => ⟨h1, h2.symm⟩
theorem bytes_len (s : ByteArray) : (Order.bytes s).length = s.size := by unfold Order.bytes; rw [List.length_map]; exact Array.length_toList
theorem bytes_at (s : ByteArray) (k : Nat) (h : k < s.size) : (Order.bytes s)[k]'(by rw [bytes_len]; exact h) = s[k].toNat := by
  unfold Order.bytes
  rw [List.getElem_map]
  rfl
def TextGo (a b : ByteArray) (k : Nat) : Prop := Order.text a b = Order.lex Order.oct ((Order.bytes a).drop k) ((Order.bytes b).drop k)
theorem TextGo.next {a b : ByteArray} {k : Nat} (h : TextGo a b k) (ha : k < a.size) (hb : k < b.size) (e : a[k].toNat = b[k].toNat) : TextGo a b (k + 1) := by
  unfold TextGo at h ⊢
  rw [h]
  refine Order.lex_step (by rw [bytes_len]; exact ha) (by rw [bytes_len]; exact hb) ?_
  rw [bytes_at a k ha, bytes_at b k hb, e]
  exact Order.sgn_self _
theorem TextGo.here {a b : ByteArray} {k : Nat} (h : TextGo a b k) (ha : k < a.size) (hb : k < b.size) (e : ¬ a[k].toNat = b[k].toNat) : Order.text a b = Order.sgn (a[k].toNat : Int) (b[k].toNat : Int) := by
  unfold TextGo at h
  rw [h]
  refine (Order.lex_here (by rw [bytes_len]; exact ha) (by rw [bytes_len]; exact hb) ?_).trans ?_
  · rw [bytes_at a k ha, bytes_at b k hb]
    intro e2
    have := Order.sgn_zero.1 e2
    omega
  · rw [bytes_at a k ha, bytes_at b k hb]; rfl
theorem TextGo.last {a b : ByteArray} {k : Nat} (h : TextGo a b k) (ha : k ≤ a.size) (hb : k ≤ b.size) (e : ¬ (k < a.size ∧ k < b.size)) : Order.text a b = Order.sgn (a.size : Int) (b.size : Int) := by
  unfold TextGo at h
  rw [h, Order.lex_end (by rw [bytes_len]; exact ha) (by rw [bytes_len]; exact hb) (by rw [bytes_len, bytes_len]; omega), bytes_len, bytes_len]
set_option maxRecDepth 100000 in
set_option maxHeartbeats 4000000 in
theorem refText_any (a b : ByteArray) (w : World) (ha : a.size ≤ 140737488355328) (hb : b.size ≤ 140737488355328) :
    Calls Try.prog 33 #[.string a, .string b] w fun e w' => e = .returned (.int .i64 (Order.text a b)) ∧ ∃ q, w' = w.drewN q := by
  go_enter Try.func33, Try.ntmps33
  go_wp2
  go_loopw [5] (fun i wr => ∃ k : Nat, i = .int .i64 k ∧ k ≤ a.size ∧ k ≤ b.size ∧ Hid (TextGo a b k) ∧ Hid (∃ q, wr = w.drewN q)) (fun i _ => a.size - (intOf i).toNat)
  case atStart => exact ⟨0, rfl, Nat.zero_le _, Nat.zero_le _, rfl, ⟨0, rfl⟩⟩
  case round =>
    obtain ⟨k, rfl, hk, hk2, HT, HQ⟩ := hrel
    by_cases hka : k < a.size
    · by_cases hkb : k < b.size
      · by_cases e : a[k].toNat = b[k].toNat
        · have HN := Lib.hid (HT.out.next hka hkb e)
          have he : (((a[k].toNat : Nat) : Int) != ((b[k].toNat : Nat) : Int)) = false := by simp [e]
          clear e
          go_wp2
          go_quiet (fail)
          go_wp2
          go_roundw
          case rel => exact ⟨k + 1, by go_num, by omega, by omega, HN, by obtain ⟨q, hq⟩ := HQ.out; exact ⟨_, by rw [hq, World.drewN_drewN]⟩⟩
          case measure => simp [intOf]; omega
        · have HN := Lib.hid (HT.out.here hka hkb e)
          have he : (((a[k].toNat : Nat) : Int) != ((b[k].toNat : Nat) : Int)) = true := by rw [bne_iff_ne]; omega
          clear e
          go_wp2
          go_quiet (fail)
          go_wp2
          generalize hw1 : wr.drewN _ = w1
          have HW1 := Lib.hid hw1
          clear hw1
          have wa := IntWalk.i64_in (n := ((a[k].toNat : Nat) : Int)) (by have := a[k].toNat_lt; omega)
          have wb := IntWalk.i64_in (n := ((b[k].toNat : Nat) : Int)) (by have := b[k].toNat_lt; omega)
          go_quiet ((go_at_call 32; exact Calls.quiet_of_same (sign_q _ _ _)))
          go_wp2
          go_ret
          exact ⟨ret_i HN.out.symm, by obtain ⟨q, hq⟩ := HQ.out; exact ⟨_, by rw [← HW1.out, hq, World.drewN_drewN, World.drewN_drewN]⟩⟩
      · have HN := Lib.hid (HT.out.last hk hk2 (by omega))
        go_wp2_with (go_at_call 32; refine (sign_any _ _ _).mono ?_; rintro e w' ⟨rfl, rfl⟩)
        go_ret
        exact ⟨ret_i HN.out.symm, HQ.out⟩
    · have HN := Lib.hid (HT.out.last hk hk2 (by omega))
      go_wp2_with (go_at_call 32; refine (sign_any _ _ _).mono ?_; rintro e w' ⟨rfl, rfl⟩)
      go_ret
      exact ⟨ret_i HN.out.symm, HQ.out⟩
set_option maxRecDepth 100000 in
set_option maxHeartbeats 4000000 in
theorem cmpBytes_any (w : World) (a b : Option Addr) (l m : List Nat) (n c n2 c2 : Nat) (hl : l.length = n) (hm : m.length = n2) (h : SliceIs w a l) (h2 : SliceIs w b m) (ho : Oct l) (ho2 : Oct m) :
    Calls Try.prog 30 #[.slice a n c, .slice b n2 c2] w (IntPost (Order.blob l m) w) := by
  have HC := Lib.hid (bytesCmp_any w a b l m n c n2 c2 hl hm h h2 ho ho2)
  by_cases e : n = n2
  · have HB := Lib.hid (show Order.blob l m = Order.octs l m by rw [Order.blob, if_pos (Order.sgn_zero.2 (by omega))])
    have he : Order.sgn (n : Int) (n2 : Int) = 0 := Order.sgn_zero.2 (by omega)
    have hb : (Order.sgn (n : Int) (n2 : Int) != 0) = false := by rw [he]; rfl
    clear h h2 ho ho2 hl hm e he
    go_enter Try.func30, Try.ntmps30
    go_wp2_with (first | (go_at_call 24; refine (cmpInt_any _ _ _).mono ?_; rintro e w' ⟨rfl, rfl⟩) | (go_at_call 31; refine HC.out.mono ?_; rintro e w' ⟨rfl, rfl⟩))
    go_ret
    exact ⟨ret_i HB.out.symm, rfl⟩
  · have HB := Lib.hid (show Order.blob l m = Order.sgn (n : Int) (n2 : Int) by
      rw [Order.blob, if_neg (fun x => e (by have := Order.sgn_zero.1 x; omega)), hl, hm])
    have hb : (Order.sgn (n : Int) (n2 : Int) != 0) = true := by
      rw [bne_iff_ne]; intro x; have := Order.sgn_zero.1 x; omega
    clear h h2 ho ho2 hl hm e
    go_enter Try.func30, Try.ntmps30
    go_wp2_with (go_at_call 24; refine (cmpInt_any _ _ _).mono ?_; rintro e w' ⟨rfl, rfl⟩)
    go_ret
    exact ⟨ret_i HB.out.symm, rfl⟩
end Go.Proofs.Ytngdjdhfciodjaa
