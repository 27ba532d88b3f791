/- aqueductlaw8.awake. -/
import Derived.Test.YtdcfddiicclpeaaDoorKeyEncode
import Derived.Test.YtdcfddiicclpeaaDoorKeySign
import Derived.Test.YtdcfddiicclpeaaDoorKeyHash
import Derived.Test.YtdcfddiicclpeaaDoorOrderRowsIn
namespace Go.Proofs.YtdcfddiicclpeaaDoor
open Go.RowKit
open Seal
open Bson (Val)
/-- The value is a slice that reads as the bytes r. -/
def BySl (w : World) (v : Value) (r : List Nat) : Prop := ∃ a c, v = .slice a r.length c ∧ SliceIs w a r ∧ Oct r
theorem BySl.keep {w w' : World} {v : Value} {r : List Nat} (h : BySl w v r) (hb : Below w.heap.size w w') : BySl w' v r := by
  obtain ⟨a, c, h1, h2, h3⟩ := h
  exact ⟨a, c, h1, h2.keep hb, h3⟩
/-- A number's key. -/
def numK (k n : Int) : List Nat := Key.markB k :: Key.numB n
theorem numK_enc (k n : Int) (hk : k = 3 ∨ k = 4 ∨ k = 10 ∨ k = 11) : Key.encB 34 [] [.mk k n ⟨#[]⟩ [] [] []] 0 = numK k n := by
  rw [Key.encB, Key.encB, List.append_nil]
  show Key.valB 34 (.mk k n ⟨#[]⟩ [] [] []) = _
  unfold Key.valB numK
  rw [Key.beh_num (x := .mk k n ⟨#[]⟩ [] [] []) hk]
  rfl
theorem numK_length (k n : Int) : (numK k n).length = 9 := by
  unfold numK Key.numB
  rw [List.length_cons, Key.be_length]
set_option maxRecDepth 100000 in
set_option maxHeartbeats 1000000 in
theorem awf_any (n : Int) (h0 : -9223372036854775808 ≤ n) (h1 : n ≤ 9223372036854775807) (w : World) (hX : Maxl w w.heap.size) :
    Calls Tryd.prog 42 #[.int .i64 n] w fun e w' => ∃ v, e = .returned v ∧ BySl w' v (numK 4 n) ∧ Below w.heap.size w w' := by
  have hb : Below w.heap.size w (w.alloc (.cells #[.int .i64 4, .int .i64 n, .string ⟨#[]⟩, .slice none 0 0, .slice none 0 0, .slice none 0 0] 26)) := (Below.refl _ w).alloc (Nat.le_refl _) _
  have HB := Lib.hid hb
  have HC := Lib.hid (encode_key 1 (fun g => g = w.heap.size) (some ⟨w.heap.size, 0, none⟩) 1 1 [.mk 4 n ⟨#[]⟩ [] [] []] none 0 0 [] (w.alloc (.cells #[.int .i64 4, .int .i64 n, .string ⟨#[]⟩, .slice none 0 0, .slice none 0 0, .slice none 0 0] 26)) rfl (by decide)
    (one_items (heap_alloc_new w _) rfl (leaf_in _ _ 4 n (by decide) ⟨h0, h1⟩ 0)) rfl (.inl rfl) (by decide) (fun g hg => by rw [hg]; exact (Array.getElem?_eq_some_iff.1 (heap_alloc_new w _)).1) (hX.newer hb |>.mono hb.size) (by rw [numK_enc 4 n (by decide), numK_length]; decide))
  clear hb hX
  go_enter Tryd.func42, Tryd.ntmps42
  go_wp2_with fail
  go_at_call 26
  refine HC.out.mono ?_
  rintro e w1 ⟨a', c', r, rfl, hS, hO, hf, _, hb1⟩
  have hr := hf (fun x hx => by rw [List.mem_singleton.1 hx]; exact fits_leaf' (x := .mk 4 n ⟨#[]⟩ [] [] []) (show (4 : Int) ≠ 6 by decide) (show (4 : Int) ≠ 7 by decide) 34)
  rw [numK_enc 4 n (by decide)] at hr
  have HR := Lib.hid hr
  have HS := Lib.hid hS
  have HO := Lib.hid hO
  have HB1 := Lib.hid hb1
  clear hS hO hb1 hf HC hr
  go_wp2_with fail
  go_ret
  exact ⟨_, rfl, by rw [← HR.out]; exact ⟨a', c', rfl, HS.out, HO.out⟩, HB.out.trans (HB1.out.mono HB.out.size)⟩
theorem awf_some (n : Int) (h0 : -9223372036854775808 ≤ n) (h1 : n ≤ 9223372036854775807) (w w0 : World) (hb : Below w0.heap.size w0 w) (hX : Maxl w0 w0.heap.size) :
    Calls Tryd.prog 42 #[.int .i64 n] w fun e w' => ∃ a c, e = .returned (.slice a 9 c) ∧ SliceIs w' a (numK 4 n) ∧ Below w.heap.size w w' := by
  refine (awf_any n h0 h1 w ((hX.keep hb).mono hb.size)).mono ?_
  rintro e w' ⟨v, rfl, ⟨a, c, rfl, hS, _⟩, hb'⟩
  exact ⟨a, c, by rw [numK_length], hS, hb'⟩
theorem oct_numK (k n : Int) : Oct (numK k n) := by
  intro c hc
  unfold numK at hc
  rcases List.mem_cons.1 hc with e | hc
  · rw [e]; exact Key.mark_lt k
  · unfold Key.numB at hc
    revert hc
    generalize Key.off n = m
    have g : ∀ K, ∀ x ∈ Key.be m K, x < 256 := by
      intro K
      induction K with
      | zero => intro x hx; cases hx
      | succ K ih =>
        intro x hx
        rcases List.mem_cons.1 hx with e | hx
        · rw [e]; exact Nat.mod_lt _ (by decide)
        · exact ih x hx
    exact g 8 c
set_option maxRecDepth 100000 in
set_option maxHeartbeats 4000000 in
theorem key_awake (w : World) (hX : Maxl w w.heap.size) : Calls Tryd.prog 24 #[] w fun e w' => e = .returned (.bool true) ∧ Below w.heap.size w w' := by
  have HX := Lib.hid hX
  have HB0 : Hid (Below w.heap.size w w) := Below.refl _ w
  clear hX
  go_enter Tryd.func24, Tryd.ntmps24
  go_wp2_with fail
  go_at_call 42
  refine (awf_some (-5) (by decide) (by decide) w w HB0.out HX.out).mono ?_
  rintro e w1 ⟨a1, c1, rfl, hs1, hb1⟩
  have HS1 := Lib.hid hs1
  have HB1 : Hid (Below w.heap.size w w1) := HB0.out.trans (hb1.mono HB0.out.size)
  have HK1 := Lib.hid hb1
  clear hs1 hb1
  go_wp2_with fail
  go_at_call 42
  refine (awf_some (3) (by decide) (by decide) w1 w HB1.out HX.out).mono ?_
  rintro e w2 ⟨a2, c2, rfl, hs2, hb2⟩
  have HS2 := Lib.hid hs2
  have HB2 : Hid (Below w.heap.size w w2) := HB1.out.trans (hb2.mono HB1.out.size)
  have HK2 := Lib.hid hb2
  clear hs2 hb2
  go_wp2_with fail
  go_at_call 27
  refine (sign_key w2 a1 a2 9 c1 9 c2 (numK 4 (-5)) (numK 4 (3)) (numK_length _ _) (numK_length _ _) (HS1.out.keep HK2.out) HS2.out (by decide) (by decide)).mono ?_
  rw [show Order.octs (numK 4 (-5)) (numK 4 (3)) = -1 from by decide +kernel]
  rintro e w3 ⟨rfl, q3, hq3⟩
  have HB3 : Hid (Below w.heap.size w w3) := by rw [hq3]; exact below_dr HB2.out _
  clear hq3
  go_wp2_with fail
  go_at_call 42
  refine (awf_some (3) (by decide) (by decide) w3 w HB3.out HX.out).mono ?_
  rintro e w4 ⟨a4, c4, rfl, hs4, hb4⟩
  have HS4 := Lib.hid hs4
  have HB4 : Hid (Below w.heap.size w w4) := HB3.out.trans (hb4.mono HB3.out.size)
  have HK4 := Lib.hid hb4
  clear hs4 hb4
  go_wp2_with fail
  go_at_call 42
  refine (awf_some (300) (by decide) (by decide) w4 w HB4.out HX.out).mono ?_
  rintro e w5 ⟨a5, c5, rfl, hs5, hb5⟩
  have HS5 := Lib.hid hs5
  have HB5 : Hid (Below w.heap.size w w5) := HB4.out.trans (hb5.mono HB4.out.size)
  have HK5 := Lib.hid hb5
  clear hs5 hb5
  go_wp2_with fail
  go_at_call 27
  refine (sign_key w5 a4 a5 9 c4 9 c5 (numK 4 (3)) (numK 4 (300)) (numK_length _ _) (numK_length _ _) (HS4.out.keep HK5.out) HS5.out (by decide) (by decide)).mono ?_
  rw [show Order.octs (numK 4 (3)) (numK 4 (300)) = -1 from by decide +kernel]
  rintro e w6 ⟨rfl, q6, hq6⟩
  have HB6 : Hid (Below w.heap.size w w6) := by rw [hq6]; exact below_dr HB5.out _
  clear hq6
  go_wp2_with fail
  go_at_call 42
  refine (awf_some (0) (by decide) (by decide) w6 w HB6.out HX.out).mono ?_
  rintro e w7 ⟨a7, c7, rfl, hs7, hb7⟩
  have HS7 := Lib.hid hs7
  have HB7 : Hid (Below w.heap.size w w7) := HB6.out.trans (hb7.mono HB6.out.size)
  have HK7 := Lib.hid hb7
  clear hs7 hb7
  go_wp2_with fail
  go_at_call 42
  refine (awf_some (1) (by decide) (by decide) w7 w HB7.out HX.out).mono ?_
  rintro e w8 ⟨a8, c8, rfl, hs8, hb8⟩
  have HS8 := Lib.hid hs8
  have HB8 : Hid (Below w.heap.size w w8) := HB7.out.trans (hb8.mono HB7.out.size)
  have HK8 := Lib.hid hb8
  clear hs8 hb8
  go_wp2_with fail
  go_at_call 31
  refine (part_any w8 a8 9 c8 (numK 4 1) 0 1 (numK_length _ _) HS8.out (oct_numK _ _) (by decide) (by decide)).mono ?_
  rw [show hpart (hash (numK 4 1) 0) 1 = 0 from by unfold hpart; rw [if_neg (by decide), Int.emod_one]]
  rintro e w9 ⟨rfl, hw9⟩
  obtain rfl := hw9
  go_wp2_with fail
  go_at_call 30
  refine (hash_any w9 none 0 0 [] 0 rfl (.inl rfl) nofun (by decide)).mono ?_
  have hne : (hash [] 0 != 0) = true := by decide +kernel
  rintro e w10 ⟨rfl, hw10⟩
  obtain rfl := hw10
  go_wp2_with fail
  go_ret
  exact ⟨rfl, HB8.out⟩
end Go.Proofs.YtdcfddiicclpeaaDoor
