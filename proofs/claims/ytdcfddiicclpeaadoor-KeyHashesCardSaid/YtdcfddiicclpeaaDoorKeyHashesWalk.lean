/- aqueductlaw8.KeyHashes, walked. -/
import Derived.Test.YtdcfddiicclpeaaDoorKeyAwake
namespace Go.Proofs.YtdcfddiicclpeaaDoor
open Go.RowKit
open Seal
set_option maxRecDepth 100000 in
set_option maxHeartbeats 2000000 in
theorem hashes_law (w : World) (a : Option Addr) (n c : Nat) (l : List Nat) (lev many : Int) (hn : l.length = n) (ho : Oct l) (hS : SliceIs w a l) (hnc : n ≤ c ∧ c ≤ 9223372036854775807) (hm : many ≤ 9223372036854775807) (hX : Maxl w w.heap.size) :
    Calls Tryd.prog 8 #[.slice a n c, .int .i64 lev, .int .i64 many] w fun e w' => e = .returned (.bool true) ∧ Below w.heap.size w w' := by
  have HA := Lib.hid (key_awake w hX)
  have HN := Lib.hid hn
  have HO := Lib.hid ho
  have HS := Lib.hid hS
  clear hn ho hS hX
  by_cases hbig : 5000 < n
  · have hd : decide ((n : Int) > 5000) = true := decide_eq_true (by omega)
    have hd2 : decide ((5000 : Int) < (n : Int)) = true := decide_eq_true (by omega)
    go_enter Tryd.func8, Tryd.ntmps8
    go_wp2_with fail
    go_at_call 24
    refine HA.out.mono ?_
    rintro e w1 ⟨rfl, hb1⟩
    have HB1 := Lib.hid hb1
    clear hb1
    go_wp2_with fail
    go_ret
    exact ⟨rfl, HB1.out⟩
  · have hd : decide ((n : Int) > 5000) = false := decide_eq_false (by omega)
    have hd2 : decide ((5000 : Int) < (n : Int)) = false := decide_eq_false (by omega)
    by_cases h1 : many < 1
    · have hge : decide (many ≥ 1) = false := decide_eq_false (by omega)
      have hge2 : decide (1 ≤ many) = false := decide_eq_false (by omega)
      go_enter Tryd.func8, Tryd.ntmps8
      go_wp2_with fail
      go_at_call 24
      refine HA.out.mono ?_
      rintro e w1 ⟨rfl, hb1⟩
      have HB1 := Lib.hid hb1
      have HH := Lib.hid (refHash_any w1 a n c l lev HN.out (HS.out.keep hb1) HO.out (by omega))
      have HH2 := Lib.hid (hash_any w1 a n c l lev HN.out (HS.out.keep hb1) HO.out (by omega))
      have HP := Lib.hid (part_any w1 a n c l lev many HN.out (HS.out.keep hb1) HO.out (by omega) hm)
      rw [show hpart (hash l lev) many = 0 from if_pos h1] at HP
      generalize hash l lev = x at *
      clear hb1
      go_wp2_with fail
      go_at_call 29
      refine HH.out.mono ?_
      rintro e w2 ⟨rfl, hw2⟩
      obtain rfl := hw2
      go_wp2_with fail
      go_at_call 30
      refine HH2.out.mono ?_
      rintro e w3 ⟨rfl, hw3⟩
      obtain rfl := hw3
      go_wp2_with fail
      go_at_call 31
      refine HP.out.mono ?_
      rintro e w4 ⟨rfl, hw4⟩
      obtain rfl := hw4
      go_wp2_with fail
      go_ret
      exact ⟨rfl, HB1.out⟩
    · have hge : decide (many ≥ 1) = true := decide_eq_true (by omega)
      have hge2 : decide (1 ≤ many) = true := decide_eq_true (by omega)
      have hw : IntKind.u64.wrap many = many := by rw [IntKind.wrap_u64]; omega
      have hne : (many == 0) = false := by rw [beq_eq_false_iff_ne]; omega
      have hnn : 0 ≤ hash l lev := hfold_nn _
      go_enter Tryd.func8, Tryd.ntmps8
      go_wp2_with fail
      go_at_call 24
      refine HA.out.mono ?_
      rintro e w1 ⟨rfl, hb1⟩
      have HB1 := Lib.hid hb1
      have HH := Lib.hid (refHash_any w1 a n c l lev HN.out (HS.out.keep hb1) HO.out (by omega))
      have HH2 := Lib.hid (hash_any w1 a n c l lev HN.out (HS.out.keep hb1) HO.out (by omega))
      have HP := Lib.hid (part_any w1 a n c l lev many HN.out (HS.out.keep hb1) HO.out (by omega) hm)
      rw [show hpart (hash l lev) many = hash l lev % many from if_neg (by omega)] at HP
      generalize hash l lev = x at *
      have hm1 := Int.emod_nonneg x (show many ≠ 0 by omega)
      have hm2 := Int.emod_lt_of_pos x (show 0 < many by omega)
      have hw64 : wrap64 (x % many) = x % many := by unfold wrap64; omega
      clear hb1 hm1 hm2
      go_wp2_with fail
      go_at_call 29
      refine HH.out.mono ?_
      rintro e w2 ⟨rfl, hw2⟩
      obtain rfl := hw2
      go_wp2_with fail
      go_at_call 30
      refine HH2.out.mono ?_
      rintro e w3 ⟨rfl, hw3⟩
      obtain rfl := hw3
      go_wp2_with fail
      go_at_call 31
      refine HP.out.mono ?_
      rintro e w4 ⟨rfl, hw4⟩
      obtain rfl := hw4
      go_wp2_with fail
      go_ret
      exact ⟨by simp [hw64], HB1.out⟩
end Go.Proofs.YtdcfddiicclpeaaDoor
