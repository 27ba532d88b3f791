/- THE WALK OF SealCloses. -/
import Derived.Test.YteepbligpfljkaaDoorSealAwake
import Derived.Test.YteepbligpfljkaaDoorSealRefClose
namespace Go.Proofs.YteepbligpfljkaaDoor
open Go.RowKit
open Seal
set_option maxHeartbeats 1000000 in
theorem refclose_bad (page next : Int) (a : Option Addr) (n cap : Nat) (w : World) (hp0 : -9223372036854775808 ≤ page) (hp1 : page ≤ 9223372036854775807)
    (hbad : pageB page = false ∨ next < -1 ∨ 16384 ≤ next ∨ page - 10 < (n : Int)) :
    Calls Tryd.prog 11 #[.int .i64 page, .int .i64 next, .slice a n cap] w fun e w' =>
      e = .returned (.tuple #[.slice none 0 0, .int .i64 1]) ∧ w = w' := by
  by_cases hp : pageB page = true
  · have hpb := pageB_bounds hp
    have hroom : roomOf page = page - 10 := by unfold roomOf; rw [if_pos hp]
    have Hroom := Lib.hid hroom
    have Hp := Lib.hid hp
    have hbad' : next < -1 ∨ 16384 ≤ next ∨ page - 10 < (n : Int) := by
      rcases hbad with h | h
      · rw [hp] at h; cases h
      · exact h
    clear hroom hbad hp
    by_cases h1 : next < -1
    · go_enter Tryd.func11, Tryd.ntmps11
      go_wp2_with fail
      refine (pagemay_any page _ (by omega) (by omega)).mono ?_
      rintro e w' ⟨rfl, rfl⟩
      rw [Hp.out]
      go_wp2_with fail
      go_ret2
      exact ⟨rfl, rfl⟩
    · by_cases h2 : 16384 ≤ next
      · go_enter Tryd.func11, Tryd.ntmps11
        go_wp2_with fail
        refine (pagemay_any page _ (by omega) (by omega)).mono ?_
        rintro e w' ⟨rfl, rfl⟩
        rw [Hp.out]
        go_wp2_with fail
        go_ret2
        exact ⟨rfl, rfl⟩
      · have h3 : page - 10 < (n : Int) := by omega
        go_enter Tryd.func11, Tryd.ntmps11
        go_wp2_with fail
        refine (pagemay_any page _ (by omega) (by omega)).mono ?_
        rintro e w' ⟨rfl, rfl⟩
        rw [Hp.out]
        go_wp2_with fail
        refine (refroom_any page _ (by omega) (by omega)).mono ?_
        rintro e w' ⟨rfl, rfl⟩
        rw [Hroom.out]
        go_wp2_with fail
        go_ret2
        exact ⟨rfl, rfl⟩
  · have hf : pageB page = false := by simpa using hp
    have Hf := Lib.hid hf
    clear hbad hp hf
    go_enter Tryd.func11, Tryd.ntmps11
    go_wp2_with fail
    refine (pagemay_any page _ (by omega) (by omega)).mono ?_
    rintro e w' ⟨rfl, rfl⟩
    rw [Hf.out]
    go_wp2_with fail
    go_ret2
    exact ⟨rfl, rfl⟩
theorem refclose_at (page next : Int) (a : Option Addr) (n cap : Nat) (data : List Nat) (w : World) (hl : data.length = n) (hp : pageB page = true) (hn0 : -1 ≤ next) (hn : next < 16384) (hd : (n : Int) + 10 ≤ page) (hb : Oct data) (hc : SliceIs w a data) :
    Calls Tryd.prog 11 #[.int .i64 page, .int .i64 next, .slice a n cap] w fun e w' =>
      ∃ b c, e = .returned (.tuple #[.slice b page.toNat c, .int .i64 0]) ∧ SliceIs w' b (closeB page.toNat (next + 1).toNat data) ∧ Below w.heap.size w w' := by
  subst hl
  have hpb := pageB_bounds hp
  obtain ⟨p, rfl⟩ := Int.eq_ofNat_of_zero_le (show 0 ≤ page by omega)
  obtain ⟨k, hk⟩ := Int.eq_ofNat_of_zero_le (show 0 ≤ next + 1 by omega)
  obtain rfl : next = (k : Int) - 1 := by omega
  have hpk : pageOk p = true := by unfold pageB at hp; rwa [Int.toNat_natCast] at hp
  rw [show ((k : Int) - 1 + 1).toNat = k by omega, Int.toNat_natCast]
  cases a with
  | none =>
    have hnil : data = [] := by
      rcases hc with h | ⟨b, o, h, _⟩
      · exact h
      · cases h
    subst hnil
    exact refclose_none p k cap w hpk (by omega)
  | some ad => exact refclose_some p k ad cap data w hpk (by omega) (by omega) hb hc
set_option maxHeartbeats 2000000 in
theorem closes_any (page next : Int) (sa : Option Addr) (na ca : Nat) (la : List Nat) (w : World) (hp0 : -9223372036854775808 ≤ page) (hp1 : page ≤ 9223372036854775807) (hn0 : -9223372036854775808 ≤ next) (hn1 : next ≤ 9223372036854775807)
    (hla : la.length = na) (hoa : Oct la) (hsa : SliceIs w sa la) (hca : na ≤ ca) (hma : ca ≤ 9223372036854775807) (ht : Tab w) (h0 : 0 < w.heap.size) :
    Calls Tryd.prog 3 #[.int .i64 page, .int .i64 next, .slice sa na ca] w fun e w' => e = .returned (.bool true) ∧ Below w.heap.size w w' := by
  by_cases hbig : 5000 < na
  · go_enter Tryd.func3, Tryd.ntmps3
    go_wp2_with fail
    refine (awake_any _ ht h0).mono ?_
    rintro e w1 ⟨rfl, hB1⟩
    have HB1 := Lib.hid hB1
    go_wp2_with fail
    go_ret
    exact ⟨rfl, HB1.out⟩
  · go_enter Tryd.func3, Tryd.ntmps3
    go_wp2_with fail
    refine (awake_any _ ht h0).mono ?_
    rintro e w1 ⟨rfl, hB1⟩
    go_wp2_with fail
    by_cases hgood : pageB page = true ∧ -1 ≤ next ∧ next < 16384 ∧ (na : Int) + 10 ≤ page
    · obtain ⟨g1, g2, g3, g4⟩ := hgood
      have hz1 : 0 < w1.heap.size := Nat.lt_of_lt_of_le h0 hB1.size
      have hpb := pageB_bounds g1
      have G1 := Lib.hid g1
      clear g1
      obtain ⟨p, rfl⟩ := Int.eq_ofNat_of_zero_le (show 0 ≤ page by omega)
      have hpk : pageOk p = true := by have := G1.out; unfold pageB at this; rwa [Int.toNat_natCast] at this
      refine (close_at p next sa na ca la w1 hla G1.out g2 g3 g4 hoa (hsa.keep hB1) (ht.below hB1 h0) hz1).mono ?_
      rintro e w2 ⟨rfl, hR2, hB2⟩
      rw [Int.toNat_natCast] at hR2 ⊢
      have hB02 : Below w.heap.size w w2 := hB1.trans (hB2.mono hB1.size)
      go_wp2_with fail
      refine (refclose_at p next sa na ca la w2 hla G1.out g2 g3 g4 hoa (hsa.keep hB02)).mono ?_
      rintro e w3 ⟨a3, c3, rfl, hS3, hB3⟩
      have hB03 : Below w.heap.size w w3 := hB02.trans (hB3.mono hB02.size)
      rw [Int.toNat_natCast] at hS3 ⊢
      have hkn : (next + 1).toNat ≤ 16384 := by omega
      have hoc := open_close p (next + 1).toNat la hpk hkn (by omega) hoa
      rw [show (((next + 1).toNat : Nat) : Int) - 1 = next by omega] at hoc
      have hcl := length_closeB p (next + 1).toNat la (by omega)
      have hco := oct_closeB p (next + 1).toNat la hoa
      have hR3 := hR2.below hB3 hR2.lt
      have hG3 := hR3.lt
      obtain ⟨G, hGe⟩ : ∃ G, G = w1.heap.size := ⟨_, rfl⟩
      rw [← hGe] at hR3 hG3 ⊢
      have hrd3 := hR3.reads 0 p (by omega)
      rw [List.drop_zero, List.take_of_length_le (by omega)] at hrd3
      have hs3 : SliceIs w3 (some ⟨G, 0, none⟩) (closeB p (next + 1).toNat la) := .inr ⟨G, 0, rfl, hrd3⟩
      have ht3 : Tab w3 := ht.below hB03 h0
      have hsa3 := hsa.keep hB03
      have cc1 : (convert 22 9 (.slice (some ⟨G, 0, none⟩) p p)).run Tryd.prog w3 = .ok (.string (strB (closeB p (next + 1).toNat la))) w3 := conv_str _ _ p p _ hcl hs3
      have cc2 : (convert 22 9 (.slice a3 p c3)).run Tryd.prog w3 = .ok (.string (strB (closeB p (next + 1).toNat la))) w3 := conv_str _ _ p c3 _ hcl hS3
      generalize closeB p (next + 1).toNat la = Z at *
      have Hoc := Lib.hid hoc
      have Hcl := Lib.hid hcl
      have HB03 := Lib.hid hB03
      generalize strB Z = txt at cc1 cc2
      clear hGe hR2 hB2 hB02 hS3 hB3 hpk hoc hcl hR3 hrd3 hB03 hB1 hz1
      go_wp2_with fail
      refine (room_any p _ (by omega) (by omega)).mono ?_
      rintro e w4 ⟨rfl, rfl⟩
      go_wp2_with fail
      refine (refroom_any p _ (by omega) (by omega)).mono ?_
      rintro e w4 ⟨rfl, rfl⟩
      generalize roomOf p = rr
      go_wp2_with fail
      refine (sum_any sa na ca la w3 hla (by omega) hoa hsa3 ht3).mono ?_
      rintro e w4 ⟨rfl, rfl⟩
      go_wp2_with fail
      refine (refsum_any sa na ca la w3 hla (by omega) hoa hsa3).mono ?_
      rintro e w4 ⟨rfl, rfl⟩
      generalize crc la = ss
      go_wp2_with fail
      refine (open_at (some ⟨G, 0, none⟩) p p Z w3 Hcl.out (Nat.le_refl _) (by omega) hco hs3 ht3).mono ?_
      rw [Hoc.out]
      rintro e w5 ⟨a5, c5, rfl, hS5, hA5, hB5⟩
      simp only at hS5 ⊢
      have hsa5 := hsa3.keep hB5
      have cc3 : (convert 22 9 (.slice a5 na c5)).run Tryd.prog w5 = .ok (.string (strB la)) w5 := conv_str _ _ na c5 la hla hS5
      have cc4 : (convert 22 9 (.slice sa na ca)).run Tryd.prog w5 = .ok (.string (strB la)) w5 := conv_str _ _ na ca la hla hsa5
      have HF : Hid (Below w.heap.size w w5) := HB03.out.trans (hB5.mono HB03.out.size)
      rw [hla]
      generalize strB la = txt2 at cc3 cc4
      clear hS5 hA5 hB5 hsa5 hsa3 ht3 hs3
      go_wp2_with fail
      go_ret
      exact ⟨rfl, HF.out⟩
    · have hbad : pageB page = false ∨ next < -1 ∨ 16384 ≤ next ∨ page - 10 < (na : Int) := by
        by_cases q1 : pageB page = true
        · by_cases q2 : -1 ≤ next
          · by_cases q3 : next < 16384
            · by_cases q4 : (na : Int) + 10 ≤ page
              · exact absurd ⟨q1, q2, q3, q4⟩ hgood
              · exact .inr (.inr (.inr (by omega)))
            · exact .inr (.inr (.inl (by omega)))
          · exact .inr (.inl (by omega))
        · exact .inl (by simpa using q1)
      have Hbad := Lib.hid hbad
      clear hbad hgood
      refine (close_bad page next sa na ca w1 hp0 hp1 Hbad.out).mono ?_
      rintro e w2 ⟨rfl, rfl⟩
      go_wp2_with fail
      refine (refclose_bad page next sa na ca w1 hp0 hp1 Hbad.out).mono ?_
      rintro e w2 ⟨rfl, rfl⟩
      have cc1 : (convert 22 9 (.slice none 0 0)).run Tryd.prog w1 = .ok (.string (strB [])) w1 := conv_str _ _ 0 0 [] rfl (.inl rfl)
      generalize strB [] = txt at cc1
      have ht1 : Tab w1 := ht.below hB1 h0
      have hsa1 := hsa.keep hB1
      have HB1 := Lib.hid hB1
      clear hB1
      go_wp2_with fail
      refine (room_any page _ (by omega) (by omega)).mono ?_
      rintro e w4 ⟨rfl, rfl⟩
      go_wp2_with fail
      refine (refroom_any page _ (by omega) (by omega)).mono ?_
      rintro e w4 ⟨rfl, rfl⟩
      generalize roomOf page = rr
      go_wp2_with fail
      refine (sum_any sa na ca la w1 hla (by omega) hoa hsa1 ht1).mono ?_
      rintro e w4 ⟨rfl, rfl⟩
      go_wp2_with fail
      refine (refsum_any sa na ca la w1 hla (by omega) hoa hsa1).mono ?_
      rintro e w4 ⟨rfl, rfl⟩
      generalize crc la = ss
      go_wp2_with fail
      go_ret
      exact ⟨rfl, HB1.out⟩
end Go.Proofs.YteepbligpfljkaaDoor
