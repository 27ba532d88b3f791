/- THE WALK OF SealTells. -/
import Derived.Test.YteepbligpfljkaaDoorSealAwake
import Derived.Test.YteepbligpfljkaaDoorSealTurn
import Derived.Test.YteepbligpfljkaaDoorSealRoomsWalk
import Derived.Test.YteepbligpfljkaaDoorSealRefSum
namespace Go.Proofs.YteepbligpfljkaaDoor
open Go.RowKit
open Seal
set_option maxHeartbeats 2000000 in
theorem tells_any (p : Nat) (sa : Option Addr) (na ca : Nat) (la : List Nat) (y z : Nat) (w : World) (hp : p < 256)
    (hla : la.length = na) (hoa : Oct la) (hsa : SliceIs w sa la) (hca : na ≤ ca) (hma : ca ≤ 9223372036854775807) (hy : y < 4294967296) (hz : z < 4294967296) (ht : Tab w) (h0 : 0 < w.heap.size) :
    Calls Tryd.prog 5 #[.int .u8 p, .slice sa na ca, .agg #[.int .u32 y, .int .u32 z]] w fun e w' => e = .returned (.bool true) ∧ Below w.heap.size w w' := by
  obtain ⟨S, hS, hok, hok1, hok2⟩ := size_of p
  have hpb := pageOk_bounds hok
  have hroom : roomOf S = S - 10 := by unfold roomOf; rw [if_pos]; rw [pageB_nat]; exact hok
  have Hroom := Lib.hid hroom
  have HS := Lib.hid hS
  have Hok := Lib.hid hok
  clear hroom hS hok hok1 hok2
  go_enter Tryd.func5, Tryd.ntmps5
  go_wp2_with fail
  have hBa : Below w.heap.size w (w.alloc (.cells #[.int .u32 (y : Int), .int .u32 (z : Int)] 38)) := (Below.refl _ _).alloc (Nat.le_refl _) _
  have hsa0 : (w.alloc (.cells #[.int .u32 (y : Int), .int .u32 (z : Int)] 38)).heap.size = w.heap.size + 1 := by simp
  have hy0 : (w.alloc (.cells #[.int .u32 (y : Int), .int .u32 (z : Int)] 38)).cell? ⟨w.heap.size, 0, none⟩ = some (.int .u32 y) := by rw [World.cell?_alloc_at _ _ _ _ rfl]; rfl
  have hz0 : (w.alloc (.cells #[.int .u32 (y : Int), .int .u32 (z : Int)] 38)).cell? ⟨w.heap.size, 1, none⟩ = some (.int .u32 z) := by rw [World.cell?_alloc_at _ _ _ _ rfl]; rfl
  generalize w.alloc (.cells #[.int .u32 (y : Int), .int .u32 (z : Int)] 38) = w0 at hBa hsa0 hy0 hz0 ⊢
  obtain ⟨A, hA⟩ : ∃ A, A = w.heap.size := ⟨_, rfl⟩
  rw [← hA] at hy0 hz0 hsa0 h0 hBa ⊢
  have HA := Lib.hid hA
  clear hA
  have HBa := Lib.hid hBa
  refine (awake_any _ (ht.below hBa h0) (by omega)).mono ?_
  rintro e w1 ⟨rfl, hB1⟩
  have hs1 : A + 1 ≤ w1.heap.size := by rw [← hsa0]; exact hB1.size
  have hB01 : Below A w w1 := hBa.trans (hB1.mono (by omega))
  have hy1 := (hB1.cell (p := ⟨A, 0, none⟩) (by show A < _; omega)).trans hy0
  have hz1 := (hB1.cell (p := ⟨A, 1, none⟩) (by show A < _; omega)).trans hz0
  clear hy0 hz0 hsa0 hB1 hBa
  go_wp2_with fail
  rw [HS.out]
  refine (room_any S _ (by omega) (by omega)).mono ?_
  rintro e w2 ⟨rfl, rfl⟩
  rw [Hroom.out]
  by_cases hgo : (S : Int) - 10 < (na : Int) ∨ z = 0
  · have HB := Lib.hid hB01
    by_cases h1 : (S : Int) - 10 < (na : Int)
    · go_wp2_with fail
      go_ret
      exact ⟨rfl, by rw [← HA.out]; exact HB.out⟩
    · obtain rfl : z = 0 := by omega
      rw [show ((0 : Nat) : Int) = 0 from rfl] at hz1
      have h1' : (na : Int) ≤ (S : Int) - 10 := by omega
      go_wp2_with fail
      go_ret
      exact ⟨rfl, by rw [← HA.out]; exact HB.out⟩
  · have hz00 : ((z : Int) == 0) = false := by rw [beq_eq_false_iff_ne]; omega
    have hlen : (na : Int) ≤ (S : Int) - 10 := by omega
    clear hgo
    go_wp2_with fail
    refine (close_at S 3 sa na ca la w1 hla (by rw [pageB_nat]; exact Hok.out) (by omega) (by omega) (by omega) hoa (hsa.keep (w' := w1) (by rw [← HA.out]; exact hB01)) (ht.below hB01 h0) (by omega)).mono ?_
    rintro e w3 ⟨rfl, hR3, hB3⟩
    rw [Int.toNat_natCast, show ((3 : Int) + 1).toNat = 4 from rfl] at hR3
    rw [Int.toNat_natCast]
    have hB03 : Below A w w3 := hB01.trans (hB3.mono (by omega))
    have hy3 := (hB3.cell (p := ⟨A, 0, none⟩) (by show A < _; omega)).trans hy1
    have hz3 := (hB3.cell (p := ⟨A, 1, none⟩) (by show A < _; omega)).trans hz1
    have hAG : A < w1.heap.size := by omega
    obtain ⟨G, hG⟩ : ∃ G, G = w1.heap.size := ⟨_, rfl⟩
    rw [← hG] at hR3 hAG ⊢
    clear hG hB3 hy1 hz1 hB01 hs1
    go_wp2_with fail
    obtain ⟨F, hF, hF2⟩ : ∃ F : Nat, (y : Int) % (8 * (S : Int) - 31) = (F : Int) ∧ F + 32 ≤ 8 * S := by
      have h1 := Int.emod_nonneg (y : Int) (show (8 * (S : Int) - 31) ≠ 0 by omega)
      have h2 := Int.emod_lt_of_pos (y : Int) (show 0 < (8 * (S : Int) - 31) by omega)
      exact ⟨((y : Int) % (8 * (S : Int) - 31)).toNat, by omega, by omega⟩
    rw [hF]
    obtain ⟨P, hP⟩ : ∃ P, P = closeB S 4 la := ⟨_, rfl⟩
    have hPl : P.length = S := by rw [hP]; exact length_closeB S 4 la (by omega)
    have hPo : Oct P := by rw [hP]; exact oct_closeB S 4 la hoa
    rw [← hP] at hR3
    have HP := Lib.hid hP
    have HPl := Lib.hid hPl
    clear hP hPl hF
    go_loopw [11] (fun i wr => ∃ (k : Nat) (L : List Nat), k ≤ 32 ∧ i = .int .i64 k ∧ Row wr G L ∧ Hid (L.length = S ∧ Oct L ∧ num L = num P ^^^ 2 ^ F * (z % 2 ^ k)) ∧ wr.cell? ⟨A, 1, none⟩ = some (.int .u32 z) ∧ Below A w wr) (fun i _ => 32 - (intOf i).toNat)
    case atStart => exact ⟨0, P, by omega, rfl, hR3, ⟨HPl.out, hPo, by simp [Nat.mod_one]⟩, hz3, hB03⟩
    case round =>
      obtain ⟨k, L, hk, rfl, hRk, HL, hzk, hBk⟩ := hrel
      by_cases hlt : k < 32
      · obtain ⟨hL1, hL2, hL3⟩ := HL.out
        have hbit := bit_round (z / 2 ^ k) (Nat.lt_of_le_of_lt (Nat.div_le_self _ _) hz)
        have hcast : ((z / 2 ^ k : Nat) : Int) = (z : Int) / 2 ^ k := by simp
        rw [hcast] at hbit
        clear hcast hz3 hB03 hR3
        rcases Nat.mod_two_eq_zero_or_one (z / 2 ^ k) with h0b | h1b
        · rw [h0b] at hbit
          have hnew : Hid (L.length = S ∧ Oct L ∧ num L = num P ^^^ 2 ^ F * (z % 2 ^ (k + 1))) := ⟨hL1, hL2, by rw [mod_bit0 z k h0b]; exact hL3⟩
          clear hL1 hL2 hL3 h0b HL
          go_wp2_with fail
          go_roundw
          case rel => exact ⟨k + 1, L, by omega, by go_num, hRk, hnew, hzk, hBk⟩
          case measure => simp [intOf]; omega
        · rw [h1b] at hbit
          have hj : (F + k) / 8 < L.length := by omega
          have hnew : Hid ((L.set ((F + k) / 8) (L.getD ((F + k) / 8) 0 ^^^ 2 ^ ((F + k) % 8))).length = S ∧ Oct (L.set ((F + k) / 8) (L.getD ((F + k) / 8) 0 ^^^ 2 ^ ((F + k) % 8))) ∧ num (L.set ((F + k) / 8) (L.getD ((F + k) / 8) 0 ^^^ 2 ^ ((F + k) % 8))) = num P ^^^ 2 ^ F * (z % 2 ^ (k + 1))) :=
            ⟨by rw [List.length_set]; exact hL1, oct_turn L (F + k) hL2 hj, by rw [num_turn L (F + k) hL2 hj, hL3, mod_bit1 z k h1b, mul_xor, ← Nat.pow_add, Nat.xor_assoc]⟩
          have hcell := hRk.cell hj
          have hfr := hRk.frozen ((F + k) / 8)
          have hset := hRk.set ((F + k) / 8) (L.getD ((F + k) / 8) 0 ^^^ 2 ^ ((F + k) % 8))
          have hbs := hBk.setCell (p := ⟨G, (F + k) / 8, none⟩) (Nat.le_of_lt hAG) (.int .u8 ((L.getD ((F + k) / 8) 0 ^^^ 2 ^ ((F + k) % 8) : Nat) : Int))
          have hcv : L.getD ((F + k) / 8) 0 < 256 := hL2 _ (by rw [List.getD_eq_getElem?_getD, List.getElem?_eq_getElem hj]; simp)
          have hcz : (wr.setCell ⟨G, (F + k) / 8, none⟩ (.int .u8 ((L.getD ((F + k) / 8) 0 ^^^ 2 ^ ((F + k) % 8) : Nat) : Int))).cell? ⟨A, 1, none⟩ = some (.int .u32 z) :=
            (World.cell?_setCell_other _ _ _ _ (by intro h; have := congrArg Addr.block h; simp at this; omega)).trans hzk
          have hx : bits .xor .u8 ((L.getD ((F + k) / 8) 0 : Nat) : Int) ((2 : Int) ^ ((F + k) % 8) % 256) = ((L.getD ((F + k) / 8) 0 ^^^ 2 ^ ((F + k) % 8) : Nat) : Int) := by
            have hm : 2 ^ ((F + k) % 8) ≤ 2 ^ 7 := Nat.pow_le_pow_right (by decide) (by omega)
            have e1 : (((2 : Nat) ^ ((F + k) % 8) : Nat) : Int) = (2 : Int) ^ ((F + k) % 8) := by simp
            have e : (2 : Int) ^ ((F + k) % 8) % 256 = ((2 ^ ((F + k) % 8) : Nat) : Int) := by
              rw [← e1]
              generalize (2 : Nat) ^ ((F + k) % 8) = m at hm
              omega
            rw [e]
            generalize (2 : Nat) ^ ((F + k) % 8) = m at hm
            exact u8_xor_nat _ _ hcv (by omega)
          have Hset := Lib.hid hset
          have Hbs := Lib.hid hbs
          have Hcz := Lib.hid hcz
          clear hset hbs hcz hL1 hL2 hL3 HL h1b hRk hBk
          generalize L.set ((F + k) / 8) (L.getD ((F + k) / 8) 0 ^^^ 2 ^ ((F + k) % 8)) = L' at *
          generalize L.getD ((F + k) / 8) 0 ^^^ 2 ^ ((F + k) % 8) = c' at *
          generalize L.getD ((F + k) / 8) 0 = c at *
          go_wp2_with fail
          go_roundw
          case rel => exact ⟨k + 1, L', by omega, by go_num, Hset.out, hnew, Hcz.out, Hbs.out⟩
          case measure => simp [intOf]; omega
      · have hk32 : k = 32 := by omega
        subst hk32
        obtain ⟨hL1, hL2, hL3⟩ := HL.out
        rw [Nat.mod_eq_of_lt hz] at hL3
        have hzne : z ≠ 0 := by
          intro h; subst h; simp at hz00
        have hsumP : num (P.drop (P.length - 4)) = crc (P.take (P.length - 4)) := by
          rw [HPl.out, HP.out]
          have hlb := length_body S 4 la (by omega)
          unfold closeB
          rw [← hlb, List.drop_left, List.take_left, num_le]
          exact Nat.mod_eq_of_lt (crc_lt _ (oct_body _ _ _ hoa))
        have hnum : num P ^^^ num L = 2 ^ F * z := by rw [hL3, ← Nat.xor_assoc, Nat.xor_self, Nat.zero_xor]
        have htold := told P L (by rw [HPl.out, hL1]) hPo hL2 (by rw [HPl.out]; omega) z F hz hzne (by rw [HPl.out]; exact hF2) hnum hsumP
        have hopen : openB L = (0, [], 18) := by
          unfold openB; rw [if_pos (by rw [hL1]; exact Hok.out), if_neg htold]
        have Hopen := Lib.hid hopen
        have HL1 := Lib.hid hL1
        have HBk := Lib.hid hBk
        have hrd := hRk.reads 0 S (by omega)
        rw [List.drop_zero, List.take_of_length_le (by omega)] at hrd
        have htk : Tab wr := ht.below hBk h0
        clear hopen htold hnum hsumP hL3 hL1 HL hRk hzk hz3 hB03 hR3 hBk
        go_wp2_with fail
        refine (open_at (some ⟨G, 0, none⟩) S S L wr HL1.out (Nat.le_refl _) (by omega) hL2 (.inr ⟨_, 0, rfl, hrd⟩) htk).mono ?_
        rw [Hopen.out]
        rintro e w5 ⟨a5, c5, rfl, hS5, hA5, hB5⟩
        rw [show ([] : List Nat).length = 0 from rfl]
        clear hS5 hA5
        have hAw : A ≤ wr.heap.size := by
          have := HBk.out.size
          rw [← HA.out] at this
          exact this
        have hfin : Hid (Below A w w5) := HBk.out.trans (hB5.mono hAw)
        clear hB5 htk hrd
        go_wp2_with fail
        go_ret
        exact ⟨rfl, by rw [← HA.out]; exact hfin.out⟩
end Go.Proofs.YteepbligpfljkaaDoor
