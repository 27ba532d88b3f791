/- THE WALK OF DiskTurns. -/
import Derived.Test.YtfgamdpjcfbcbaaDoorDiskLeastWalk
namespace Go.Proofs.YtfgamdpjcfbcbaaDoor
open Go.RowKit
open Seal
theorem put_same {l : Disk.Pages} {k : Nat} {bs : List Nat} (h : l.getD k none = some bs) : Disk.put l k (some bs) = l := by
  have hk : k < l.length := Disk.used_lt (by unfold Disk.used; rw [h]; rfl)
  unfold Disk.put
  rw [if_neg (by omega)]
  apply List.ext_getElem?
  intro i
  rw [List.getElem?_set]
  by_cases e : k = i
  · subst e
    rw [if_pos rfl, if_pos hk, List.getElem?_eq_getElem hk]
    rw [List.getD_eq_getElem?_getD, List.getElem?_eq_getElem hk] at h
    exact congrArg some h.symm
  · rw [if_neg e]
/-- The bytes behind a Turn, in the page or beyond it. -/
def turned (page bit mask : Nat) (bs : List Nat) : List Nat := if bit < 8 * page then Disk.turnB bit mask bs else bs
theorem length_turned (page bit mask : Nat) (bs : List Nat) : (turned page bit mask bs).length = bs.length := by
  unfold turned; split
  · unfold Disk.turnB; exact Disk.length_turnN _ _ _ _
  · rfl
theorem turned_twice (page bit mask : Nat) (bs : List Nat) : turned page bit mask (turned page bit mask bs) = bs := by
  unfold turned; split
  · exact Disk.turnB_twice _ _ _
  · rfl
theorem turn_all (g : Nat) (s : Disk.St) (own : Nat → Nat) (k bit mask : Nat) (bs : List Nat) (w : World) (h : DiskAt w g s own) (hp : s.pages.getD k none = some bs) (hm : mask < 4294967296) :
    Calls Tryd.prog 15 #[.pointer (some ⟨g, 0, none⟩), .int .i64 (k : Int), .int .i64 (bit : Int), .int .u32 (mask : Int)] w fun e w' => e = .returned (.bool (decide (bit < 8 * s.page))) ∧ DiskAt w' g { s with pages := Disk.put s.pages k (some (turned s.page bit mask bs)) } own ∧ Only own w w' := by
  unfold turned
  by_cases hb : bit < 8 * s.page
  · rw [if_pos hb, decide_eq_true hb]
    exact turn_ok g s own k bit mask bs w h hp hb hm
  · rw [if_neg hb, decide_eq_false hb, put_same hp]
    refine (turn_out g s own (k : Int) (bit : Int) mask w h (.inr (by omega))).mono ?_
    rintro e w' ⟨rfl, rfl⟩
    exact ⟨rfl, h, Only.refl _ _⟩
theorem map_splice (l m : List Nat) (off : Nat) : splice (u8s l) off (u8s m) = u8s (splice l off m) := by
  unfold splice u8s; simp [List.map_take, List.map_drop]
def tt0 : Disk.St := new 64 3
def tt1 : Disk.St := { tick tt0 with pages := [some (noughts 64)] }
def tt2 : Disk.St := { tick tt1 with pages := [some (noughts 64), some (noughts 64)] }
def tt3 (P : List Nat) : Disk.St := { tick tt2 with pages := [some P, some (noughts 64)], writes := 1 }
def tt4 (P : List Nat) : Disk.St := { tick (tt3 P) with pages := [some P, some P], writes := 2 }
def tt5 (P Q : List Nat) : Disk.St := { tt4 P with pages := [some Q, some P] }
theorem le_splice {l : List Nat} (h : Oct l) : Oct (splice (noughts 64) 0 (l.take 64)) := by
  intro c hc
  unfold splice at hc
  simp only [List.take_zero, List.nil_append, List.mem_append] at hc
  rcases hc with hc | hc
  · exact h c (List.mem_of_mem_take hc)
  · exact noughts_oct c (List.mem_of_mem_drop hc)
theorem set_getD (l : List Nat) (i : Nat) : l.set i (l.getD i 0) = l := by
  apply List.ext_getElem?
  intro j
  rw [List.getElem?_set]
  by_cases e : i = j
  · subst e
    by_cases h : i < l.length
    · rw [if_pos rfl, if_pos h, List.getD_eq_getElem?_getD, List.getElem?_eq_getElem h]; rfl
    · rw [if_pos rfl, if_neg h, List.getElem?_eq_none (by omega)]
  · rw [if_neg e]
set_option maxRecDepth 100000 in
set_option maxHeartbeats 4000000 in
theorem turns_in (a : Option Addr) (len cap : Nat) (l : List Nat) (bit mask : Nat) (w : World) (hl : l.length = len) (ho : Oct l) (hs : SliceIs w a l) (hb16 : bit < 65536) (hm32 : mask < 4294967296) (hT : Bruijn w) (h0 : 0 < w.heap.size) (A : Nat) (hA : A = bit % 600) (hat : A < 512) :
    Calls Tryd.prog 5 #[.slice a len cap, .int .u16 (bit : Int), .int .u32 (mask : Int)] w fun e w' => e = .returned (.bool true) ∧ Below w.heap.size w w' := by
  have CA := Lib.hid (awake_any w hT h0)
  have HT := Lib.hid hT
  have HL := Lib.hid hl
  have HS := Lib.hid hs
  have HO := Lib.hid ho
  have hA2 : (bit : Int) % 600 = (A : Int) := by omega
  have hA6 : A < 600 := by omega
  have dA : decide ((A : Int) < 512) = true := by simp; omega
  have HAT := Lib.hid hat
  clear hT hl hs ho hA hat
  have hmk := run_makeBytes 64 (by decide)
  rw [show ((64 : Nat) : Int) = 64 from rfl] at hmk
  go_enter Tryd.func5, Tryd.ntmps5
  go_wp2_with fail
  refine CA.out.mono ?_
  rintro e w1 ⟨rfl, hB1⟩
  have C1 := new_ok 64 3 w1 (by decide) (by decide)
  rw [show ((64 : Nat) : Int) = 64 from rfl, show ((3 : Nat) : Int) = 3 from rfl] at C1
  have HC1 := Lib.hid C1
  have HB1 := Lib.hid hB1
  clear hB1 C1
  go_wp2_with fail
  refine HC1.out.mono ?_
  rintro e w2 ⟨rfl, hD2, hB2, hz2⟩
  obtain ⟨g, hg⟩ : ∃ g, g = w1.heap.size + 1 := ⟨_, rfl⟩
  rw [← hg] at hD2 ⊢
  generalize newOwn w1.heap.size = own0 at hD2 hz2
  have hB02 : Below w.heap.size w w2 := HB1.out.trans (hB2.mono HB1.out.size)
  have hz02 : ∀ i, i < w.heap.size → own0 i = 0 := fun i hi => hz2 i (Nat.lt_of_lt_of_le hi HB1.out.size)
  have C3 := alloc_ok g tt0 own0 w2 hD2 (by decide) (HT.out.below hB02 h0) (hz02 _ h0) 0 rfl (by decide)
  rw [show Disk.leastFree tt0.pages = 0 from rfl, show ((0 : Nat) : Int) = 0 from rfl] at C3
  have HC3 := Lib.hid C3
  have HB2 := Lib.hid hB02
  have HZ2 := Lib.hid hz02
  clear C3 hD2 hB2 hz2 hB02 hz02 hg
  go_wp2_with fail
  refine HC3.out.mono ?_
  rintro e w3 ⟨rfl, own1, hD3', hO3, hs3⟩
  have hD3 : DiskAt w3 g tt1 own1 := hD3'
  have hB3 : Below w.heap.size w w3 := HB2.out.trans (hO3.below HB2.out.size HZ2.out)
  have hz3 : ∀ i, i < w.heap.size → own1 i = 0 := fun i hi => by rw [hs3 i (Nat.lt_of_lt_of_le hi HB2.out.size)]; exact HZ2.out i hi
  have C4 := alloc_ok g tt1 own1 w3 hD3 (by decide) (HT.out.below hB3 h0) (hz3 _ h0) 0 rfl (by decide)
  rw [show Disk.leastFree tt1.pages = 1 from rfl, show ((1 : Nat) : Int) = 1 from rfl] at C4
  have HC4 := Lib.hid C4
  have HB3 := Lib.hid hB3
  have HZ3 := Lib.hid hz3
  clear C4 hD3' hD3 hO3 hs3 hB3 hz3
  go_wp2_with fail
  refine HC4.out.mono ?_
  rintro e w4 ⟨rfl, own, hD4', hO4, hs4⟩
  have hD4 : DiskAt w4 g tt2 own := hD4'
  have hB4 : Below w.heap.size w w4 := HB3.out.trans (hO4.below HB3.out.size HZ3.out)
  have hz4 : ∀ i, i < w.heap.size → own i = 0 := fun i hi => by rw [hs4 i (Nat.lt_of_lt_of_le hi HB3.out.size)]; exact HZ3.out i hi
  have HD4 := Lib.hid hD4
  have HB4 := Lib.hid hB4
  have HZ4 := Lib.hid hz4
  clear hD4' hD4 hO4 hs4 hB4 hz4
  -- the page, and what is copied into it
  obtain ⟨P, hP⟩ : ∃ P, P = splice (noughts 64) 0 (l.take 64) := ⟨_, rfl⟩
  have hPl : P.length = 64 := by rw [hP, length_splice _ _ _ (by simp [noughts]; omega)]; rfl
  have hPo : Oct P := by rw [hP]; exact le_splice HO.out
  have HP := Lib.hid hP
  have HPL := Lib.hid hPl
  have HPO := Lib.hid hPo
  clear hP hPl hPo
  have hR5 : Hid ((w4.alloc (.cells (madeCells #[.int .u8 0] 64) 5)).heap[w4.heap.size]? = some (.cells (u8s (noughts 64)).toArray 5 (0, 0))) := Row.made 64
  have hs5 : SliceIs (w4.alloc (.cells (madeCells #[.int .u8 0] 64) 5)) a l := HS.out.keep (HB4.out.trans ((below_alloc w4 _).mono HB4.out.size))
  have HS5 := Lib.hid hs5
  clear hs5
  go_wp2_with (with_reducible refine wpList_copy_splice rfl (.tmp 45) (.tmp 46) 22 22 rfl 5 Tryd.underlying22 infoSize _ _ _ _ _ _ rfl rfl w4.heap.size 0 (u8s (noughts 64)) 5 hR5.out (u8s (l.take 64)) ?c2 ?c3 ?c4 (one_octs _) w4.heap.size w4 (below_alloc w4 _) (Nat.le_refl _) ?_)
  case c2 => simp only [u8s, List.length_map, List.length_take, HL.out]; exact Nat.min_comm _ _
  case c3 =>
    intro hpos
    first | refine ⟨rfl, ?_⟩ | skip
    have hpos' : 0 < l.length := by simp only [u8s, List.length_map, List.length_take] at hpos; omega
    obtain ⟨sb, so, rfl, hrd⟩ := HS5.out.resolve_left (fun e => by rw [e] at hpos'; simp at hpos')
    refine ⟨_, rfl, fun j v hj => ?_⟩
    have hjl : j < (l.take 64).length := by
      have := (List.getElem?_eq_some_iff.1 hj).1
      simpa [u8s] using this
    have e : (⟨sb, so, none⟩ : Addr).add j = ⟨sb, so + j, none⟩ := by unfold Addr.add; split <;> simp_all
    rw [List.length_take] at hjl
    rw [e, hrd j (by omega), ← hj]
    simp [u8s, u8, List.getD_eq_getElem?_getD, List.getElem?_take, show j < 64 by omega, List.getElem?_eq_getElem (show j < l.length by omega)]
  case c4 => simp only [u8s, List.length_map, List.length_take, noughts, List.length_replicate]; omega
  intro w5 hR5' hB5
  have hRow5 : Row w5 w4.heap.size P := by
    have := hR5'.out
    rw [map_splice, ← HP.out] at this
    exact this
  obtain ⟨bp, hbp⟩ : ∃ bp, bp = w4.heap.size := ⟨_, rfl⟩
  have hbp0 : own bp = 0 := by rw [hbp]; exact HD4.out.fresh _ (Nat.le_refl _)
  have hbpl : w.heap.size ≤ bp := by rw [hbp]; exact HB4.out.size
  rw [← hbp] at hRow5 ⊢
  have HBP := Lib.hid hbp
  have HBP0 := Lib.hid hbp0
  have hD5 := HD4.out.below hB5
  have HB5 := Lib.hid (HB4.out.trans (hB5.mono HB4.out.size))
  have HROW5 := Lib.hid hRow5
  have src : ∀ W : World, Row W bp P → SrcOk W own (some ⟨bp, 0, none⟩) P := fun W hW => ⟨.inr ⟨bp, 0, rfl, by
    have := hW.reads 0 64 (by rw [HPL.out]; exact Nat.le_refl _)
    rwa [List.drop_zero, List.take_of_length_le (by rw [HPL.out]; exact Nat.le_refl _)] at this⟩, HPO.out, fun p hp => by cases hp; exact HBP0.out⟩
  have SRC := Lib.hid src
  have C6 := write_ok g tt2 own 0 (some ⟨bp, 0, none⟩) 64 P w5 hD5 (by decide) 0 rfl rfl HPL.out (SRC.out _ hRow5)
  rw [show ((0 : Nat) : Int) = 0 from rfl, show tt2.page = 64 from rfl] at C6
  have HC6 := Lib.hid C6
  clear C6 hD5 hRow5 hR5' hB5 hR5 hbp hbp0 src
  go_wp2_with fail
  refine HC6.out.mono ?_
  rintro e w6 ⟨rfl, hD6', hO6⟩
  have hD6 : DiskAt w6 g (tt3 P) own := hD6'
  have hRow6 : Row w6 bp P := HROW5.out.same (hO6.block bp HROW5.out.lt HBP0.out)
  have HB6 := Lib.hid (HB5.out.trans (hO6.below HB5.out.size HZ4.out))
  have HROW6 := Lib.hid hRow6
  have C7 := write_ok g (tt3 P) own 1 (some ⟨bp, 0, none⟩) 64 P w6 hD6 (by show tt2.ops + 1 < _; decide) 0 rfl rfl HPL.out (SRC.out _ hRow6)
  rw [show ((1 : Nat) : Int) = 1 from rfl, show (tt3 P).page = 64 from rfl] at C7
  have HC7 := Lib.hid C7
  clear C7 hD6 hD6' hO6 hRow6
  go_wp2_with fail
  refine HC7.out.mono ?_
  rintro e w7 ⟨rfl, hD7', hO7⟩
  have hD7 : DiskAt w7 g (tt4 P) own := hD7'
  have HROW7 := Lib.hid (show Row w7 bp P from HROW6.out.same (hO7.block bp HROW6.out.lt HBP0.out))
  have HB7 := Lib.hid (HB6.out.trans (hO7.below HB6.out.size HZ4.out))
  have C8 := turn_all g (tt4 P) own 0 A mask P w7 hD7 rfl hm32
  rw [show ((0 : Nat) : Int) = 0 from rfl, show (tt4 P).page = 64 from rfl, show decide (A < 8 * 64) = true from by have := HAT.out; simp; omega] at C8
  have HC8 := Lib.hid C8
  clear C8 hD7 hD7' hO7
  go_wp2_with fail
  refine HC8.out.mono ?_
  rintro e w8 ⟨rfl, hD8', hO8⟩
  obtain ⟨Q, hQ⟩ : ∃ Q, Q = turned 64 A mask P := ⟨_, rfl⟩
  have hD8 : DiskAt w8 g (tt5 P Q) own := by rw [hQ]; exact hD8'
  have hQl : Q.length = 64 := by rw [hQ, length_turned]; exact HPL.out
  have HROW8 := Lib.hid (show Row w8 bp P from HROW7.out.same (hO8.block bp HROW7.out.lt HBP0.out))
  have HB8 := Lib.hid (HB7.out.trans (hO8.below HB7.out.size HZ4.out))
  have C9 := look_yes g (tt5 P Q) own 0 Q w8 hD8 rfl
  rw [show ((0 : Nat) : Int) = 0 from rfl, show (tt5 P Q).page = 64 from rfl] at C9
  have HC9 := Lib.hid C9
  have HD8 := Lib.hid hD8
  have HQ := Lib.hid hQ
  have HQL := Lib.hid hQl
  clear C9 hD8 hD8' hO8 hQ hQl
  go_wp2_with fail
  refine HC9.out.mono ?_
  rintro e w9 ⟨v9, rfl, hv9, hB9⟩
  obtain ⟨_, a9, c9, rfl, hS9, hA9, _, _⟩ := slice_of_row hv9
  have hROW9 : Row w9 bp P := HROW8.out.same (hB9.block bp HROW8.out.lt)
  have hD9 := HD8.out.below hB9
  have hB09 := HB8.out.trans (hB9.mono HB8.out.size)
  have hown : (w9.alloc (.cells #[] 5)).ownsRow w9.heap.size 5 1 (.slice (some ⟨w9.heap.size, 0, none⟩) 0 0) 0 [] := World.ownsRow_lit w9 #[] 0 (Nat.le_refl _) (by decide) rfl
  have hnews : ∀ j u, (u8s P)[j]? = some u → (w9.alloc (.cells #[] 5)).cell? (Addr.add ⟨bp, 0, none⟩ j) = some u := by
    intro j u hj
    have hjl : j < P.length := by
      have := (List.getElem?_eq_some_iff.1 hj).1
      simpa [u8s] using this
    have e : (⟨bp, 0, none⟩ : Addr).add j = ⟨bp, 0 + j, none⟩ := by unfold Addr.add; split <;> simp_all
    rw [e, World.cell?_of_block (Below.heap_alloc w9 _ bp hROW9.lt), Nat.zero_add, hROW9.cell hjl, ← hj]
    simp [u8s, u8, List.getD_eq_getElem?_getD, List.getElem?_eq_getElem hjl]
  obtain ⟨i0, hi, hz0, hz1, hz2⟩ := info_parts infoByte
  have HOWN := Lib.hid hown
  have HN := Lib.hid hnews
  have HS9 := Lib.hid hS9
  have HA9 := Lib.hid hA9
  have HROW9 := Lib.hid hROW9
  have HD9 := Lib.hid hD9
  have HB9 := Lib.hid hB09
  clear hown hnews hS9 hA9 hROW9 hD9 hB09 hv9 hB9
  go_wp2_with (at_builtin; refine wpList_append_own _ rfl (.tmp 82) (.tmp 83) 22 rfl w9.heap.size 5 i0 (.int .u8 0) 1 1 Tryd.underlying22 hi hz0 hz1 hz2 rfl (by decide) _ 0 _ rfl HOWN.out ⟨bp, 0, none⟩ 64 64 (u8s P) rfl ?c1 HN.out (one_octs P) ?c2 ?c3 ?c4 ?_)
  case c1 => simp [u8s, HPL.out]
  case c2 => decide
  case c3 => decide
  case c4 => simp
  intro v10 w10 hown10 hg10 _
  have hB10 : Below w9.heap.size w9 w10 := ((Below.refl _ _).alloc (Nat.le_refl _) _).grown hg10 (by simp) (fun k hk => by simp [Value.ownBlock] at hk; omega)
  obtain ⟨bw, cw, cur, rfl, hbw, hcurw, _, hcw, hcm, _⟩ := newBytes_of_row (l := P) (by rw [HPL.out]; decide) (by rw [HPL.out]; simpa using hown10)
  rw [HPL.out] at hown10 hcw ⊢
  have hW10 : w10.ownsRow w9.heap.size 5 1 (.slice (some ⟨bw, 0, none⟩) 64 cw) 64 (u8s P) := by simpa using hown10
  have HB10 := Lib.hid hB10
  have HW10 := Lib.hid hW10
  have HBW := Lib.hid hbw
  clear hown10 hg10 hB10 hW10 hcurw hi hz0 hz1 hz2 hbw
  go_wp2_with fail
  go_loopw [19] (fun i wr => ∃ j : Nat, j ≤ 32 ∧ i = .int .i64 (j : Int) ∧ Hid (wr.ownsRow w9.heap.size 5 1 (.slice (some ⟨bw, 0, none⟩) 64 cw) 64 (u8s (Disk.turnN A mask P j))) ∧ Hid (w10.grownBy wr (some bw))) (fun i _ => 32 - (intOf i).toNat)
  case atStart => exact ⟨0, by omega, rfl, HW10.out, World.grownBy.refl _ _⟩
  case round =>
    obtain ⟨j, hj, rfl, hW, hG⟩ := hrel
    by_cases h32 : j < 32
    · have t1 : decide ((j : Int) < 32) = true := by simp; omega
      have ltN : (Disk.turnN A mask P j).length = 64 := by rw [Disk.length_turnN]; exact HPL.out
      obtain ⟨mb, hmb⟩ : ∃ mb, mb = mask / 2 ^ j % 2 := ⟨_, rfl⟩
      have ea : bits .and .u32 ((mask : Int) / 2 ^ j) 1 = (mb : Int) := by
        have e1 : (mask : Int) / 2 ^ j = ((mask / 2 ^ j : Nat) : Int) := by simp
        have h2 := u32_and_nat (mask / 2 ^ j) 1 (Nat.lt_of_le_of_lt (Nat.div_le_self _ _) hm32) (by decide)
        rw [show ((1 : Nat) : Int) = 1 from rfl] at h2
        rw [e1, h2, hmb, Nat.and_one_is_mod]
      have hmb2 : mb = 0 ∨ mb = 1 := by omega
      have HMB := Lib.hid hmb
      have HLT := Lib.hid ltN
      clear hmb ltN
      rcases hmb2 with rfl | rfl
      · have HW2 : Hid (wr.ownsRow w9.heap.size 5 1 (.slice (some ⟨bw, 0, none⟩) 64 cw) 64 (u8s (Disk.turnN A mask P (j + 1)))) := by
          show World.ownsRow _ _ _ _ _ _ _
          rw [Disk.turnN_succ]
          unfold Disk.turnStep
          rw [← HMB.out, Nat.zero_mul, Nat.xor_zero]
          split
          · rename_i hin
            rw [show (Disk.turnN A mask P j).set ((A + j) / 8) ((Disk.turnN A mask P j).getD ((A + j) / 8) 0) = Disk.turnN A mask P j from set_getD _ _]
            exact hW.out
          · exact hW.out
        go_wp2_with fail
        go_roundw
        case rel => exact ⟨j + 1, by omega, by go_num, HW2.out, hG.out⟩
        case measure => simp [intOf]; omega
      · by_cases hin : A + j < 512
        · have t3 : decide ((A : Int) + (j : Int) < 512) = true := by simp; omega
          obtain ⟨q, hq⟩ : ∃ q, q = (A + j) / 8 := ⟨_, rfl⟩
          obtain ⟨sh, hsh⟩ : ∃ sh, sh = (A + j) % 8 := ⟨_, rfl⟩
          have e1 : ((A : Int) + (j : Int)) / 8 = (q : Int) := by omega
          have e2 : ((A : Int) + (j : Int)) % 8 = (sh : Int) := by omega
          have e3 : ((A : Int) + (j : Int)).tmod 8 = (sh : Int) := by rw [Int.tmod_eq_emod_of_nonneg (by omega)]; omega
          have hq64 : q < 64 := by omega
          have hsh8 : sh < 8 := by omega
          have hcq : wr.cell? ⟨bw, q, none⟩ = some (.int .u8 (((Disk.turnN A mask P j).getD q 0 : Nat) : Int)) := by
            rw [hW.out.cellAt q (by omega)]
            simp [u8s, u8, List.getD_eq_getElem?_getD, List.getElem?_eq_getElem (show q < (Disk.turnN A mask P j).length by rw [HLT.out]; exact hq64)]
          have hfq := hW.out.frozenAt q
          have hxb : (Disk.turnN A mask P j).getD q 0 < 256 := Disk.oct_turnN A mask P j HPO.out _ (by rw [List.getD_eq_getElem?_getD, List.getElem?_eq_getElem (show q < (Disk.turnN A mask P j).length by rw [HLT.out]; exact hq64)]; exact List.getElem_mem _)
          have hyb : 2 ^ sh < 256 := by
            have h1 : 2 ^ sh ≤ 2 ^ 7 := Nat.pow_le_pow_right (by decide) (by omega)
            omega
          have ex := u8_xor_nat _ _ hxb hyb
          have es : IntKind.u8.wrap ((2 : Int) ^ sh) = ((2 ^ sh : Nat) : Int) := by
            have e4 : (2 : Int) ^ sh = ((2 ^ sh : Nat) : Int) := by simp
            rw [e4, wrap_u8_small _ hyb]
          have hst := hW.out.stored q (.int .u8 (((Disk.turnN A mask P j).getD q 0 ^^^ 2 ^ sh : Nat) : Int))
          have hstep : (Disk.turnN A mask P j).set q ((Disk.turnN A mask P j).getD q 0 ^^^ 2 ^ sh) = Disk.turnN A mask P (j + 1) := by
            rw [Disk.turnN_succ]
            unfold Disk.turnStep
            rw [HLT.out, if_pos (by omega), ← HMB.out, Nat.one_mul, ← hq, ← hsh]
          have hset : (u8s (Disk.turnN A mask P j)).set q (.int .u8 (((Disk.turnN A mask P j).getD q 0 ^^^ 2 ^ sh : Nat) : Int)) = u8s (Disk.turnN A mask P (j + 1)) := by
            rw [← hstep]
            simp [u8s, u8, List.map_set]
          rw [hset] at hst
          have HST := Lib.hid hst
          have hG2 : Hid (w10.grownBy (wr.setCell ⟨bw, q, none⟩ (.int .u8 (((Disk.turnN A mask P j).getD q 0 ^^^ 2 ^ sh : Nat) : Int))) (some bw)) := grown_cell hG.out _ _
          clear hst hset hstep hxb hyb hq hsh
          generalize (Disk.turnN A mask P j).getD q 0 = x at *
          generalize 2 ^ sh = y at ex es HST hG2
          generalize x ^^^ y = z at *
          go_wp2_with fail
          go_roundw
          case rel => exact ⟨j + 1, by omega, by go_num, HST.out.1, hG2.out⟩
          case measure => simp [intOf]; omega
        · have t3 : decide ((A : Int) + (j : Int) < 512) = false := by simp; omega
          have HW2 : Hid (wr.ownsRow w9.heap.size 5 1 (.slice (some ⟨bw, 0, none⟩) 64 cw) 64 (u8s (Disk.turnN A mask P (j + 1)))) := by
            show World.ownsRow _ _ _ _ _ _ _
            rw [Disk.turnN_succ]
            unfold Disk.turnStep
            rw [if_neg (by rw [HLT.out]; omega)]
            exact hW.out
          go_wp2_with fail
          go_roundw
          case rel => exact ⟨j + 1, by omega, by go_num, HW2.out, hG.out⟩
          case measure => simp [intOf]; omega
    · have t1 : decide ((j : Int) < 32) = false := by simp; omega
      have hfin : Disk.turnN A mask P j = Q := by
        rw [HQ.out]
        unfold turned Disk.turnB
        rw [if_pos (by have := HAT.out; omega)]
        congr 1
        omega
      rw [hfin] at hW
      have HFIN := Lib.hid hfin
      clear hfin
      have hbw0 : own bw = 0 := HD9.out.fresh bw HBW.out
      have hDr := ((HD9.out.below HB10.out).grown hG.out hbw0)
      have hBr : Below w.heap.size w wr := (HB9.out.trans (HB10.out.mono HB9.out.size)).grown hG.out (Nat.le_trans HB9.out.size HB10.out.size) (fun k hk => by cases hk; exact Nat.le_trans HB9.out.size HBW.out)
      have hRr : Row wr bp P := (HROW9.out.below HB10.out HROW9.out.lt).same (hG.out.block bp (Nat.lt_of_lt_of_le HROW9.out.lt HB10.out.size) (by have := HROW9.out.lt; have := HBW.out; simp; omega))
      have hSr : SliceIs wr a9 Q := by
        rcases HS9.out.keep HB10.out with h | ⟨b, off, rfl, h⟩
        · exact .inl h
        · refine .inr ⟨b, off, rfl, fun i hi => ?_⟩
          have hlt := (HA9.out _ rfl).2
          exact hG.out.cell (h i hi) (by have := HBW.out; simp only [ne_eq, Option.some.injEq]; have : b < w9.heap.size := hlt; omega)
      have hWs := slice_of_row hW.out
      obtain ⟨_, aw, cw', hveq, hSw, _, _, _⟩ := hWs
      simp only [Value.slice.injEq, true_and] at hveq
      obtain ⟨rfl, rfl⟩ := hveq
      have C11 := look_yes g (tt5 P Q) own 1 P wr hDr rfl
      rw [show ((1 : Nat) : Int) = 1 from rfl, show (tt5 P Q).page = 64 from rfl] at C11
      have HC11 := Lib.hid C11
      have HDR := Lib.hid hDr
      have HBR := Lib.hid hBr
      have HRR := Lib.hid hRr
      have HSR := Lib.hid hSr
      have HSW := Lib.hid hSw
      clear C11 hDr hBr hRr hSr hSw hW hG hbw0
      go_wp2_with fail
      refine HC11.out.mono ?_
      rintro e w11 ⟨v11, rfl, hv11, hB11⟩
      obtain ⟨_, a11, c11, rfl, hS11, _, _, _⟩ := slice_of_row hv11
      have rd : ∀ W : World, Row W bp P → SliceIs W (some ⟨bp, 0, none⟩) P := fun W hW => (SRC.out W hW).1
      have hR11 : Row w11 bp P := HRR.out.same (hB11.block bp HRR.out.lt)
      have u1 := run_conv (c := c9) HQL.out (HSR.out.keep hB11)
      have u2 := run_conv (c := cw) HQL.out (HSW.out.keep hB11)
      have u3 := run_conv (c := c11) HPL.out hS11
      have u4 := run_conv (c := 64) HPL.out (rd w11 hR11)
      have hD11 := HDR.out.below hB11
      have hB011 := HBR.out.trans (hB11.mono HBR.out.size)
      have C12 := turn_all g (tt5 P Q) own 0 A mask Q w11 hD11 rfl hm32
      rw [show ((0 : Nat) : Int) = 0 from rfl, show (tt5 P Q).page = 64 from rfl] at C12
      have HC12 := Lib.hid C12
      have HR11 := Lib.hid hR11
      have HB11 := Lib.hid hB011
      have HRD := Lib.hid rd
      clear hv11 hB11 hS11 rd hR11 hD11 hB011 C12
      generalize strB Q = txQ at u1 u2
      generalize strB P = txP at u3 u4
      go_wp2_with fail
      refine HC12.out.mono ?_
      rintro e w12 ⟨rfl, hD12', hO12⟩
      have hD12 : DiskAt w12 g (tt5 P P) own := by
        have h : DiskAt w12 g (tt5 P (turned 64 A mask Q)) own := hD12'
        rw [HQ.out, turned_twice] at h
        exact h
      have HR12 := Lib.hid (show Row w12 bp P from HR11.out.same (hO12.block bp HR11.out.lt HBP0.out))
      have HB12 := Lib.hid (HB11.out.trans (hO12.below HB11.out.size HZ4.out))
      have C13 := look_yes g (tt5 P P) own 0 P w12 hD12 rfl
      rw [show ((0 : Nat) : Int) = 0 from rfl, show (tt5 P P).page = 64 from rfl] at C13
      have HC13 := Lib.hid C13
      have HD12 := Lib.hid hD12
      clear C13 hD12 hD12' hO12 u1 u2 u3 u4
      go_wp2_with fail
      refine HC13.out.mono ?_
      rintro e w13 ⟨v13, rfl, hv13, hB13⟩
      obtain ⟨_, a13, c13, rfl, hS13, _, _, _⟩ := slice_of_row hv13
      have hR13 : Row w13 bp P := HR12.out.same (hB13.block bp HR12.out.lt)
      have u1 := run_conv (c := c13) HPL.out hS13
      have u2 := run_conv (c := 64) HPL.out (HRD.out w13 hR13)
      have hD13 := HD12.out.below hB13
      have C14 := turn_none g (tt5 P P) own 2 0 1 w13 hD13 rfl
      have C15 := turn_out g (tt5 P P) own 0 (-1) 1 w13 hD13 (.inl (by decide))
      rw [show ((1 : Nat) : Int) = 1 from rfl] at C14 C15
      have HC14 := Lib.hid C14
      have HC15 := Lib.hid C15
      have HB13 := Lib.hid (HB12.out.trans (hB13.mono HB12.out.size))
      clear hv13 hB13 hS13 hR13 hD13 C14 C15
      generalize strB P = txP at u1 u2
      go_wp2_with fail
      refine HC14.out.mono ?_
      rintro e w14 ⟨rfl, rfl⟩
      go_wp2_with fail
      refine HC15.out.mono ?_
      rintro e w15 ⟨rfl, rfl⟩
      go_wp2_with fail
      go_ret
      exact ⟨rfl, HB13.out⟩
set_option maxRecDepth 100000 in
set_option maxHeartbeats 4000000 in
theorem turns_out (a : Option Addr) (len cap : Nat) (l : List Nat) (bit mask : Nat) (w : World) (hl : l.length = len) (ho : Oct l) (hs : SliceIs w a l) (hb16 : bit < 65536) (hm32 : mask < 4294967296) (hT : Bruijn w) (h0 : 0 < w.heap.size) (A : Nat) (hA : A = bit % 600) (hat : ¬ A < 512) :
    Calls Tryd.prog 5 #[.slice a len cap, .int .u16 (bit : Int), .int .u32 (mask : Int)] w fun e w' => e = .returned (.bool true) ∧ Below w.heap.size w w' := by
  have CA := Lib.hid (awake_any w hT h0)
  have HT := Lib.hid hT
  have HL := Lib.hid hl
  have HS := Lib.hid hs
  have HO := Lib.hid ho
  have hA2 : (bit : Int) % 600 = (A : Int) := by omega
  have hA6 : A < 600 := by omega
  have dA : decide ((A : Int) < 512) = false := by simp; omega
  have HAT := Lib.hid hat
  clear hT hl hs ho hA hat
  have hmk := run_makeBytes 64 (by decide)
  rw [show ((64 : Nat) : Int) = 64 from rfl] at hmk
  go_enter Tryd.func5, Tryd.ntmps5
  go_wp2_with fail
  refine CA.out.mono ?_
  rintro e w1 ⟨rfl, hB1⟩
  have C1 := new_ok 64 3 w1 (by decide) (by decide)
  rw [show ((64 : Nat) : Int) = 64 from rfl, show ((3 : Nat) : Int) = 3 from rfl] at C1
  have HC1 := Lib.hid C1
  have HB1 := Lib.hid hB1
  clear hB1 C1
  go_wp2_with fail
  refine HC1.out.mono ?_
  rintro e w2 ⟨rfl, hD2, hB2, hz2⟩
  obtain ⟨g, hg⟩ : ∃ g, g = w1.heap.size + 1 := ⟨_, rfl⟩
  rw [← hg] at hD2 ⊢
  generalize newOwn w1.heap.size = own0 at hD2 hz2
  have hB02 : Below w.heap.size w w2 := HB1.out.trans (hB2.mono HB1.out.size)
  have hz02 : ∀ i, i < w.heap.size → own0 i = 0 := fun i hi => hz2 i (Nat.lt_of_lt_of_le hi HB1.out.size)
  have C3 := alloc_ok g tt0 own0 w2 hD2 (by decide) (HT.out.below hB02 h0) (hz02 _ h0) 0 rfl (by decide)
  rw [show Disk.leastFree tt0.pages = 0 from rfl, show ((0 : Nat) : Int) = 0 from rfl] at C3
  have HC3 := Lib.hid C3
  have HB2 := Lib.hid hB02
  have HZ2 := Lib.hid hz02
  clear C3 hD2 hB2 hz2 hB02 hz02 hg
  go_wp2_with fail
  refine HC3.out.mono ?_
  rintro e w3 ⟨rfl, own1, hD3', hO3, hs3⟩
  have hD3 : DiskAt w3 g tt1 own1 := hD3'
  have hB3 : Below w.heap.size w w3 := HB2.out.trans (hO3.below HB2.out.size HZ2.out)
  have hz3 : ∀ i, i < w.heap.size → own1 i = 0 := fun i hi => by rw [hs3 i (Nat.lt_of_lt_of_le hi HB2.out.size)]; exact HZ2.out i hi
  have C4 := alloc_ok g tt1 own1 w3 hD3 (by decide) (HT.out.below hB3 h0) (hz3 _ h0) 0 rfl (by decide)
  rw [show Disk.leastFree tt1.pages = 1 from rfl, show ((1 : Nat) : Int) = 1 from rfl] at C4
  have HC4 := Lib.hid C4
  have HB3 := Lib.hid hB3
  have HZ3 := Lib.hid hz3
  clear C4 hD3' hD3 hO3 hs3 hB3 hz3
  go_wp2_with fail
  refine HC4.out.mono ?_
  rintro e w4 ⟨rfl, own, hD4', hO4, hs4⟩
  have hD4 : DiskAt w4 g tt2 own := hD4'
  have hB4 : Below w.heap.size w w4 := HB3.out.trans (hO4.below HB3.out.size HZ3.out)
  have hz4 : ∀ i, i < w.heap.size → own i = 0 := fun i hi => by rw [hs4 i (Nat.lt_of_lt_of_le hi HB3.out.size)]; exact HZ3.out i hi
  have HD4 := Lib.hid hD4
  have HB4 := Lib.hid hB4
  have HZ4 := Lib.hid hz4
  clear hD4' hD4 hO4 hs4 hB4 hz4
  -- the page, and what is copied into it
  obtain ⟨P, hP⟩ : ∃ P, P = splice (noughts 64) 0 (l.take 64) := ⟨_, rfl⟩
  have hPl : P.length = 64 := by rw [hP, length_splice _ _ _ (by simp [noughts]; omega)]; rfl
  have hPo : Oct P := by rw [hP]; exact le_splice HO.out
  have HP := Lib.hid hP
  have HPL := Lib.hid hPl
  have HPO := Lib.hid hPo
  clear hP hPl hPo
  have hR5 : Hid ((w4.alloc (.cells (madeCells #[.int .u8 0] 64) 5)).heap[w4.heap.size]? = some (.cells (u8s (noughts 64)).toArray 5 (0, 0))) := Row.made 64
  have hs5 : SliceIs (w4.alloc (.cells (madeCells #[.int .u8 0] 64) 5)) a l := HS.out.keep (HB4.out.trans ((below_alloc w4 _).mono HB4.out.size))
  have HS5 := Lib.hid hs5
  clear hs5
  go_wp2_with (with_reducible refine wpList_copy_splice rfl (.tmp 45) (.tmp 46) 22 22 rfl 5 Tryd.underlying22 infoSize _ _ _ _ _ _ rfl rfl w4.heap.size 0 (u8s (noughts 64)) 5 hR5.out (u8s (l.take 64)) ?c2 ?c3 ?c4 (one_octs _) w4.heap.size w4 (below_alloc w4 _) (Nat.le_refl _) ?_)
  case c2 => simp only [u8s, List.length_map, List.length_take, HL.out]; exact Nat.min_comm _ _
  case c3 =>
    intro hpos
    first | refine ⟨rfl, ?_⟩ | skip
    have hpos' : 0 < l.length := by simp only [u8s, List.length_map, List.length_take] at hpos; omega
    obtain ⟨sb, so, rfl, hrd⟩ := HS5.out.resolve_left (fun e => by rw [e] at hpos'; simp at hpos')
    refine ⟨_, rfl, fun j v hj => ?_⟩
    have hjl : j < (l.take 64).length := by
      have := (List.getElem?_eq_some_iff.1 hj).1
      simpa [u8s] using this
    have e : (⟨sb, so, none⟩ : Addr).add j = ⟨sb, so + j, none⟩ := by unfold Addr.add; split <;> simp_all
    rw [List.length_take] at hjl
    rw [e, hrd j (by omega), ← hj]
    simp [u8s, u8, List.getD_eq_getElem?_getD, List.getElem?_take, show j < 64 by omega, List.getElem?_eq_getElem (show j < l.length by omega)]
  case c4 => simp only [u8s, List.length_map, List.length_take, noughts, List.length_replicate]; omega
  intro w5 hR5' hB5
  have hRow5 : Row w5 w4.heap.size P := by
    have := hR5'.out
    rw [map_splice, ← HP.out] at this
    exact this
  obtain ⟨bp, hbp⟩ : ∃ bp, bp = w4.heap.size := ⟨_, rfl⟩
  have hbp0 : own bp = 0 := by rw [hbp]; exact HD4.out.fresh _ (Nat.le_refl _)
  have hbpl : w.heap.size ≤ bp := by rw [hbp]; exact HB4.out.size
  rw [← hbp] at hRow5 ⊢
  have HBP := Lib.hid hbp
  have HBP0 := Lib.hid hbp0
  have hD5 := HD4.out.below hB5
  have HB5 := Lib.hid (HB4.out.trans (hB5.mono HB4.out.size))
  have HROW5 := Lib.hid hRow5
  have src : ∀ W : World, Row W bp P → SrcOk W own (some ⟨bp, 0, none⟩) P := fun W hW => ⟨.inr ⟨bp, 0, rfl, by
    have := hW.reads 0 64 (by rw [HPL.out]; exact Nat.le_refl _)
    rwa [List.drop_zero, List.take_of_length_le (by rw [HPL.out]; exact Nat.le_refl _)] at this⟩, HPO.out, fun p hp => by cases hp; exact HBP0.out⟩
  have SRC := Lib.hid src
  have C6 := write_ok g tt2 own 0 (some ⟨bp, 0, none⟩) 64 P w5 hD5 (by decide) 0 rfl rfl HPL.out (SRC.out _ hRow5)
  rw [show ((0 : Nat) : Int) = 0 from rfl, show tt2.page = 64 from rfl] at C6
  have HC6 := Lib.hid C6
  clear C6 hD5 hRow5 hR5' hB5 hR5 hbp hbp0 src
  go_wp2_with fail
  refine HC6.out.mono ?_
  rintro e w6 ⟨rfl, hD6', hO6⟩
  have hD6 : DiskAt w6 g (tt3 P) own := hD6'
  have hRow6 : Row w6 bp P := HROW5.out.same (hO6.block bp HROW5.out.lt HBP0.out)
  have HB6 := Lib.hid (HB5.out.trans (hO6.below HB5.out.size HZ4.out))
  have HROW6 := Lib.hid hRow6
  have C7 := write_ok g (tt3 P) own 1 (some ⟨bp, 0, none⟩) 64 P w6 hD6 (by show tt2.ops + 1 < _; decide) 0 rfl rfl HPL.out (SRC.out _ hRow6)
  rw [show ((1 : Nat) : Int) = 1 from rfl, show (tt3 P).page = 64 from rfl] at C7
  have HC7 := Lib.hid C7
  clear C7 hD6 hD6' hO6 hRow6
  go_wp2_with fail
  refine HC7.out.mono ?_
  rintro e w7 ⟨rfl, hD7', hO7⟩
  have hD7 : DiskAt w7 g (tt4 P) own := hD7'
  have HROW7 := Lib.hid (show Row w7 bp P from HROW6.out.same (hO7.block bp HROW6.out.lt HBP0.out))
  have HB7 := Lib.hid (HB6.out.trans (hO7.below HB6.out.size HZ4.out))
  have C8 := turn_all g (tt4 P) own 0 A mask P w7 hD7 rfl hm32
  rw [show ((0 : Nat) : Int) = 0 from rfl, show (tt4 P).page = 64 from rfl, show decide (A < 8 * 64) = false from by have := HAT.out; simp; omega] at C8
  have HC8 := Lib.hid C8
  clear C8 hD7 hD7' hO7
  go_wp2_with fail
  refine HC8.out.mono ?_
  rintro e w8 ⟨rfl, hD8', hO8⟩
  obtain ⟨Q, hQ⟩ : ∃ Q, Q = turned 64 A mask P := ⟨_, rfl⟩
  have hD8 : DiskAt w8 g (tt5 P Q) own := by rw [hQ]; exact hD8'
  have hQl : Q.length = 64 := by rw [hQ, length_turned]; exact HPL.out
  have HROW8 := Lib.hid (show Row w8 bp P from HROW7.out.same (hO8.block bp HROW7.out.lt HBP0.out))
  have HB8 := Lib.hid (HB7.out.trans (hO8.below HB7.out.size HZ4.out))
  have C9 := look_yes g (tt5 P Q) own 0 Q w8 hD8 rfl
  rw [show ((0 : Nat) : Int) = 0 from rfl, show (tt5 P Q).page = 64 from rfl] at C9
  have HC9 := Lib.hid C9
  have HD8 := Lib.hid hD8
  have HQ := Lib.hid hQ
  have HQL := Lib.hid hQl
  clear C9 hD8 hD8' hO8 hQ hQl
  go_wp2_with fail
  refine HC9.out.mono ?_
  rintro e w9 ⟨v9, rfl, hv9, hB9⟩
  obtain ⟨_, a9, c9, rfl, hS9, hA9, _, _⟩ := slice_of_row hv9
  have hROW9 : Row w9 bp P := HROW8.out.same (hB9.block bp HROW8.out.lt)
  have hD9 := HD8.out.below hB9
  have hB09 := HB8.out.trans (hB9.mono HB8.out.size)
  have hown : (w9.alloc (.cells #[] 5)).ownsRow w9.heap.size 5 1 (.slice (some ⟨w9.heap.size, 0, none⟩) 0 0) 0 [] := World.ownsRow_lit w9 #[] 0 (Nat.le_refl _) (by decide) rfl
  have hnews : ∀ j u, (u8s P)[j]? = some u → (w9.alloc (.cells #[] 5)).cell? (Addr.add ⟨bp, 0, none⟩ j) = some u := by
    intro j u hj
    have hjl : j < P.length := by
      have := (List.getElem?_eq_some_iff.1 hj).1
      simpa [u8s] using this
    have e : (⟨bp, 0, none⟩ : Addr).add j = ⟨bp, 0 + j, none⟩ := by unfold Addr.add; split <;> simp_all
    rw [e, World.cell?_of_block (Below.heap_alloc w9 _ bp hROW9.lt), Nat.zero_add, hROW9.cell hjl, ← hj]
    simp [u8s, u8, List.getD_eq_getElem?_getD, List.getElem?_eq_getElem hjl]
  obtain ⟨i0, hi, hz0, hz1, hz2⟩ := info_parts infoByte
  have HOWN := Lib.hid hown
  have HN := Lib.hid hnews
  have HS9 := Lib.hid hS9
  have HA9 := Lib.hid hA9
  have HROW9 := Lib.hid hROW9
  have HD9 := Lib.hid hD9
  have HB9 := Lib.hid hB09
  clear hown hnews hS9 hA9 hROW9 hD9 hB09 hv9 hB9
  go_wp2_with (at_builtin; refine wpList_append_own _ rfl (.tmp 82) (.tmp 83) 22 rfl w9.heap.size 5 i0 (.int .u8 0) 1 1 Tryd.underlying22 hi hz0 hz1 hz2 rfl (by decide) _ 0 _ rfl HOWN.out ⟨bp, 0, none⟩ 64 64 (u8s P) rfl ?c1 HN.out (one_octs P) ?c2 ?c3 ?c4 ?_)
  case c1 => simp [u8s, HPL.out]
  case c2 => decide
  case c3 => decide
  case c4 => simp
  intro v10 w10 hown10 hg10 _
  have hB10 : Below w9.heap.size w9 w10 := ((Below.refl _ _).alloc (Nat.le_refl _) _).grown hg10 (by simp) (fun k hk => by simp [Value.ownBlock] at hk; omega)
  obtain ⟨bw, cw, cur, rfl, hbw, hcurw, _, hcw, hcm, _⟩ := newBytes_of_row (l := P) (by rw [HPL.out]; decide) (by rw [HPL.out]; simpa using hown10)
  rw [HPL.out] at hown10 hcw ⊢
  have hW10 : w10.ownsRow w9.heap.size 5 1 (.slice (some ⟨bw, 0, none⟩) 64 cw) 64 (u8s P) := by simpa using hown10
  have HB10 := Lib.hid hB10
  have HW10 := Lib.hid hW10
  have HBW := Lib.hid hbw
  clear hown10 hg10 hB10 hW10 hcurw hi hz0 hz1 hz2 hbw
  go_wp2_with fail
  go_loopw [19] (fun i wr => ∃ j : Nat, j ≤ 32 ∧ i = .int .i64 (j : Int) ∧ Hid (wr.ownsRow w9.heap.size 5 1 (.slice (some ⟨bw, 0, none⟩) 64 cw) 64 (u8s (Disk.turnN A mask P j))) ∧ Hid (w10.grownBy wr (some bw))) (fun i _ => 32 - (intOf i).toNat)
  case atStart => exact ⟨0, by omega, rfl, HW10.out, World.grownBy.refl _ _⟩
  case round =>
    obtain ⟨j, hj, rfl, hW, hG⟩ := hrel
    have hfin : Disk.turnN A mask P j = Q := by
      rw [HQ.out]
      unfold turned
      rw [if_neg (by have := HAT.out; omega)]
      have := Disk.turnN_stop A mask P 0 (by rw [HPL.out]; have := HAT.out; omega) j
      rw [Nat.zero_add] at this
      exact this
    rw [hfin] at hW
    clear hfin
    rcases Nat.lt_or_ge j 32 with h32 | h32
    all_goals
      first | have t1 : decide ((j : Int) < 32) = true := (by simp; omega) | have t1 : decide ((j : Int) < 32) = false := (by simp; omega)
      have hbw0 : own bw = 0 := HD9.out.fresh bw HBW.out
      have hDr := ((HD9.out.below HB10.out).grown hG.out hbw0)
      have hBr : Below w.heap.size w wr := (HB9.out.trans (HB10.out.mono HB9.out.size)).grown hG.out (Nat.le_trans HB9.out.size HB10.out.size) (fun k hk => by cases hk; exact Nat.le_trans HB9.out.size HBW.out)
      have hRr : Row wr bp P := (HROW9.out.below HB10.out HROW9.out.lt).same (hG.out.block bp (Nat.lt_of_lt_of_le HROW9.out.lt HB10.out.size) (by have := HROW9.out.lt; have := HBW.out; simp; omega))
      have hSr : SliceIs wr a9 Q := by
        rcases HS9.out.keep HB10.out with h | ⟨b, off, rfl, h⟩
        · exact .inl h
        · refine .inr ⟨b, off, rfl, fun i hi => ?_⟩
          have hlt := (HA9.out _ rfl).2
          exact hG.out.cell (h i hi) (by have := HBW.out; simp only [ne_eq, Option.some.injEq]; have : b < w9.heap.size := hlt; omega)
      have hWs := slice_of_row hW.out
      obtain ⟨_, aw, cw', hveq, hSw, _, _, _⟩ := hWs
      simp only [Value.slice.injEq, true_and] at hveq
      obtain ⟨rfl, rfl⟩ := hveq
      have C11 := look_yes g (tt5 P Q) own 1 P wr hDr rfl
      rw [show ((1 : Nat) : Int) = 1 from rfl, show (tt5 P Q).page = 64 from rfl] at C11
      have HC11 := Lib.hid C11
      have HDR := Lib.hid hDr
      have HBR := Lib.hid hBr
      have HRR := Lib.hid hRr
      have HSR := Lib.hid hSr
      have HSW := Lib.hid hSw
      clear C11 hDr hBr hRr hSr hSw hW hG hbw0
      go_wp2_with fail
      refine HC11.out.mono ?_
      rintro e w11 ⟨v11, rfl, hv11, hB11⟩
      obtain ⟨_, a11, c11, rfl, hS11, _, _, _⟩ := slice_of_row hv11
      have rd : ∀ W : World, Row W bp P → SliceIs W (some ⟨bp, 0, none⟩) P := fun W hW => (SRC.out W hW).1
      have hR11 : Row w11 bp P := HRR.out.same (hB11.block bp HRR.out.lt)
      have u1 := run_conv (c := c9) HQL.out (HSR.out.keep hB11)
      have u2 := run_conv (c := cw) HQL.out (HSW.out.keep hB11)
      have u3 := run_conv (c := c11) HPL.out hS11
      have u4 := run_conv (c := 64) HPL.out (rd w11 hR11)
      have hD11 := HDR.out.below hB11
      have hB011 := HBR.out.trans (hB11.mono HBR.out.size)
      have C12 := turn_all g (tt5 P Q) own 0 A mask Q w11 hD11 rfl hm32
      rw [show ((0 : Nat) : Int) = 0 from rfl, show (tt5 P Q).page = 64 from rfl] at C12
      have HC12 := Lib.hid C12
      have HR11 := Lib.hid hR11
      have HB11 := Lib.hid hB011
      have HRD := Lib.hid rd
      clear hv11 hB11 hS11 rd hR11 hD11 hB011 C12
      generalize strB Q = txQ at u1 u2
      generalize strB P = txP at u3 u4
      go_wp2_with fail
      refine HC12.out.mono ?_
      rintro e w12 ⟨rfl, hD12', hO12⟩
      have hD12 : DiskAt w12 g (tt5 P P) own := by
        have h : DiskAt w12 g (tt5 P (turned 64 A mask Q)) own := hD12'
        rw [HQ.out, turned_twice] at h
        exact h
      have HR12 := Lib.hid (show Row w12 bp P from HR11.out.same (hO12.block bp HR11.out.lt HBP0.out))
      have HB12 := Lib.hid (HB11.out.trans (hO12.below HB11.out.size HZ4.out))
      have C13 := look_yes g (tt5 P P) own 0 P w12 hD12 rfl
      rw [show ((0 : Nat) : Int) = 0 from rfl, show (tt5 P P).page = 64 from rfl] at C13
      have HC13 := Lib.hid C13
      have HD12 := Lib.hid hD12
      clear C13 hD12 hD12' hO12 u1 u2 u3 u4
      go_wp2_with fail
      refine HC13.out.mono ?_
      rintro e w13 ⟨v13, rfl, hv13, hB13⟩
      obtain ⟨_, a13, c13, rfl, hS13, _, _, _⟩ := slice_of_row hv13
      have hR13 : Row w13 bp P := HR12.out.same (hB13.block bp HR12.out.lt)
      have u1 := run_conv (c := c13) HPL.out hS13
      have u2 := run_conv (c := 64) HPL.out (HRD.out w13 hR13)
      have hD13 := HD12.out.below hB13
      have C14 := turn_none g (tt5 P P) own 2 0 1 w13 hD13 rfl
      have C15 := turn_out g (tt5 P P) own 0 (-1) 1 w13 hD13 (.inl (by decide))
      rw [show ((1 : Nat) : Int) = 1 from rfl] at C14 C15
      have HC14 := Lib.hid C14
      have HC15 := Lib.hid C15
      have HB13 := Lib.hid (HB12.out.trans (hB13.mono HB12.out.size))
      clear hv13 hB13 hS13 hR13 hD13 C14 C15
      generalize strB P = txP at u1 u2
      go_wp2_with fail
      refine HC14.out.mono ?_
      rintro e w14 ⟨rfl, rfl⟩
      go_wp2_with fail
      refine HC15.out.mono ?_
      rintro e w15 ⟨rfl, rfl⟩
      go_wp2_with fail
      go_ret
      exact ⟨rfl, HB13.out⟩
theorem turns_law (a : Option Addr) (len cap : Nat) (l : List Nat) (bit mask : Nat) (w : World) (hl : l.length = len) (ho : Oct l) (hs : SliceIs w a l) (hb16 : bit < 65536) (hm32 : mask < 4294967296) (hT : Bruijn w) (h0 : 0 < w.heap.size) :
    Calls Tryd.prog 5 #[.slice a len cap, .int .u16 (bit : Int), .int .u32 (mask : Int)] w fun e w' => e = .returned (.bool true) ∧ Below w.heap.size w w' := by
  by_cases hat : bit % 600 < 512
  · exact turns_in a len cap l bit mask w hl ho hs hb16 hm32 hT h0 _ rfl hat
  · exact turns_out a len cap l bit mask w hl ho hs hb16 hm32 hT h0 _ rfl hat
end Go.Proofs.YtfgamdpjcfbcbaaDoor
