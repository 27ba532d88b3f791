/- THE WALK OF SealSums. -/
import Derived.Test.YteepbligpfljkaaDoorSealAwake
namespace Go.Proofs.YteepbligpfljkaaDoor
open Go.RowKit
open Seal
theorem xorL_take (a b : List Nat) (n k : Nat) (hk : k < n) (ha : n ≤ a.length) (hb : n ≤ b.length) : (xorL (a.take n) (b.take n)).getD k 0 = (a.getD k 0 ^^^ b.getD k 0) := by
  induction k generalizing a b n with
  | zero => cases a with
    | nil => simp at ha; omega
    | cons x r => cases b with
      | nil => simp at hb; omega
      | cons y s => cases n with
        | zero => omega
        | succ n => simp [xorL]
  | succ k ih => cases a with
    | nil => simp at ha; omega
    | cons x r => cases b with
      | nil => simp at hb; omega
      | cons y s => cases n with
        | zero => omega
        | succ n =>
          have := ih r s n (by omega) (by simpa using ha) (by simpa using hb)
          simpa [xorL] using this
set_option maxHeartbeats 2000000 in
theorem sums_any (sa : Option Addr) (na ca : Nat) (la : List Nat) (sb : Option Addr) (nb cb : Nat) (lb : List Nat) (w : World)
    (hla : la.length = na) (hoa : Oct la) (hsa : SliceIs w sa la) (hca : na ≤ ca) (hma : ca ≤ 9223372036854775807)
    (hlb : lb.length = nb) (hob : Oct lb) (hsb : SliceIs w sb lb) (hcb : nb ≤ cb) (hmb : cb ≤ 9223372036854775807) (ht : Tab w) (h0 : 0 < w.heap.size) :
    Calls Tryd.prog 7 #[.slice sa na ca, .slice sb nb cb] w fun e w' => e = .returned (.bool true) ∧ Below w.heap.size w w' := by
  obtain ⟨N, hif, hNa, hNb⟩ : ∃ N : Nat, (if nb < na then (nb : Int) else (na : Int)) = (N : Int) ∧ N ≤ na ∧ N ≤ nb := by
    by_cases h : nb < na
    · exact ⟨nb, by rw [if_pos h], by omega, Nat.le_refl _⟩
    · exact ⟨na, by rw [if_neg h], Nat.le_refl _, by omega⟩
  obtain ⟨i0, hi, hz0, hz1, hz2⟩ := info_parts info5
  have hmk : N ≤ 3000 → ∀ u : World, (Instr.makeSlice 22 (.int .i64 (N : Int)) (.int .i64 (N : Int))).run Tryd.prog u =
      .ok (.slice (some ⟨u.heap.size, 0, none⟩) N N) (u.alloc (.cells (madeCells #[.int .u8 0] N) 5)) := fun hN u => by
    have h := run_make (P := Tryd.prog) u 22 5 i0 (.int .u8 0) Tryd.underlying22 hi hz0 .i64 .i64 (N : Int) (N : Int) (by omega) (Int.le_refl _) (by rw [hz2]; omega) (by omega)
    rw [Int.toNat_natCast] at h
    simpa [hz1, Value.cells] using h
  clear hi hz0 hz1 hz2
  by_cases hbig : 3000 < N
  · clear hmk
    go_enter Tryd.func7, Tryd.ntmps7
    go_wp2_with fail
    refine (awake_any _ ht h0).mono ?_
    rintro e w1 ⟨rfl, hB1⟩
    go_wp2_with fail
    go_ret
    exact ⟨rfl, hB1⟩
  · have hmk' := hmk (by omega)
    clear hmk
    go_enter Tryd.func7, Tryd.ntmps7
    go_wp2_with fail
    refine (awake_any _ ht h0).mono ?_
    rintro e w1 ⟨rfl, hB1⟩
    go_wp2_with fail
    have hb1 : w.heap.size ≤ w1.heap.size := hB1.size
    have hxl : (xorL (la.take N) (lb.take N)).length = N := by rw [length_xorL _ _ (by simp; omega)]; simp; omega
    have hxo : Oct (xorL (la.take N) (lb.take N)) := oct_xorL _ _ (oct_take _ hoa) (oct_take _ hob)
    have hxv : ∀ k, k < N → (xorL (la.take N) (lb.take N)).getD k 0 = (la.getD k 0 ^^^ lb.getD k 0) := fun k hk => xorL_take la lb N k hk (by omega) (by omega)
    obtain ⟨X, hX⟩ : ∃ X, X = xorL (la.take N) (lb.take N) := ⟨_, rfl⟩
    rw [← hX] at hxl hxo hxv
    have HX := Lib.hid hX
    have Hxl := Lib.hid hxl
    clear hX hxl
    go_loopw [7] (fun i wr => ∃ k : Nat, k ≤ N ∧ i = .int .i64 k ∧ Row wr w1.heap.size (X.take k ++ List.replicate (N - k) 0) ∧ Below w.heap.size w wr) (fun i _ => N - (intOf i).toNat)
    case atStart => exact ⟨0, by omega, rfl, by simpa using Row.made (w := w1) N, hB1.alloc hb1 _⟩
    case round =>
      obtain ⟨k, hk, rfl, hRk, hBk⟩ := hrel
      by_cases hlt : k < N
      · rcases hsa with rfl | ⟨ba, oa, rfl, hra⟩
        · simp at hla; omega
        rcases hsb with rfl | ⟨bb, ob, rfl, hrb⟩
        · simp at hlb; omega
        have ha := hra.below hBk (World.block_lt_of_cell? w _ (hra 0 (by omega))) k (by omega)
        have hb := hrb.below hBk (World.block_lt_of_cell? w _ (hrb 0 (by omega))) k (by omega)
        have hav : la.getD k 0 < 256 := hoa _ (by rw [List.getD_eq_getElem?_getD, List.getElem?_eq_getElem (show k < la.length by omega)]; simp)
        have hbv : lb.getD k 0 < 256 := hob _ (by rw [List.getD_eq_getElem?_getD, List.getElem?_eq_getElem (show k < lb.length by omega)]; simp)
        have hcell := hRk.cell (j := k) (by simp [Hxl.out]; omega)
        have hfr := hRk.frozen k
        have hnew : (X.take k ++ List.replicate (N - k) 0).set k (X.getD k 0) = X.take (k + 1) ++ List.replicate (N - (k + 1)) 0 := by
          have hkl : k < X.length := by rw [Hxl.out]; exact hlt
          have e : (X.take k).length = k := by simp; omega
          rw [List.set_append_right _ _ (by omega), e, Nat.sub_self, show N - k = (N - (k + 1)) + 1 by omega, List.replicate_succ, List.set_cons_zero, List.take_succ_eq_append_getElem hkl, List.append_assoc, List.getD_eq_getElem?_getD, List.getElem?_eq_getElem hkl]
          rfl
        have hset := hRk.set k (X.getD k 0)
        rw [hnew, hxv k hlt] at hset
        have hbs := hBk.setCell (p := ⟨w1.heap.size, k, none⟩) hb1 (.int .u8 ((la.getD k 0 ^^^ lb.getD k 0 : Nat) : Int))
        have hx := u8_xor_nat (la.getD k 0) (lb.getD k 0) hav hbv
        have Hset := Lib.hid hset
        have Hbs := Lib.hid hbs
        clear hset hbs hnew hmk' hxv hra hrb ht hRk hBk hif
        generalize (X.take k ++ List.replicate (N - k) 0).getD k 0 = old at hcell
        generalize la.getD k 0 ^^^ lb.getD k 0 = z at *
        generalize la.getD k 0 = x at *
        generalize lb.getD k 0 = y at *
        go_wp2_with fail
        refine wp_region_still_tail 12 (by kernel_rfl) (by kernel_rfl) ?_
        simp only [List.take_succ_cons, List.take_zero, List.drop_succ_cons, List.drop_zero]
        have q1 : (0 : Int) ≤ (k : Int) := by omega
        have q2 : (k : Int) < (na : Int) := by omega
        have q3 : (k : Int) < (nb : Int) := by omega
        have q4 : (k : Int) < (N : Int) := by omega
        iterate 12 still_step
        refine wpStill_nil ?_
        clear q1 q2 q3 q4
        change wpList _ _ _ _ _ wr.drew
        go_wp2_with fail
        go_roundw
        case rel => exact ⟨k + 1, by omega, by go_num, Hset.out.drew, Hbs.out.drew⟩
        case measure => simp [intOf]; omega
      · have hk' : k = N := by omega
        subst hk'
        rw [List.take_of_length_le (by rw [Hxl.out]; exact Nat.le_refl _), Nat.sub_self, List.replicate_zero, List.append_nil] at hRk
        clear hxv hlt hk
        go_wp2_with fail
        have q1 : (0 : Int) ≤ (k : Int) := by omega
        have q2 : (k : Int) ≤ (ca : Int) := by omega
        have q3 : (k : Int) ≤ (cb : Int) := by omega
        have hG : w1.heap.size < wr.heap.size := hRk.lt
        have hrX := hRk.reads 0 k (by rw [Hxl.out]; omega)
        rw [List.drop_zero, List.take_of_length_le (by rw [Hxl.out]; exact Nat.le_refl _)] at hrX
        obtain ⟨G, hGe⟩ : ∃ G, G = w1.heap.size := ⟨_, rfl⟩
        rw [← hGe] at hrX hG ⊢
        clear hGe hRk
        have hsX : SliceIs wr (some ⟨G, 0, none⟩) X := .inr ⟨G, 0, rfl, hrX⟩
        have hta : SliceIs wr sa (la.take k) := by
          rcases hsa.keep hBk with rfl | ⟨b, o, rfl, h⟩
          · exact .inl (by simp)
          · refine .inr ⟨b, o, rfl, ?_⟩
            have := h.part 0 k
            rwa [List.drop_zero] at this
        have htb : SliceIs wr sb (lb.take k) := by
          rcases hsb.keep hBk with rfl | ⟨b, o, rfl, h⟩
          · exact .inl (by simp)
          · refine .inr ⟨b, o, rfl, ?_⟩
            have := h.part 0 k
            rwa [List.drop_zero] at this
        have htr : Tab wr := ht.below hBk h0
        clear hsa hsb hrX hif
        have hB0 := Lib.hid hBk
        have cA : ∀ W' : World, Below wr.heap.size wr W' → Calls Tryd.prog 14 #[.slice sa k ca] W' fun e w' => e = .returned (.int .u32 (crc (la.take k) : Nat)) ∧ W' = w' := fun W' hb =>
          sum_any sa k ca (la.take k) W' (by simp; omega) (by omega) (oct_take _ hoa) (hta.keep hb) (ht.below (hBk.trans (hb.mono hBk.size)) h0)
        have cB : ∀ W' : World, Below wr.heap.size wr W' → Calls Tryd.prog 14 #[.slice sb k cb] W' fun e w' => e = .returned (.int .u32 (crc (lb.take k) : Nat)) ∧ W' = w' := fun W' hb =>
          sum_any sb k cb (lb.take k) W' (by simp; omega) (by omega) (oct_take _ hob) (htb.keep hb) (ht.below (hBk.trans (hb.mono hBk.size)) h0)
        have cX : ∀ W' : World, Below wr.heap.size wr W' → Calls Tryd.prog 14 #[.slice (some ⟨G, 0, none⟩) k k] W' fun e w' => e = .returned (.int .u32 (crc X : Nat)) ∧ W' = w' := fun W' hb =>
          sum_any _ k k X W' Hxl.out (by omega) hxo (hsX.keep hb) (ht.below (hBk.trans (hb.mono hBk.size)) h0)
        have cZ : ∀ W' : World, Below wr.heap.size wr W' → Row W' wr.heap.size (List.replicate k 0) → Calls Tryd.prog 14 #[.slice (some ⟨wr.heap.size, 0, none⟩) k k] W' fun e w' => e = .returned (.int .u32 (crc (List.replicate k 0) : Nat)) ∧ W' = w' := fun W' hb hR =>
          sum_any _ k k _ W' (by simp) (by omega) (oct_replicate _ _ (by decide)) (.inr ⟨_, 0, rfl, by have := hR.reads 0 k (by simp); rwa [List.drop_zero, List.take_of_length_le (by simp)] at this⟩) (ht.below (hBk.trans (hb.mono hBk.size)) h0)
        have hsum : crc (la.take k) ^^^ crc (lb.take k) = crc X ^^^ crc (List.replicate k 0) := by
          have := sums (la.take k) (lb.take k) (by simp; omega) (oct_take _ hoa) (oct_take _ hob)
          rw [HX.out, this]
          congr 3
          simp; omega
        have hx1 := u32_xor_nat _ _ (crc_lt _ (oct_take k hoa)) (crc_lt _ (oct_take k hob))
        have hx2 := u32_xor_nat _ _ (crc_lt _ hxo) (crc_lt _ (oct_replicate k 0 (by decide)))
        rw [← hsum] at hx2
        clear hsum hta htb hsX hoa hob hxo htr
        generalize crc (la.take k) ^^^ crc (lb.take k) = V at hx1 hx2
        generalize crc (la.take k) = vA at *
        generalize crc (lb.take k) = vB at *
        generalize crc X = vX at *
        generalize crc (List.replicate k 0) = vZ at *
        have CA := Lib.hid cA
        have CB := Lib.hid cB
        have CX := Lib.hid cX
        have CZ := Lib.hid cZ
        have HBk := Lib.hid hBk
        clear cA cB cX cZ hB0 hBk
        go_region_with (first | (go_at_call_of 14 ca; refine (CA.out _ ?_).mono ?_; (first | exact (Below.refl _ _).drew | exact ((Below.refl _ _).alloc (Nat.le_refl _) _).drew); rintro e w' ⟨rfl, rfl⟩) | (go_at_call_of 14 cb; refine (CB.out _ ?_).mono ?_; (first | exact (Below.refl _ _).drew | exact ((Below.refl _ _).alloc (Nat.le_refl _) _).drew); rintro e w' ⟨rfl, rfl⟩) | (go_at_call_of 14 G; refine (CX.out _ ?_).mono ?_; (first | exact (Below.refl _ _).drew | exact ((Below.refl _ _).alloc (Nat.le_refl _) _).drew); rintro e w' ⟨rfl, rfl⟩) | (go_at_call_of 14 wr; refine (CZ.out _ ?_ ?_).mono ?_; exact ((Below.refl _ _).alloc (Nat.le_refl _) _).drew; exact Row.drew (Row.made k); rintro e w' ⟨rfl, rfl⟩) | (go_at_call 14; refine (sum_none _ _ _).mono ?_; rintro e w' ⟨rfl, rfl⟩))
        all_goals go_wp2_with fail
        all_goals go_ret
        all_goals exact ⟨rfl, HBk.out.trans (Below.mono (((Below.refl _ _).alloc (Nat.le_refl _) _).drew) HBk.out.size)⟩
end Go.Proofs.YteepbligpfljkaaDoor
