/- THE WALK OF SealRooms. -/
import Derived.Test.YteepbligpfljkaaDoorSealAwake
namespace Go.Proofs.YteepbligpfljkaaDoor
open Go.RowKit
open Seal
theorem size_of (p : Nat) : ∃ S : Nat, wrap64 (64 * 2 ^ (p % 7)) = (S : Int) ∧ pageOk S = true ∧ pageOk (S + 1) = false ∧ pageOk (S + 2) = false := by
  have h : ∀ k : Fin 7, wrap64 (64 * 2 ^ k.val) = ((64 * 2 ^ k.val : Nat) : Int) ∧ pageOk (64 * 2 ^ k.val) = true ∧ pageOk (64 * 2 ^ k.val + 1) = false ∧ pageOk (64 * 2 ^ k.val + 2) = false := by decide +kernel
  exact ⟨_, h ⟨p % 7, Nat.mod_lt _ (by decide)⟩⟩
theorem drewN_below' (B : Nat) (w : World) (n : Nat) : Below B w (w.drewN n) := ⟨rfl, rfl, rfl, Nat.le_refl _, fun _ _ => rfl⟩
theorem pageB_nat (S : Nat) : pageB (S : Int) = pageOk S := by unfold pageB; rw [Int.toNat_natCast]
set_option maxHeartbeats 2000000 in
theorem rooms_any (p f : Nat) (w : World) (hp : p < 256) (hf : f < 256) (ht : Tab w) (h0 : 0 < w.heap.size) :
    Calls Tryd.prog 6 #[.int .u8 p, .int .u8 f] w fun e w' => e = .returned (.bool true) ∧ Below w.heap.size w w' := by
  obtain ⟨S, hS, hok, hok1, hok2⟩ := size_of p
  have hpb := pageOk_bounds hok
  obtain ⟨i0, hi, hz0, hz1, hz2⟩ := info_parts info5
  have hmk : ∀ u : World, (Instr.makeSlice 22 (.int .i64 ((S : Int) - 10 + 1)) (.int .i64 ((S : Int) - 10 + 1))).run Tryd.prog u =
      .ok (.slice (some ⟨u.heap.size, 0, none⟩) (S - 9) (S - 9)) (u.alloc (.cells (madeCells #[.int .u8 0] (S - 9)) 5)) := fun u => by
    have h := run_make (P := Tryd.prog) u 22 5 i0 (.int .u8 0) Tryd.underlying22 hi hz0 .i64 .i64 ((S : Int) - 10 + 1) ((S : Int) - 10 + 1) (by omega) (Int.le_refl _) (by rw [hz2]; omega) (by omega)
    rw [show ((S : Int) - 10 + 1).toNat = S - 9 by omega] at h
    simpa [hz1, Value.cells] using h
  have hroom : roomOf S = S - 10 := by unfold roomOf; rw [if_pos]; rw [pageB_nat]; exact hok
  have Hroom := Lib.hid hroom
  have HS := Lib.hid hS
  have Hok := Lib.hid hok
  have Hok1 := Lib.hid hok1
  have Hok2 := Lib.hid hok2
  clear hroom hS hok hok1 hok2 hi hz0 hz1 hz2
  go_enter Tryd.func6, Tryd.ntmps6
  go_wp2_with fail
  refine (awake_any _ ht h0).mono ?_
  rintro e w1 ⟨rfl, hB1⟩
  go_wp2_with fail
  rw [HS.out]
  refine (room_any S _ (by omega) (by omega)).mono ?_
  rintro e w2 ⟨rfl, rfl⟩
  rw [Hroom.out]
  have hb1 : w.heap.size ≤ w1.heap.size := hB1.size
  go_wp2_with fail
  go_loopw [8] (fun i wr => ∃ k : Nat, k ≤ S - 9 ∧ i = .int .i64 k ∧ Row wr w1.heap.size (List.replicate k f ++ List.replicate (S - 9 - k) 0) ∧ Below w.heap.size w wr) (fun i _ => S - (intOf i).toNat)
  case atStart => exact ⟨0, by omega, rfl, by simpa using Row.made (w := w1) (S - 9), hB1.alloc hb1 _⟩
  case round =>
    obtain ⟨k, hk, rfl, hRk, hBk⟩ := hrel
    by_cases hlt : k < S - 9
    · have hcell := hRk.cell (j := k) (by simp; omega)
      have hfr := hRk.frozen k
      have hnew : (List.replicate k f ++ List.replicate (S - 9 - k) 0).set k f = List.replicate (k + 1) f ++ List.replicate (S - 9 - (k + 1)) 0 := by
        rw [List.set_append_right _ _ (by simp), List.length_replicate, Nat.sub_self, show S - 9 - k = (S - 9 - (k + 1)) + 1 by omega, List.replicate_succ, List.set_cons_zero, List.replicate_succ', List.append_assoc]
        rfl
      have hset := hRk.set k f
      rw [hnew] at hset
      have hbs := hBk.setCell (p := ⟨w1.heap.size, k, none⟩) hb1 (.int .u8 (f : Int))
      have Hset := Lib.hid hset
      have Hbs := Lib.hid hbs
      clear hset hbs hnew
      generalize ((List.replicate k f ++ List.replicate (S - 9 - k) 0).getD k 0) = old at hcell
      clear hmk
      go_wp2_with fail
      go_roundw
      case rel => exact ⟨k + 1, by omega, by go_num, Hset.out, Hbs.out⟩
      case measure => simp [intOf]; omega
    · have hk' : k = S - 9 := by omega
      subst hk'
      rw [Nat.sub_self, List.replicate_zero, List.append_nil] at hRk
      go_wp2_with fail
      have hG : w1.heap.size < wr.heap.size := hRk.lt
      have htr : Tab wr := ht.below hBk h0
      have hfo : Oct (List.replicate (S - 10) f) := oct_replicate _ _ hf
      have hrd : Reads wr w1.heap.size 0 (List.replicate (S - 10) f) := by
        have := hRk.reads 0 (S - 10) (by simp; omega)
        rw [List.drop_zero, List.take_replicate, Nat.min_eq_left (by omega)] at this
        exact this
      refine (close_at S (-1) (some ⟨w1.heap.size, 0, none⟩) (S - 10) (S - 9) (List.replicate (S - 10) f) wr (by simp) (by rw [pageB_nat]; exact Hok.out) (by omega) (by omega) (by omega) hfo (.inr ⟨_, 0, rfl, hrd⟩) htr (by omega)).mono ?_
      rintro e w3 ⟨rfl, hR3, hB3⟩
      rw [Int.toNat_natCast] at hR3 ⊢
      have hB03 : Below w.heap.size w w3 := hBk.trans (hB3.mono hBk.size)
      have hrd3 := hrd.below hB3 hG
      have ht3 : Tab w3 := ht.below hB03 h0
      have hR3' : Row w3 wr.heap.size (closeB S 0 (List.replicate (S - 10) f)) := hR3
      have hX := hR3'.lt
      have hcl := length_closeB S 0 (List.replicate (S - 10) f) (by simp; omega)
      have hrx := hR3'.reads 0 S (by omega)
      rw [List.drop_zero, List.take_of_length_le (by omega)] at hrx
      have hoc : openB (closeB S 0 (List.replicate (S - 10) f)) = (-1, List.replicate (S - 10) f, 0) := (open_close S 0 _ Hok.out (by omega) (by simp; omega) hfo).trans rfl
      have hoco := oct_closeB S 0 (List.replicate (S - 10) f) hfo
      have Hcl := Lib.hid hcl
      have Hoc := Lib.hid hoc
      clear hcl hoc hR3 hR3' hRk hrd htr hmk
      obtain ⟨G, hGe⟩ : ∃ G, G = w1.heap.size := ⟨_, rfl⟩
      obtain ⟨X, hXe⟩ : ∃ X, X = wr.heap.size := ⟨_, rfl⟩
      rw [← hGe] at hG hrd3 ⊢
      rw [← hXe] at hG hX hrx hB3 ⊢
      clear hGe hXe
      have hm1 : ((S - 9 : Nat) : Int) = (S : Int) - 9 := by omega
      have hm2 : ((S - 10 : Nat) : Int) = (S : Int) - 10 := by omega
      have Hm1 := Lib.hid hm1
      have Hm2 := Lib.hid hm2
      clear hm1 hm2
      go_wp2_with fail
      refine (close_bad S (-1) _ (S - 9) _ w3 (by omega) (by omega) (.inr (.inr (.inr (by rw [Hm1.out]; omega))))).mono ?_
      rintro e w4 ⟨rfl, rfl⟩
      go_wp2_with fail
      refine (open_at (some ⟨X, 0, none⟩) S S (closeB S 0 (List.replicate (S - 10) f)) w3 Hcl.out (Nat.le_refl _) (by omega) hoco (.inr ⟨_, 0, rfl, hrx⟩) ht3).mono ?_
      rw [Hoc.out]
      rintro e w4 ⟨a4, c4, rfl, hS4, hA4, hB4⟩
      have hB04 : Below w.heap.size w w4 := hB03.trans (hB4.mono hB03.size)
      have hrd4 := hrd3.below hB4 (by omega)
      rw [List.length_replicate]
      go_wp2_with fail
      refine (close_bad S (-2) _ 0 _ w4 (by omega) (by omega) (.inr (.inl (by omega)))).mono ?_
      rintro e w5 ⟨rfl, rfl⟩
      go_wp2_with fail
      refine (close_bad S 16384 _ 0 _ w4 (by omega) (by omega) (.inr (.inr (.inl (by omega))))).mono ?_
      rintro e w5 ⟨rfl, rfl⟩
      go_wp2_with fail
      refine (close_bad ((S : Int) + 1) 0 _ 0 _ w4 (by omega) (by omega) (.inl (by have := pageB_nat (S + 1); rw [Hok1.out] at this; exact this))).mono ?_
      rintro e w5 ⟨rfl, rfl⟩
      have hc1 : ∀ n, (convert 22 9 (.slice a4 (S - 10) c4)).run Tryd.prog (w4.drewN n) = .ok (.string (strB (List.replicate (S - 10) f))) (w4.drewN n) := fun n => conv_str _ a4 (S - 10) c4 _ (by simp) (hS4.drewN n)
      have hc2 : ∀ n, (convert 22 9 (.slice (some ⟨G, 0, none⟩) (S - 10) (S - 9))).run Tryd.prog (w4.drewN n) = .ok (.string (strB (List.replicate (S - 10) f))) (w4.drewN n) := fun n => conv_str _ _ (S - 10) (S - 9) _ (by simp) (.inr ⟨G, 0, rfl, hrd4.drewN n⟩)
      have hr2 : roomOf ((S : Int) + 2) = 0 := by
        unfold roomOf; rw [if_neg]
        have := pageB_nat (S + 2)
        rw [Hok2.out] at this
        rw [show ((S : Int) + 2) = ((S + 2 : Nat) : Int) by omega, this]
        decide
      have Hr2 := Lib.hid hr2
      have croom : ∀ n, Calls Tryd.prog 12 #[.int .i64 ((S : Int) + 2)] (w4.drewN n) fun e w' => e = .returned (.int .i64 0) ∧ w' = w4.drewN n := fun n =>
        (room_any ((S : Int) + 2) _ (by omega) (by omega)).mono fun _ _ h => ⟨by rw [h.1, Hr2.out], h.2.symm⟩
      have Croom := Lib.hid croom
      generalize strB (List.replicate (S - 10) f) = txt at hc1 hc2
      have HB04 := Lib.hid hB04
      clear hS4 hA4 hrd4 hB4 hrd3 hB3 hB03 hrx ht3 hBk hr2 croom hB04 hoco hfo
      go_wp2_with fail
      go_quiet ((go_at_call 12; exact Calls.quiet_of_same (Croom.out _)))
      go_wp2_with fail
      go_ret
      exact ⟨rfl, HB04.out.trans (drewN_below' _ _ _)⟩
end Go.Proofs.YteepbligpfljkaaDoor
