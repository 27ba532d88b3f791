/- THE WALKS OF THE DOCUMENT's LEDGER. -/
import Derived.Test.YtikdkoeicohopaaLedgerLeaf
namespace Go.Proofs.Ytikdkoeicohopaa
open Go.RowKit
set_option maxHeartbeats 800000 in
theorem rtake_in (g : Nat) (T : TypeId) (B H M n : Int) (w : World) (h : Led w g T B H M) (h0 : 0 ≤ H) (h1 : H ≤ 1099511627776) (n0 : 0 ≤ n) (n1 : n ≤ 16777216) (n2 : n ≤ 1099511627776 - H) :
    Calls Try.prog 10 #[.pointer (some ⟨g, 0, none⟩), .int .i64 n] w fun e w' => e = .returned (.bool true) ∧ Led w' g T B (H + n) (mx M (H + n)) ∧ w.grownBy w' (some g) := by
  have c1 := h.c1
  have c2 := h.c2
  have f1 := h.fr 1
  have f2 := h.fr 2
  have b0 : ¬ n < 0 := by omega
  have b1 : ¬ 16777216 < n := by omega
  have b2 : ¬ 1099511627776 - n < H := by omega
  go_enter Try.func10, Try.ntmps10
  go_wp2_with fail
  have hs := h.setH (H + n)
  have hg : w.grownBy (w.setCell ⟨g, 1, none⟩ (.int .i64 (H + n))) (some g) := grown_set (World.grownBy.refl _ _) _ _
  generalize w.setCell ⟨g, 1, none⟩ (.int .i64 (H + n)) = w1 at *
  have d1 := hs.c1
  have d2 := hs.c2
  have e2 := hs.fr 2
  have Hs := Lib.hid hs
  have Hg := Lib.hid hg
  clear c1 c2 f1 f2 hs hg h
  refine wp_region_still_tail 12 (by kernel_rfl) (by kernel_rfl) ?_
  simp only [List.take_succ_cons, List.take_zero, List.drop_succ_cons, List.drop_zero]
  iterate 12 still_step
  refine wpStill_nil ?_
  change wpList _ _ _ _ _ w1.drew
  by_cases hm : M < H + n
  all_goals
    go_wp2_with fail
    go_ret
    refine ⟨rfl, ?_, grown_drew (grown_set Hg.out _ _)⟩
    first | rw [mx_pos hm] | rw [mx_neg (by omega)]
    exact (Hs.out.setM _).drew
set_option maxHeartbeats 400000 in
theorem rtake_out (g : Nat) (T : TypeId) (B H M n : Int) (w : World) (h : Led w g T B H M) (h0 : 0 ≤ H) (h1 : H ≤ 1099511627776) (n1 : ¬ (0 ≤ n ∧ n ≤ 16777216 ∧ n ≤ 1099511627776 - H)) :
    Calls Try.prog 10 #[.pointer (some ⟨g, 0, none⟩), .int .i64 n] w fun e w' => e = .returned (.bool false) ∧ w = w' := by
  have c1 := h.c1
  clear h
  by_cases b0 : n < 0
  · clear n1
    go_enter Try.func10, Try.ntmps10
    go_wp2_with fail
    go_ret
    exact ⟨rfl, rfl⟩
  · by_cases b1 : 16777216 < n
    · clear n1
      go_enter Try.func10, Try.ntmps10
      go_wp2_with fail
      go_ret
      exact ⟨rfl, rfl⟩
    · have b2 : 1099511627776 - n < H := by omega
      clear n1
      go_enter Try.func10, Try.ntmps10
      go_wp2_with fail
      go_ret
      exact ⟨rfl, rfl⟩
theorem RTake_all (g : Nat) (T : TypeId) (B H M n : Int) (w : World) (h : Led w g T B H M) (hF : Fair B H) :
    Calls Try.prog 10 #[.pointer (some ⟨g, 0, none⟩), .int .i64 n] w fun e w' => e = .returned (.bool (tkB H n)) ∧ Led w' g T B (tkH H n) (tkM H M n) ∧ w.grownBy w' (some g) := by
  unfold Fair at hF
  by_cases hb : 0 ≤ n ∧ n ≤ 16777216 ∧ n ≤ 1099511627776 - H
  · have e : tkB H n = true := by unfold tkB; simp; omega
    unfold tkH tkM
    rw [e]
    exact rtake_in g T B H M n w h (by omega) (by omega) (by omega) (by omega) (by omega)
  · have e : tkB H n = false := by unfold tkB; simp; omega
    unfold tkH tkM
    rw [e]
    refine (rtake_out g T B H M n w h (by omega) (by omega) hb).mono ?_
    rintro e w' ⟨rfl, rfl⟩
    exact ⟨rfl, h, World.grownBy.refl _ _⟩
set_option maxHeartbeats 400000 in
theorem RGive_all (g : Nat) (T : TypeId) (B H M n : Int) (w : World) (h : Led w g T B H M) (hF : Fair B H) :
    Calls Try.prog 12 #[.pointer (some ⟨g, 0, none⟩), .int .i64 n] w fun e w' => e = .returned (.bool (gvB H n)) ∧ Led w' g T B (gvH H n) M ∧ w.grownBy w' (some g) := by
  unfold Fair at hF
  obtain ⟨hB0, hB1, hH0, hH1⟩ := hF
  have c1 := h.c1
  have f1 := h.fr 1
  by_cases b0 : n < 0
  · have e : gvB H n = false := by unfold gvB; simp; omega
    unfold gvH
    rw [e]
    have Hh := Lib.hid h
    clear h e
    go_enter Try.func12, Try.ntmps12
    go_wp2_with fail
    go_ret
    exact ⟨rfl, Hh.out, World.grownBy.refl _ _⟩
  by_cases b1 : H < n
  · have e : gvB H n = false := by unfold gvB; simp; omega
    unfold gvH
    rw [e]
    have Hh := Lib.hid h
    clear h e
    go_enter Try.func12, Try.ntmps12
    go_wp2_with fail
    go_ret
    exact ⟨rfl, Hh.out, World.grownBy.refl _ _⟩
  · have e : gvB H n = true := by unfold gvB; simp; omega
    unfold gvH
    rw [e]
    have Hs := Lib.hid (h.setH (H - n))
    clear h e
    go_enter Try.func12, Try.ntmps12
    go_wp2_with fail
    go_ret
    exact ⟨rfl, Hs.out, grown_set (World.grownBy.refl _ _) _ _⟩
set_option maxHeartbeats 400000 in
theorem RFits_all (g : Nat) (T : TypeId) (B H M n : Int) (w : World) (h : Led w g T B H M) (hF : Fair B H) :
    Calls Try.prog 14 #[.pointer (some ⟨g, 0, none⟩), .int .i64 n] w fun e w' => e = .returned (.bool (ftB B H n)) ∧ ∃ m, w' = w.drewN m := by
  unfold Fair at hF
  obtain ⟨hB0, hB1, hH0, hH1⟩ := hF
  have c0 := h.c0
  have c1 := h.c1
  clear h
  by_cases n0 : 0 ≤ n
  · have d0 : decide (0 ≤ n) = true := by simpa using n0
    by_cases n1 : n ≤ B
    · have d1 : decide (n ≤ B) = true := by simpa using n1
      have e : ftB B H n = decide (H ≤ B - n) := by
        unfold ftB
        rw [Bool.eq_iff_iff]; simp; omega
      have E := Lib.hid e
      clear e
      go_enter Try.func14, Try.ntmps14
      go_wp2_with fail
      go_quiet (fail)
      go_wp2_with fail
      go_ret
      exact ⟨ret_bool E.out.symm, _, rfl⟩
    · have d1 : decide (n ≤ B) = false := by simpa using n1
      have e : ftB B H n = false := by unfold ftB; simp; omega
      have E := Lib.hid e
      clear e
      go_enter Try.func14, Try.ntmps14
      go_wp2_with fail
      go_quiet (fail)
      go_wp2_with fail
      go_ret
      exact ⟨ret_bool E.out.symm, _, rfl⟩
  · have d0 : decide (0 ≤ n) = false := by simpa using n0
    have e : ftB B H n = false := ftB_neg n0
    have E := Lib.hid e
    clear e n0
    go_enter Try.func14, Try.ntmps14
    go_wp2_with fail
    go_quiet (fail)
    go_wp2_with fail
    go_ret
    exact ⟨ret_bool E.out.symm, _, rfl⟩
end Go.Proofs.Ytikdkoeicohopaa
