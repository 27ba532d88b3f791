/- THE WALKS OF Few, need, same. -/
import Derived.Test.YtbkiahnljklhpaaDoorTapeMake
import Derived.Deep.QuietTactic
import Derived.BigQuiet
namespace Go.Proofs.YtbkiahnljklhpaaDoor
open Go.RowKit
open Seal
def total (rs : List (List Nat)) : Nat := (rs.map List.length).sum
theorem total_snoc (rs : List (List Nat)) (r : List Nat) : total (rs ++ [r]) = total rs + r.length := by simp [total]
theorem length_stream (rs : List (List Nat)) : (Tape.stream rs).length = total rs + 4 * rs.length := by
  induction rs with
  | nil => rfl
  | cons r t ih => rw [Tape.stream_cons, List.length_append, Tape.length_frame, ih]; simp [total]; omega
theorem total_take_le {rs : List (List Nat)} {M : Nat} (h : ∀ i, i < rs.length → (rs.getD i []).length ≤ M) : ∀ k, k ≤ rs.length → total (rs.take k) ≤ k * M := by
  intro k
  induction k with
  | zero => intro _; simp [total]
  | succ k ih =>
    intro hk
    rw [take_getD rs hk, total_snoc, Nat.succ_mul]
    have := ih (by omega)
    have := h k hk
    omega
def fewB (rs : List (List Nat)) : Bool := decide (rs.length ≤ 100 ∧ total rs ≤ 10000)
theorem len_le_total {rs : List (List Nat)} {i : Nat} (h : i < rs.length) : (rs.getD i []).length ≤ total rs := by
  have h1 := take_getD rs h
  have h2 : total rs = total (rs.take (i + 1)) + total (rs.drop (i + 1)) := by
    conv => lhs; rw [← List.take_append_drop (i + 1) rs]
    simp only [total, List.map_append, List.sum_append]
  rw [h1, total_snoc] at h2
  omega
set_option maxRecDepth 100000 in
set_option maxHeartbeats 1000000 in
theorem few_any (a : Option Addr) (n cap : Nat) (rs : List (List Nat)) (w : World) (Ok : Nat → Prop) (hn : rs.length = n) (hm : n ≤ 9223372036854775807) (hR : RowsIn w a rs Ok) (hlen : ∀ i, i < rs.length → (rs.getD i []).length ≤ 140737488355328) :
    Calls Tryd.prog 14 #[.slice a n cap] w fun e w' => e = .returned (.bool (fewB rs)) ∧ w = w' := by
  have HN := Lib.hid hn
  have HR := Lib.hid hR
  have HLEN := Lib.hid hlen
  have HTT := Lib.hid (total_take_le hlen)
  clear hn hR hlen
  by_cases h100 : n ≤ 100
  · go_enter Tryd.func14, Tryd.ntmps14
    go_wp2_with fail
    go_loop [3, 4] (fun x i => ∃ k t : Nat, k ≤ n ∧ i = .int .i64 (k : Int) ∧ x = .int .i64 (t : Int) ∧ Hid (t = total (rs.take k))) (fun _ i => n - (intOf i).toNat)
    case atStart => exact ⟨0, 0, Nat.zero_le _, rfl, rfl, rfl⟩
    case round =>
      obtain ⟨k, t, hk, rfl, rfl, ht⟩ := hrel
      have htl : t ≤ 14073748835532800 := by
        have h1 := HTT.out k (by rw [HN.out]; exact hk)
        have h2 := ht.out
        have h3 := Nat.mul_le_mul_right 140737488355328 (show k ≤ 100 by omega)
        omega
      by_cases hlt : k < n
      · obtain ⟨b, off, ai, ci, e, h1, _⟩ := HR.out.at_ (i := k) (by rw [HN.out]; exact hlt)
        subst e
        have hle := HLEN.out k (by rw [HN.out]; exact hlt)
        have hts : Hid (t + (rs.getD k []).length = total (rs.take (k + 1))) := by
          show t + _ = _
          rw [take_getD rs (by rw [HN.out]; exact hlt), total_snoc, ht.out]
        generalize (rs.getD k []).length = rl at *
        go_wp2_with fail
        go_round
        case rel => exact ⟨k + 1, t + rl, by omega, by go_num, by go_num, hts⟩
        case measure => simp [intOf]; omega
      · have hk' : k = n := by omega
        subst hk'
        have e : fewB rs = decide (t ≤ 10000) := by
          unfold fewB
          have h2 := ht.out
          rw [List.take_of_length_le (by rw [HN.out]; exact Nat.le_refl _)] at h2
          rw [h2, HN.out]
          simp [h100]
        have HE := Lib.hid e
        clear e ht
        have d1 : decide ((k : Int) ≤ 100) = true := by simp; omega
        go_wp2_with fail
        go_ret
        refine ⟨ret_val ?_, rfl⟩
        rw [HE.out]
        simp
        omega
  · go_enter Tryd.func14, Tryd.ntmps14
    go_wp2_with fail
    go_loop [3, 4] (fun x i => ∃ (k : Nat) (t : Int), k ≤ n ∧ i = .int .i64 (k : Int) ∧ x = .int .i64 t) (fun _ i => n - (intOf i).toNat)
    case atStart => exact ⟨0, 0, Nat.zero_le _, rfl, rfl⟩
    case round =>
      obtain ⟨k, t, hk, rfl, rfl⟩ := hrel
      by_cases hlt : k < n
      · obtain ⟨b, off, ai, ci, e, h1, _⟩ := HR.out.at_ (i := k) (by rw [HN.out]; exact hlt)
        subst e
        generalize (rs.getD k []).length = rl at *
        go_wp2_with fail
        go_round
        case rel => exact ⟨k + 1, _, by omega, by go_num, rfl⟩
        case measure => simp [intOf]; omega
      · have hk' : k = n := by omega
        subst hk'
        have e : fewB rs = false := by unfold fewB; rw [HN.out]; simp; omega
        have HE := Lib.hid e
        clear e
        have d1 : decide ((k : Int) ≤ 100) = false := by simp; omega
        go_wp2_with fail
        go_ret
        exact ⟨ret_val (by rw [HE.out]; rfl), rfl⟩
theorem rows_ext {xs rs : List (List Nat)} (hl : xs.length = rs.length) (h : ∀ i, i < rs.length → xs.getD i [] = rs.getD i []) : xs = rs := by
  apply List.ext_getElem hl
  intro i h1 h2
  have := h i h2
  rw [List.getD_eq_getElem?_getD, List.getD_eq_getElem?_getD, List.getElem?_eq_getElem h1, List.getElem?_eq_getElem h2] at this
  exact this
set_option maxRecDepth 100000 in
set_option maxHeartbeats 2000000 in
theorem same_any (a c : Option Addr) (n m cap cap2 : Nat) (xs rs : List (List Nat)) (w : World) (Ok Ok2 : Nat → Prop) (hn : xs.length = n) (hm : rs.length = m) (hn2 : n ≤ 9223372036854775807) (hm2 : m ≤ 9223372036854775807) (hX : RowsIn w a xs Ok) (hR : RowsIn w c rs Ok2) :
    Calls Tryd.prog 21 #[.slice a n cap, .slice c m cap2] w fun e w' => e = .returned (.bool (decide (xs = rs))) ∧ ∃ u, w' = w.drewN u := by
  have HN := Lib.hid hn
  have HM := Lib.hid hm
  have HX := Lib.hid hX
  have HR := Lib.hid hR
  clear hX hR
  by_cases hnm : n = m
  · subst hnm
    clear hn hm
    go_enter Tryd.func21, Tryd.ntmps21
    go_wp2_with fail
    go_loopw [5] (fun i wr => ∃ (k u : Nat), k ≤ n ∧ i = .int .i64 (k : Int) ∧ wr = w.drewN u ∧ Hid (∀ i, i < k → xs.getD i [] = rs.getD i [])) (fun i _ => n - (intOf i).toNat)
    case atStart => exact ⟨0, 0, Nat.zero_le _, rfl, rfl, fun i hi => by omega⟩
    case round =>
      obtain ⟨k, u, hk, rfl, rfl, hI⟩ := hrel
      by_cases hlt : k < n
      · obtain ⟨b, off, ai, ci, e, h1, h2, h3, h4, h5, _⟩ := HX.out.at_ (i := k) (by rw [HN.out]; exact hlt)
        subst e
        obtain ⟨b', off', ai', ci', e, h1', h2', h3', h4', h5', _⟩ := HR.out.at_ (i := k) (by rw [HM.out]; exact hlt)
        subst e
        have hc1 := fun x : Nat => conv_str (w.drewN x) ai _ ci (xs.getD k []) rfl (h4.drewN x)
        have hc2 := fun x : Nat => conv_str (w.drewN x) ai' _ ci' (rs.getD k []) rfl (h4'.drewN x)
        have H5 := Lib.hid h5
        have H5' := Lib.hid h5'
        have hki : (k : Int) < (n : Int) := by omega
        obtain ⟨r1, hr1⟩ : ∃ r1, r1 = xs.getD k [] := ⟨_, rfl⟩
        obtain ⟨r2, hr2⟩ : ∃ r2, r2 = rs.getD k [] := ⟨_, rfl⟩
        rw [← hr1] at h1 hc1 H5
        rw [← hr2] at h1' hc2 H5'
        have HR1 := Lib.hid hr1
        have HR2 := Lib.hid hr2
        clear h2 h3 h4 h5 h2' h3' h4' h5' hr1 hr2
        by_cases heq : r1 = r2
        · subst heq
          go_wp2_with fail
          go_quiet (fail)
          have hI2 : Hid (∀ i, i < k + 1 → xs.getD i [] = rs.getD i []) := fun i hi => by
            rcases Nat.lt_or_ge i k with h | h
            · exact hI.out i h
            · obtain rfl : i = k := by omega
              rw [← HR1.out, ← HR2.out]
          clear hI hc1 hc2
          go_wp2_with fail
          exact ⟨⟨k + 1, u + nq, by omega, by go_num, rfl, hI2⟩, by simp [intOf]; omega⟩
        · have hne : strB r1 ≠ strB r2 := fun e => heq (strB_inj H5.out H5'.out e)
          have e : decide (xs = rs) = false := by
            apply decide_eq_false
            intro e
            exact heq (by rw [HR1.out, HR2.out, e])
          have HE := Lib.hid e
          have hnb : (!(strB r1).toList == (strB r2).toList) = true := by
            rw [ByteArray.toList_eq, ByteArray.toList_eq, Bool.not_eq_true']
            rw [beq_eq_false_iff_ne]
            exact fun e => hne (by
              cases h1 : strB r1; cases h2 : strB r2
              rw [h1, h2] at e
              simp only at e
              rw [Array.toList_inj.1 e])
          clear e hne
          go_wp2_with fail
          go_quiet (fail)
          go_wp2_with fail
          go_ret
          exact ⟨ret_val (by rw [HE.out]; rfl), u + nq, by rw [World.drewN_drewN]⟩
      · have hk' : k = n := by omega
        subst hk'
        have e : xs = rs := rows_ext (by rw [HN.out, HM.out]) (fun i hi => hI.out i (by rw [HM.out] at hi; exact hi))
        have HE := Lib.hid e
        clear e
        go_wp2_with fail
        go_ret
        exact ⟨ret_val (by rw [decide_eq_true HE.out]; rfl), u, rfl⟩
  · have e : decide (xs = rs) = false := by
      apply decide_eq_false
      intro e
      rw [e, hm] at hn
      exact hnm hn.symm
    have HE := Lib.hid e
    have d : ((n : Int) != (m : Int)) = true := by rw [bne_iff_ne]; omega
    clear hn hm e
    go_enter Tryd.func21, Tryd.ntmps21
    go_wp2_with fail
    go_ret
    exact ⟨ret_val (by rw [HE.out]; rfl), 0, rfl⟩
end Go.Proofs.YtbkiahnljklhpaaDoor
