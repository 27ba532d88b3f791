/- container/heap.down, heap.Push, heap.Pop. -/
import Derived.Test.YtfkkckadnookoaaTopUp
namespace Go.Proofs.Ytfkkckadnookoaa
open Go.RowKit
open Seal
section
variable {w : World} {p : Nat} {m c s : Int} {v : Value} {d : List Rk}
set_option maxRecDepth 100000 in
set_option maxHeartbeats 8000000 in
theorem down_any (i0 n : Nat) (h : PileAt w p m c s v d) (hi0 : i0 < d.length) (hn : n ≤ d.length) (hu : Top.Down cf d i0 n) (hlim : d.length ≤ 1000000) :
    Calls Try.prog 35 #[.iface 56 (.pointer (some ⟨p, 1, none⟩)), .int .i64 i0, .int .i64 n] w fun e w' => ∃ b d', e = .returned (.bool b) ∧ PileAt w' p m c s v d' ∧ d'.Perm d ∧ Top.Heap cf d' n ∧ (∀ k, n ≤ k → d'[k]? = d[k]?) ∧ RM (PF p v) w w' := by
  have HL := Lib.hid hlim
  have HP0 := Lib.hid h
  have HU0 := Lib.hid hu
  have HJ0 := Lib.hid hi0
  have HN0 := Lib.hid hn
  have hn63 : n ≤ 1000000 := by omega
  clear h hu hlim hi0 hn
  go_enter Try.func35, Try.ntmps35
  go_wp2_with fail
  go_loopw [7] (fun jj wr => ∃ (i : Nat) (e : List Rk), jj = .int .i64 i ∧ Hid (i < e.length) ∧ Hid (n ≤ e.length) ∧ Hid (PileAt wr p m c s v e) ∧ Hid (e.Perm d) ∧ Hid (∀ k, n ≤ k → e[k]? = d[k]?) ∧ Hid (Top.Down cf e i n) ∧ Hid (RM (PF p v) w wr)) (fun jj _ => 2000000 - (intOf jj).toNat)
  case atStart => exact ⟨i0, d, rfl, HJ0.out, HN0.out, HP0.out, List.Perm.refl _, fun _ _ => rfl, HU0.out, RM.refl _ _⟩
  case round =>
    obtain ⟨i, e, rfl, HI, HNL, HP, HE, HK, HD, HR⟩ := hrel
    have hil := HI.out
    have hnl := HNL.out
    have hi63 : i < 1000000 := by have := HE.out.length_eq; have := HL.out; omega
    obtain ⟨a, ha⟩ : ∃ a, a = 2 * i + 1 := ⟨_, rfl⟩
    obtain ⟨b, hb0⟩ : ∃ b, b = 2 * i + 2 := ⟨_, rfl⟩
    have ha1 : 2 * (i : Int) + 1 = (a : Int) := by omega
    have hb1 : (a : Int) + 1 = (b : Int) := by omega
    have ha63 : a < 2000001 := by omega
    have HA := Lib.hid ha
    have HB := Lib.hid hb0
    by_cases h1 : a < n
    · have h1' : ¬ (n : Int) ≤ (a : Int) := by omega
      have h1'' : ¬ (a : Int) < 0 := by omega
      by_cases h2 : b < n
      · have h2' : (b : Int) < (n : Int) := by omega
        have hal : a < e.length := by omega
        have hbl : b < e.length := by omega
        have CL0 : Hid (Calls Try.prog 71 #[v, .int .i64 (b : Int), .int .i64 (a : Int)] wr fun r w' => r = .returned (.bool (decide (cf e[b] e[a] > 0))) ∧ Below wr.heap.size wr w') := less_any HP.out b a hbl hal
        have hm0 := meth_less ⟨p, 1, none⟩ v wr HP.out.cells.2.1
        have hca := cf_cmp.anti e[b] e[a]
        by_cases hq : cf e[b] e[a] > 0
        · have hd0 : decide (cf e[b] e[a] > 0) = true := by simpa using hq
          rw [hd0] at CL0
          have hJl : b < e.length := by omega
          have hJn : b < n := by omega
          have hJ0 : 0 < b := by omega
          have hJp : Top.par b = i := by unfold Top.par; omega
          have HG : Hid (∀ k (hk : k < e.length), k < n → 0 < k → Top.par k = i → cf e[k] e[b] ≤ 0) := fun k hk hkn hk0 hkp => by
            have hkk : k = a ∨ k = b := by unfold Top.par at hkp; omega
            rcases hkk with rfl | rfl
            · omega
            · exact Int.le_of_eq (cf_cmp.refl _)
          clear hq hca hd0 ha hb0
          go_wp2_with fail
          go_at_call 71
          refine CL0.out.mono ?_
          rintro r w3 ⟨rfl, hb⟩
          have HPc := Lib.hid (HP.out.keep hb)
          have HRc : Hid (RM (PF p v) w w3) := HR.out.then (RM.of_below hb)
          clear hm0 hb CL0 HP HR
          have CL : Hid (Calls Try.prog 71 #[v, .int .i64 (b : Int), .int .i64 (i : Int)] w3 fun r w' => r = .returned (.bool (decide (cf e[b] e[i] > 0))) ∧ Below w3.heap.size w3 w') := less_any HPc.out b i hJl hil
          have hmc := meth_less ⟨p, 1, none⟩ v w3 HPc.out.cells.2.1
          by_cases hc : cf e[b] e[i] > 0
          · have hd : decide (cf e[b] e[i] > 0) = true := by simpa using hc
            rw [hd] at CL
            have HN : Hid (Top.Down cf (Top.swp e i b hil hJl) b n) := HD.out.next cf_cmp hil hJl hJn hJ0 hJp HG.out hc
            have HS : Hid (∀ w2, PileAt w2 p m c s v e → Calls Try.prog 72 #[v, .int .i64 (i : Int), .int .i64 (b : Int)] w2 fun r w' => r = .returned (.tuple #[]) ∧ PileAt w' p m c s v (Top.swp e i b hil hJl) ∧ RM (PF p v) w2 w') := fun w2 h2 => swap_any h2 i b hil hJl
            clear hd hc HG
            go_wp2_with fail
            go_at_call 71
            refine CL.out.mono ?_
            rintro r w4 ⟨rfl, hb⟩
            have HP4 := Lib.hid (HPc.out.keep hb)
            have HR4 : Hid (RM (PF p v) w w4) := HRc.out.then (RM.of_below hb)
            have hm4 := meth_swap ⟨p, 1, none⟩ v w4 HP4.out.cells.2.1
            clear hmc hb CL HPc HRc
            go_wp2_with fail
            go_at_call 72
            refine (HS.out w4 HP4.out).mono ?_
            rintro r w5 ⟨rfl, hP5, hR5⟩
            have HP5 := Lib.hid hP5
            have HR5 : Hid (RM (PF p v) w w5) := HR4.out.then hR5
            have HL5 : Hid (b < (Top.swp e i b hil hJl).length ∧ n ≤ (Top.swp e i b hil hJl).length) := by unfold Hid; rw [Top.swp_length]; exact ⟨hJl, hnl⟩
            have HE5 : Hid ((Top.swp e i b hil hJl).Perm d) := (Top.swp_perm e i b hil hJl).trans HE.out
            have HK5 : Hid (∀ k, n ≤ k → (Top.swp e i b hil hJl)[k]? = d[k]?) := fun k hk => by rw [Top.swp_get?, if_neg (by omega), if_neg (by omega)]; exact HK.out k hk
            clear hm4 hP5 hR5 HS
            generalize Top.swp e i b hil hJl = e5 at HP5 HL5 HE5 HK5 HN
            go_wp2_with fail
            go_roundw
            case rel => exact ⟨b, e5, rfl, HL5.out.1, HL5.out.2, HP5.out, HE5.out, HK5.out, HN.out, HR5.out⟩
            case measure => simp [intOf]; omega
          · have hd : decide (cf e[b] e[i] > 0) = false := by simpa using hc
            rw [hd] at CL
            have HH : Hid (Top.Heap cf e n) := HD.out.done cf_cmp hJl hil HG.out (by omega)
            clear hd hc
            go_wp2_with fail
            go_at_call 71
            refine CL.out.mono ?_
            rintro r w4 ⟨rfl, hb⟩
            have HP4 := Lib.hid (HPc.out.keep hb)
            have HR4 : Hid (RM (PF p v) w w4) := HRc.out.then (RM.of_below hb)
            clear hmc hb CL HPc HRc
            go_wp2_with fail
            go_ret
            exact ⟨_, e, rfl, HP4.out, HE.out, HH.out, HK.out, HR4.out⟩
        · have hd0 : decide (cf e[b] e[a] > 0) = false := by simpa using hq
          rw [hd0] at CL0
          have hJl : a < e.length := by omega
          have hJn : a < n := by omega
          have hJ0 : 0 < a := by omega
          have hJp : Top.par a = i := by unfold Top.par; omega
          have HG : Hid (∀ k (hk : k < e.length), k < n → 0 < k → Top.par k = i → cf e[k] e[a] ≤ 0) := fun k hk hkn hk0 hkp => by
            have hkk : k = a ∨ k = b := by unfold Top.par at hkp; omega
            rcases hkk with rfl | rfl
            · exact Int.le_of_eq (cf_cmp.refl _)
            · omega
          clear hq hca hd0 ha hb0
          go_wp2_with fail
          go_at_call 71
          refine CL0.out.mono ?_
          rintro r w3 ⟨rfl, hb⟩
          have HPc := Lib.hid (HP.out.keep hb)
          have HRc : Hid (RM (PF p v) w w3) := HR.out.then (RM.of_below hb)
          clear hm0 hb CL0 HP HR
          have CL : Hid (Calls Try.prog 71 #[v, .int .i64 (a : Int), .int .i64 (i : Int)] w3 fun r w' => r = .returned (.bool (decide (cf e[a] e[i] > 0))) ∧ Below w3.heap.size w3 w') := less_any HPc.out a i hJl hil
          have hmc := meth_less ⟨p, 1, none⟩ v w3 HPc.out.cells.2.1
          by_cases hc : cf e[a] e[i] > 0
          · have hd : decide (cf e[a] e[i] > 0) = true := by simpa using hc
            rw [hd] at CL
            have HN : Hid (Top.Down cf (Top.swp e i a hil hJl) a n) := HD.out.next cf_cmp hil hJl hJn hJ0 hJp HG.out hc
            have HS : Hid (∀ w2, PileAt w2 p m c s v e → Calls Try.prog 72 #[v, .int .i64 (i : Int), .int .i64 (a : Int)] w2 fun r w' => r = .returned (.tuple #[]) ∧ PileAt w' p m c s v (Top.swp e i a hil hJl) ∧ RM (PF p v) w2 w') := fun w2 h2 => swap_any h2 i a hil hJl
            clear hd hc HG
            go_wp2_with fail
            go_at_call 71
            refine CL.out.mono ?_
            rintro r w4 ⟨rfl, hb⟩
            have HP4 := Lib.hid (HPc.out.keep hb)
            have HR4 : Hid (RM (PF p v) w w4) := HRc.out.then (RM.of_below hb)
            have hm4 := meth_swap ⟨p, 1, none⟩ v w4 HP4.out.cells.2.1
            clear hmc hb CL HPc HRc
            go_wp2_with fail
            go_at_call 72
            refine (HS.out w4 HP4.out).mono ?_
            rintro r w5 ⟨rfl, hP5, hR5⟩
            have HP5 := Lib.hid hP5
            have HR5 : Hid (RM (PF p v) w w5) := HR4.out.then hR5
            have HL5 : Hid (a < (Top.swp e i a hil hJl).length ∧ n ≤ (Top.swp e i a hil hJl).length) := by unfold Hid; rw [Top.swp_length]; exact ⟨hJl, hnl⟩
            have HE5 : Hid ((Top.swp e i a hil hJl).Perm d) := (Top.swp_perm e i a hil hJl).trans HE.out
            have HK5 : Hid (∀ k, n ≤ k → (Top.swp e i a hil hJl)[k]? = d[k]?) := fun k hk => by rw [Top.swp_get?, if_neg (by omega), if_neg (by omega)]; exact HK.out k hk
            clear hm4 hP5 hR5 HS
            generalize Top.swp e i a hil hJl = e5 at HP5 HL5 HE5 HK5 HN
            go_wp2_with fail
            go_roundw
            case rel => exact ⟨a, e5, rfl, HL5.out.1, HL5.out.2, HP5.out, HE5.out, HK5.out, HN.out, HR5.out⟩
            case measure => simp [intOf]; omega
          · have hd : decide (cf e[a] e[i] > 0) = false := by simpa using hc
            rw [hd] at CL
            have HH : Hid (Top.Heap cf e n) := HD.out.done cf_cmp hJl hil HG.out (by omega)
            clear hd hc
            go_wp2_with fail
            go_at_call 71
            refine CL.out.mono ?_
            rintro r w4 ⟨rfl, hb⟩
            have HP4 := Lib.hid (HPc.out.keep hb)
            have HR4 : Hid (RM (PF p v) w w4) := HRc.out.then (RM.of_below hb)
            clear hmc hb CL HPc HRc
            go_wp2_with fail
            go_ret
            exact ⟨_, e, rfl, HP4.out, HE.out, HH.out, HK.out, HR4.out⟩
      · have h2' : ¬ (b : Int) < (n : Int) := by omega
        have h2'' : decide ((b : Int) < (n : Int)) = false := by simpa using h2'
        have hJl : a < e.length := by omega
        have hJn : a < n := by omega
        have hJ0 : 0 < a := by omega
        have hJp : Top.par a = i := by unfold Top.par; omega
        have HG : Hid (∀ k (hk : k < e.length), k < n → 0 < k → Top.par k = i → cf e[k] e[a] ≤ 0) := fun k hk hkn hk0 hkp => by
          have hkk : k = a ∨ k = b := by unfold Top.par at hkp; omega
          rcases hkk with rfl | rfl
          · exact Int.le_of_eq (cf_cmp.refl _)
          · exact absurd hkn h2
        clear ha hb0
        have HPc := HP
        have HRc := HR
        clear HP HR

        have CL : Hid (Calls Try.prog 71 #[v, .int .i64 (a : Int), .int .i64 (i : Int)] wr fun r w' => r = .returned (.bool (decide (cf e[a] e[i] > 0))) ∧ Below wr.heap.size wr w') := less_any HPc.out a i hJl hil
        have hmc := meth_less ⟨p, 1, none⟩ v wr HPc.out.cells.2.1
        by_cases hc : cf e[a] e[i] > 0
        · have hd : decide (cf e[a] e[i] > 0) = true := by simpa using hc
          rw [hd] at CL
          have HN : Hid (Top.Down cf (Top.swp e i a hil hJl) a n) := HD.out.next cf_cmp hil hJl hJn hJ0 hJp HG.out hc
          have HS : Hid (∀ w2, PileAt w2 p m c s v e → Calls Try.prog 72 #[v, .int .i64 (i : Int), .int .i64 (a : Int)] w2 fun r w' => r = .returned (.tuple #[]) ∧ PileAt w' p m c s v (Top.swp e i a hil hJl) ∧ RM (PF p v) w2 w') := fun w2 h2 => swap_any h2 i a hil hJl
          clear hd hc HG
          go_wp2_with fail
          go_at_call 71
          refine CL.out.mono ?_
          rintro r w4 ⟨rfl, hb⟩
          have HP4 := Lib.hid (HPc.out.keep hb)
          have HR4 : Hid (RM (PF p v) w w4) := HRc.out.then (RM.of_below hb)
          have hm4 := meth_swap ⟨p, 1, none⟩ v w4 HP4.out.cells.2.1
          clear hmc hb CL HPc HRc
          go_wp2_with fail
          go_at_call 72
          refine (HS.out w4 HP4.out).mono ?_
          rintro r w5 ⟨rfl, hP5, hR5⟩
          have HP5 := Lib.hid hP5
          have HR5 : Hid (RM (PF p v) w w5) := HR4.out.then hR5
          have HL5 : Hid (a < (Top.swp e i a hil hJl).length ∧ n ≤ (Top.swp e i a hil hJl).length) := by unfold Hid; rw [Top.swp_length]; exact ⟨hJl, hnl⟩
          have HE5 : Hid ((Top.swp e i a hil hJl).Perm d) := (Top.swp_perm e i a hil hJl).trans HE.out
          have HK5 : Hid (∀ k, n ≤ k → (Top.swp e i a hil hJl)[k]? = d[k]?) := fun k hk => by rw [Top.swp_get?, if_neg (by omega), if_neg (by omega)]; exact HK.out k hk
          clear hm4 hP5 hR5 HS
          generalize Top.swp e i a hil hJl = e5 at HP5 HL5 HE5 HK5 HN
          go_wp2_with fail
          go_roundw
          case rel => exact ⟨a, e5, rfl, HL5.out.1, HL5.out.2, HP5.out, HE5.out, HK5.out, HN.out, HR5.out⟩
          case measure => simp [intOf]; omega
        · have hd : decide (cf e[a] e[i] > 0) = false := by simpa using hc
          rw [hd] at CL
          have HH : Hid (Top.Heap cf e n) := HD.out.done cf_cmp hJl hil HG.out (by omega)
          clear hd hc
          go_wp2_with fail
          go_at_call 71
          refine CL.out.mono ?_
          rintro r w4 ⟨rfl, hb⟩
          have HP4 := Lib.hid (HPc.out.keep hb)
          have HR4 : Hid (RM (PF p v) w w4) := HRc.out.then (RM.of_below hb)
          clear hmc hb CL HPc HRc
          go_wp2_with fail
          go_ret
          exact ⟨_, e, rfl, HP4.out, HE.out, HH.out, HK.out, HR4.out⟩
    · have h1' : (n : Int) ≤ (a : Int) := by omega
      have HH : Hid (Top.Heap cf e n) := HD.out.leaf (by omega)
      clear ha hb0
      go_wp2_with fail
      go_ret
      exact ⟨_, e, rfl, HP.out, HE.out, HH.out, HK.out, HR.out⟩
end
end Go.Proofs.Ytfkkckadnookoaa
