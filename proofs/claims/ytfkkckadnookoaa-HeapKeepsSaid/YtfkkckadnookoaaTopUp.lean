/- container/heap: up, down. -/
import Derived.Test.YtfkkckadnookoaaTopPush
import Derived.Test.YtfkkckadnookoaaTopMeth
import Derived.IntWalk
namespace Go.Proofs.Ytfkkckadnookoaa
open Go.RowKit
open Seal
section
variable {w : World} {p : Nat} {m c s : Int} {v : Value} {d : List Rk}
theorem RM.then {F : Nat → Prop} {w w1 w2 : World} (h : RM F w w1) (h2 : RM F w1 w2) : RM F w w2 := h.trans h2 fun _ _ e => e
set_option maxRecDepth 100000 in
set_option maxHeartbeats 4000000 in
theorem up_any (j0 : Nat) (h : PileAt w p m c s v d) (hj0 : j0 < d.length) (hu : Top.Up cf d j0) (hlim : d.length ≤ 1000000) :
    Calls Try.prog 36 #[.iface 56 (.pointer (some ⟨p, 1, none⟩)), .int .i64 j0] w fun e w' => e = .returned (.tuple #[]) ∧ ∃ d', PileAt w' p m c s v d' ∧ d'.Perm d ∧ Top.Heap cf d' d'.length ∧ RM (PF p v) w w' := by
  have HL := Lib.hid hlim
  have HP0 := Lib.hid h
  have HU0 := Lib.hid hu
  have HJ0 := Lib.hid hj0
  clear h hu hlim hj0
  go_enter Try.func36, Try.ntmps36
  go_wp2
  go_loopw [1] (fun jj wr => ∃ (j : Nat) (e : List Rk), jj = .int .i64 j ∧ Hid (j < e.length) ∧ Hid (PileAt wr p m c s v e) ∧ Hid (e.Perm d) ∧ Hid (Top.Up cf e j) ∧ Hid (RM (PF p v) w wr)) (fun jj _ => (intOf jj).toNat)
  case atStart => exact ⟨j0, d, rfl, HJ0.out, HP0.out, List.Perm.refl _, HU0.out, RM.refl _ _⟩
  case round =>
    obtain ⟨j, e, rfl, HJ, HP, HE, HU, HR⟩ := hrel
    have hj63 : j ≤ 1000000 := by have := HJ.out; have := HE.out.length_eq; have := HL.out; omega
    rcases Nat.eq_zero_or_pos j with rfl | hpos
    · have HH := Lib.hid (HU.out.done HJ.out (.inl rfl))
      go_wp2
      go_end0
      exact ⟨rfl, e, HP.out, HE.out, HH.out, HR.out⟩
    · obtain ⟨k, rfl⟩ : ∃ k, j = k + 1 := ⟨j - 1, by omega⟩
      obtain ⟨q, hq0⟩ : ∃ q, q = Top.par (k + 1) := ⟨_, rfl⟩
      have hq1 : q = k / 2 := hq0
      have HQ := Lib.hid hq0
      have hqk : q < k + 1 := by omega
      have hjl := HJ.out
      have hql : q < e.length := by omega
      have hq : (k : Int) / 2 = (q : Int) := by omega
      have hne : ((q : Int) == (k : Int) + 1) = false := by rw [beq_eq_false_iff_ne]; omega
      have hm := meth_less ⟨p, 1, none⟩ v wr HP.out.cells.2.1
      have CL : Hid (Calls Try.prog 71 #[v, .int .i64 ((k : Int) + 1), .int .i64 (q : Int)] wr fun r w' => r = .returned (.bool (decide (cf e[k + 1] e[q] > 0))) ∧ Below wr.heap.size wr w') := less_any HP.out (k + 1) q hjl hql
      clear hq0 hq1
      by_cases hc : cf e[k + 1] e[q] > 0
      · have hd : decide (cf e[k + 1] e[q] > 0) = true := by simpa using hc
        rw [hd] at CL
        have HN : Hid (Top.Up cf (Top.swp e q (k + 1) hql hjl) q) := by
          have hQ := HQ.out
          subst hQ
          exact HU.out.next cf_cmp hjl (by omega) hc
        have HS : Hid (∀ w2, PileAt w2 p m c s v e → Calls Try.prog 72 #[v, .int .i64 (q : Int), .int .i64 ((k : Int) + 1)] w2 fun r w' => r = .returned (.tuple #[]) ∧ PileAt w' p m c s v (Top.swp e q (k + 1) hql hjl) ∧ RM (PF p v) w2 w') := fun w2 h2 => swap_any h2 q (k + 1) hql hjl
        clear hd hc
        go_wp2_with fail
        go_at_call 71
        refine CL.out.mono ?_
        rintro r w2 ⟨rfl, hb⟩
        have HP2 := Lib.hid (HP.out.keep hb)
        have HR2 : Hid (RM (PF p v) w w2) := HR.out.then (RM.of_below hb)
        have hm2 := meth_swap ⟨p, 1, none⟩ v w2 HP2.out.cells.2.1
        clear hm hb CL
        go_wp2_with fail
        go_at_call 72
        refine (HS.out w2 HP2.out).mono ?_
        rintro r w3 ⟨rfl, hP3, hR3⟩
        have HP3 := Lib.hid hP3
        have HR3 : Hid (RM (PF p v) w w3) := HR2.out.then hR3
        have HL3 : Hid (q < (Top.swp e q (k + 1) hql hjl).length) := by unfold Hid; rw [Top.swp_length]; exact hql
        have HE3 : Hid ((Top.swp e q (k + 1) hql hjl).Perm d) := (Top.swp_perm e q (k + 1) hql hjl).trans HE.out
        clear hm2 hP3 hR3 HS
        generalize Top.swp e q (k + 1) hql hjl = e3 at HP3 HL3 HE3 HN
        go_wp2
        go_roundw
        case rel => exact ⟨q, e3, rfl, HL3.out, HP3.out, HE3.out, HN.out, HR3.out⟩
        case measure => simp [intOf]; omega
      · have hd : decide (cf e[k + 1] e[q] > 0) = false := by simpa using hc
        rw [hd] at CL
        have HH : Hid (Top.Heap cf e e.length) := by
          have hQ := HQ.out
          subst hQ
          exact HU.out.done hjl (.inr (by omega))
        clear hd hc
        go_wp2_with fail
        go_at_call 71
        refine CL.out.mono ?_
        rintro r w2 ⟨rfl, hb⟩
        have HP2 := Lib.hid (HP.out.keep hb)
        have HR2 : Hid (RM (PF p v) w w2) := HR.out.then (RM.of_below hb)
        clear hm hb CL
        go_wp2
        go_end0
        exact ⟨rfl, e, HP2.out, HE.out, HH.out, HR2.out⟩
end
end Go.Proofs.Ytfkkckadnookoaa
