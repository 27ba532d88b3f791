/- aqueductlaw13.HeapTies. -/
import Derived.Test.YtfkkckadnookoaaTopMade
import Derived.IntWalk
namespace Go.Proofs.Ytfkkckadnookoaa
open Go.RowKit
open Seal
def tie (j : Nat) : List Nat × List Nat := ([107], [j])
def ties (q : Nat) : List (List Nat × List Nat) := (List.range q).map tie
theorem ties_length (q : Nat) : (ties q).length = q := by simp [ties]
theorem ties_succ (q : Nat) : ties (q + 1) = ties q ++ [tie q] := by simp [ties, List.range_succ]
theorem ties_get (q i : Nat) (h : i < (ties q).length) : (ties q)[i] = tie i := by simp [ties]
theorem ck_tie (i j : Nat) : ck (tie i) (tie j) = 0 := rfl
theorem mem_ties {q : Nat} {y : List Nat × List Nat} (h : y ∈ ties q) : ∃ j, y = tie j := by
  obtain ⟨j, _, rfl⟩ := List.mem_map.1 h
  exact ⟨j, rfl⟩
theorem getLast_ties {q : Nat} {y : List Nat × List Nat} (h : (ties q).getLast? = some y) : ∃ j, y = tie j := mem_ties (List.mem_of_getLast? h)
theorem tie_step (m i : Nat) : Top.takes ck m (tie i) (ties (min m i)) = decide (i < m) ∧ Top.nxt ck m (tie i) (ties (min m i)) = ties (min m (i + 1)) := by
  have hany : ((ties (min m i)).getLast?.any fun y => decide (ck (tie i) y < 0)) = false := by
    cases hl : (ties (min m i)).getLast? with
    | none => rfl
    | some y =>
      obtain ⟨j, rfl⟩ := getLast_ties hl
      rfl
  unfold Top.takes Top.nxt
  rw [hany, ties_length, Bool.or_false]
  by_cases h : i < m
  · have e : min m i = i := by omega
    have e2 : min m (i + 1) = i + 1 := by omega
    rw [e, e2, if_pos h]
    refine ⟨rfl, ?_⟩
    have := Top.ins_at (c := ck) (tie i) (ties i) [] (fun a ha => by
      obtain ⟨j, rfl⟩ := mem_ties ha
      exact Int.le_of_eq (ck_tie j i)) (fun b hb => by cases hb)
    rw [List.append_nil] at this
    rw [this, ties_succ]
  · have e : min m i = m := by omega
    have e2 : min m (i + 1) = m := by omega
    rw [e, e2, if_neg (by omega), if_neg (by simp)]
    exact ⟨by rw [decide_eq_decide]; omega, rfl⟩
def jot : List Nat × List Nat := ([106], [99])
theorem ck_jot (j : Nat) : ck jot (tie j) = -1 := rfl
theorem ins_jot : ∀ q, Top.ins ck jot (ties q) = jot :: ties q := fun q => by
  have := Top.ins_at (c := ck) jot [] (ties q) (fun a ha => by cases ha) (fun b hb => by
    obtain ⟨j, rfl⟩ := mem_ties (List.mem_of_head? hb)
    have h := ck_cmp.anti (tie j) jot
    rw [ck_jot] at h; omega)
  exact this
theorem jot_step (m n : Nat) (hm : 0 < m) : Top.takes ck m jot (ties (min m n)) = true ∧ Top.nxt ck m jot (ties (min m n)) = jot :: ties (min m (n + 1) - 1) := by
  unfold Top.takes Top.nxt
  rw [ties_length]
  by_cases h : min m n < m
  · rw [if_pos h, ins_jot, show min m n = n by omega, show min m (n + 1) - 1 = n by omega]
    exact ⟨by rw [show decide (n < m) = true by simp; omega]; rfl, rfl⟩
  · have e : min m n = (m - 1) + 1 := by omega
    have hl : (ties (min m n)).getLast? = some (tie (m - 1)) := by rw [e, ties_succ]; simp
    have hany : ((ties (min m n)).getLast?.any fun y => decide (ck jot y < 0)) = true := by rw [hl]; rfl
    rw [hany, Bool.or_true, if_neg h, if_pos rfl, e, ties_succ, List.dropLast_concat, ins_jot, show min m (n + 1) - 1 = m - 1 by omega]
    exact ⟨rfl, rfl⟩
theorem jot_none (n : Nat) : Top.takes ck 0 jot (ties (min 0 n)) = false ∧ Top.nxt ck 0 jot (ties (min 0 n)) = [] := by
  rw [Nat.zero_min]
  exact ⟨rfl, rfl⟩
/-- A slice of one byte. -/
theorem SlQ.one {w : World} {Q : Nat → Prop} {v : Value} {b : Nat} (h : SlQ w Q v [b]) : ∃ g o c, v = .slice (some ⟨g, o, none⟩) 1 c ∧ w.cell? ⟨g, o, none⟩ = some (.int .u8 (b : Int)) := by
  obtain ⟨a, c, e, _, hr⟩ := h.shp
  rcases hr with hr | ⟨g, o, rfl, _, hr⟩
  · cases hr
  · exact ⟨g, o, c, e, hr 0 (by simp)⟩
set_option maxRecDepth 100000 in
set_option maxHeartbeats 8000000 in
theorem ties13_any (y0 y1 : Nat) (w : World) (h0 : y0 < 256) (h1 : y1 < 256) :
    Calls Try.prog 4 #[.int .u8 (y0 : Int), .int .u8 (y1 : Int)] w fun e w' => e = .returned (.bool true) ∧ Below w.heap.size w w' := by
  have kc := fun (w : World) (C : Array Value) (n c : Nat) => Lib.run_convert_bytes_const (P := Try.prog) w 28 5 C n c Try.underlying28 Try.underlying5
  obtain ⟨m, hm⟩ : ∃ m, m = y0 % 12 := ⟨_, rfl⟩
  obtain ⟨n, hn⟩ : ∃ n, n = y1 % 30 := ⟨_, rfl⟩
  have hm1 : (y0 : Int) % 12 = (m : Int) := by omega
  have hn1 : (y1 : Int) % 30 = (n : Int) := by omega
  have hm2 : m < 12 := by omega
  have hn2 : n < 30 := by omega
  clear hm hn
  go_enter Try.func4, Try.ntmps4
  go_wp2_with fail
  go_at_call 6
  refine (awake13_any w).mono ?_
  rintro e1 w1 ⟨rfl, hw1⟩
  have HB1 := Lib.hid hw1
  clear hw1
  go_wp2_with fail
  go_at_call 8
  refine (new_any (m : Int) w1 (by omega)).mono ?_
  rintro e2 w2 ⟨rfl, hT2, hw2⟩
  rw [show (max (m : Int) 0).toNat = m by omega] at hT2
  have HT2 := Lib.hid hT2
  have HB2 : Hid (Below w.heap.size w w2) := HB1.out.trans (hw2.mono HB1.out.size)
  have HPa := Lib.hid HB1.out.size
  generalize w1.heap.size = p at HT2 HPa ⊢
  clear hT2 hw2 HB1
  go_upto_region 8 with fail
  simp only [hm1, hn1]
  clear hm1 hn1 h0 h1
  go_loopw [8] (fun ii wr => ∃ i : Nat, i ≤ n ∧ ii = .int .i64 i ∧ Hid (∃ v cn, cn ≤ i ∧ TopIs wr p v m cn (ties (min m i))) ∧ Hid (Below w.heap.size w wr)) (fun ii _ => n - (intOf ii).toNat)
  case atStart => exact ⟨0, Nat.zero_le _, rfl, ⟨_, 0, Nat.le_refl _, by rw [Nat.min_zero]; exact HT2.out⟩, HB2.out⟩
  case round =>
    obtain ⟨i, hi, rfl, HT, HB⟩ := hrel
    by_cases hlt : i < n
    · have hlt' : (i : Int) < (n : Int) := by omega
      obtain ⟨v, cn, hcn, hT⟩ := HT.out
      obtain ⟨ht, hL⟩ := tie_step m i
      have HA := Lib.hid (fun W2 hW => add_two hT (by omega) (by rw [ties_length]; omega) 107 i (by decide) (by omega) (1, 2) (0, 0) W2 hW ht hL)
      have hbne : ∀ b : Bool, (b != b) = false := fun b => by cases b <;> rfl
      have hdec : decide ((i : Int) < (m : Int)) = decide (i < m) := by rw [decide_eq_decide]; omega
      clear HT hT ht hL
      go_wp2_with fail
      go_at_call 9
      refine (HA.out _ rfl).mono ?_
      rintro e3 w3 ⟨rfl, v3, c3, hc3, hT3, hb3⟩
      have HT3 : Hid (∃ v cn, cn ≤ i + 1 ∧ TopIs w3 p v m cn (ties (min m (i + 1)))) := ⟨v3, c3, by omega, hT3⟩
      have HB3 : Hid (Below w.heap.size w w3) := HB.out.trans (hb3 _ HPa.out HB.out.size)
      clear hT3 hc3 hb3 HA
      by_cases him : i < m
      · have d1 : decide (i < m) = true := by simpa using him
        have d2 : decide ((i : Int) < (m : Int)) = true := by rw [hdec, d1]
        rw [d1]
        clear hdec him
        go_wp2_with fail
        go_roundw
        case rel => exact ⟨i + 1, by omega, by go_num, HT3.out, HB3.out⟩
        case measure => simp [intOf]; omega
      · have d1 : decide (i < m) = false := by simpa using him
        have d2 : decide ((i : Int) < (m : Int)) = false := by rw [hdec, d1]
        rw [d1]
        clear hdec him
        go_wp2_with fail
        go_roundw
        case rel => exact ⟨i + 1, by omega, by go_num, HT3.out, HB3.out⟩
        case measure => simp [intOf]; omega
    · obtain rfl : i = n := by omega
      clear HT2 HB2
      obtain ⟨v, cn, hcn, hT⟩ := HT.out
      have HTv := Lib.hid hT
      have HCN : Hid (cn ≤ 30) := by unfold Hid; omega
      obtain ⟨q, hq⟩ : ∃ q, q = min m i := ⟨_, rfl⟩
      rw [← hq] at HTv
      have hmin : min (m : Int) (i : Int) = (q : Int) := by omega
      have hq12 : q ≤ 12 := by omega
      have HQ := Lib.hid hq
      have HLI := Lib.hid (list_any HTv.out (by rw [ties_length]; omega))
      clear hT hcn hq HT
      go_wp2_with fail
      go_at_call 12
      refine HLI.out.mono ?_
      rintro e4 w4 ⟨v4, rfl, hL4, hb4⟩
      obtain ⟨g4, c4, rfl, _, _, _, hit⟩ := hL4
      have HT4 := Lib.hid (HTv.out.keep hb4)
      have HB4 : Hid (Below w.heap.size w w4) := HB.out.trans (hb4.mono HB.out.size)
      have HIT : Hid (∀ j, j < q → ∃ gd od cd, w4.cell? ⟨g4, j * 2 + 1, none⟩ = some (.slice (some ⟨gd, od, none⟩) 1 cd) ∧ w4.cell? ⟨gd, od, none⟩ = some (.int .u8 (j : Int))) := fun j hj => by
        obtain ⟨kv, dv, z0, z1, z2, z3⟩ := hit j (by rw [ties_length]; exact hj)
        rw [ties_get] at z3
        obtain ⟨gd, od, cd, rfl, z4⟩ := SlQ.one z3
        exact ⟨gd, od, cd, z1, z4⟩
      rw [ties_length]
      clear hit hb4 HLI HTv HB
      go_wp2_with fail
      go_loop [10] (fun jj => ∃ j : Nat, j ≤ q ∧ jj = .int .i64 j) (fun jj => q - (intOf jj).toNat)
      case atStart => exact ⟨0, Nat.zero_le _, rfl⟩
      case round =>
        obtain ⟨j, hj, rfl⟩ := hrel
        by_cases hjq : j < q
        · have hjq' : (j : Int) < (q : Int) := by omega
          obtain ⟨gd, od, cd, z1, z2⟩ := HIT.out j hjq
          have hjj : ((j : Int) != (j : Int)) = false := by simp
          go_wp2_with fail
          exact ⟨⟨j + 1, by omega, by go_num⟩, by simp [intOf]; omega⟩
        · obtain rfl : j = q := by omega
          clear HIT
          go_wp2_with fail
          go_at_call 9
          rcases Nat.eq_zero_or_pos m with rfl | hmp
          · obtain ⟨ht, hL⟩ := jot_none i
            rw [← HQ.out] at ht hL
            refine (add_two HT4.out (by have := HCN.out; omega) (by rw [ties_length]; omega) 106 99 (by decide) (by decide) (1, 2) (0, 0) _ rfl ht hL).mono ?_
            rintro e5 w5 ⟨rfl, v5, c5, hc5, hT5, hb5⟩
            have HLI := Lib.hid (list_any hT5 (by simp))
            have HB5 : Hid (Below w.heap.size w w5) := HB4.out.trans (hb5 _ HPa.out HB4.out.size)
            clear hT5 hc5 hb5 HT4 HB4 ht hL
            go_wp2_with fail
            go_at_call 12
            refine HLI.out.mono ?_
            rintro e6 w6 ⟨v6, rfl, hL6, hb6⟩
            obtain ⟨g6, c6, rfl, _⟩ := hL6
            have HB6 : Hid (Below w.heap.size w w6) := HB5.out.trans (hb6.mono HB5.out.size)
            clear hb6 HLI HB5
            simp only [List.length_nil]
            go_wp2_with fail
            go_ret
            exact ⟨rfl, HB6.out⟩
          · obtain ⟨ht, hL⟩ := jot_step m i hmp
            rw [← HQ.out] at ht hL
            refine (add_two HT4.out (by have := HCN.out; omega) (by rw [ties_length]; omega) 106 99 (by decide) (by decide) (1, 2) (0, 0) _ rfl ht hL).mono ?_
            rintro e5 w5 ⟨rfl, v5, c5, hc5, hT5, hb5⟩
            have HLI := Lib.hid (list_any hT5 (by rw [List.length_cons, ties_length]; omega))
            have HB5 : Hid (Below w.heap.size w w5) := HB4.out.trans (hb5 _ HPa.out HB4.out.size)
            clear hT5 hc5 hb5 HT4 HB4 ht hL
            obtain ⟨r, hr⟩ : ∃ r, r = min m (i + 1) - 1 := ⟨_, rfl⟩
            rw [← hr] at HLI
            have hmin2 : min (m : Int) ((i : Int) + 1) = (r : Int) + 1 := by omega
            have hm0 : ((m : Int) == 0) = false := by rw [beq_eq_false_iff_ne]; omega
            have hr12 : r < 12 := by omega
            clear hr
            go_wp2_with fail
            go_at_call 12
            refine HLI.out.mono ?_
            rintro e6 w6 ⟨v6, rfl, hL6, hb6⟩
            obtain ⟨g6, c6, rfl, _, _, _, hit⟩ := hL6
            have HB6 : Hid (Below w.heap.size w w6) := HB5.out.trans (hb6.mono HB5.out.size)
            obtain ⟨kv, dv, z0, z1, z2, z3⟩ := hit 0 (by simp)
            obtain ⟨gd, od, cd, rfl, z4⟩ := SlQ.one (b := 99) z3
            have z1' : w6.cell? ⟨g6, 1, none⟩ = some (.slice (some ⟨gd, od, none⟩) 1 cd) := z1
            have hlen : (jot :: ties r).length = r + 1 := by rw [List.length_cons, ties_length]
            have HLAST : Hid (∀ s, r = s + 1 → ∃ gd od cd, w6.cell? ⟨g6, (s + 1) * 2 + 1, none⟩ = some (.slice (some ⟨gd, od, none⟩) 1 cd) ∧ w6.cell? ⟨gd, od, none⟩ = some (.int .u8 (s : Int))) := fun s hs => by
              obtain ⟨kv, dv, y0, y1, y2, y3⟩ := hit (s + 1) (by rw [hlen]; omega)
              rw [List.getElem_cons_succ, ties_get] at y3
              obtain ⟨gd, od, cd, rfl, y4⟩ := SlQ.one y3
              exact ⟨gd, od, cd, y1, y4⟩
            rw [hlen]
            clear hb6 HLI HB5 hit z0 z1 z2 z3 hlen
            rcases Nat.eq_zero_or_pos r with rfl | hrp
            · clear HLAST
              go_wp2_with fail
              go_ret
              exact ⟨rfl, HB6.out⟩
            · obtain ⟨s, rfl⟩ : ∃ s, r = s + 1 := ⟨r - 1, by omega⟩
              obtain ⟨gd2, od2, cd2, y1, y2⟩ := HLAST.out s rfl
              have hs1 : ((s + 1 + 1 : Nat) : Int) - 1 = (s : Int) + 1 := by omega
              have hs2 : ((s + 1 + 1 : Nat) : Int) - 2 = (s : Int) := by omega
              have HV : Hid (((s : Int) + 1 + 1 == 1 || (s : Int) == (s : Int) + 1 + 1 - 2) = true) := by
                rw [show (s : Int) + 1 + 1 - 2 = (s : Int) by omega]
                unfold Hid; simp
              clear HLAST
              go_wp2_with fail
              go_ret
              exact ⟨congrArg (fun b => Ending.returned (.bool b)) HV.out, HB6.out⟩
theorem ties13_walk (y0 y1 : Nat) (w : World) (h0 : y0 < 256) (h1 : y1 < 256) :
    Calls Try.prog 4 #[.int .u8 (y0 : Int), .int .u8 (y1 : Int)] w fun e w' => e = .returned (.bool true) ∧ Below w.heap.size w w' := ties13_any y0 y1 w h0 h1
end Go.Proofs.Ytfkkckadnookoaa
