/- aqueductlaw13.Few, Ahead. -/
import Derived.Test.YtfkkckadnookoaaTopNoneWalk
import Derived.Test.YtfkkckadnookoaaTopItems
import Derived.IntWalk
namespace Go.Proofs.Ytfkkckadnookoaa
open Go.RowKit
open Seal
section
variable {w w' : World}
theorem Sl0.keep {v : Value} {l : List Nat} (h : Sl0 w v l) (hb : Below w.heap.size w w') : Sl0 w' v l := by
  obtain ⟨⟨a, c, e, hc, hs⟩, ho, hl⟩ := h
  refine ⟨⟨a, c, e, hc, ?_⟩, ho, hl⟩
  rcases hs with hs | ⟨b, off, rfl, hs⟩
  · exact .inl hs
  · exact .inr ⟨b, off, rfl, fun j hj => cell_keepW hb (hs j hj)⟩
theorem Sl0.sl {v : Value} {l : List Nat} (h : Sl0 w v l) (hl : l.length ≤ 10000) : SlQ w (fun g => g < w.heap.size) v l := by
  obtain ⟨a, c, rfl, hc, hs⟩ := h.shp
  exact sl_of hs hc h.oct hl
theorem ItemsA.keep {a : Option Addr} {L : List (List Nat × List Nat)} (h : ItemsA w a L) (hb : Below w.heap.size w w') : ItemsA w' a L := by
  rcases h with h | ⟨g, o, e, h⟩
  · exact .inl h
  · refine .inr ⟨g, o, e, fun i hi => ?_⟩
    obtain ⟨kv, dv, h1, h2, h3, h4⟩ := h i hi
    exact ⟨kv, dv, cell_keepW hb h1, cell_keepW hb h2, h3.keep hb, h4.keep hb⟩
end
/-- All bytes together. -/
def bytesOf (L : List (List Nat × List Nat)) : Nat := (L.map fun x => x.1.length + x.2.length).sum
theorem bytesOf_succ (L : List (List Nat × List Nat)) (i : Nat) (h : i < L.length) : bytesOf (L.take (i + 1)) = bytesOf (L.take i) + (L[i].1.length + L[i].2.length) := by
  unfold bytesOf
  rw [List.take_succ_eq_append_getElem h, List.map_append, List.sum_append_nat]; simp
theorem bytesOf_le (L : List (List Nat × List Nat)) (h : ∀ i (hi : i < L.length), L[i].1.length ≤ 140737488355328 ∧ L[i].2.length ≤ 140737488355328) : ∀ i, i ≤ L.length → bytesOf (L.take i) ≤ i * 281474976710656
  | 0, _ => by simp [bytesOf]
  | i + 1, hi => by
    have h1 := bytesOf_le L h i (by omega)
    have h2 := h i (by omega)
    rw [bytesOf_succ L i (by omega)]
    omega
set_option maxRecDepth 100000 in
set_option maxHeartbeats 4000000 in
theorem few13_any (a : Option Addr) (c : Nat) (L : List (List Nat × List Nat)) (w : World) (h : ItemsA w a L) (hc : L.length ≤ c) (hm : c ≤ 9223372036854775807) :
    Calls Try.prog 7 #[.slice a L.length c] w fun e w' => e = .returned (.bool (decide (L.length ≤ 200) && decide (bytesOf L ≤ 10000))) ∧ ∃ q, w' = w.drewN q := by
  obtain ⟨n, hn⟩ : ∃ n, n = L.length := ⟨_, rfl⟩
  have HA := Lib.hid h
  have HN := Lib.hid hn
  rw [← hn] at hc ⊢
  clear h hn
  go_enter Try.func7, Try.ntmps7
  go_wp2_with fail
  go_loopw [3, 4] (fun x ii wr => ∃ (i : Nat) (z : Int), i ≤ n ∧ ii = .int .i64 i ∧ x = .int .i64 z ∧ Hid (n ≤ 200 → z = (bytesOf (L.take i) : Int)) ∧ Hid (∃ q, wr = w.drewN q)) (fun _ ii _ => n - (intOf ii).toNat)
  case atStart => exact ⟨0, 0, Nat.zero_le _, rfl, rfl, fun _ => by simp [bytesOf], 0, rfl⟩
  case round =>
    obtain ⟨i, z, hi, rfl, rfl, HZ, HW⟩ := hrel
    by_cases hlt : i < n
    · have hlt' : (i : Int) < (n : Int) := by omega
      have hiL : i < L.length := by rw [← HN.out]; exact hlt
      obtain ⟨g, o, rfl, hall⟩ := HA.out.resolve_left (fun e => by rw [e] at hiL; cases hiL)
      obtain ⟨kv, dv, q1, q2, q3, q4⟩ := hall i hiL
      obtain ⟨qq, hq⟩ := HW.out
      have c1 : wr.cell? ⟨g, o + i * 2, none⟩ = some kv := by rw [hq, World.cell?_drewN]; exact q1
      have c2 : wr.cell? ⟨g, o + i * 2 + 1, none⟩ = some dv := by rw [hq, World.cell?_drewN]; exact q2
      obtain ⟨ka, kc, ek⟩ : ∃ a c, kv = .slice a L[i].1.length c := by obtain ⟨a, c, e, _⟩ := q3.shp; exact ⟨a, c, e⟩
      obtain ⟨da, dc, ed⟩ : ∃ a c, dv = .slice a L[i].2.length c := by obtain ⟨a, c, e, _⟩ := q4.shp; exact ⟨a, c, e⟩
      have hbnd := bytesOf_le L (fun j hj => by
        obtain ⟨_, _, _, _, z3, z4⟩ := hall j hj
        exact ⟨z3.lim, z4.lim⟩) i (by omega)
      have hl3 := q3.lim; have hl4 := q4.lim
      obtain ⟨kl, hkl⟩ : ∃ z, z = L[i].1.length := ⟨_, rfl⟩
      obtain ⟨dl, hdl⟩ : ∃ z, z = L[i].2.length := ⟨_, rfl⟩
      rw [← hkl] at ek hl3; rw [← hdl] at ed hl4
      subst ek; subst ed
      have HS : Hid (n ≤ 200 → wrap64 (wrap64 (z + (kl : Int)) + (dl : Int)) = (bytesOf (L.take (i + 1)) : Int)) := fun h => by
        have e := HZ.out h
        rw [bytesOf_succ L i hiL, ← hkl, ← hdl, e]
        have hle : i * 281474976710656 ≤ 200 * 281474976710656 := Nat.mul_le_mul_right _ (by omega)
        rw [IntWalk.wrap64_in (((bytesOf (L.take i) : Nat) : Int) + (kl : Int)) (by omega), IntWalk.wrap64_in _ (by omega)]
        omega
      clear q1 q2 q3 q4 hall hkl hdl hbnd HZ hq qq hiL
      go_wp2_with fail
      go_quiet (fail)
      go_wp2_with fail
      exact ⟨⟨i + 1, _, by omega, by go_num, rfl, HS.out, by obtain ⟨q, hq⟩ := HW.out; exact ⟨_, by rw [hq, World.drewN_drewN]⟩⟩, by simp [intOf]; omega⟩
    · obtain rfl : i = n := by omega
      have htk : L.take i = L := List.take_of_length_le (by rw [← HN.out]; exact Nat.le_refl _)
      by_cases h200 : i ≤ 200
      · have hz := HZ.out h200
        rw [htk] at hz
        have HT : Hid ((decide (i ≤ 200) && decide (bytesOf L ≤ 10000)) = decide (z ≤ 10000)) := by
          unfold Hid
          rw [show decide (i ≤ 200) = true by simpa using h200, Bool.true_and, decide_eq_decide]; omega
        have h200' : (i : Int) ≤ 200 := by omega
        clear htk hz
        go_wp2_with fail
        go_ret
        exact ⟨congrArg (fun b => Ending.returned (.bool b)) HT.out.symm, HW.out⟩
      · have HT : Hid ((decide (i ≤ 200) && decide (bytesOf L ≤ 10000)) = false) := by
          unfold Hid
          rw [show decide (i ≤ 200) = false by simpa using h200, Bool.false_and]
        have h200' : ¬ (i : Int) ≤ 200 := by omega
        clear htk
        go_wp2_with fail
        go_ret
        first | exact ⟨rfl, HW.out⟩ | exact ⟨congrArg (fun b => Ending.returned (.bool b)) HT.out.symm, HW.out⟩
def OctGo (a b : List Nat) (k : Nat) : Prop := Order.octs a b = Order.lex Order.oct (a.drop k) (b.drop k)
theorem OctGo.next {a b : List Nat} {k : Nat} (h : OctGo a b k) (ha : k < a.length) (hb : k < b.length) (e : a[k] = b[k]) : OctGo a b (k + 1) := by
  unfold OctGo at h ⊢
  rw [h]
  refine Order.lex_step ha hb ?_
  rw [e]
  exact Order.sgn_self _
theorem OctGo.here {a b : List Nat} {k : Nat} (h : OctGo a b k) (ha : k < a.length) (hb : k < b.length) (e : ¬ a[k] = b[k]) : Order.octs a b = Order.sgn (a[k] : Int) (b[k] : Int) := by
  unfold OctGo at h
  rw [h]
  exact Order.lex_here ha hb (fun e2 => by have := Order.sgn_zero.1 e2; omega)
theorem OctGo.last {a b : List Nat} {k : Nat} (h : OctGo a b k) (ha : k ≤ a.length) (hb : k ≤ b.length) (e : ¬ (k < a.length ∧ k < b.length)) : Order.octs a b = Order.sgn (a.length : Int) (b.length : Int) := by
  unfold OctGo at h
  rw [h, Order.lex_end ha hb (by omega)]
theorem sgn_neg (a b : Nat) : decide (Order.sgn (a : Int) (b : Int) < 0) = decide (a < b) := by
  rw [decide_eq_decide]
  unfold Order.sgn
  constructor
  · intro h; split at h
    · omega
    · split at h <;> omega
  · intro h; rw [if_pos (by omega)]; omega
set_option maxRecDepth 100000 in
set_option maxHeartbeats 4000000 in
theorem ahead13_any (a1 : Option Addr) (c1 : Nat) (l1 : List Nat) (a2 : Option Addr) (c2 : Nat) (l2 : List Nat) (w : World) (h1 : SliceIs w a1 l1) (h2 : SliceIs w a2 l2) (hc1 : l1.length ≤ 140737488355328) (hc2 : l2.length ≤ 140737488355328) :
    Calls Try.prog 15 #[.slice a1 l1.length c1, .slice a2 l2.length c2] w fun e w' => e = .returned (.bool (decide (Order.octs l1 l2 < 0))) ∧ ∃ q, w' = w.drewN q := by
  obtain ⟨n1, hn1⟩ : ∃ n, n = l1.length := ⟨_, rfl⟩
  obtain ⟨n2, hn2⟩ : ∃ n, n = l2.length := ⟨_, rfl⟩
  have H1 := Lib.hid h1; have H2 := Lib.hid h2
  have HN1 := Lib.hid hn1; have HN2 := Lib.hid hn2
  rw [← hn1] at hc1 ⊢; rw [← hn2] at hc2 ⊢
  clear h1 h2 hn1 hn2
  go_enter Try.func15, Try.ntmps15
  go_wp2_with fail
  go_loopw [5] (fun ii wr => ∃ k : Nat, ii = .int .i64 k ∧ k ≤ n1 ∧ k ≤ n2 ∧ Hid (OctGo l1 l2 k) ∧ Hid (∃ q, wr = w.drewN q)) (fun ii _ => n1 - (intOf ii).toNat)
  case atStart => exact ⟨0, rfl, Nat.zero_le _, Nat.zero_le _, rfl, 0, rfl⟩
  case round =>
    obtain ⟨k, rfl, hk1, hk2, HG, HW⟩ := hrel
    by_cases hb : k < n1 ∧ k < n2
    · obtain ⟨hka, hkb⟩ := hb
      have ka : k < l1.length := by rw [← HN1.out]; exact hka
      have kb : k < l2.length := by rw [← HN2.out]; exact hkb
      obtain ⟨g1, o1, rfl, r1⟩ := H1.out.resolve_left (fun e => by rw [e] at ka; cases ka)
      obtain ⟨g2, o2, rfl, r2⟩ := H2.out.resolve_left (fun e => by rw [e] at kb; cases kb)
      have x1 := r1 k ka; have x2 := r2 k kb
      rw [List.getD_eq_getElem?_getD, List.getElem?_eq_getElem ka, Option.getD_some] at x1
      rw [List.getD_eq_getElem?_getD, List.getElem?_eq_getElem kb, Option.getD_some] at x2
      have y1 : wr.cell? ⟨g1, o1 + k, none⟩ = some (.int .u8 (l1[k] : Int)) := by obtain ⟨q, hq⟩ := HW.out; rw [hq, World.cell?_drewN]; exact x1
      have y2 : wr.cell? ⟨g2, o2 + k, none⟩ = some (.int .u8 (l2[k] : Int)) := by obtain ⟨q, hq⟩ := HW.out; rw [hq, World.cell?_drewN]; exact x2
      have hka' : (k : Int) < (n1 : Int) := by omega
      have hkb' : (k : Int) < (n2 : Int) := by omega
      by_cases e : l1[k] = l2[k]
      · have HN := Lib.hid (HG.out.next ka kb e)
        rw [e] at y1
        generalize l2[k] = b at y1 y2
        have he : ((b : Int) != (b : Int)) = false := by simp
        clear x1 x2 r1 r2 e ka kb
        go_wp2_with fail
        go_quiet (fail)
        go_wp2_with fail
        exact ⟨⟨k + 1, by go_num, by omega, by omega, HN.out, by obtain ⟨q, hq⟩ := HW.out; exact ⟨_, by rw [hq, World.drewN_drewN]⟩⟩, by simp [intOf]; omega⟩
      · have HV : Hid (decide (Order.octs l1 l2 < 0) = decide (l1[k] < l2[k])) := by rw [HG.out.here ka kb e]; exact sgn_neg _ _
        have he : ((l1[k] : Int) != (l2[k] : Int)) = true := by rw [bne_iff_ne]; omega
        generalize l1[k] = b1 at y1 HV he e x1
        generalize l2[k] = b2 at y2 HV he e x2
        clear x1 x2 r1 r2 e ka kb
        go_wp2_with fail
        go_quiet (fail)
        go_wp2_with fail
        generalize hw1 : wr.drewN _ = w1
        have HW1 : Hid (∃ q, w1 = w.drewN q) := by obtain ⟨q, hq⟩ := HW.out; exact ⟨_, by rw [← hw1, hq, World.drewN_drewN]⟩
        have y1 : w1.cell? ⟨g1, o1 + k, none⟩ = some (.int .u8 (b1 : Int)) := by rw [← hw1, World.cell?_drewN]; exact y1
        have y2 : w1.cell? ⟨g2, o2 + k, none⟩ = some (.int .u8 (b2 : Int)) := by rw [← hw1, World.cell?_drewN]; exact y2
        clear hw1
        go_quiet (fail)
        go_wp2_with fail
        generalize hw2 : w1.drewN _ = w2
        have HW2 : Hid (∃ q, w2 = w.drewN q) := by obtain ⟨q, hq⟩ := HW1.out; exact ⟨_, by rw [← hw2, hq, World.drewN_drewN]⟩
        clear hw2
        go_ret
        refine ⟨?_, HW2.out⟩
        rw [HV.out]
        simp
    · have HV : Hid (decide (Order.octs l1 l2 < 0) = decide (n1 < n2)) := by
        rw [HN1.out, HN2.out, HG.out.last (by rw [← HN1.out]; exact hk1) (by rw [← HN2.out]; exact hk2) (by rw [← HN1.out, ← HN2.out]; exact hb)]
        exact sgn_neg _ _
      by_cases hka : k < n1
      · have hkb : ¬ (k : Int) < (n2 : Int) := by omega
        have hka' : (k : Int) < (n1 : Int) := by omega
        go_wp2_with fail
        go_ret
        refine ⟨?_, HW.out⟩
        rw [HV.out]; simp
      · have hka' : ¬ (k : Int) < (n1 : Int) := by omega
        go_wp2_with fail
        go_ret
        refine ⟨?_, HW.out⟩
        rw [HV.out]; simp
end Go.Proofs.Ytfkkckadnookoaa
