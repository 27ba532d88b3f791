/- aqueductlaw8.sign: two slices of bytes, by bytes. -/
import Derived.Test.YtdcfddiicclpeaaDoorOrderMath
import Derived.Test.YtdcfddiicclpeaaDoorSealRow
import Derived.IntWalk
import Derived.Deep.QuietTactic
import Derived.Test.YtdcfddiicclpeaaDoorOrderClass
namespace Go.Proofs.YtdcfddiicclpeaaDoor
open Go.RowKit
open Seal
def SGo (a b : List Nat) (k : Nat) : Prop := Order.octs a b = Order.lex Order.oct (a.drop k) (b.drop k)
theorem SGo.next {a b : List Nat} {k : Nat} (h : SGo a b k) (ha : k < a.length) (hb : k < b.length) (e : a.getD k 0 = b.getD k 0) : SGo a b (k + 1) := by
  unfold SGo at h ⊢
  rw [h]
  refine Order.lex_step ha hb ?_
  rw [List.getD_eq_getElem?_getD, List.getD_eq_getElem?_getD, List.getElem?_eq_getElem ha, List.getElem?_eq_getElem hb] at e
  simp only [Option.getD_some] at e
  rw [e]
  exact Order.sgn_self _
theorem SGo.here {a b : List Nat} {k : Nat} (h : SGo a b k) (ha : k < a.length) (hb : k < b.length) (e : ¬ a.getD k 0 = b.getD k 0) : Order.octs a b = Order.sgn (a.getD k 0 : Nat) (b.getD k 0 : Nat) := by
  unfold SGo at h
  rw [h]
  rw [List.getD_eq_getElem?_getD, List.getD_eq_getElem?_getD, List.getElem?_eq_getElem ha, List.getElem?_eq_getElem hb] at e ⊢
  simp only [Option.getD_some] at e ⊢
  refine (Order.lex_here ha hb ?_).trans rfl
  intro e2
  have := Order.sgn_zero.1 e2
  omega
theorem SGo.last {a b : List Nat} {k : Nat} (h : SGo a b k) (ha : k ≤ a.length) (hb : k ≤ b.length) (e : ¬ (k < a.length ∧ k < b.length)) : Order.octs a b = Order.sgn a.length b.length := by
  unfold SGo at h
  rw [h, Order.lex_end ha hb (by omega)]
theorem getD_256' {l : List Nat} (ho : Oct l) (k : Nat) : l.getD k 0 < 256 := by
  by_cases h : k < l.length
  · rw [List.getD_eq_getElem?_getD, List.getElem?_eq_getElem h]; exact ho _ (List.getElem_mem h)
  · rw [List.getD_eq_getElem?_getD, List.getElem?_eq_none (by omega)]; decide
set_option maxRecDepth 100000 in
set_option maxHeartbeats 4000000 in
theorem sign_key (w : World) (a b : Option Addr) (n c m d : Nat) (l l2 : List Nat) (hn : l.length = n) (hm : l2.length = m) (h1 : SliceIs w a l) (h2 : SliceIs w b l2) (hnb : n ≤ 140737488355328) (hmb : m ≤ 140737488355328) :
    Calls Tryd.prog 27 #[.slice a n c, .slice b m d] w fun e w' => e = .returned (.int .i64 (Order.octs l l2)) ∧ ∃ q, w' = w.drewN q := by
  have HN := Lib.hid hn
  have HM := Lib.hid hm
  have HA := Lib.hid h1
  have HB := Lib.hid h2
  clear hn hm h1 h2
  go_enter Tryd.func27, Tryd.ntmps27
  go_wp2_with fail
  go_loopw [5] (fun i wr => ∃ k : Nat, i = .int .i64 k ∧ k ≤ n ∧ k ≤ m ∧ Hid (SGo l l2 k) ∧ Hid (∃ q, wr = w.drewN q)) (fun i _ => n - (intOf i).toNat)
  case atStart => exact ⟨0, rfl, Nat.zero_le _, Nat.zero_le _, rfl, ⟨0, rfl⟩⟩
  case round =>
    obtain ⟨k, rfl, hk, hk2, HT, HQ⟩ := hrel
    have hend : ¬ (k < n ∧ k < m) → Order.octs l l2 = Order.sgn n m := fun e => by
      have := HT.out.last (by rw [HN.out]; exact hk) (by rw [HM.out]; exact hk2) (by rw [HN.out, HM.out]; exact e)
      rw [this, HN.out, HM.out]
    have HEND := Lib.hid hend
    clear hend
    by_cases hka : k < n
    · by_cases hkb : k < m
      · have hka' : k < l.length := by rw [HN.out]; exact hka
        have hkb' : k < l2.length := by rw [HM.out]; exact hkb
        obtain ⟨g, o, hga, hr⟩ := HA.out.resolve_left (fun e => by rw [e] at hka'; cases hka')
        obtain ⟨g2, o2, hga2, hr2⟩ := HB.out.resolve_left (fun e => by rw [e] at hkb'; cases hkb')
        subst hga
        subst hga2
        have hc : wr.cell? ⟨g, o + k, none⟩ = some (.int .u8 ((l.getD k 0 : Nat) : Int)) := by obtain ⟨q, hq⟩ := HQ.out; rw [hq]; exact (hr.drewN q) k hka'
        have hc2 : wr.cell? ⟨g2, o2 + k, none⟩ = some (.int .u8 ((l2.getD k 0 : Nat) : Int)) := by obtain ⟨q, hq⟩ := HQ.out; rw [hq]; exact (hr2.drewN q) k hkb'
        by_cases e : l.getD k 0 = l2.getD k 0
        · have HNX := Lib.hid (HT.out.next hka' hkb' e)
          have he : (((l.getD k 0 : Nat) : Int) != ((l2.getD k 0 : Nat) : Int)) = false := by rw [bne_eq_false_iff_eq, e]
          generalize l.getD k 0 = x at *
          generalize l2.getD k 0 = y at *
          have hsub : IntKind.i64.wrap ((k : Int) + 1) = (k : Int) + 1 := IntWalk.i64_in _ (by omega)
          clear e hr hr2 hka' hkb'
          go_wp2_with fail
          go_quiet (fail)
          go_wp2_with fail
          go_roundw
          case rel => exact ⟨k + 1, by go_num, by omega, by omega, HNX, by obtain ⟨q, hq⟩ := HQ.out; exact ⟨_, by rw [hq, World.drewN_drewN]⟩⟩
          case measure => simp [intOf]; omega
        · have HNX := Lib.hid (HT.out.here hka' hkb' e)
          have he : (((l.getD k 0 : Nat) : Int) != ((l2.getD k 0 : Nat) : Int)) = true := by rw [bne_iff_ne]; omega
          generalize l.getD k 0 = x at *
          generalize l2.getD k 0 = y at *
          by_cases hlt : x < y
          · have HS : Hid (Order.sgn (x : Int) (y : Int) = -1) := Order.sgn_lt (by omega)
            have hd : decide ((x : Int) < (y : Int)) = true := decide_eq_true (by omega)
            clear e hr hr2 hka' hkb'
            go_wp2_with fail
            go_quiet (fail)
            go_wp2_with fail
            generalize hw1 : wr.drewN _ = w1
            have HW1 := Lib.hid hw1
            have hc' : w1.cell? ⟨g, o + k, none⟩ = some (.int .u8 (x : Int)) := by rw [← hw1, World.cell?_drewN]; exact hc
            have hc2' : w1.cell? ⟨g2, o2 + k, none⟩ = some (.int .u8 (y : Int)) := by rw [← hw1, World.cell?_drewN]; exact hc2
            clear hw1
            go_quiet (fail)
            go_wp2_with fail
            go_ret
            exact ⟨ret_i (by rw [HNX.out, HS.out]), by obtain ⟨q, hq⟩ := HQ.out; exact ⟨_, by rw [← HW1.out, hq, World.drewN_drewN, World.drewN_drewN]⟩⟩
          · have HS : Hid (Order.sgn (x : Int) (y : Int) = 1) := Order.sgn_gt (by omega)
            have hd : decide ((x : Int) < (y : Int)) = false := decide_eq_false (by omega)
            clear e hr hr2 hka' hkb'
            go_wp2_with fail
            go_quiet (fail)
            go_wp2_with fail
            generalize hw1 : wr.drewN _ = w1
            have HW1 := Lib.hid hw1
            have hc' : w1.cell? ⟨g, o + k, none⟩ = some (.int .u8 (x : Int)) := by rw [← hw1, World.cell?_drewN]; exact hc
            have hc2' : w1.cell? ⟨g2, o2 + k, none⟩ = some (.int .u8 (y : Int)) := by rw [← hw1, World.cell?_drewN]; exact hc2
            clear hw1
            go_quiet (fail)
            go_wp2_with fail
            go_ret
            exact ⟨ret_i (by rw [HNX.out, HS.out]), by obtain ⟨q, hq⟩ := HQ.out; exact ⟨_, by rw [← HW1.out, hq, World.drewN_drewN, World.drewN_drewN]⟩⟩
      · have HE := Lib.hid (HEND.out (by omega))
        have HS : Hid (Order.sgn (n : Int) (m : Int) = 1) := Order.sgn_gt (by omega)
        have hd : decide ((n : Int) < (m : Int)) = false := decide_eq_false (by omega)
        have hd2 : decide ((n : Int) > (m : Int)) = true := decide_eq_true (by omega)
        go_wp2_with fail
        go_ret
        exact ⟨ret_i (by rw [HE.out, HS.out]), HQ.out⟩
    · have HE := Lib.hid (HEND.out (by omega))
      by_cases hlt : n < m
      · have HS : Hid (Order.sgn (n : Int) (m : Int) = -1) := Order.sgn_lt (by omega)
        go_wp2_with fail
        go_ret
        exact ⟨ret_i (by rw [HE.out, HS.out]), HQ.out⟩
      · have HS : Hid (Order.sgn (n : Int) (m : Int) = 0) := by rw [show n = m by omega]; exact Order.sgn_self _
        go_wp2_with fail
        go_ret
        exact ⟨ret_i (by rw [HE.out, HS.out]), HQ.out⟩
end Go.Proofs.YtdcfddiicclpeaaDoor
