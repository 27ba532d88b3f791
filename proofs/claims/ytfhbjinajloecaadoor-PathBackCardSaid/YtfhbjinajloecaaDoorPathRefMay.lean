/- aqueductref5.NameMay, ParsePath; aqueductlaw6.texts. -/
import Derived.Test.YtfhbjinajloecaaDoorPathParse
import Derived.Laws.DeepStrings4
namespace Go.Proofs.YtfhbjinajloecaaDoor
open Go.RowKit
open Seal
open Path
namespace Path
def nameMay (l : List UInt8) : Bool := decide (0 ∉ l) && decide (l.length ≤ 120) && Lib.validD l
theorem may_name (l : List UInt8) : may l = ((!l.isEmpty) && (l.headD 0 != 36) && nameMay l) := by
  unfold may nameMay
  cases (!l.isEmpty) <;> cases (l.headD 0 != 36) <;> cases decide (l.length ≤ 120) <;> cases decide (0 ∉ l) <;> rfl
theorem mem_byte (s : ByteArray) (c : UInt8) (k : Nat) (hk : k < s.size) (h : byte s k = c.toNat) : c ∈ s.data.toList := by
  have hl := len_list s
  have e : s.data.toList[k]'(by omega) = c := by
    apply UInt8.toNat_inj.1
    unfold byte at h
    rw [List.getD_eq_getElem?_getD, List.getElem?_eq_getElem (by omega)] at h
    exact h
  rw [← e]
  exact List.getElem_mem _
theorem not_mem_byte (s : ByteArray) (c : UInt8) (h : ∀ k, k < s.size → byte s k ≠ c.toNat) : c ∉ s.data.toList := by
  intro hm
  obtain ⟨k, hk, e⟩ := List.getElem_of_mem hm
  rw [len_list] at hk
  refine h k hk ?_
  unfold byte
  rw [List.getD_eq_getElem?_getD, List.getElem?_eq_getElem (by rw [len_list]; exact hk), e]
  rfl
end Path
set_option maxRecDepth 100000 in
set_option maxHeartbeats 1000000 in
theorem nameMay_any (s : ByteArray) (w : World) (hs : s.size ≤ 140737488355328) :
    Calls Tryd.prog 24 #[.string s] w fun e w' => e = .returned (.bool (nameMay s.data.toList)) ∧ Below w.heap.size w w' := by
  have HRB := Lib.hid (run_byte s)
  have CU := Lib.hid (fun wx => utf8ref_any s wx hs)
  have hl := len_list s
  go_enter Tryd.func24, Tryd.ntmps24
  go_wp2_with fail
  go_loopw [3] (fun i wr => ∃ k : Nat, i = .int .i64 k ∧ k ≤ s.size ∧ Hid (∀ j, j < k → byte s j ≠ 0) ∧ Hid (Below w.heap.size w wr)) (fun i _ => s.size - (intOf i).toNat)
  case atStart => exact ⟨0, rfl, Nat.zero_le _, fun j hj => by omega, Below.refl _ _⟩
  case round =>
    obtain ⟨k, rfl, hk, HZ, HB⟩ := hrel
    by_cases hlt : k < s.size
    · have i0 := HRB.out k hlt
      obtain ⟨c, hc⟩ : ∃ c, c = byte s k := ⟨_, rfl⟩
      rw [← hc] at i0
      have hc256 : c < 256 := by rw [hc]; exact byte_lt s k
      have HC := Lib.hid hc
      clear hc
      by_cases h0 : c = 0
      · subst h0
        have hres : nameMay s.data.toList = false := by
          have := mem_byte s 0 k hlt (by rw [← HC.out]; rfl)
          unfold nameMay; rw [decide_eq_false (by simpa using this)]; rfl
        have HRES := Lib.hid hres
        clear hres
        have i1 : ∀ W, (Instr.index 9 (.string s) (.int .i64 (k : Int))).run Tryd.prog W = .ok (.int .u8 0) W := i0
        go_wp2_with fail
        go_ret
        exact ⟨by rw [HRES.out]; rfl, HB.out⟩
      · have hcb : ((c : Int) == 0) = false := by simpa using h0
        have HZ2 : Hid (∀ j, j < k + 1 → byte s j ≠ 0) := by
          intro j hj
          rcases Nat.lt_or_ge j k with h | h
          · exact HZ.out j h
          · obtain rfl : j = k := by omega
            rw [← HC.out]; exact h0
        go_wp2_with fail
        go_roundw
        case rel => exact ⟨k + 1, by go_num, by omega, HZ2, HB⟩
        case measure => simp [intOf]; omega
    · have hkk : k = s.size := by omega
      have h0 : (0 : UInt8) ∉ s.data.toList := not_mem_byte s 0 (fun j hj => HZ.out j (by omega))
      by_cases h120 : s.size ≤ 120
      · have hres : nameMay s.data.toList = Lib.validD s.data.toList := by
          unfold nameMay; rw [decide_eq_true h0, decide_eq_true (by omega)]; simp
        have HRES := Lib.hid hres
        clear hres h0
        go_wp2_with fail
        refine (CU.out _).mono ?_
        rintro e w2 ⟨rfl, hb⟩
        have HB2 : Hid (Below w.heap.size w w2) := HB.out.trans (hb.mono HB.out.size)
        clear hb
        go_wp2_with fail
        go_ret
        exact ⟨by rw [HRES.out]; rfl, HB2.out⟩
      · have hres : nameMay s.data.toList = false := by
          unfold nameMay; rw [decide_eq_false (show ¬ s.data.toList.length ≤ 120 by omega)]; simp
        have HRES := Lib.hid hres
        clear hres h0
        go_wp2_with fail
        go_ret
        exact ⟨by rw [HRES.out]; rfl, HB.out⟩
/-- The rows are the same just if they are alike. -/
def NamesIn (w : World) (v : Value) (p : List ByteArray) : Prop := ∃ a n c, v = .slice a n c ∧ n = p.length ∧ n ≤ 9223372036854775807 ∧ StrsIn w a p
theorem NamesAt.in {w : World} {v : Value} {p : List ByteArray} (h : NamesAt w v p) : NamesIn w v p := by
  obtain ⟨a, c, rfl, h1, h2, h3⟩ := h
  exact ⟨a, _, c, rfl, rfl, by omega, h3⟩
theorem NamesIn.keep {w w' : World} {v : Value} {p : List ByteArray} (h : NamesIn w v p) (hb : Below w.heap.size w w') : NamesIn w' v p := by
  obtain ⟨a, n, c, e, h1, h2, h3⟩ := h
  exact ⟨a, n, c, e, h1, h2, h3.keep hb⟩
theorem str_eqb (s t : ByteArray) : (s.toList == t.toList) = decide (s = t) := by
  by_cases h : s = t
  · subst h; simp
  · rw [str_ne h, decide_eq_false h]
set_option maxRecDepth 100000 in
set_option maxHeartbeats 1000000 in
theorem texts_any (u v : Value) (p q : List ByteArray) (w : World) (hu : NamesIn w u p) (hv : NamesIn w v q) :
    Calls Tryd.prog 12 #[u, v] w fun e w' => e = .returned (.bool (decide (p = q))) ∧ Below w.heap.size w w' := by
  obtain ⟨a, n, c, rfl, hn, hn2, hp⟩ := hu
  obtain ⟨b, m, d, rfl, hm, hm2, hq⟩ := hv
  have HP := Lib.hid hp; have HQ := Lib.hid hq; have HN := Lib.hid hn; have HM := Lib.hid hm
  clear hp hq
  by_cases hnm : n = m
  · subst hnm
    clear hn hm
    go_enter Tryd.func12, Tryd.ntmps12
    go_wp2_with fail
    go_loopw [5] (fun i wr => ∃ k : Nat, i = .int .i64 k ∧ k ≤ n ∧ Hid (p.take k = q.take k) ∧ Hid (Below w.heap.size w wr)) (fun i _ => n - (intOf i).toNat)
    case atStart => exact ⟨0, rfl, Nat.zero_le _, rfl, Below.refl _ _⟩
    case round =>
      obtain ⟨k, rfl, hk, HE, HB⟩ := hrel
      by_cases hlt : k < n
      · obtain ⟨g, o, rfl, hcell⟩ := HP.out.resolve_left (fun e => by have := HN.out; rw [e] at this; simp at this; omega)
        obtain ⟨g2, o2, rfl, hcell2⟩ := HQ.out.resolve_left (fun e => by have := HM.out; rw [e] at this; simp at this; omega)
        have c1 := cell_keep HB.out (hcell k (by have := HN.out; omega))
        have c2 := cell_keep HB.out (hcell2 k (by have := HM.out; omega))
        obtain ⟨x, hx⟩ : ∃ x, x = p[k]'(by have := HN.out; omega) := ⟨_, rfl⟩
        obtain ⟨y, hy⟩ : ∃ y, y = q[k]'(by have := HM.out; omega) := ⟨_, rfl⟩
        rw [← hx] at c1
        rw [← hy] at c2
        have hpk : p.take (k + 1) = p.take k ++ [x] := by rw [List.take_add_one, List.getElem?_eq_getElem (by have := HN.out; omega), hx]; rfl
        have hqk : q.take (k + 1) = q.take k ++ [y] := by rw [List.take_add_one, List.getElem?_eq_getElem (by have := HM.out; omega), hy]; rfl
        by_cases hxy : x = y
        · subst hxy
          have HE2 : Hid (p.take (k + 1) = q.take (k + 1)) := by show p.take (k + 1) = q.take (k + 1); rw [hpk, hqk, HE.out]
          have he : (x.toList == x.toList) = true := by simp
          clear hcell hcell2 hx hy hpk hqk
          go_wp2_with fail
          go_quiet (fail)
          all_goals (go_wp2_with fail)
          go_roundw
          case rel => exact ⟨k + 1, by go_num, by omega, HE2, below_drewN HB.out _⟩
          case measure => simp [intOf]; omega
        · have he : (x.toList == y.toList) = false := str_ne hxy
          have hres : decide (p = q) = false := decide_eq_false (fun e => by
            subst e
            rw [hpk] at hqk
            simp at hqk
            exact hxy hqk)
          have HRES := Lib.hid hres
          clear hcell hcell2 hx hy hpk hqk hres
          go_wp2_with fail
          go_quiet (fail)
          all_goals (go_wp2_with fail)
          go_ret
          exact ⟨by rw [HRES.out]; rfl, below_drewN HB.out _⟩
      · have hkk : k = n := by omega
        subst hkk
        have hres : decide (p = q) = true := decide_eq_true (by
          have := HE.out
          rw [List.take_of_length_le (by rw [← HN.out]; exact Nat.le_refl _), List.take_of_length_le (by rw [← HM.out]; exact Nat.le_refl _)] at this
          exact this)
        have HRES := Lib.hid hres
        clear hres
        go_wp2_with fail
        go_ret
        exact ⟨by rw [HRES.out]; rfl, HB.out⟩
  · have hres : decide (p = q) = false := decide_eq_false (fun e => hnm (by rw [hn, hm, e]))
    rw [hres]
    clear hn hm hres
    go_enter Tryd.func12, Tryd.ntmps12
    go_wp2_with fail
    go_ret
    exact ⟨rfl, Below.refl _ _⟩
end Go.Proofs.YtfhbjinajloecaaDoor
