/- aqueductlaw6.PathBack. -/
import Derived.Test.YtfhbjinajloecaaDoorPathBackWalk
namespace Go.Proofs.YtfhbjinajloecaaDoor
open Go.RowKit
open Seal
open Path
namespace Path
/-- Names with points between. -/
def joinL : List (List UInt8) → List UInt8
  | [] => []
  | [x] => x
  | x :: y :: r => x ++ 46 :: joinL (y :: r)
theorem joinL_snoc : ∀ (l : List (List UInt8)) (x : List UInt8), joinL (l ++ [x]) = if l = [] then x else joinL l ++ 46 :: x
  | [], x => rfl
  | [a], x => by show a ++ 46 :: joinL ([] ++ [x]) = _; simp [joinL]
  | a :: b :: r, x => by
    have ih := joinL_snoc (b :: r) x
    rw [if_neg (by simp)] at ih ⊢
    show a ++ 46 :: joinL ((b :: r) ++ [x]) = (a ++ 46 :: joinL (b :: r)) ++ 46 :: x
    rw [ih]; simp
theorem split_join : ∀ (l : List (List UInt8)), l ≠ [] → (∀ x ∈ l, (46 : UInt8) ∉ x) → split (joinL l) = l
  | [], h, _ => absurd rfl h
  | [a], _, h => split_free a (h a (by simp))
  | a :: b :: r, _, h => by
    show split (a ++ 46 :: joinL (b :: r)) = _
    rw [split_cut _ _ (h a (by simp)), split_join (b :: r) (by simp) (fun x hx => h x (by simp [hx]))]
theorem joinL_length : ∀ (l : List (List UInt8)), (joinL l).length ≤ (l.map List.length).sum + l.length
  | [] => by simp [joinL]
  | [a] => by simp [joinL]
  | a :: b :: r => by
    have := joinL_length (b :: r)
    simp only [joinL, List.length_append, List.length_cons, List.map_cons, List.sum_cons] at this ⊢
    omega
/-- Texts as lists of bytes. -/
def lists (p : List ByteArray) : List (List UInt8) := p.map fun s => s.data.toList
theorem lists_length (p : List ByteArray) : (lists p).length = p.length := by simp [lists]
theorem names_lists (p : List ByteArray) : names (lists p) = p := by
  unfold names lists
  rw [List.map_map]
  have e : ((fun x : List UInt8 => (⟨x.toArray⟩ : ByteArray)) ∘ fun s : ByteArray => s.data.toList) = id := by funext s; cases s; rfl
  rw [e, List.map_id]
theorem lists_sum (p : List ByteArray) : ((lists p).map List.length).sum = bulk p := by
  unfold lists bulk
  rw [List.map_map]
  have e : (List.length ∘ fun s : ByteArray => s.data.toList) = fun s => s.size := by funext s; exact len_list s
  rw [e]
theorem lists_take (p : List ByteArray) (k : Nat) (hk : k < p.length) : lists (p.take (k + 1)) = lists (p.take k) ++ [p[k].data.toList] := by
  unfold lists
  rw [List.take_add_one, List.getElem?_eq_getElem hk, List.map_append]; rfl
theorem app_list (a b : ByteArray) : (a ++ b).data.toList = a.data.toList ++ b.data.toList := by simp
/-- Is the path one? -/
def fineN (n : Nat) (l : List (List UInt8)) : Bool := decide (0 < n ∧ n ≤ 16) && l.all may
theorem parse_join (p : List ByteArray) (h : ∀ x ∈ lists p, (46 : UInt8) ∉ x) : parse (joinL (lists p)) = if fineN p.length (lists p) then some (lists p) else none := by
  have hl := lists_length p
  unfold fineN
  by_cases h0 : lists p = []
  · have hp0 : p.length = 0 := by rw [← hl, h0]; rfl
    rw [h0, hp0]; rfl
  · have hpos : 0 < p.length := by rw [← hl]; exact List.length_pos_iff.2 h0
    unfold parse
    rw [split_join _ h0 h, hl]
    by_cases h16 : p.length ≤ 16
    · rw [decide_eq_true (And.intro hpos h16), Bool.true_and]
      cases (lists p).all may with
      | false => rw [if_neg (by simp), if_neg (by simp)]
      | true => rw [if_pos ⟨rfl, h16⟩, if_pos rfl]
    · rw [decide_eq_false (fun h => h16 h.2), if_neg (fun h => h16 h.2), if_neg (by simp)]
end Path
set_option maxRecDepth 100000 in
set_option maxHeartbeats 4000000 in
theorem back_law (v : Value) (p : List ByteArray) (w : World) (hv : NamesIn w v p) (hbk : Short p) (hG : Ground w) :
    Calls Tryd.prog 7 #[v] w fun e w' => e = .returned (.bool true) ∧ Below w.heap.size w w' := by
  have CA := Lib.hid (awake_any w hG)
  have CF := Lib.hid (fun wx hb => few_any v p wx (hv.keep hb) hbk)
  obtain ⟨fb, hfb⟩ : ∃ fb, fb = few p := ⟨_, rfl⟩
  rw [← hfb] at CF
  cases fb with
  | false =>
    obtain ⟨a, n, c, rfl, hn, hn2, hp⟩ := hv
    clear hp hn hfb
    go_enter Tryd.func7, Tryd.ntmps7
    go_wp2_with fail
    refine CA.out.mono ?_
    rintro e w1 ⟨rfl, hb1⟩
    have HB1 := Lib.hid hb1
    clear hb1 CA
    go_wp2_with fail
    refine (CF.out _ HB1.out).mono ?_
    rintro e w2 ⟨rfl, hb2⟩
    have HB2 : Hid (Below w.heap.size w w2) := HB1.out.trans (hb2.mono HB1.out.size)
    clear hb2 HB1 CF
    go_wp2_with fail
    go_ret
    exact ⟨rfl, HB2.out⟩
  | true =>
    obtain ⟨hf1, hf2⟩ : p.length ≤ 40 ∧ bulk p ≤ 1000 := by
      unfold few at hfb
      simp only [Bool.true_eq, Bool.and_eq_true, decide_eq_true_eq] at hfb
      exact hfb
    obtain ⟨a, n, c, rfl, hn, hn2, hp⟩ := hv
    rw [← hn] at hf1
    have HN := Lib.hid hn; have HP := Lib.hid hp; have HBK := Lib.hid hf2; have HG := Lib.hid hG
    have hmay := may_name
    have HMAY := Lib.hid hmay
    clear hp hfb hf2 hbk hG hn hmay
    go_enter Tryd.func7, Tryd.ntmps7
    go_wp2_with fail
    refine CA.out.mono ?_
    rintro e w1 ⟨rfl, hb1⟩
    have HB1 := Lib.hid hb1
    clear hb1 CA
    go_wp2_with fail
    refine (CF.out _ HB1.out).mono ?_
    rintro e w2 ⟨rfl, hb2⟩
    have HB2 : Hid (Below w.heap.size w w2) := HB1.out.trans (hb2.mono HB1.out.size)
    clear hb2 HB1 CF
    by_cases hn0 : n = 0
    · have hz : ¬ (0 : Int) < (n : Int) := by omega
      have HN0 := Lib.hid hn0
      clear hn0
      go_wp2_with fail
      go_loopw [3, 4, 5] (fun s f i wr => ∃ (k : Nat) (t : ByteArray), i = .int .i64 k ∧ k ≤ n ∧ s = .string t ∧ t.size ≤ 1100 ∧ f = .bool (fineN p.length (lists (p.take k))) ∧ Hid (t.data.toList = joinL (lists (p.take k))) ∧ Hid (∀ x ∈ lists (p.take k), (46 : UInt8) ∉ x) ∧ Hid (Below w.heap.size w wr)) (fun _ _ i _ => n - (intOf i).toNat)
      case atStart => exact ⟨0, ⟨#[]⟩, rfl, Nat.zero_le _, rfl, by decide, by show Value.bool false = _; unfold fineN; rw [← HN.out, decide_eq_false (by have := HN0.out; omega)]; rfl, rfl, fun x hx => by simp [lists] at hx, HB2⟩
      case round =>
        obtain ⟨k, t, rfl, hk, rfl, ht, rfl, HT, HD, HB⟩ := hrel
        obtain ⟨fi, hfi⟩ : ∃ fi, fi = fineN p.length (lists (p.take k)) := ⟨_, rfl⟩
        rw [← hfi]
        have HFI := Lib.hid hfi
        clear hfi
        by_cases hlt : k < n
        · omega
        · have hkk : k = n := by omega
          subst hkk
          have htk : p.take k = p := List.take_of_length_le (by rw [← HN.out]; exact Nat.le_refl _)
          rw [htk] at HT HD HFI
          have CP := Lib.hid (Parse_any t wr (by omega) (HG.out.keep HB.out))
          have hpj := parse_join p HD.out
          rw [← HT.out, ← HFI.out] at hpj
          have HPJ := Lib.hid hpj
          clear htk hpj
          cases fi with
          | false =>
            go_wp2_with fail
            refine CP.out.mono ?_
            rintro e w3 ⟨v3, b3, rfl, hb3, hy3, hn3⟩
            obtain ⟨rfl, rfl⟩ := hn3 HPJ.out
            have HB3 : Hid (Below w.heap.size w w3) := HB.out.trans (hb3.mono HB.out.size)
            clear hb3 hy3 hn3 CP
            go_wp2_with fail
            go_ret
            exact ⟨rfl, HB3.out⟩
          | true =>
            go_wp2_with fail
            refine CP.out.mono ?_
            rintro e w3 ⟨v3, b3, rfl, hb3, hy3, hn3⟩
            obtain ⟨rfl, hat⟩ := hy3 _ HPJ.out
            have HB3 : Hid (Below w.heap.size w w3) := HB.out.trans (hb3.mono HB.out.size)
            rw [names_lists] at hat
            obtain ⟨a3, c3, rfl, hc3, hc4, hs3⟩ := hat
            have CT := Lib.hid (texts_any (.slice a3 p.length c3) (.slice a k c) p p w3 ⟨a3, _, c3, rfl, rfl, by omega, hs3⟩ ⟨a, k, c, rfl, HN.out, hn2, HP.out.keep HB3.out⟩)
            rw [decide_eq_true (rfl : p = p)] at CT
            rw [← HN.out] at CT ⊢
            clear hb3 hy3 hn3 CP hs3 hc3 hc4
            go_wp2_with fail
            refine CT.out.mono ?_
            rintro e w4 ⟨rfl, hb4⟩
            have HB4 : Hid (Below w.heap.size w w4) := HB3.out.trans (hb4.mono HB3.out.size)
            clear hb4
            go_wp2_with fail
            go_ret
            exact ⟨rfl, HB4.out⟩
    · have hz : (0 : Int) < (n : Int) := by omega
      go_wp2_with fail
      go_loopw [3, 4, 5] (fun s f i wr => ∃ (k : Nat) (t : ByteArray), i = .int .i64 k ∧ k ≤ n ∧ s = .string t ∧ t.size ≤ 1100 ∧ f = .bool (fineN p.length (lists (p.take k))) ∧ Hid (t.data.toList = joinL (lists (p.take k))) ∧ Hid (∀ x ∈ lists (p.take k), (46 : UInt8) ∉ x) ∧ Hid (Below w.heap.size w wr)) (fun _ _ i _ => n - (intOf i).toNat)
      case atStart => exact ⟨0, ⟨#[]⟩, rfl, Nat.zero_le _, rfl, by decide, by show Value.bool (decide ((n : Int) ≤ 16)) = _; unfold fineN; rw [← HN.out]; by_cases h16 : n ≤ 16; rw [decide_eq_true (show (n : Int) ≤ 16 by omega), decide_eq_true (show 0 < n ∧ n ≤ 16 by omega)]; rfl; rw [decide_eq_false (show ¬ (n : Int) ≤ 16 by omega), decide_eq_false (show ¬ (0 < n ∧ n ≤ 16) by omega)]; rfl, rfl, fun x hx => by simp [lists] at hx, HB2⟩
      case round =>
        obtain ⟨k, t, rfl, hk, rfl, ht, rfl, HT, HD, HB⟩ := hrel
        obtain ⟨fi, hfi⟩ : ∃ fi, fi = fineN p.length (lists (p.take k)) := ⟨_, rfl⟩
        rw [← hfi]
        have HFI := Lib.hid hfi
        clear hfi
        by_cases hlt : k < n
        · by_cases hk0 : k = 0
          · subst hk0
            obtain ⟨g, o, rfl, hcell⟩ := HP.out.resolve_left (fun e => by have := HN.out; rw [e] at this; simp at this; omega)
            have hc0 := hcell 0 (by have := HN.out; omega)
            obtain ⟨x, hx⟩ : ∃ x, x = p[0]'(by have := HN.out; omega) := ⟨_, rfl⟩
            have hlt2 := lists_take p 0 (by have := HN.out; omega)
            have hbt := bulk_take p 0 (by have := HN.out; omega)
            rw [← hx] at hc0 hlt2 hbt
            rw [Nat.add_zero] at hc0
            have HC0 := Lib.hid hc0
            have c1 := cell_keep HB.out HC0.out
            have HLT := Lib.hid hlt2
            have HRX := Lib.hid (run_byte x)
            have CN := Lib.hid (fun wx (hs : x.size ≤ 140737488355328) => nameMay_any x wx hs)
            have hjl := joinL_length (lists (p.take (0 + 1)))
            rw [lists_sum, lists_length] at hjl
            have hbp : bulk (p.take (0 + 1)) ≤ 1000 := by
              have h1 : bulk (p.take (0 + 1)) ≤ bulk p := by
                have e : p = p.take (0 + 1) ++ p.drop (0 + 1) := (List.take_append_drop _ _).symm
                conv => rhs; rw [e]
                unfold bulk; rw [List.map_append, List.sum_append]; omega
              exact Nat.le_trans h1 HBK.out
            have hxs : x.size ≤ 1000 := by omega
            have htl : (p.take (0 + 1)).length ≤ 40 := by simp; omega
            have hmn := HMAY.out x.data.toList
            have HT2 : Hid ((t ++ x).data.toList = joinL (lists (p.take (0 + 1)))) := by
              have e0 : lists (p.take 0) = [] := rfl
              have e1 : t.data.toList = [] := by rw [HT.out, e0]; rfl
              rw [app_list, e1, HLT.out, joinL_snoc, if_pos e0]; rfl
            have HSZ : Hid ((t ++ x).size ≤ 1100) := by
              have := HT2.out; show (t ++ x).size ≤ 1100
              rw [← len_list, this]; omega
            have HFS : Hid (∀ b, (may x.data.toList = b → fineN p.length (lists (p.take (0 + 1))) = (fi && b))) := by
              intro b hb
              have h1 := HFI.out
              unfold fineN at h1 ⊢
              rw [HLT.out, List.all_append, ← Bool.and_assoc, ← h1]
              simp [hb]
            clear hcell hc0 hx hlt2 hbt hjl hbp htl
            cases fi with
            | false =>
              have HF2 : Hid (fineN p.length (lists (p.take (0 + 1))) = false) := HFS.out _ rfl
              clear hmn CN
              go_wp2_with fail
              go_loopw [6] (fun j wr => ∃ m : Nat, j = .int .i64 m ∧ m ≤ x.size ∧ Hid (∀ y, y < m → byte x y ≠ 46) ∧ Hid (Below w.heap.size w wr)) (fun j _ => x.size - (intOf j).toNat)
              case atStart => exact ⟨0, rfl, Nat.zero_le _, fun y hy => by omega, HB⟩
              case round =>
                obtain ⟨m, rfl, hm, HM, HBm⟩ := hrel
                have c1 := cell_keep HBm.out HC0.out
                by_cases hmx : m < x.size
                · have i3 := HRX.out m hmx
                  obtain ⟨d, hd⟩ : ∃ d, d = byte x m := ⟨_, rfl⟩
                  have hd256 : d < 256 := by rw [hd]; exact byte_lt x m
                  rw [← hd] at i3
                  have HDM := Lib.hid hd
                  clear hd
                  by_cases h46 : d = 46
                  · subst h46
                    have i4 : ∀ W, (Instr.index 9 (.string x) (.int .i64 (m : Int))).run Tryd.prog W = .ok (.int .u8 46) W := i3
                    go_wp2_with fail
                    go_ret
                    exact ⟨rfl, HBm.out⟩
                  · have hdb : ((d : Int) == 46) = false := by rw [beq_eq_false_iff_ne]; omega
                    have HM2 : Hid (∀ y, y < m + 1 → byte x y ≠ 46) := by
                      intro y hy
                      rcases Nat.lt_or_ge y m with h | h
                      · exact HM.out y h
                      · obtain rfl : y = m := by omega
                        rw [← HDM.out]; exact h46
                    go_wp2_with fail
                    go_roundw
                    case rel => exact ⟨m + 1, by go_num, by omega, HM2, HBm⟩
                    case measure => simp [intOf]; omega
                · have HD2 : Hid (∀ y ∈ lists (p.take (0 + 1)), (46 : UInt8) ∉ y) := by
                    intro y hy
                    rw [HLT.out] at hy
                    rcases List.mem_append.1 hy with hy | hy
                    · exact HD.out y hy
                    · obtain rfl := List.mem_singleton.1 hy
                      exact not_mem_byte x 46 (fun j hj => HM.out j (by omega))
                  go_wp2_with fail
                  go_roundw
                  case rel => exact ⟨0 + 1, _, by go_num, by omega, rfl, HSZ.out, by rw [HF2.out], HT2, HD2, HBm⟩
                  case measure => simp [intOf]; omega
            | true =>
              by_cases hx0 : x.size = 0
              · have HF2 : Hid (fineN p.length (lists (p.take (0 + 1))) = false) := HFS.out false (by
                  have := (empty_iff x).2 hx0
                  rw [this]; rfl)
                have hem : (x.toList == (⟨#[]⟩ : ByteArray).toList) = true := by rw [(empty_iff x).2 hx0]; simp
                have hem2 : x.toList = [] := by rw [(empty_iff x).2 hx0, ByteArray.toList_eq]
                clear hmn CN
                go_wp2_with fail
                go_loopw [6] (fun j wr => ∃ m : Nat, j = .int .i64 m ∧ m ≤ x.size ∧ Hid (∀ y, y < m → byte x y ≠ 46) ∧ Hid (Below w.heap.size w wr)) (fun j _ => x.size - (intOf j).toNat)
                case atStart => exact ⟨0, rfl, Nat.zero_le _, fun y hy => by omega, HB⟩
                case round =>
                  obtain ⟨m, rfl, hm, HM, HBm⟩ := hrel
                  have c1 := cell_keep HBm.out HC0.out
                  by_cases hmx : m < x.size
                  · omega
                  · have HD2 : Hid (∀ y ∈ lists (p.take (0 + 1)), (46 : UInt8) ∉ y) := by
                      intro y hy
                      rw [HLT.out] at hy
                      rcases List.mem_append.1 hy with hy | hy
                      · exact HD.out y hy
                      · obtain rfl := List.mem_singleton.1 hy
                        exact not_mem_byte x 46 (fun j hj => HM.out j (by omega))
                    go_wp2_with fail
                    go_roundw
                    case rel => exact ⟨0 + 1, _, by go_num, by omega, rfl, HSZ.out, by rw [HF2.out], HT2, HD2, HBm⟩
                    case measure => simp [intOf]; omega
              · obtain ⟨g1, g2⟩ := head_byte x (by omega)
                obtain ⟨hne, hne2, hemp⟩ := filled x hx0
                have hxpos : 0 < x.size := by omega
                have i1 : ∀ W, (Instr.index 9 (.string x) (.int .i64 0)).run Tryd.prog W = .ok (.int .u8 ((byte x 0 : Nat) : Int)) W := run_byte x 0 (by omega)
                obtain ⟨d0, hd0⟩ : ∃ d, d = byte x 0 := ⟨_, rfl⟩
                have hd256 : d0 < 256 := by rw [hd0]; exact byte_lt x 0
                rw [← hd0] at i1 g2
                clear hd0
                by_cases hd36 : d0 = 36
                · subst hd36
                  have i2 : ∀ W, (Instr.index 9 (.string x) (.int .i64 0)).run Tryd.prog W = .ok (.int .u8 36) W := i1
                  have HF2 : Hid (fineN p.length (lists (p.take (0 + 1))) = false) := HFS.out false (by
                    rw [hmn, g1, show x.data.toList.headD 0 = 36 from UInt8.toNat_inj.1 g2]; rfl)
                  clear hmn CN g1 g2
                  go_wp2_with fail
                  go_loopw [6] (fun j wr => ∃ m : Nat, j = .int .i64 m ∧ m ≤ x.size ∧ Hid (∀ y, y < m → byte x y ≠ 46) ∧ Hid (Below w.heap.size w wr)) (fun j _ => x.size - (intOf j).toNat)
                  case atStart => exact ⟨0, rfl, Nat.zero_le _, fun y hy => by omega, HB⟩
                  case round =>
                    obtain ⟨m, rfl, hm, HM, HBm⟩ := hrel
                    have c1 := cell_keep HBm.out HC0.out
                    by_cases hmx : m < x.size
                    · have i3 := HRX.out m hmx
                      obtain ⟨d, hd⟩ : ∃ d, d = byte x m := ⟨_, rfl⟩
                      have hd256 : d < 256 := by rw [hd]; exact byte_lt x m
                      rw [← hd] at i3
                      have HDM := Lib.hid hd
                      clear hd
                      by_cases h46 : d = 46
                      · subst h46
                        have i4 : ∀ W, (Instr.index 9 (.string x) (.int .i64 (m : Int))).run Tryd.prog W = .ok (.int .u8 46) W := i3
                        go_wp2_with fail
                        go_ret
                        exact ⟨rfl, HBm.out⟩
                      · have hdb : ((d : Int) == 46) = false := by rw [beq_eq_false_iff_ne]; omega
                        have HM2 : Hid (∀ y, y < m + 1 → byte x y ≠ 46) := by
                          intro y hy
                          rcases Nat.lt_or_ge y m with h | h
                          · exact HM.out y h
                          · obtain rfl : y = m := by omega
                            rw [← HDM.out]; exact h46
                        go_wp2_with fail
                        go_roundw
                        case rel => exact ⟨m + 1, by go_num, by omega, HM2, HBm⟩
                        case measure => simp [intOf]; omega
                    · have HD2 : Hid (∀ y ∈ lists (p.take (0 + 1)), (46 : UInt8) ∉ y) := by
                        intro y hy
                        rw [HLT.out] at hy
                        rcases List.mem_append.1 hy with hy | hy
                        · exact HD.out y hy
                        · obtain rfl := List.mem_singleton.1 hy
                          exact not_mem_byte x 46 (fun j hj => HM.out j (by omega))
                      go_wp2_with fail
                      go_roundw
                      case rel => exact ⟨0 + 1, _, by go_num, by omega, rfl, HSZ.out, by rw [HF2.out], HT2, HD2, HBm⟩
                      case measure => simp [intOf]; omega
                · have hdb : ((d0 : Int) != 36) = true := by rw [bne_iff_ne]; omega
                  have hh : (x.data.toList.headD 0 != 36) = true := by
                    rw [bne_iff_ne]; intro e; rw [e] at g2; exact hd36 g2.symm
                  rw [g1, hh] at hmn
                  obtain ⟨mb, hmb⟩ : ∃ mb, mb = nameMay x.data.toList := ⟨_, rfl⟩
                  rw [← hmb] at hmn CN
                  have HF2 : Hid (fineN p.length (lists (p.take (0 + 1))) = mb) := by
                    have := HFS.out mb (by rw [hmn]; rfl)
                    rw [this]; rfl
                  clear hmn hmb g1 g2 hh
                  go_wp2_with fail
                  refine (CN.out _ (by omega)).mono ?_
                  rintro e w3 ⟨rfl, hb3⟩
                  have HB3 : Hid (Below w.heap.size w w3) := HB.out.trans (hb3.mono HB.out.size)
                  have c2 := cell_keep HB3.out HC0.out
                  clear hb3 CN c1
                  go_wp2_with fail
                  go_loopw [6] (fun j wr => ∃ m : Nat, j = .int .i64 m ∧ m ≤ x.size ∧ Hid (∀ y, y < m → byte x y ≠ 46) ∧ Hid (Below w.heap.size w wr)) (fun j _ => x.size - (intOf j).toNat)
                  case atStart => exact ⟨0, rfl, Nat.zero_le _, fun y hy => by omega, HB3⟩
                  case round =>
                    obtain ⟨m, rfl, hm, HM, HBm⟩ := hrel
                    have c1 := cell_keep HBm.out HC0.out
                    by_cases hmx : m < x.size
                    · have i3 := HRX.out m hmx
                      obtain ⟨d, hd⟩ : ∃ d, d = byte x m := ⟨_, rfl⟩
                      have hd256 : d < 256 := by rw [hd]; exact byte_lt x m
                      rw [← hd] at i3
                      have HDM := Lib.hid hd
                      clear hd
                      by_cases h46 : d = 46
                      · subst h46
                        have i4 : ∀ W, (Instr.index 9 (.string x) (.int .i64 (m : Int))).run Tryd.prog W = .ok (.int .u8 46) W := i3
                        go_wp2_with fail
                        go_ret
                        exact ⟨rfl, HBm.out⟩
                      · have hdb : ((d : Int) == 46) = false := by rw [beq_eq_false_iff_ne]; omega
                        have HM2 : Hid (∀ y, y < m + 1 → byte x y ≠ 46) := by
                          intro y hy
                          rcases Nat.lt_or_ge y m with h | h
                          · exact HM.out y h
                          · obtain rfl : y = m := by omega
                            rw [← HDM.out]; exact h46
                        go_wp2_with fail
                        go_roundw
                        case rel => exact ⟨m + 1, by go_num, by omega, HM2, HBm⟩
                        case measure => simp [intOf]; omega
                    · have HD2 : Hid (∀ y ∈ lists (p.take (0 + 1)), (46 : UInt8) ∉ y) := by
                        intro y hy
                        rw [HLT.out] at hy
                        rcases List.mem_append.1 hy with hy | hy
                        · exact HD.out y hy
                        · obtain rfl := List.mem_singleton.1 hy
                          exact not_mem_byte x 46 (fun j hj => HM.out j (by omega))
                      go_wp2_with fail
                      go_roundw
                      case rel => exact ⟨0 + 1, _, by go_num, by omega, rfl, HSZ.out, by rw [HF2.out], HT2, HD2, HBm⟩
                      case measure => simp [intOf]; omega
          · have hkz : (0 : Int) < (k : Int) := by omega
            obtain ⟨g, o, rfl, hcell⟩ := HP.out.resolve_left (fun e => by have := HN.out; rw [e] at this; simp at this; omega)
            have hc0 := hcell k (by have := HN.out; omega)
            obtain ⟨x, hx⟩ : ∃ x, x = p[k]'(by have := HN.out; omega) := ⟨_, rfl⟩
            have hlt2 := lists_take p k (by have := HN.out; omega)
            have hbt := bulk_take p k (by have := HN.out; omega)
            rw [← hx] at hc0 hlt2 hbt
            have HC0 := Lib.hid hc0
            have c1 := cell_keep HB.out HC0.out
            have HLT := Lib.hid hlt2
            have HRX := Lib.hid (run_byte x)
            have CN := Lib.hid (fun wx (hs : x.size ≤ 140737488355328) => nameMay_any x wx hs)
            have hjl := joinL_length (lists (p.take (k + 1)))
            rw [lists_sum, lists_length] at hjl
            have hbp : bulk (p.take (k + 1)) ≤ 1000 := by
              have h1 : bulk (p.take (k + 1)) ≤ bulk p := by
                have e : p = p.take (k + 1) ++ p.drop (k + 1) := (List.take_append_drop _ _).symm
                conv => rhs; rw [e]
                unfold bulk; rw [List.map_append, List.sum_append]; omega
              exact Nat.le_trans h1 HBK.out
            have hxs : x.size ≤ 1000 := by omega
            have htl : (p.take (k + 1)).length ≤ 40 := by simp; omega
            have hmn := HMAY.out x.data.toList
            have HT2 : Hid ((t ++ ⟨#[46]⟩ ++ x).data.toList = joinL (lists (p.take (k + 1)))) := by
              have e0 : ¬ lists (p.take k) = [] := fun e => by have h1 := congrArg List.length e; have h2 := HN.out; rw [lists_length, List.length_take, List.length_nil] at h1; omega
              rw [app_list, app_list, HT.out, HLT.out, joinL_snoc, if_neg e0]
              show joinL _ ++ [46] ++ _ = _
              rw [List.append_assoc]; rfl
            have HSZ : Hid ((t ++ ⟨#[46]⟩ ++ x).size ≤ 1100) := by
              have := HT2.out; show (t ++ ⟨#[46]⟩ ++ x).size ≤ 1100
              rw [← len_list, this]; omega
            have HFS : Hid (∀ b, (may x.data.toList = b → fineN p.length (lists (p.take (k + 1))) = (fi && b))) := by
              intro b hb
              have h1 := HFI.out
              unfold fineN at h1 ⊢
              rw [HLT.out, List.all_append, ← Bool.and_assoc, ← h1]
              simp [hb]
            clear hcell hc0 hx hlt2 hbt hjl hbp htl
            cases fi with
            | false =>
              have HF2 : Hid (fineN p.length (lists (p.take (k + 1))) = false) := HFS.out _ rfl
              clear hmn CN
              go_wp2_with fail
              go_loopw [6] (fun j wr => ∃ m : Nat, j = .int .i64 m ∧ m ≤ x.size ∧ Hid (∀ y, y < m → byte x y ≠ 46) ∧ Hid (Below w.heap.size w wr)) (fun j _ => x.size - (intOf j).toNat)
              case atStart => exact ⟨0, rfl, Nat.zero_le _, fun y hy => by omega, HB⟩
              case round =>
                obtain ⟨m, rfl, hm, HM, HBm⟩ := hrel
                have c1 := cell_keep HBm.out HC0.out
                by_cases hmx : m < x.size
                · have i3 := HRX.out m hmx
                  obtain ⟨d, hd⟩ : ∃ d, d = byte x m := ⟨_, rfl⟩
                  have hd256 : d < 256 := by rw [hd]; exact byte_lt x m
                  rw [← hd] at i3
                  have HDM := Lib.hid hd
                  clear hd
                  by_cases h46 : d = 46
                  · subst h46
                    have i4 : ∀ W, (Instr.index 9 (.string x) (.int .i64 (m : Int))).run Tryd.prog W = .ok (.int .u8 46) W := i3
                    go_wp2_with fail
                    go_ret
                    exact ⟨rfl, HBm.out⟩
                  · have hdb : ((d : Int) == 46) = false := by rw [beq_eq_false_iff_ne]; omega
                    have HM2 : Hid (∀ y, y < m + 1 → byte x y ≠ 46) := by
                      intro y hy
                      rcases Nat.lt_or_ge y m with h | h
                      · exact HM.out y h
                      · obtain rfl : y = m := by omega
                        rw [← HDM.out]; exact h46
                    go_wp2_with fail
                    go_roundw
                    case rel => exact ⟨m + 1, by go_num, by omega, HM2, HBm⟩
                    case measure => simp [intOf]; omega
                · have HD2 : Hid (∀ y ∈ lists (p.take (k + 1)), (46 : UInt8) ∉ y) := by
                    intro y hy
                    rw [HLT.out] at hy
                    rcases List.mem_append.1 hy with hy | hy
                    · exact HD.out y hy
                    · obtain rfl := List.mem_singleton.1 hy
                      exact not_mem_byte x 46 (fun j hj => HM.out j (by omega))
                  go_wp2_with fail
                  go_roundw
                  case rel => exact ⟨k + 1, _, by go_num, by omega, rfl, HSZ.out, by rw [HF2.out], HT2, HD2, HBm⟩
                  case measure => simp [intOf]; omega
            | true =>
              by_cases hx0 : x.size = 0
              · have HF2 : Hid (fineN p.length (lists (p.take (k + 1))) = false) := HFS.out false (by
                  have := (empty_iff x).2 hx0
                  rw [this]; rfl)
                have hem : (x.toList == (⟨#[]⟩ : ByteArray).toList) = true := by rw [(empty_iff x).2 hx0]; simp
                have hem2 : x.toList = [] := by rw [(empty_iff x).2 hx0, ByteArray.toList_eq]
                clear hmn CN
                go_wp2_with fail
                go_loopw [6] (fun j wr => ∃ m : Nat, j = .int .i64 m ∧ m ≤ x.size ∧ Hid (∀ y, y < m → byte x y ≠ 46) ∧ Hid (Below w.heap.size w wr)) (fun j _ => x.size - (intOf j).toNat)
                case atStart => exact ⟨0, rfl, Nat.zero_le _, fun y hy => by omega, HB⟩
                case round =>
                  obtain ⟨m, rfl, hm, HM, HBm⟩ := hrel
                  have c1 := cell_keep HBm.out HC0.out
                  by_cases hmx : m < x.size
                  · omega
                  · have HD2 : Hid (∀ y ∈ lists (p.take (k + 1)), (46 : UInt8) ∉ y) := by
                      intro y hy
                      rw [HLT.out] at hy
                      rcases List.mem_append.1 hy with hy | hy
                      · exact HD.out y hy
                      · obtain rfl := List.mem_singleton.1 hy
                        exact not_mem_byte x 46 (fun j hj => HM.out j (by omega))
                    go_wp2_with fail
                    go_roundw
                    case rel => exact ⟨k + 1, _, by go_num, by omega, rfl, HSZ.out, by rw [HF2.out], HT2, HD2, HBm⟩
                    case measure => simp [intOf]; omega
              · obtain ⟨g1, g2⟩ := head_byte x (by omega)
                obtain ⟨hne, hne2, hemp⟩ := filled x hx0
                have hxpos : 0 < x.size := by omega
                have i1 : ∀ W, (Instr.index 9 (.string x) (.int .i64 0)).run Tryd.prog W = .ok (.int .u8 ((byte x 0 : Nat) : Int)) W := run_byte x 0 (by omega)
                obtain ⟨d0, hd0⟩ : ∃ d, d = byte x 0 := ⟨_, rfl⟩
                have hd256 : d0 < 256 := by rw [hd0]; exact byte_lt x 0
                rw [← hd0] at i1 g2
                clear hd0
                by_cases hd36 : d0 = 36
                · subst hd36
                  have i2 : ∀ W, (Instr.index 9 (.string x) (.int .i64 0)).run Tryd.prog W = .ok (.int .u8 36) W := i1
                  have HF2 : Hid (fineN p.length (lists (p.take (k + 1))) = false) := HFS.out false (by
                    rw [hmn, g1, show x.data.toList.headD 0 = 36 from UInt8.toNat_inj.1 g2]; rfl)
                  clear hmn CN g1 g2
                  go_wp2_with fail
                  go_loopw [6] (fun j wr => ∃ m : Nat, j = .int .i64 m ∧ m ≤ x.size ∧ Hid (∀ y, y < m → byte x y ≠ 46) ∧ Hid (Below w.heap.size w wr)) (fun j _ => x.size - (intOf j).toNat)
                  case atStart => exact ⟨0, rfl, Nat.zero_le _, fun y hy => by omega, HB⟩
                  case round =>
                    obtain ⟨m, rfl, hm, HM, HBm⟩ := hrel
                    have c1 := cell_keep HBm.out HC0.out
                    by_cases hmx : m < x.size
                    · have i3 := HRX.out m hmx
                      obtain ⟨d, hd⟩ : ∃ d, d = byte x m := ⟨_, rfl⟩
                      have hd256 : d < 256 := by rw [hd]; exact byte_lt x m
                      rw [← hd] at i3
                      have HDM := Lib.hid hd
                      clear hd
                      by_cases h46 : d = 46
                      · subst h46
                        have i4 : ∀ W, (Instr.index 9 (.string x) (.int .i64 (m : Int))).run Tryd.prog W = .ok (.int .u8 46) W := i3
                        go_wp2_with fail
                        go_ret
                        exact ⟨rfl, HBm.out⟩
                      · have hdb : ((d : Int) == 46) = false := by rw [beq_eq_false_iff_ne]; omega
                        have HM2 : Hid (∀ y, y < m + 1 → byte x y ≠ 46) := by
                          intro y hy
                          rcases Nat.lt_or_ge y m with h | h
                          · exact HM.out y h
                          · obtain rfl : y = m := by omega
                            rw [← HDM.out]; exact h46
                        go_wp2_with fail
                        go_roundw
                        case rel => exact ⟨m + 1, by go_num, by omega, HM2, HBm⟩
                        case measure => simp [intOf]; omega
                    · have HD2 : Hid (∀ y ∈ lists (p.take (k + 1)), (46 : UInt8) ∉ y) := by
                        intro y hy
                        rw [HLT.out] at hy
                        rcases List.mem_append.1 hy with hy | hy
                        · exact HD.out y hy
                        · obtain rfl := List.mem_singleton.1 hy
                          exact not_mem_byte x 46 (fun j hj => HM.out j (by omega))
                      go_wp2_with fail
                      go_roundw
                      case rel => exact ⟨k + 1, _, by go_num, by omega, rfl, HSZ.out, by rw [HF2.out], HT2, HD2, HBm⟩
                      case measure => simp [intOf]; omega
                · have hdb : ((d0 : Int) != 36) = true := by rw [bne_iff_ne]; omega
                  have hh : (x.data.toList.headD 0 != 36) = true := by
                    rw [bne_iff_ne]; intro e; rw [e] at g2; exact hd36 g2.symm
                  rw [g1, hh] at hmn
                  obtain ⟨mb, hmb⟩ : ∃ mb, mb = nameMay x.data.toList := ⟨_, rfl⟩
                  rw [← hmb] at hmn CN
                  have HF2 : Hid (fineN p.length (lists (p.take (k + 1))) = mb) := by
                    have := HFS.out mb (by rw [hmn]; rfl)
                    rw [this]; rfl
                  clear hmn hmb g1 g2 hh
                  go_wp2_with fail
                  refine (CN.out _ (by omega)).mono ?_
                  rintro e w3 ⟨rfl, hb3⟩
                  have HB3 : Hid (Below w.heap.size w w3) := HB.out.trans (hb3.mono HB.out.size)
                  have c2 := cell_keep HB3.out HC0.out
                  clear hb3 CN c1
                  go_wp2_with fail
                  go_loopw [6] (fun j wr => ∃ m : Nat, j = .int .i64 m ∧ m ≤ x.size ∧ Hid (∀ y, y < m → byte x y ≠ 46) ∧ Hid (Below w.heap.size w wr)) (fun j _ => x.size - (intOf j).toNat)
                  case atStart => exact ⟨0, rfl, Nat.zero_le _, fun y hy => by omega, HB3⟩
                  case round =>
                    obtain ⟨m, rfl, hm, HM, HBm⟩ := hrel
                    have c1 := cell_keep HBm.out HC0.out
                    by_cases hmx : m < x.size
                    · have i3 := HRX.out m hmx
                      obtain ⟨d, hd⟩ : ∃ d, d = byte x m := ⟨_, rfl⟩
                      have hd256 : d < 256 := by rw [hd]; exact byte_lt x m
                      rw [← hd] at i3
                      have HDM := Lib.hid hd
                      clear hd
                      by_cases h46 : d = 46
                      · subst h46
                        have i4 : ∀ W, (Instr.index 9 (.string x) (.int .i64 (m : Int))).run Tryd.prog W = .ok (.int .u8 46) W := i3
                        go_wp2_with fail
                        go_ret
                        exact ⟨rfl, HBm.out⟩
                      · have hdb : ((d : Int) == 46) = false := by rw [beq_eq_false_iff_ne]; omega
                        have HM2 : Hid (∀ y, y < m + 1 → byte x y ≠ 46) := by
                          intro y hy
                          rcases Nat.lt_or_ge y m with h | h
                          · exact HM.out y h
                          · obtain rfl : y = m := by omega
                            rw [← HDM.out]; exact h46
                        go_wp2_with fail
                        go_roundw
                        case rel => exact ⟨m + 1, by go_num, by omega, HM2, HBm⟩
                        case measure => simp [intOf]; omega
                    · have HD2 : Hid (∀ y ∈ lists (p.take (k + 1)), (46 : UInt8) ∉ y) := by
                        intro y hy
                        rw [HLT.out] at hy
                        rcases List.mem_append.1 hy with hy | hy
                        · exact HD.out y hy
                        · obtain rfl := List.mem_singleton.1 hy
                          exact not_mem_byte x 46 (fun j hj => HM.out j (by omega))
                      go_wp2_with fail
                      go_roundw
                      case rel => exact ⟨k + 1, _, by go_num, by omega, rfl, HSZ.out, by rw [HF2.out], HT2, HD2, HBm⟩
                      case measure => simp [intOf]; omega
        · have hkk : k = n := by omega
          subst hkk
          have htk : p.take k = p := List.take_of_length_le (by rw [← HN.out]; exact Nat.le_refl _)
          rw [htk] at HT HD HFI
          have CP := Lib.hid (Parse_any t wr (by omega) (HG.out.keep HB.out))
          have hpj := parse_join p HD.out
          rw [← HT.out, ← HFI.out] at hpj
          have HPJ := Lib.hid hpj
          clear htk hpj
          cases fi with
          | false =>
            go_wp2_with fail
            refine CP.out.mono ?_
            rintro e w3 ⟨v3, b3, rfl, hb3, hy3, hn3⟩
            obtain ⟨rfl, rfl⟩ := hn3 HPJ.out
            have HB3 : Hid (Below w.heap.size w w3) := HB.out.trans (hb3.mono HB.out.size)
            clear hb3 hy3 hn3 CP
            go_wp2_with fail
            go_ret
            exact ⟨rfl, HB3.out⟩
          | true =>
            go_wp2_with fail
            refine CP.out.mono ?_
            rintro e w3 ⟨v3, b3, rfl, hb3, hy3, hn3⟩
            obtain ⟨rfl, hat⟩ := hy3 _ HPJ.out
            have HB3 : Hid (Below w.heap.size w w3) := HB.out.trans (hb3.mono HB.out.size)
            rw [names_lists] at hat
            obtain ⟨a3, c3, rfl, hc3, hc4, hs3⟩ := hat
            have CT := Lib.hid (texts_any (.slice a3 p.length c3) (.slice a k c) p p w3 ⟨a3, _, c3, rfl, rfl, by omega, hs3⟩ ⟨a, k, c, rfl, HN.out, hn2, HP.out.keep HB3.out⟩)
            rw [decide_eq_true (rfl : p = p)] at CT
            rw [← HN.out] at CT ⊢
            clear hb3 hy3 hn3 CP hs3 hc3 hc4
            go_wp2_with fail
            refine CT.out.mono ?_
            rintro e w4 ⟨rfl, hb4⟩
            have HB4 : Hid (Below w.heap.size w w4) := HB3.out.trans (hb4.mono HB3.out.size)
            clear hb4
            go_wp2_with fail
            go_ret
            exact ⟨rfl, HB4.out⟩
end Go.Proofs.YtfhbjinajloecaaDoor
