/- PathParse, PathRefMay, PathRefParse, PathAwake. -/
import Derived.Laws.DeepStrings4
import Derived.Test.YtdgncpoephdboaaDoorMg26
import Derived.Test.YtdgncpoephdboaaDoorMg9
import Derived.Test.YtdgncpoephdboaaDoorMg19
set_option maxRecDepth 100000
section
namespace Go.Proofs.YtdgncpoephdboaaDoor
open Go.RowKit
open Seal
open Path
def strSize : Value → Nat
  | .string s => s.size
  | _ => 0
def boolOf : Value → Bool
  | .bool b => b
  | _ => false
namespace Path
/-- Names as texts. -/
def names (l : List (List UInt8)) : List ByteArray := l.map fun x => ⟨x.toArray⟩
theorem names_length (l : List (List UInt8)) : (names l).length = l.length := by simp [names]
theorem strs_names (l : List (List UInt8)) : strs l = (names l).map .string := by simp [strs, names]
/-- What the loop of Parse holds: the names so far, and what is left, if there is more. -/
def PRest (l : List UInt8) (done : List (List UInt8)) (rest : ByteArray) (more : Bool) : Prop := split l = done ++ (if more then split rest.data.toList else []) ∧ done.all may = true ∧ done.length ≤ 16
theorem PRest.full {l : List UInt8} {done : List (List UInt8)} {rest : ByteArray} (h : PRest l done rest true) (h16 : done.length = 16) : parse l = none := by
  unfold parse
  rw [if_neg]
  rintro ⟨_, h2⟩
  have h3 := h.1
  simp only [if_true] at h3
  have := List.length_pos_iff.2 (split_ne rest.data.toList)
  rw [h3, List.length_append] at h2
  omega
theorem PRest.bad {l : List UInt8} {done more : List (List UInt8)} {x : List UInt8} (h : split l = done ++ x :: more) (hx : may x = false) : parse l = none := by
  unfold parse
  rw [if_neg]
  rintro ⟨h1, _⟩
  rw [h] at h1
  simp [hx] at h1
theorem PRest.done {l : List UInt8} {done : List (List UInt8)} {rest : ByteArray} (h : PRest l done rest false) : parse l = some done := by
  obtain ⟨h1, h2, h3⟩ := h
  simp only [Bool.false_eq_true, if_false, List.append_nil] at h1
  unfold parse
  rw [h1, if_pos ⟨h2, h3⟩]
end Path
theorem infoS : (Tryd.prog.info? 9).map (fun i => (i.zero, i.size, i.bytes)) = some (some (.string ⟨#[]⟩), 1, 16) := by kernel_rfl
/-- A slice of texts. -/
def NamesAt (w : World) (v : Value) (p : List ByteArray) : Prop := ∃ a c, v = .slice a p.length c ∧ p.length ≤ c ∧ c ≤ 9223372036854775807 ∧ StrsIn w a p
def ParsePost (l : List UInt8) (w : World) (e : Ending) (w' : World) : Prop :=
  ∃ v b, e = .returned (.tuple #[v, .bool b]) ∧ Below w.heap.size w w' ∧ (∀ p, parse l = some p → b = true ∧ NamesAt w' v (names p)) ∧ (parse l = none → b = false ∧ v = .slice none 0 0)
theorem owns_names {w : World} {base : Nat} {v : Value} {l : List (List UInt8)} (h : w.ownsRow base 9 1 v l.length (strs l)) : NamesAt w v (names l) := by
  obtain ⟨hxl, ⟨rfl, hn⟩ | ⟨g, cap, cur, rfl, hbg, hrow, hc, hm, hsz, htake⟩⟩ := h
  · have hn' := List.eq_nil_of_length_eq_zero hn
    subst hn'
    exact ⟨none, 0, rfl, Nat.le_refl _, by omega, .inl rfl⟩
  · refine ⟨some ⟨g, 0, none⟩, cap, by rw [names_length], by rw [names_length]; exact hc, by unfold maxLen at hm; omega, .inr ⟨g, 0, rfl, fun i hi => ?_⟩⟩
    rw [names_length] at hi
    rw [Nat.zero_add, cell_of_row w g i _ _ _ hrow, ← Array.getElem?_toList]
    have e : cur.toList[i]? = (strs l)[i]? := by rw [← htake, List.getElem?_take_of_lt (by omega)]
    rw [e, strs_names, List.getElem?_map, List.getElem?_eq_getElem (by rw [names_length]; exact hi)]
    rfl
theorem one_new (w : World) (c : Value) (t : TypeId) : ∀ j u, ([c] : List Value)[j]? = some u → (w.alloc (.cells #[c] t)).cell? (Addr.add ⟨w.heap.size, 0, none⟩ j) = some u := by
  intro j u hj
  rw [Addr.add_mid, Nat.zero_add, cell_of_row _ _ j _ _ _ (heap_alloc_new w _)]
  simpa using hj
set_option maxRecDepth 100000 in
set_option maxHeartbeats 1000000 in
theorem Parse_any (s : ByteArray) (w : World) (hs : s.size ≤ 4294967280) (hG : Ground w) : Calls Tryd.prog 17 #[.string s] w (ParsePost s.data.toList w) := by
  obtain ⟨i0, hi, hz0, hz1, hz2⟩ := info_parts infoS
  have HG := Lib.hid hG
  clear hG
  go_enter Tryd.func17, Tryd.ntmps17
  go_wp2_with fail
  go_loopw [0, 4, 5] (fun st v mo wr => ∃ (done : List (List UInt8)) (rest : ByteArray) (m : Bool) (v' : Value), st = .string rest ∧ mo = .bool m ∧ v' = v ∧ rest.size ≤ s.size ∧ Hid (PRest s.data.toList done rest m) ∧ Hid (wr.ownsRow w.heap.size 9 1 v' done.length (strs done)) ∧ Hid (Below w.heap.size w wr)) (fun st _ mo _ => if boolOf mo then strSize st + 1 else 0)
  case atStart => exact ⟨[], s, true, _, rfl, rfl, rfl, Nat.le_refl _, ⟨rfl, rfl, by simp⟩, World.ownsRow_nil _ _ _ _, Below.refl _ _⟩
  case round =>
    obtain ⟨done, rest, m, v, rfl, rfl, rfl, hrs, HR, HO, HB⟩ := hrel
    obtain ⟨a1, cc1, hv1⟩ : ∃ a c, v = .slice a done.length c := owns_shape HO.out
    obtain ⟨dn, hdn⟩ : ∃ n, n = done.length := ⟨_, rfl⟩
    rw [← hdn] at hv1
    subst hv1
    have HDN := Lib.hid hdn
    have hd16 : dn ≤ 16 := by rw [hdn]; exact HR.out.2.2
    clear hdn
    cases m with
    | false =>
      have HP := Lib.hid HR.out.done
      go_wp2_with fail
      refine bodyPost_ret (v := .tuple #[.slice a1 dn cc1, .bool true]) (by simp [results, Tryd.results17, go_sem]) rfl ?_
      refine ⟨_, true, rfl, HB.out, fun p hp => ⟨rfl, ?_⟩, fun hp => by rw [HP.out] at hp; cases hp⟩
      rw [HP.out] at hp
      obtain rfl := Option.some.inj hp
      exact owns_names HO.out
    | true =>
      have CC : Hid (∀ wx, Ground wx → Calls Tryd.prog 30 #[.string rest, .string ⟨#[46]⟩] wx fun e w' => e = .returned (.tuple #[.string ⟨(Lib.cut rest.data.toList [46]).1.toArray⟩, .string ⟨(Lib.cut rest.data.toList [46]).2.1.toArray⟩, .bool (Lib.cut rest.data.toList [46]).2.2]) ∧ ∃ n, w' = wx.drewN n) := fun wx hg => by
        obtain ⟨mm, hm⟩ := hg.most
        exact Tryd.strings_Cut rest ⟨#[46]⟩ mm wx (by omega) hm
      have HGr : Hid (Ground wr) := HG.out.keep HB.out
      obtain ⟨x, y, mo2, hcut, hsp, hys⟩ : ∃ x y mo2, Lib.cut rest.data.toList [46] = (x, y, mo2) ∧ split rest.data.toList = x :: (if mo2 then split y else []) ∧ x.length ≤ rest.size ∧ y.length ≤ rest.size ∧ (mo2 = true → y.length < rest.size) := by
        have hl := len_list rest
        rcases cut_dot rest.data.toList with ⟨h1, h2⟩ | ⟨a, b, h0, h1, h2⟩
        · exact ⟨_, _, false, h2, split_free _ h1, by omega, by simp, nofun⟩
        · exact ⟨a, b, true, h2, by rw [h0, split_cut a b h1]; rfl, by rw [← hl, h0]; simp, by rw [← hl, h0]; simp; omega, fun _ => by rw [← hl, h0]; simp; omega⟩
      have hall : split s.data.toList = done ++ x :: (if mo2 then split y else []) := by have := HR.out.1; rw [if_pos rfl, hsp] at this; exact this
      have HALL := Lib.hid hall
      have HYS := Lib.hid hys
      rw [hcut] at CC
      clear hcut hsp hall hys
      go_wp2_with fail
      refine (CC.out _ HGr.out).mono ?_
      rintro e w1 ⟨rfl, n1, rfl⟩
      have HB1 : Hid (Below w.heap.size w (wr.drewN n1)) := Go.below_drewN HB.out n1
      have HG1 : Hid (Ground (wr.drewN n1)) := HG.out.keep HB1.out
      have HO1 : Hid ((wr.drewN n1).ownsRow w.heap.size 9 1 (.slice a1 dn cc1) dn (strs done)) := by have := HO.out; rw [← HDN.out] at this; exact this
      clear HB HO HGr CC
      generalize wr.drewN n1 = w1 at *
      by_cases h16 : dn = 16
      · subst h16
        have HP : Hid (parse s.data.toList = none) := HR.out.full HDN.out.symm
        go_wp2_with fail
        refine bodyPost_ret (v := .tuple #[.slice none 0 0, .bool false]) (by simp [results, Tryd.results17, go_sem]) rfl ?_
        exact ⟨_, false, rfl, HB1.out, fun p hp => (by rw [HP.out] at hp; cases hp), fun _ => ⟨rfl, rfl⟩⟩
      · have CM := Lib.hid (may_any ⟨x.toArray⟩ w1 (by have := HYS.out.1; show x.toArray.size ≤ _; simp; omega) HG1.out)
        have hmx : (⟨x.toArray⟩ : ByteArray).data.toList = x := rfl
        rw [hmx] at CM
        clear hmx
        obtain ⟨mb, hmb⟩ : ∃ mb, mb = may x := ⟨_, rfl⟩
        rw [← hmb] at CM
        have HMB := Lib.hid hmb
        clear hmb
        cases mb with
        | false =>
          have HP : Hid (parse s.data.toList = none) := PRest.bad HALL.out HMB.out.symm
          go_wp2_with fail
          refine CM.out.mono ?_
          rintro e w2 ⟨rfl, hb2⟩
          have HB2 : Hid (Below w.heap.size w w2) := HB1.out.trans (hb2.mono HB1.out.size)
          clear hb2
          go_wp2_with fail
          refine bodyPost_ret (v := .tuple #[.slice none 0 0, .bool false]) (by simp [results, Tryd.results17, go_sem]) rfl ?_
          exact ⟨_, false, rfl, HB2.out, fun p hp => (by rw [HP.out] at hp; cases hp), fun _ => ⟨rfl, rfl⟩⟩
        | true =>
          have HR2 : Hid (PRest s.data.toList (done ++ [x]) ⟨y.toArray⟩ mo2) := ⟨by rw [HALL.out, List.append_assoc]; rfl, by rw [List.all_append, HR.out.2.1]; simp [HMB.out.symm], by rw [List.length_append, ← HDN.out]; simp; omega⟩
          have hyz : Hid ((⟨y.toArray⟩ : ByteArray).size ≤ s.size ∧ (mo2 = true → (⟨y.toArray⟩ : ByteArray).size < rest.size)) := by
            have e : (⟨y.toArray⟩ : ByteArray).size = y.length := by show y.toArray.size = _; simp
            rw [e]; exact ⟨Nat.le_trans HYS.out.2.1 hrs, HYS.out.2.2⟩
          go_wp2_with fail
          refine CM.out.mono ?_
          rintro e w2 ⟨rfl, hb2⟩
          have HB2 : Hid (Below w.heap.size w (w2.alloc (.cells #[.string ⟨x.toArray⟩] 9))) := (HB1.out.trans (hb2.mono HB1.out.size)).alloc (by have := (HB1.out.trans (hb2.mono HB1.out.size)).size; omega) _
          have HO2 : Hid ((w2.alloc (.cells #[.string ⟨x.toArray⟩] 9)).ownsRow w.heap.size 9 1 (.slice a1 dn cc1) dn (strs done)) := owns_below (owns_below HO1.out hb2) ((Below.refl _ _).alloc (Nat.le_refl _) _)
          have HNW : Hid (∀ j u, ([.string ⟨x.toArray⟩] : List Value)[j]? = some u → (w2.alloc (.cells #[.string ⟨x.toArray⟩] 9)).cell? (Addr.add ⟨w2.heap.size, 0, none⟩ j) = some u) := one_new w2 _ _
          have HSZ := Lib.hid HB2.out.size
          clear hb2 HB1 HG1 HO1 CM
          go_wp2_with (at_builtin; refine wpList_append_sz _ rfl (.tmp 22) (.tmp 24) 22 rfl w.heap.size 9 i0 (.string ⟨#[]⟩) 1 16 Tryd.underlying22 hi hz0 hz1 hz2 rfl (.slice a1 dn cc1) dn (strs done) rfl HO2.out ⟨w2.heap.size, 0, none⟩ 1 1 [.string ⟨x.toArray⟩] rfl rfl (by decide) (by decide) HNW.out (by intro u hu; simp at hu; subst hu; rfl) (by unfold maxLen; omega) (by omega) HSZ.out ?_)
          intro v5 w5 hown5 hlies5
          have hw5 := Wrote.of_lies hlies5
          have HB5 : Hid (Below w.heap.size w w5) := HB2.out.grown hw5.1 HSZ.out (fun j hj => (owns_block HO2.out hj).1)
          have HO5 : Hid (w5.ownsRow w.heap.size 9 1 v5 (done ++ [x]).length (strs (done ++ [x]))) := by
            rw [strs_append, List.length_append, ← HDN.out]; exact hown5
          clear hown5 hlies5 hw5 HO2 HNW HSZ HB2
          go_wp2_with fail
          go_roundw
          case rel => exact ⟨done ++ [x], _, mo2, v5, rfl, rfl, rfl, hyz.out.1, HR2, HO5, HB5⟩
          case measure =>
            show (if boolOf (.bool mo2) = true then strSize (.string ⟨y.toArray⟩) + 1 else 0) < (if boolOf (.bool true) = true then strSize (.string rest) + 1 else 0)
            simp only [boolOf, strSize, if_true]
            cases mo2 with
            | false => simp
            | true => have := hyz.out.2 rfl; simp only [if_true]; omega
end Go.Proofs.YtdgncpoephdboaaDoor
end
section
namespace Go.Proofs.YtdgncpoephdboaaDoor
open Go.RowKit
open Seal
open Path
namespace Path
def nameMay (l : List UInt8) : Bool := decide (0 ∉ l) && decide (l.length ≤ 120) && Lib.validD l
theorem may_name (l : List UInt8) : may l = ((!l.isEmpty) && (l.headD 0 != 36) && nameMay l) := by
  unfold may nameMay
  cases (!l.isEmpty) <;> cases (l.headD 0 != 36) <;> cases decide (l.length ≤ 120) <;> cases decide (0 ∉ l) <;> rfl
theorem mem_byte (s : ByteArray) (c : UInt8) (k : Nat) (hk : k < s.size) (h : byte s k = c.toNat) : c ∈ s.data.toList := by
  have hl := len_list s
  have e : s.data.toList[k]'(by omega) = c := by
    apply UInt8.toNat_inj.1
    unfold byte at h
    rw [List.getD_eq_getElem?_getD, List.getElem?_eq_getElem (by omega)] at h
    exact h
  rw [← e]
  exact List.getElem_mem _
theorem not_mem_byte (s : ByteArray) (c : UInt8) (h : ∀ k, k < s.size → byte s k ≠ c.toNat) : c ∉ s.data.toList := by
  intro hm
  obtain ⟨k, hk, e⟩ := List.getElem_of_mem hm
  rw [len_list] at hk
  refine h k hk ?_
  unfold byte
  rw [List.getD_eq_getElem?_getD, List.getElem?_eq_getElem (by rw [len_list]; exact hk), e]
  rfl
end Path
set_option maxRecDepth 100000 in
set_option maxHeartbeats 1000000 in
theorem nameMay_any (s : ByteArray) (w : World) (hs : s.size ≤ 140737488355328) :
    Calls Tryd.prog 75 #[.string s] w fun e w' => e = .returned (.bool (nameMay s.data.toList)) ∧ Below w.heap.size w w' := by
  have HRB := Lib.hid (run_byte s)
  have CU := Lib.hid (fun wx => utf8ref_any s wx hs)
  have hl := len_list s
  go_enter Tryd.func75, Tryd.ntmps75
  go_wp2_with fail
  go_loopw [3] (fun i wr => ∃ k : Nat, i = .int .i64 k ∧ k ≤ s.size ∧ Hid (∀ j, j < k → byte s j ≠ 0) ∧ Hid (Below w.heap.size w wr)) (fun i _ => s.size - (intOf i).toNat)
  case atStart => exact ⟨0, rfl, Nat.zero_le _, fun j hj => by omega, Below.refl _ _⟩
  case round =>
    obtain ⟨k, rfl, hk, HZ, HB⟩ := hrel
    by_cases hlt : k < s.size
    · have i0 := HRB.out k hlt
      obtain ⟨c, hc⟩ : ∃ c, c = byte s k := ⟨_, rfl⟩
      rw [← hc] at i0
      have hc256 : c < 256 := by rw [hc]; exact byte_lt s k
      have HC := Lib.hid hc
      clear hc
      by_cases h0 : c = 0
      · subst h0
        have hres : nameMay s.data.toList = false := by
          have := mem_byte s 0 k hlt (by rw [← HC.out]; rfl)
          unfold nameMay; rw [decide_eq_false (by simpa using this)]; rfl
        have HRES := Lib.hid hres
        clear hres
        have i1 : ∀ W, (Instr.index 9 (.string s) (.int .i64 (k : Int))).run Tryd.prog W = .ok (.int .u8 0) W := i0
        go_wp2_with fail
        go_ret
        exact ⟨by rw [HRES.out]; rfl, HB.out⟩
      · have hcb : ((c : Int) == 0) = false := by simpa using h0
        have HZ2 : Hid (∀ j, j < k + 1 → byte s j ≠ 0) := by
          intro j hj
          rcases Nat.lt_or_ge j k with h | h
          · exact HZ.out j h
          · obtain rfl : j = k := by omega
            rw [← HC.out]; exact h0
        go_wp2_with fail
        go_roundw
        case rel => exact ⟨k + 1, by go_num, by omega, HZ2, HB⟩
        case measure => simp [intOf]; omega
    · have hkk : k = s.size := by omega
      have h0 : (0 : UInt8) ∉ s.data.toList := not_mem_byte s 0 (fun j hj => HZ.out j (by omega))
      by_cases h120 : s.size ≤ 120
      · have hres : nameMay s.data.toList = Lib.validD s.data.toList := by
          unfold nameMay; rw [decide_eq_true h0, decide_eq_true (by omega)]; simp
        have HRES := Lib.hid hres
        clear hres h0
        go_wp2_with fail
        refine (CU.out _).mono ?_
        rintro e w2 ⟨rfl, hb⟩
        have HB2 : Hid (Below w.heap.size w w2) := HB.out.trans (hb.mono HB.out.size)
        clear hb
        go_wp2_with fail
        go_ret
        exact ⟨by rw [HRES.out]; rfl, HB2.out⟩
      · have hres : nameMay s.data.toList = false := by
          unfold nameMay; rw [decide_eq_false (show ¬ s.data.toList.length ≤ 120 by omega)]; simp
        have HRES := Lib.hid hres
        clear hres h0
        go_wp2_with fail
        go_ret
        exact ⟨by rw [HRES.out]; rfl, HB.out⟩
/-- The rows are the same just if they are alike. -/
def NamesIn (w : World) (v : Value) (p : List ByteArray) : Prop := ∃ a n c, v = .slice a n c ∧ n = p.length ∧ n ≤ 9223372036854775807 ∧ StrsIn w a p
theorem NamesAt.in {w : World} {v : Value} {p : List ByteArray} (h : NamesAt w v p) : NamesIn w v p := by
  obtain ⟨a, c, rfl, h1, h2, h3⟩ := h
  exact ⟨a, _, c, rfl, rfl, by omega, h3⟩
theorem NamesIn.keep {w w' : World} {v : Value} {p : List ByteArray} (h : NamesIn w v p) (hb : Below w.heap.size w w') : NamesIn w' v p := by
  obtain ⟨a, n, c, e, h1, h2, h3⟩ := h
  exact ⟨a, n, c, e, h1, h2, h3.keep hb⟩
theorem str_eqb (s t : ByteArray) : (s.toList == t.toList) = decide (s = t) := by
  by_cases h : s = t
  · subst h; simp
  · rw [str_ne h, decide_eq_false h]
end Go.Proofs.YtdgncpoephdboaaDoor
end
section
namespace Go.Proofs.YtdgncpoephdboaaDoor
open Go.RowKit
open Seal
open Path
namespace Path
/-- What the loop of ParsePath holds: the names so far; the place where the name begins that is being read; the place. -/
def Scan (l : List UInt8) (done : List (List UInt8)) (a i : Nat) : Prop :=
  a ≤ i ∧ done.all may = true ∧ done.length ≤ 16 ∧ ((i ≤ l.length ∧ split l = done ++ split (l.drop a) ∧ 46 ∉ (l.take i).drop a) ∨ (i = l.length + 1 ∧ a = i ∧ split l = done))
theorem Scan.next {l : List UInt8} {done : List (List UInt8)} {a i : Nat} (h : Scan l done a i) (hi : i < l.length) (hc : l[i] ≠ 46) : Scan l done a (i + 1) := by
  obtain ⟨h1, h2, h3, ⟨h4, h5, h6⟩ | ⟨h4, h5, h6⟩⟩ := h
  · refine ⟨by omega, h2, h3, .inl ⟨by omega, h5, ?_⟩⟩
    rw [List.take_add_one, List.getElem?_eq_getElem hi, List.drop_append_of_le_length (by simp; omega)]
    intro hm
    rcases List.mem_append.1 hm with hm | hm
    · exact h6 hm
    · simp at hm; exact hc hm.symm
  · omega
theorem Scan.name {l : List UInt8} {done : List (List UInt8)} {a i : Nat} (h : Scan l done a i) (hi : i ≤ l.length) (hc : ∀ h : i < l.length, l[i] = 46) :
    ∃ more, split l = done ++ ((l.take i).drop a) :: more ∧ (i = l.length → more = []) ∧ (i < l.length → more = split (l.drop (i + 1))) := by
  obtain ⟨h1, h2, h3, ⟨h4, h5, h6⟩ | ⟨h4, h5, h6⟩⟩ := h
  · rcases Nat.lt_or_ge i l.length with hlt | hge
    · have e : l.drop a = (l.take i).drop a ++ 46 :: l.drop (i + 1) := by
        have e1 : l = l.take i ++ l.drop i := (List.take_append_drop i l).symm
        have e2 : l.drop i = 46 :: l.drop (i + 1) := by rw [List.drop_eq_getElem_cons hlt, hc hlt]
        conv => lhs; rw [e1, List.drop_append_of_le_length (by simp; omega), e2]
      refine ⟨split (l.drop (i + 1)), ?_, fun e => by omega, fun _ => rfl⟩
      rw [h5, e, split_cut _ _ h6]
    · have e : (l.take i).drop a = l.drop a := by rw [List.take_of_length_le (by omega)]
      refine ⟨[], ?_, fun _ => rfl, fun e => by omega⟩
      rw [h5, ← e, split_free _ h6]
  · omega
theorem Scan.push {l : List UInt8} {done : List (List UInt8)} {a i : Nat} (h : Scan l done a i) (hi : i ≤ l.length) (hc : ∀ h : i < l.length, l[i] = 46) (hm : may ((l.take i).drop a) = true) (hd : done.length < 16) :
    Scan l (done ++ [(l.take i).drop a]) (i + 1) (i + 1) := by
  obtain ⟨more, h1, h2, h3⟩ := h.name hi hc
  refine ⟨Nat.le_refl _, by rw [List.all_append, h.2.1]; simp [hm], by simp; omega, ?_⟩
  rcases Nat.lt_or_ge i l.length with hlt | hge
  · refine .inl ⟨by omega, by rw [h1, h3 hlt, List.append_assoc]; rfl, ?_⟩
    rw [List.drop_of_length_le (by simp; omega)]; simp
  · exact .inr ⟨by omega, rfl, by rw [h1, h2 (by omega)]⟩
theorem Scan.bad {l : List UInt8} {done : List (List UInt8)} {a i : Nat} (h : Scan l done a i) (hi : i ≤ l.length) (hc : ∀ h : i < l.length, l[i] = 46) (hm : may ((l.take i).drop a) = false ∨ done.length = 16) : parse l = none := by
  obtain ⟨more, h1, _, _⟩ := h.name hi hc
  unfold parse
  rw [if_neg]
  rintro ⟨h2, h3⟩
  rw [h1] at h2 h3
  rcases hm with hm | hm
  · simp [hm] at h2
  · simp at h3; omega
theorem Scan.done {l : List UInt8} {done : List (List UInt8)} {a i : Nat} (h : Scan l done a i) (hi : l.length < i) : parse l = some done := by
  obtain ⟨h1, h2, h3, ⟨h4, h5, h6⟩ | ⟨h4, h5, h6⟩⟩ := h
  · omega
  · unfold parse; rw [h6, if_pos ⟨h2, h3⟩]
theorem ext_chars (s : ByteArray) (a i : Nat) : (s.extract a i).data.toList = (s.data.toList.take i).drop a := by
  have e : (s.extract a i).data = s.data.extract a i := by simp
  rw [e, List.drop_take]; simp
theorem run_cutout (s : ByteArray) (a i : Nat) (h1 : a ≤ i) (h2 : i ≤ s.size) (W : World) : (Instr.slice 9 (.string s) (some (.int .i64 (a : Int))) (some (.int .i64 (i : Int))) none).run Tryd.prog W = .ok (.string (s.extract a i)) W := by
  rw [run_slice_string_if (P := Tryd.prog) (w := W) 9 s .i64 .i64 (a : Int) (i : Int) (by kernel_rfl), if_pos ⟨by omega, by omega⟩, if_pos ⟨by omega, by omega⟩]
  rfl
theorem byte_get (s : ByteArray) (i : Nat) (hi : i < s.data.toList.length) : byte s i = (s.data.toList[i]).toNat := by
  unfold byte; rw [List.getD_eq_getElem?_getD, List.getElem?_eq_getElem hi]; rfl
theorem filled (x : ByteArray) (h : ¬ x.size = 0) : (x.toList == (⟨#[]⟩ : ByteArray).toList) = false ∧ ¬ x.toList = [] ∧ x.toList.isEmpty = false := by
  have h1 : ¬ x.toList = [] := fun e => h (by
    rw [ByteArray.toList_eq] at e
    obtain ⟨⟨l⟩⟩ := x
    simp only at e
    subst e
    rfl)
  refine ⟨str_ne (fun e => h ((empty_iff x).1 e)), h1, ?_⟩
  cases e : x.toList with
  | nil => exact absurd e h1
  | cons _ _ => rfl
end Path
end Go.Proofs.YtdgncpoephdboaaDoor
end
section
namespace Go.Proofs.YtdgncpoephdboaaDoor
open Go.RowKit
open Seal
open Path
open Bson (Val)
theorem five_rows (w : World) (c0 c1 c2 c3 c4 : Array Value) (t0 t1 t2 t3 t4 : TypeId) (W : World) (hW : ((((w.alloc (.cells c0 t0)).alloc (.cells c1 t1)).alloc (.cells c2 t2)).alloc (.cells c3 t3)).alloc (.cells c4 t4) = W) :
    W.heap[w.heap.size]? = some (.cells c0 t0 (0, 0)) ∧ W.heap[w.heap.size + 1]? = some (.cells c1 t1 (0, 0)) ∧ W.heap[w.heap.size + 1 + 1]? = some (.cells c2 t2 (0, 0)) ∧ W.heap[w.heap.size + 1 + 1 + 1]? = some (.cells c3 t3 (0, 0)) ∧ W.heap[w.heap.size + 1 + 1 + 1 + 1]? = some (.cells c4 t4 (0, 0)) ∧ Below w.heap.size w W ∧ W.heap.size = w.heap.size + 5 := by
  subst hW
  refine ⟨?_, ?_, ?_, ?_, ?_, ?_, by simp⟩
  · rw [Below.heap_alloc _ _ _ (by simp <;> omega), Below.heap_alloc _ _ _ (by simp <;> omega), Below.heap_alloc _ _ _ (by simp <;> omega), Below.heap_alloc _ _ _ (by simp), heap_alloc_new]
  · have h := heap_alloc_new (w.alloc (.cells c0 t0)) (.cells c1 t1)
    rw [Below.heap_alloc _ _ _ (by simp <;> omega), Below.heap_alloc _ _ _ (by simp <;> omega), Below.heap_alloc _ _ _ (by simp)]
    simpa using h
  · have h := heap_alloc_new ((w.alloc (.cells c0 t0)).alloc (.cells c1 t1)) (.cells c2 t2)
    rw [Below.heap_alloc _ _ _ (by simp <;> omega), Below.heap_alloc _ _ _ (by simp)]
    simpa using h
  · have h := heap_alloc_new (((w.alloc (.cells c0 t0)).alloc (.cells c1 t1)).alloc (.cells c2 t2)) (.cells c3 t3)
    rw [Below.heap_alloc _ _ _ (by simp)]
    simpa using h
  · have h := heap_alloc_new ((((w.alloc (.cells c0 t0)).alloc (.cells c1 t1)).alloc (.cells c2 t2)).alloc (.cells c3 t3)) (.cells c4 t4)
    simpa using h
  · exact (((((Below.refl _ w).alloc (Nat.le_refl _) _).alloc (by simp) _).alloc (by simp; omega) _).alloc (by simp; omega) _).alloc (by simp; omega) _
namespace Path
def one_ : Val := .mk 6 0 ⟨#[]⟩ [] [(⟨#[98]⟩, .mk 3 1 ⟨#[]⟩ [] [] [])] []
def wake : Val := .mk 6 0 ⟨#[]⟩ [] [(⟨#[97]⟩, .mk 7 0 ⟨#[]⟩ [] [] [one_, .mk 3 5 ⟨#[]⟩ [] [] [], one_])] []
theorem wake_reach : (Bson.reach 5 wake (names [[97], [98]])).kind = 7 ∧ (Bson.reach 5 wake (names [[97], [98]])).l.length = 2 := by
  constructor <;> rfl
theorem wake_all : (Bson.all 5 wake (names [[97], [98]])).length = 2 := by rfl
end Path
set_option maxRecDepth 100000 in
set_option maxHeartbeats 1000000 in
theorem awake_any (w : World) (hG : Ground w) : Calls Tryd.prog 6 #[] w fun e w' => e = .returned (.bool true) ∧ Below w.heap.size w w' := by
  have hp : parse (⟨#[97, 46, 98]⟩ : ByteArray).data.toList = some [[97], [98]] := by decide +kernel
  have CP := Lib.hid (Parse_any ⟨#[97, 46, 98]⟩ w (by decide) hG)
  have HP := Lib.hid hp
  clear hp
  go_enter Tryd.func6, Tryd.ntmps6
  go_wp2_with fail
  refine CP.out.mono ?_
  rintro e w1 ⟨v1, b1, rfl, hb1, hy, hn⟩
  obtain ⟨rfl, a1, c1, rfl, hc1, hc2, hs1⟩ := hy _ HP.out
  have HB1 := Lib.hid hb1
  have HS1 := Lib.hid hs1
  have hln : (names [[97], [98]]).length = 2 := rfl
  rw [hln] at hc1 ⊢
  clear hy hn hb1 hs1 CP HP hln
  go_wp2_with fail
  generalize hW : ((((w1.alloc _).alloc _).alloc _).alloc _).alloc _ = W at *
  obtain ⟨r0, r1, r2, r3, r4, hbW, hsW⟩ := five_rows _ _ _ _ _ _ _ _ _ _ _ _ hW
  have HV : Hid (VIn W (fun g => w.heap.size ≤ g) 4 wake (.agg #[.int .i64 6, .int .i64 0, .string ⟨#[]⟩, .slice none 0 0, .slice (some ⟨w1.heap.size + 1 + 1 + 1, 0, none⟩) 1 1, .slice none 0 0])) := by
    have hs := HB1.out.size
    have h1 : VIn W (fun g => w.heap.size ≤ g) 2 one_ (.agg #[.int .i64 6, .int .i64 0, .string ⟨#[]⟩, .slice none 0 0, .slice (some ⟨w1.heap.size, 0, none⟩) 1 1, .slice none 0 0]) := doc_in r0 (by omega) (by decide) (leaf_in _ _ 3 1 (by omega) (by omega) 0)
    exact doc_in r3 (by omega) (by decide) (three_in r2 (by omega) h1 (leaf_in _ _ 3 5 (by omega) (by omega) 1) h1)
  have HSW : Hid (StrsIn W a1 (names [[97], [98]])) := HS1.out.keep hbW
  have HBW : Hid (Below w.heap.size w W) := HB1.out.trans (hbW.mono HB1.out.size)
  have CR := Lib.hid (Reach_any 5 3 (names [[97], [98]]) a1 2 c1 (by decide) rfl hc1 _ wake _ W HV.out HSW.out)
  have e0 : W.cell? ⟨w1.heap.size + 1 + 1 + 1 + 1, 0, none⟩ = some (.int .i64 6) := (cell_of_row _ _ 0 _ _ _ r4).trans rfl
  have e1 : W.cell? ⟨w1.heap.size + 1 + 1 + 1 + 1, 1, none⟩ = some (.int .i64 0) := (cell_of_row _ _ 1 _ _ _ r4).trans rfl
  have e2 : W.cell? ⟨w1.heap.size + 1 + 1 + 1 + 1, 2, none⟩ = some (.string ⟨#[]⟩) := (cell_of_row _ _ 2 _ _ _ r4).trans rfl
  have e3 : W.cell? ⟨w1.heap.size + 1 + 1 + 1 + 1, 3, none⟩ = some (.slice none 0 0) := (cell_of_row _ _ 3 _ _ _ r4).trans rfl
  have e4 : W.cell? ⟨w1.heap.size + 1 + 1 + 1 + 1, 4, none⟩ = some (.slice (some ⟨w1.heap.size + 1 + 1 + 1, 0, none⟩) 1 1) := (cell_of_row _ _ 4 _ _ _ r4).trans rfl
  have e5 : W.cell? ⟨w1.heap.size + 1 + 1 + 1 + 1, 5, none⟩ = some (.slice none 0 0) := (cell_of_row _ _ 5 _ _ _ r4).trans rfl
  clear hW r0 r1 r2 r3 r4 hbW
  refine CR.out.mono ?_
  rintro e w2 ⟨v2, rfl, hv2, hb2⟩
  obtain ⟨xk, xn, xs, ba, fa, la, bn, bc, fn, fc, ln, lc, rfl, hk, hxn, hxs, hbn, hfn, hl, hrest⟩ := hv2.letters
  clear hxn hxs hbn hfn hrest
  rw [wake_reach.1] at hk
  rw [wake_reach.2] at hl
  subst hk hl
  have f0 := cell_keep ((Below.refl _ w2).alloc (Nat.le_refl _) (.cells #[.int .i64 7, .int .i64 xn, .string xs, .slice ba bn bc, .slice fa fn fc, .slice la 2 lc] 27)) (cell_keep hb2 e0)
  have f1 := cell_keep ((Below.refl _ w2).alloc (Nat.le_refl _) (.cells #[.int .i64 7, .int .i64 xn, .string xs, .slice ba bn bc, .slice fa fn fc, .slice la 2 lc] 27)) (cell_keep hb2 e1)
  have f2 := cell_keep ((Below.refl _ w2).alloc (Nat.le_refl _) (.cells #[.int .i64 7, .int .i64 xn, .string xs, .slice ba bn bc, .slice fa fn fc, .slice la 2 lc] 27)) (cell_keep hb2 e2)
  have f3 := cell_keep ((Below.refl _ w2).alloc (Nat.le_refl _) (.cells #[.int .i64 7, .int .i64 xn, .string xs, .slice ba bn bc, .slice fa fn fc, .slice la 2 lc] 27)) (cell_keep hb2 e3)
  have f4 := cell_keep ((Below.refl _ w2).alloc (Nat.le_refl _) (.cells #[.int .i64 7, .int .i64 xn, .string xs, .slice ba bn bc, .slice fa fn fc, .slice la 2 lc] 27)) (cell_keep hb2 e4)
  have f5 := cell_keep ((Below.refl _ w2).alloc (Nat.le_refl _) (.cells #[.int .i64 7, .int .i64 xn, .string xs, .slice ba bn bc, .slice fa fn fc, .slice la 2 lc] 27)) (cell_keep hb2 e5)
  have HB2 : Hid (Below w.heap.size w w2) := HBW.out.trans (hb2.mono HBW.out.size)
  have HV2 : Hid (VIn w2 (fun g => w.heap.size ≤ g) 4 wake (.agg #[.int .i64 6, .int .i64 0, .string ⟨#[]⟩, .slice none 0 0, .slice (some ⟨w1.heap.size + 1 + 1 + 1, 0, none⟩) 1 1, .slice none 0 0])) := VIn.keep hb2 HV.out
  have HS2 : Hid (StrsIn w2 a1 (names [[97], [98]])) := HSW.out.keep hb2
  have CA := Lib.hid (fun wx (hb : Below w2.heap.size w2 wx) => All_any 5 3 (names [[97], [98]]) a1 2 c1 (by decide) rfl hc1 _ wake _ wx (VIn.keep hb HV2.out) (HS2.out.keep hb) (by rw [wake_all]; decide))
  rw [wake_all] at CA
  clear hv2 e0 e1 e2 e3 e4 e5 CR HV HSW hb2 HBW HS1 HB1 hsW
  generalize w1.heap.size + 1 + 1 + 1 + 1 = G at *
  go_wp2_with fail
  refine (CA.out _ ((Below.refl _ w2).alloc (Nat.le_refl _) _)).mono ?_
  rintro e w3 ⟨a3, c3, rfl, _, _, hb3⟩
  have HB3 : Hid (Below w.heap.size w w3) := (HB2.out.alloc HB2.out.size _).trans (hb3.mono (by have := HB2.out.size; simp; omega))
  clear hb3
  go_wp2_with fail
  go_ret
  exact ⟨rfl, HB3.out⟩
end Go.Proofs.YtdgncpoephdboaaDoor
end
