/- path.Parse. -/
import Derived.Test.YtfhbjinajloecaaDoorPathMay
namespace Go.Proofs.YtfhbjinajloecaaDoor
open Go.RowKit
open Seal
open Path
def strSize : Value → Nat
  | .string s => s.size
  | _ => 0
def boolOf : Value → Bool
  | .bool b => b
  | _ => false
namespace Path
/-- Names as texts. -/
def names (l : List (List UInt8)) : List ByteArray := l.map fun x => ⟨x.toArray⟩
theorem names_length (l : List (List UInt8)) : (names l).length = l.length := by simp [names]
theorem strs_names (l : List (List UInt8)) : strs l = (names l).map .string := by simp [strs, names]
/-- What the loop of Parse holds: the names so far, and what is left, if there is more. -/
def PRest (l : List UInt8) (done : List (List UInt8)) (rest : ByteArray) (more : Bool) : Prop := split l = done ++ (if more then split rest.data.toList else []) ∧ done.all may = true ∧ done.length ≤ 16
theorem PRest.full {l : List UInt8} {done : List (List UInt8)} {rest : ByteArray} (h : PRest l done rest true) (h16 : done.length = 16) : parse l = none := by
  unfold parse
  rw [if_neg]
  rintro ⟨_, h2⟩
  have h3 := h.1
  simp only [if_true] at h3
  have := List.length_pos_iff.2 (split_ne rest.data.toList)
  rw [h3, List.length_append] at h2
  omega
theorem PRest.bad {l : List UInt8} {done more : List (List UInt8)} {x : List UInt8} (h : split l = done ++ x :: more) (hx : may x = false) : parse l = none := by
  unfold parse
  rw [if_neg]
  rintro ⟨h1, _⟩
  rw [h] at h1
  simp [hx] at h1
theorem PRest.done {l : List UInt8} {done : List (List UInt8)} {rest : ByteArray} (h : PRest l done rest false) : parse l = some done := by
  obtain ⟨h1, h2, h3⟩ := h
  simp only [Bool.false_eq_true, if_false, List.append_nil] at h1
  unfold parse
  rw [h1, if_pos ⟨h2, h3⟩]
end Path
theorem infoS : (Tryd.prog.info? 9).map (fun i => (i.zero, i.size, i.bytes)) = some (some (.string ⟨#[]⟩), 1, 16) := by kernel_rfl
/-- A slice of texts. -/
def NamesAt (w : World) (v : Value) (p : List ByteArray) : Prop := ∃ a c, v = .slice a p.length c ∧ p.length ≤ c ∧ c ≤ 9223372036854775807 ∧ StrsIn w a p
def ParsePost (l : List UInt8) (w : World) (e : Ending) (w' : World) : Prop :=
  ∃ v b, e = .returned (.tuple #[v, .bool b]) ∧ Below w.heap.size w w' ∧ (∀ p, parse l = some p → b = true ∧ NamesAt w' v (names p)) ∧ (parse l = none → b = false ∧ v = .slice none 0 0)
theorem owns_names {w : World} {base : Nat} {v : Value} {l : List (List UInt8)} (h : w.ownsRow base 9 1 v l.length (strs l)) : NamesAt w v (names l) := by
  obtain ⟨hxl, ⟨rfl, hn⟩ | ⟨g, cap, cur, rfl, hbg, hrow, hc, hm, hsz, htake⟩⟩ := h
  · have hn' := List.eq_nil_of_length_eq_zero hn
    subst hn'
    exact ⟨none, 0, rfl, Nat.le_refl _, by omega, .inl rfl⟩
  · refine ⟨some ⟨g, 0, none⟩, cap, by rw [names_length], by rw [names_length]; exact hc, by unfold maxLen at hm; omega, .inr ⟨g, 0, rfl, fun i hi => ?_⟩⟩
    rw [names_length] at hi
    rw [Nat.zero_add, cell_of_row w g i _ _ _ hrow, ← Array.getElem?_toList]
    have e : cur.toList[i]? = (strs l)[i]? := by rw [← htake, List.getElem?_take_of_lt (by omega)]
    rw [e, strs_names, List.getElem?_map, List.getElem?_eq_getElem (by rw [names_length]; exact hi)]
    rfl
theorem one_new (w : World) (c : Value) (t : TypeId) : ∀ j u, ([c] : List Value)[j]? = some u → (w.alloc (.cells #[c] t)).cell? (Addr.add ⟨w.heap.size, 0, none⟩ j) = some u := by
  intro j u hj
  rw [Addr.add_mid, Nat.zero_add, cell_of_row _ _ j _ _ _ (heap_alloc_new w _)]
  simpa using hj
set_option maxRecDepth 100000 in
set_option maxHeartbeats 1000000 in
theorem Parse_any (s : ByteArray) (w : World) (hs : s.size ≤ 4294967280) (hG : Ground w) : Calls Tryd.prog 10 #[.string s] w (ParsePost s.data.toList w) := by
  obtain ⟨i0, hi, hz0, hz1, hz2⟩ := info_parts infoS
  have HG := Lib.hid hG
  clear hG
  go_enter Tryd.func10, Tryd.ntmps10
  go_wp2_with fail
  go_loopw [0, 4, 5] (fun st v mo wr => ∃ (done : List (List UInt8)) (rest : ByteArray) (m : Bool) (v' : Value), st = .string rest ∧ mo = .bool m ∧ v' = v ∧ rest.size ≤ s.size ∧ Hid (PRest s.data.toList done rest m) ∧ Hid (wr.ownsRow w.heap.size 9 1 v' done.length (strs done)) ∧ Hid (Below w.heap.size w wr)) (fun st _ mo _ => if boolOf mo then strSize st + 1 else 0)
  case atStart => exact ⟨[], s, true, _, rfl, rfl, rfl, Nat.le_refl _, ⟨rfl, rfl, by simp⟩, World.ownsRow_nil _ _ _ _, Below.refl _ _⟩
  case round =>
    obtain ⟨done, rest, m, v, rfl, rfl, rfl, hrs, HR, HO, HB⟩ := hrel
    obtain ⟨a1, cc1, hv1⟩ : ∃ a c, v = .slice a done.length c := owns_shape HO.out
    obtain ⟨dn, hdn⟩ : ∃ n, n = done.length := ⟨_, rfl⟩
    rw [← hdn] at hv1
    subst hv1
    have HDN := Lib.hid hdn
    have hd16 : dn ≤ 16 := by rw [hdn]; exact HR.out.2.2
    clear hdn
    cases m with
    | false =>
      have HP := Lib.hid HR.out.done
      go_wp2_with fail
      refine bodyPost_ret (v := .tuple #[.slice a1 dn cc1, .bool true]) (by simp [results, Tryd.results10, go_sem]) rfl ?_
      refine ⟨_, true, rfl, HB.out, fun p hp => ⟨rfl, ?_⟩, fun hp => by rw [HP.out] at hp; cases hp⟩
      rw [HP.out] at hp
      obtain rfl := Option.some.inj hp
      exact owns_names HO.out
    | true =>
      have CC : Hid (∀ wx, Ground wx → Calls Tryd.prog 26 #[.string rest, .string ⟨#[46]⟩] wx fun e w' => e = .returned (.tuple #[.string ⟨(Lib.cut rest.data.toList [46]).1.toArray⟩, .string ⟨(Lib.cut rest.data.toList [46]).2.1.toArray⟩, .bool (Lib.cut rest.data.toList [46]).2.2]) ∧ ∃ n, w' = wx.drewN n) := fun wx hg => by
        obtain ⟨mm, hm⟩ := hg.most
        exact Tryd.strings_Cut rest ⟨#[46]⟩ mm wx (by omega) hm
      have HGr : Hid (Ground wr) := HG.out.keep HB.out
      obtain ⟨x, y, mo2, hcut, hsp, hys⟩ : ∃ x y mo2, Lib.cut rest.data.toList [46] = (x, y, mo2) ∧ split rest.data.toList = x :: (if mo2 then split y else []) ∧ x.length ≤ rest.size ∧ y.length ≤ rest.size ∧ (mo2 = true → y.length < rest.size) := by
        have hl := len_list rest
        rcases cut_dot rest.data.toList with ⟨h1, h2⟩ | ⟨a, b, h0, h1, h2⟩
        · exact ⟨_, _, false, h2, split_free _ h1, by omega, by simp, nofun⟩
        · exact ⟨a, b, true, h2, by rw [h0, split_cut a b h1]; rfl, by rw [← hl, h0]; simp, by rw [← hl, h0]; simp; omega, fun _ => by rw [← hl, h0]; simp; omega⟩
      have hall : split s.data.toList = done ++ x :: (if mo2 then split y else []) := by have := HR.out.1; rw [if_pos rfl, hsp] at this; exact this
      have HALL := Lib.hid hall
      have HYS := Lib.hid hys
      rw [hcut] at CC
      clear hcut hsp hall hys
      go_wp2_with fail
      refine (CC.out _ HGr.out).mono ?_
      rintro e w1 ⟨rfl, n1, rfl⟩
      have HB1 : Hid (Below w.heap.size w (wr.drewN n1)) := below_drewN HB.out n1
      have HG1 : Hid (Ground (wr.drewN n1)) := HG.out.keep HB1.out
      have HO1 : Hid ((wr.drewN n1).ownsRow w.heap.size 9 1 (.slice a1 dn cc1) dn (strs done)) := by have := HO.out; rw [← HDN.out] at this; exact this
      clear HB HO HGr CC
      generalize wr.drewN n1 = w1 at *
      by_cases h16 : dn = 16
      · subst h16
        have HP : Hid (parse s.data.toList = none) := HR.out.full HDN.out.symm
        go_wp2_with fail
        refine bodyPost_ret (v := .tuple #[.slice none 0 0, .bool false]) (by simp [results, Tryd.results10, go_sem]) rfl ?_
        exact ⟨_, false, rfl, HB1.out, fun p hp => (by rw [HP.out] at hp; cases hp), fun _ => ⟨rfl, rfl⟩⟩
      · have CM := Lib.hid (may_any ⟨x.toArray⟩ w1 (by have := HYS.out.1; show x.toArray.size ≤ _; simp; omega) HG1.out)
        have hmx : (⟨x.toArray⟩ : ByteArray).data.toList = x := rfl
        rw [hmx] at CM
        clear hmx
        obtain ⟨mb, hmb⟩ : ∃ mb, mb = may x := ⟨_, rfl⟩
        rw [← hmb] at CM
        have HMB := Lib.hid hmb
        clear hmb
        cases mb with
        | false =>
          have HP : Hid (parse s.data.toList = none) := PRest.bad HALL.out HMB.out.symm
          go_wp2_with fail
          refine CM.out.mono ?_
          rintro e w2 ⟨rfl, hb2⟩
          have HB2 : Hid (Below w.heap.size w w2) := HB1.out.trans (hb2.mono HB1.out.size)
          clear hb2
          go_wp2_with fail
          refine bodyPost_ret (v := .tuple #[.slice none 0 0, .bool false]) (by simp [results, Tryd.results10, go_sem]) rfl ?_
          exact ⟨_, false, rfl, HB2.out, fun p hp => (by rw [HP.out] at hp; cases hp), fun _ => ⟨rfl, rfl⟩⟩
        | true =>
          have HR2 : Hid (PRest s.data.toList (done ++ [x]) ⟨y.toArray⟩ mo2) := ⟨by rw [HALL.out, List.append_assoc]; rfl, by rw [List.all_append, HR.out.2.1]; simp [HMB.out.symm], by rw [List.length_append, ← HDN.out]; simp; omega⟩
          have hyz : Hid ((⟨y.toArray⟩ : ByteArray).size ≤ s.size ∧ (mo2 = true → (⟨y.toArray⟩ : ByteArray).size < rest.size)) := by
            have e : (⟨y.toArray⟩ : ByteArray).size = y.length := by show y.toArray.size = _; simp
            rw [e]; exact ⟨Nat.le_trans HYS.out.2.1 hrs, HYS.out.2.2⟩
          go_wp2_with fail
          refine CM.out.mono ?_
          rintro e w2 ⟨rfl, hb2⟩
          have HB2 : Hid (Below w.heap.size w (w2.alloc (.cells #[.string ⟨x.toArray⟩] 9))) := (HB1.out.trans (hb2.mono HB1.out.size)).alloc (by have := (HB1.out.trans (hb2.mono HB1.out.size)).size; omega) _
          have HO2 : Hid ((w2.alloc (.cells #[.string ⟨x.toArray⟩] 9)).ownsRow w.heap.size 9 1 (.slice a1 dn cc1) dn (strs done)) := owns_below (owns_below HO1.out hb2) ((Below.refl _ _).alloc (Nat.le_refl _) _)
          have HNW : Hid (∀ j u, ([.string ⟨x.toArray⟩] : List Value)[j]? = some u → (w2.alloc (.cells #[.string ⟨x.toArray⟩] 9)).cell? (Addr.add ⟨w2.heap.size, 0, none⟩ j) = some u) := one_new w2 _ _
          have HSZ := Lib.hid HB2.out.size
          clear hb2 HB1 HG1 HO1 CM
          go_wp2_with (at_builtin; refine wpList_append_sz _ rfl (.tmp 22) (.tmp 24) 23 rfl w.heap.size 9 i0 (.string ⟨#[]⟩) 1 16 Tryd.underlying23 hi hz0 hz1 hz2 rfl (.slice a1 dn cc1) dn (strs done) rfl HO2.out ⟨w2.heap.size, 0, none⟩ 1 1 [.string ⟨x.toArray⟩] rfl rfl (by decide) (by decide) HNW.out (by intro u hu; simp at hu; subst hu; rfl) (by unfold maxLen; omega) (by omega) HSZ.out ?_)
          intro v5 w5 hown5 hlies5
          have hw5 := Wrote.of_lies hlies5
          have HB5 : Hid (Below w.heap.size w w5) := HB2.out.grown hw5.1 HSZ.out (fun j hj => (owns_block HO2.out hj).1)
          have HO5 : Hid (w5.ownsRow w.heap.size 9 1 v5 (done ++ [x]).length (strs (done ++ [x]))) := by
            rw [strs_append, List.length_append, ← HDN.out]; exact hown5
          clear hown5 hlies5 hw5 HO2 HNW HSZ HB2
          go_wp2_with fail
          go_roundw
          case rel => exact ⟨done ++ [x], _, mo2, v5, rfl, rfl, rfl, hyz.out.1, HR2, HO5, HB5⟩
          case measure =>
            show (if boolOf (.bool mo2) = true then strSize (.string ⟨y.toArray⟩) + 1 else 0) < (if boolOf (.bool true) = true then strSize (.string rest) + 1 else 0)
            simp only [boolOf, strSize, if_true]
            cases mo2 with
            | false => simp
            | true => have := hyz.out.2 rfl; simp only [if_true]; omega
end Go.Proofs.YtfhbjinajloecaaDoor
