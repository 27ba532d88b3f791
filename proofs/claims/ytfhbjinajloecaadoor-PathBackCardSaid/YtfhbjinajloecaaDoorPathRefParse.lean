/- aqueductref5.ParsePath. -/
import Derived.Test.YtfhbjinajloecaaDoorPathRefMay
namespace Go.Proofs.YtfhbjinajloecaaDoor
open Go.RowKit
open Seal
open Path
namespace Path
/-- What the loop of ParsePath holds: the names so far; the place where the name begins that is being read; the place. -/
def Scan (l : List UInt8) (done : List (List UInt8)) (a i : Nat) : Prop :=
  a ≤ i ∧ done.all may = true ∧ done.length ≤ 16 ∧ ((i ≤ l.length ∧ split l = done ++ split (l.drop a) ∧ 46 ∉ (l.take i).drop a) ∨ (i = l.length + 1 ∧ a = i ∧ split l = done))
theorem Scan.next {l : List UInt8} {done : List (List UInt8)} {a i : Nat} (h : Scan l done a i) (hi : i < l.length) (hc : l[i] ≠ 46) : Scan l done a (i + 1) := by
  obtain ⟨h1, h2, h3, ⟨h4, h5, h6⟩ | ⟨h4, h5, h6⟩⟩ := h
  · refine ⟨by omega, h2, h3, .inl ⟨by omega, h5, ?_⟩⟩
    rw [List.take_add_one, List.getElem?_eq_getElem hi, List.drop_append_of_le_length (by simp; omega)]
    intro hm
    rcases List.mem_append.1 hm with hm | hm
    · exact h6 hm
    · simp at hm; exact hc hm.symm
  · omega
theorem Scan.name {l : List UInt8} {done : List (List UInt8)} {a i : Nat} (h : Scan l done a i) (hi : i ≤ l.length) (hc : ∀ h : i < l.length, l[i] = 46) :
    ∃ more, split l = done ++ ((l.take i).drop a) :: more ∧ (i = l.length → more = []) ∧ (i < l.length → more = split (l.drop (i + 1))) := by
  obtain ⟨h1, h2, h3, ⟨h4, h5, h6⟩ | ⟨h4, h5, h6⟩⟩ := h
  · rcases Nat.lt_or_ge i l.length with hlt | hge
    · have e : l.drop a = (l.take i).drop a ++ 46 :: l.drop (i + 1) := by
        have e1 : l = l.take i ++ l.drop i := (List.take_append_drop i l).symm
        have e2 : l.drop i = 46 :: l.drop (i + 1) := by rw [List.drop_eq_getElem_cons hlt, hc hlt]
        conv => lhs; rw [e1, List.drop_append_of_le_length (by simp; omega), e2]
      refine ⟨split (l.drop (i + 1)), ?_, fun e => by omega, fun _ => rfl⟩
      rw [h5, e, split_cut _ _ h6]
    · have e : (l.take i).drop a = l.drop a := by rw [List.take_of_length_le (by omega)]
      refine ⟨[], ?_, fun _ => rfl, fun e => by omega⟩
      rw [h5, ← e, split_free _ h6]
  · omega
theorem Scan.push {l : List UInt8} {done : List (List UInt8)} {a i : Nat} (h : Scan l done a i) (hi : i ≤ l.length) (hc : ∀ h : i < l.length, l[i] = 46) (hm : may ((l.take i).drop a) = true) (hd : done.length < 16) :
    Scan l (done ++ [(l.take i).drop a]) (i + 1) (i + 1) := by
  obtain ⟨more, h1, h2, h3⟩ := h.name hi hc
  refine ⟨Nat.le_refl _, by rw [List.all_append, h.2.1]; simp [hm], by simp; omega, ?_⟩
  rcases Nat.lt_or_ge i l.length with hlt | hge
  · refine .inl ⟨by omega, by rw [h1, h3 hlt, List.append_assoc]; rfl, ?_⟩
    rw [List.drop_of_length_le (by simp; omega)]; simp
  · exact .inr ⟨by omega, rfl, by rw [h1, h2 (by omega)]⟩
theorem Scan.bad {l : List UInt8} {done : List (List UInt8)} {a i : Nat} (h : Scan l done a i) (hi : i ≤ l.length) (hc : ∀ h : i < l.length, l[i] = 46) (hm : may ((l.take i).drop a) = false ∨ done.length = 16) : parse l = none := by
  obtain ⟨more, h1, _, _⟩ := h.name hi hc
  unfold parse
  rw [if_neg]
  rintro ⟨h2, h3⟩
  rw [h1] at h2 h3
  rcases hm with hm | hm
  · simp [hm] at h2
  · simp at h3; omega
theorem Scan.done {l : List UInt8} {done : List (List UInt8)} {a i : Nat} (h : Scan l done a i) (hi : l.length < i) : parse l = some done := by
  obtain ⟨h1, h2, h3, ⟨h4, h5, h6⟩ | ⟨h4, h5, h6⟩⟩ := h
  · omega
  · unfold parse; rw [h6, if_pos ⟨h2, h3⟩]
theorem ext_chars (s : ByteArray) (a i : Nat) : (s.extract a i).data.toList = (s.data.toList.take i).drop a := by
  have e : (s.extract a i).data = s.data.extract a i := by simp
  rw [e, List.drop_take]; simp
theorem run_cutout (s : ByteArray) (a i : Nat) (h1 : a ≤ i) (h2 : i ≤ s.size) (W : World) : (Instr.slice 9 (.string s) (some (.int .i64 (a : Int))) (some (.int .i64 (i : Int))) none).run Tryd.prog W = .ok (.string (s.extract a i)) W := by
  rw [run_slice_string_if (P := Tryd.prog) (w := W) 9 s .i64 .i64 (a : Int) (i : Int) (by kernel_rfl), if_pos ⟨by omega, by omega⟩, if_pos ⟨by omega, by omega⟩]
  rfl
theorem byte_get (s : ByteArray) (i : Nat) (hi : i < s.data.toList.length) : byte s i = (s.data.toList[i]).toNat := by
  unfold byte; rw [List.getD_eq_getElem?_getD, List.getElem?_eq_getElem hi]; rfl
theorem filled (x : ByteArray) (h : ¬ x.size = 0) : (x.toList == (⟨#[]⟩ : ByteArray).toList) = false ∧ ¬ x.toList = [] ∧ x.toList.isEmpty = false := by
  have h1 : ¬ x.toList = [] := fun e => h (by
    rw [ByteArray.toList_eq] at e
    obtain ⟨⟨l⟩⟩ := x
    simp only at e
    subst e
    rfl)
  refine ⟨str_ne (fun e => h ((empty_iff x).1 e)), h1, ?_⟩
  cases e : x.toList with
  | nil => exact absurd e h1
  | cons _ _ => rfl
end Path
set_option maxRecDepth 100000 in
set_option maxHeartbeats 2000000 in
theorem RefParse_any (s : ByteArray) (w : World) (hs : s.size ≤ 4294967280) : Calls Tryd.prog 11 #[.string s] w (ParsePost s.data.toList w) := by
  obtain ⟨i0, hi, hz0, hz1, hz2⟩ := info_parts infoS
  have hl := len_list s
  have HRB := Lib.hid (run_byte s)
  have HRC := Lib.hid (run_cutout s)
  go_enter Tryd.func11, Tryd.ntmps11
  go_wp2_with fail
  go_loopw [4, 5, 6] (fun v fr ix wr => ∃ (done : List (List UInt8)) (a i : Nat) (v' : Value), v' = v ∧ fr = .int .i64 a ∧ ix = .int .i64 i ∧ i ≤ s.size + 1 ∧ Hid (Scan s.data.toList done a i) ∧ Hid (wr.ownsRow w.heap.size 9 1 v' done.length (strs done)) ∧ Hid (Below w.heap.size w wr)) (fun _ _ ix _ => s.size + 1 - (intOf ix).toNat)
  case atStart => exact ⟨[], 0, 0, _, rfl, rfl, rfl, by omega, ⟨Nat.le_refl _, rfl, by simp, .inl ⟨by omega, rfl, by simp⟩⟩, World.ownsRow_nil _ _ _ _, Below.refl _ _⟩
  case round =>
    obtain ⟨done, a, i, v, rfl, rfl, rfl, hi1, HS, HO, HB⟩ := hrel
    obtain ⟨a1, cc1, hv1⟩ : ∃ a c, v = .slice a done.length c := owns_shape HO.out
    obtain ⟨dn, hdn⟩ : ∃ n, n = done.length := ⟨_, rfl⟩
    rw [← hdn] at hv1
    subst hv1
    have HDN := Lib.hid hdn
    have hd16 : dn ≤ 16 := by rw [hdn]; exact HS.out.2.2.1
    clear hdn
    by_cases hle : i ≤ s.size
    · by_cases hlt : i < s.size
      · have ix0 := HRB.out i hlt
        obtain ⟨c, hc⟩ : ∃ c, c = byte s i := ⟨_, rfl⟩
        have hc256 : c < 256 := by rw [hc]; exact byte_lt s i
        have hg := byte_get s i (by omega)
        rw [← hc] at ix0 hg
        clear hc
        by_cases h46 : c = 46
        · subst h46
          have ix1 : ∀ W, (Instr.index 9 (.string s) (.int .i64 (i : Int))).run Tryd.prog W = .ok (.int .u8 46) W := ix0
          have HDOT : Hid (∀ h : i < s.data.toList.length, s.data.toList[i] = 46) := fun _ => UInt8.toNat_inj.1 hg.symm
          clear hg
          have HX := Lib.hid (ext_chars s a i)
          obtain ⟨x, hx⟩ : ∃ x, x = s.extract a i := ⟨_, rfl⟩
          have hcut : ∀ W, (Instr.slice 9 (.string s) (some (.int .i64 (a : Int))) (some (.int .i64 (i : Int))) none).run Tryd.prog W = .ok (.string x) W := by rw [hx]; exact HRC.out a i HS.out.1 hle
          rw [← hx] at HX
          have hxs : x.size ≤ 4294967280 := by have e := len_list x; rw [HX.out] at e; simp at e; omega
          have CN := Lib.hid (fun wx => nameMay_any x wx (by omega))
          have hmn := may_name x.data.toList
          clear hx
          by_cases hx0 : x.size = 0
          · obtain rfl := (empty_iff x).2 hx0
            have HP : Hid (parse s.data.toList = none) := HS.out.bad (by omega) HDOT.out (.inl (by rw [← HX.out]; rfl))
            clear hmn CN
            go_wp2_with fail
            refine bodyPost_ret (v := .tuple #[.slice none 0 0, .bool false]) (by simp [results, Tryd.results11, go_sem]) rfl ?_
            exact ⟨_, false, rfl, HB.out, fun p hp => (by rw [HP.out] at hp; cases hp), fun _ => ⟨rfl, rfl⟩⟩
          · obtain ⟨g1, g2⟩ := head_byte x (by omega)
            obtain ⟨hne, hne2, hemp⟩ := filled x hx0
            have hxpos : 0 < x.size := by omega
            have i1 : ∀ W, (Instr.index 9 (.string x) (.int .i64 0)).run Tryd.prog W = .ok (.int .u8 ((byte x 0 : Nat) : Int)) W := run_byte x 0 (by omega)
            obtain ⟨d, hd⟩ : ∃ d, d = byte x 0 := ⟨_, rfl⟩
            have hd256 : d < 256 := by rw [hd]; exact byte_lt x 0
            rw [← hd] at i1 g2
            clear hd
            by_cases hd36 : d = 36
            · subst hd36
              have i2 : ∀ W, (Instr.index 9 (.string x) (.int .i64 0)).run Tryd.prog W = .ok (.int .u8 36) W := i1
              have HP : Hid (parse s.data.toList = none) := HS.out.bad (by omega) HDOT.out (.inl (by
                rw [← HX.out, hmn, g1, show x.data.toList.headD 0 = 36 from UInt8.toNat_inj.1 g2]; rfl))
              clear hmn CN g1 g2
              go_wp2_with fail
              refine bodyPost_ret (v := .tuple #[.slice none 0 0, .bool false]) (by simp [results, Tryd.results11, go_sem]) rfl ?_
              exact ⟨_, false, rfl, HB.out, fun p hp => (by rw [HP.out] at hp; cases hp), fun _ => ⟨rfl, rfl⟩⟩
            · have hdb : ((d : Int) == 36) = false := by rw [beq_eq_false_iff_ne]; omega
              have hh : (x.data.toList.headD 0 != 36) = true := by
                rw [bne_iff_ne]; intro e; rw [e] at g2; exact hd36 g2.symm
              rw [g1, hh] at hmn
              obtain ⟨mb, hmb⟩ : ∃ mb, mb = nameMay x.data.toList := ⟨_, rfl⟩
              rw [← hmb] at hmn CN
              have HMN : Hid (may x.data.toList = mb) := by rw [hmn]; rfl
              clear hmn hmb g1 g2 hh
              cases mb with
              | false =>
                have HP : Hid (parse s.data.toList = none) := HS.out.bad (by omega) HDOT.out (.inl (by rw [← HX.out]; exact HMN.out))
                go_wp2_with fail
                refine (CN.out _).mono ?_
                rintro e w2 ⟨rfl, hb2⟩
                have HB2 : Hid (Below w.heap.size w w2) := HB.out.trans (hb2.mono HB.out.size)
                clear hb2
                go_wp2_with fail
                refine bodyPost_ret (v := .tuple #[.slice none 0 0, .bool false]) (by simp [results, Tryd.results11, go_sem]) rfl ?_
                exact ⟨_, false, rfl, HB2.out, fun p hp => (by rw [HP.out] at hp; cases hp), fun _ => ⟨rfl, rfl⟩⟩
              | true =>
                by_cases h16 : dn = 16
                · subst h16
                  have HP : Hid (parse s.data.toList = none) := HS.out.bad (by omega) HDOT.out (.inr HDN.out.symm)
                  go_wp2_with fail
                  refine (CN.out _).mono ?_
                  rintro e w2 ⟨rfl, hb2⟩
                  have HB2 : Hid (Below w.heap.size w w2) := HB.out.trans (hb2.mono HB.out.size)
                  clear hb2
                  go_wp2_with fail
                  refine bodyPost_ret (v := .tuple #[.slice none 0 0, .bool false]) (by simp [results, Tryd.results11, go_sem]) rfl ?_
                  exact ⟨_, false, rfl, HB2.out, fun p hp => (by rw [HP.out] at hp; cases hp), fun _ => ⟨rfl, rfl⟩⟩
                · have HS2 : Hid (Scan s.data.toList (done ++ [x.data.toList]) (i + 1) (i + 1)) := by
                    have := HS.out.push (by omega) HDOT.out (by rw [← HX.out]; exact HMN.out) (by rw [← HDN.out]; omega)
                    rw [HX.out]; exact this
                  have q16 : ¬ (16 : Int) ≤ (dn : Int) := by omega
                  go_wp2_with fail
                  refine (CN.out _).mono ?_
                  rintro e w2 ⟨rfl, hb2⟩
                  have HB2 : Hid (Below w.heap.size w (w2.alloc (.cells #[.string x] 9))) := (HB.out.trans (hb2.mono HB.out.size)).alloc (by have := (HB.out.trans (hb2.mono HB.out.size)).size; omega) _
                  have HO2 : Hid ((w2.alloc (.cells #[.string x] 9)).ownsRow w.heap.size 9 1 (.slice a1 dn cc1) dn (strs done)) := by
                    have h0 := HO.out
                    rw [← HDN.out] at h0
                    exact owns_below (owns_below h0 hb2) ((Below.refl _ _).alloc (Nat.le_refl _) _)
                  have HNW : Hid (∀ j u, ([.string x] : List Value)[j]? = some u → (w2.alloc (.cells #[.string x] 9)).cell? (Addr.add ⟨w2.heap.size, 0, none⟩ j) = some u) := one_new w2 _ _
                  have HSZ := Lib.hid HB2.out.size
                  clear hb2 CN HO HB
                  go_wp2_with (at_builtin; refine wpList_append_sz _ rfl (.tmp 45) (.tmp 47) 23 rfl w.heap.size 9 i0 (.string ⟨#[]⟩) 1 16 Tryd.underlying23 hi hz0 hz1 hz2 rfl (.slice a1 dn cc1) dn (strs done) rfl HO2.out ⟨w2.heap.size, 0, none⟩ 1 1 [.string x] rfl rfl (by decide) (by decide) HNW.out (by intro u hu; simp at hu; subst hu; rfl) (by unfold maxLen; omega) (by omega) HSZ.out ?_)
                  intro v5 w5 hown5 hlies5
                  have hw5 := Wrote.of_lies hlies5
                  have HB5 : Hid (Below w.heap.size w w5) := HB2.out.grown hw5.1 HSZ.out (fun j hj => (owns_block HO2.out hj).1)
                  have HO5 : Hid (w5.ownsRow w.heap.size 9 1 v5 (done ++ [x.data.toList]).length (strs (done ++ [x.data.toList]))) := by
                    have e : strs [x.data.toList] = [.string x] := by show [Value.string ⟨x.data.toList.toArray⟩] = _; rw [show (⟨x.data.toList.toArray⟩ : ByteArray) = x by cases x; rfl]
                    rw [strs_append, List.length_append, ← HDN.out, e]; exact hown5
                  clear hown5 hlies5 hw5 HO2 HNW HSZ HB2
                  go_wp2_with fail
                  go_roundw
                  case rel => exact ⟨done ++ [x.data.toList], i + 1, i + 1, v5, rfl, by go_num, by go_num, by omega, HS2, HO5, HB5⟩
                  case measure => simp [intOf]; omega
        · have HS2 : Hid (Scan s.data.toList done a (i + 1)) := HS.out.next (by omega) (fun e => h46 (by rw [hg, e]; rfl))
          have hcb : ((c : Int) != 46) = true := by rw [bne_iff_ne]; omega
          clear hg
          go_wp2_with fail
          go_roundw
          case rel => exact ⟨done, a, i + 1, _, rfl, rfl, by go_num, by omega, HS2, by rw [← HDN.out]; have h0 := HO.out; rw [← HDN.out] at h0; exact h0, HB⟩
          case measure => simp [intOf]; omega
      · have HDOT : Hid (∀ h : i < s.data.toList.length, s.data.toList[i] = 46) := fun h => by omega
        have HX := Lib.hid (ext_chars s a i)
        obtain ⟨x, hx⟩ : ∃ x, x = s.extract a i := ⟨_, rfl⟩
        have hcut : ∀ W, (Instr.slice 9 (.string s) (some (.int .i64 (a : Int))) (some (.int .i64 (i : Int))) none).run Tryd.prog W = .ok (.string x) W := by rw [hx]; exact HRC.out a i HS.out.1 hle
        rw [← hx] at HX
        have hxs : x.size ≤ 4294967280 := by have e := len_list x; rw [HX.out] at e; simp at e; omega
        have CN := Lib.hid (fun wx => nameMay_any x wx (by omega))
        have hmn := may_name x.data.toList
        clear hx
        by_cases hx0 : x.size = 0
        · obtain rfl := (empty_iff x).2 hx0
          have HP : Hid (parse s.data.toList = none) := HS.out.bad (by omega) HDOT.out (.inl (by rw [← HX.out]; rfl))
          clear hmn CN
          go_wp2_with fail
          refine bodyPost_ret (v := .tuple #[.slice none 0 0, .bool false]) (by simp [results, Tryd.results11, go_sem]) rfl ?_
          exact ⟨_, false, rfl, HB.out, fun p hp => (by rw [HP.out] at hp; cases hp), fun _ => ⟨rfl, rfl⟩⟩
        · obtain ⟨g1, g2⟩ := head_byte x (by omega)
          obtain ⟨hne, hne2, hemp⟩ := filled x hx0
          have hxpos : 0 < x.size := by omega
          have i1 : ∀ W, (Instr.index 9 (.string x) (.int .i64 0)).run Tryd.prog W = .ok (.int .u8 ((byte x 0 : Nat) : Int)) W := run_byte x 0 (by omega)
          obtain ⟨d, hd⟩ : ∃ d, d = byte x 0 := ⟨_, rfl⟩
          have hd256 : d < 256 := by rw [hd]; exact byte_lt x 0
          rw [← hd] at i1 g2
          clear hd
          by_cases hd36 : d = 36
          · subst hd36
            have i2 : ∀ W, (Instr.index 9 (.string x) (.int .i64 0)).run Tryd.prog W = .ok (.int .u8 36) W := i1
            have HP : Hid (parse s.data.toList = none) := HS.out.bad (by omega) HDOT.out (.inl (by
              rw [← HX.out, hmn, g1, show x.data.toList.headD 0 = 36 from UInt8.toNat_inj.1 g2]; rfl))
            clear hmn CN g1 g2
            go_wp2_with fail
            refine bodyPost_ret (v := .tuple #[.slice none 0 0, .bool false]) (by simp [results, Tryd.results11, go_sem]) rfl ?_
            exact ⟨_, false, rfl, HB.out, fun p hp => (by rw [HP.out] at hp; cases hp), fun _ => ⟨rfl, rfl⟩⟩
          · have hdb : ((d : Int) == 36) = false := by rw [beq_eq_false_iff_ne]; omega
            have hh : (x.data.toList.headD 0 != 36) = true := by
              rw [bne_iff_ne]; intro e; rw [e] at g2; exact hd36 g2.symm
            rw [g1, hh] at hmn
            obtain ⟨mb, hmb⟩ : ∃ mb, mb = nameMay x.data.toList := ⟨_, rfl⟩
            rw [← hmb] at hmn CN
            have HMN : Hid (may x.data.toList = mb) := by rw [hmn]; rfl
            clear hmn hmb g1 g2 hh
            cases mb with
            | false =>
              have HP : Hid (parse s.data.toList = none) := HS.out.bad (by omega) HDOT.out (.inl (by rw [← HX.out]; exact HMN.out))
              go_wp2_with fail
              refine (CN.out _).mono ?_
              rintro e w2 ⟨rfl, hb2⟩
              have HB2 : Hid (Below w.heap.size w w2) := HB.out.trans (hb2.mono HB.out.size)
              clear hb2
              go_wp2_with fail
              refine bodyPost_ret (v := .tuple #[.slice none 0 0, .bool false]) (by simp [results, Tryd.results11, go_sem]) rfl ?_
              exact ⟨_, false, rfl, HB2.out, fun p hp => (by rw [HP.out] at hp; cases hp), fun _ => ⟨rfl, rfl⟩⟩
            | true =>
              by_cases h16 : dn = 16
              · subst h16
                have HP : Hid (parse s.data.toList = none) := HS.out.bad (by omega) HDOT.out (.inr HDN.out.symm)
                go_wp2_with fail
                refine (CN.out _).mono ?_
                rintro e w2 ⟨rfl, hb2⟩
                have HB2 : Hid (Below w.heap.size w w2) := HB.out.trans (hb2.mono HB.out.size)
                clear hb2
                go_wp2_with fail
                refine bodyPost_ret (v := .tuple #[.slice none 0 0, .bool false]) (by simp [results, Tryd.results11, go_sem]) rfl ?_
                exact ⟨_, false, rfl, HB2.out, fun p hp => (by rw [HP.out] at hp; cases hp), fun _ => ⟨rfl, rfl⟩⟩
              · have HS2 : Hid (Scan s.data.toList (done ++ [x.data.toList]) (i + 1) (i + 1)) := by
                  have := HS.out.push (by omega) HDOT.out (by rw [← HX.out]; exact HMN.out) (by rw [← HDN.out]; omega)
                  rw [HX.out]; exact this
                have q16 : ¬ (16 : Int) ≤ (dn : Int) := by omega
                go_wp2_with fail
                refine (CN.out _).mono ?_
                rintro e w2 ⟨rfl, hb2⟩
                have HB2 : Hid (Below w.heap.size w (w2.alloc (.cells #[.string x] 9))) := (HB.out.trans (hb2.mono HB.out.size)).alloc (by have := (HB.out.trans (hb2.mono HB.out.size)).size; omega) _
                have HO2 : Hid ((w2.alloc (.cells #[.string x] 9)).ownsRow w.heap.size 9 1 (.slice a1 dn cc1) dn (strs done)) := by
                  have h0 := HO.out
                  rw [← HDN.out] at h0
                  exact owns_below (owns_below h0 hb2) ((Below.refl _ _).alloc (Nat.le_refl _) _)
                have HNW : Hid (∀ j u, ([.string x] : List Value)[j]? = some u → (w2.alloc (.cells #[.string x] 9)).cell? (Addr.add ⟨w2.heap.size, 0, none⟩ j) = some u) := one_new w2 _ _
                have HSZ := Lib.hid HB2.out.size
                clear hb2 CN HO HB
                go_wp2_with (at_builtin; refine wpList_append_sz _ rfl (.tmp 45) (.tmp 47) 23 rfl w.heap.size 9 i0 (.string ⟨#[]⟩) 1 16 Tryd.underlying23 hi hz0 hz1 hz2 rfl (.slice a1 dn cc1) dn (strs done) rfl HO2.out ⟨w2.heap.size, 0, none⟩ 1 1 [.string x] rfl rfl (by decide) (by decide) HNW.out (by intro u hu; simp at hu; subst hu; rfl) (by unfold maxLen; omega) (by omega) HSZ.out ?_)
                intro v5 w5 hown5 hlies5
                have hw5 := Wrote.of_lies hlies5
                have HB5 : Hid (Below w.heap.size w w5) := HB2.out.grown hw5.1 HSZ.out (fun j hj => (owns_block HO2.out hj).1)
                have HO5 : Hid (w5.ownsRow w.heap.size 9 1 v5 (done ++ [x.data.toList]).length (strs (done ++ [x.data.toList]))) := by
                  have e : strs [x.data.toList] = [.string x] := by show [Value.string ⟨x.data.toList.toArray⟩] = _; rw [show (⟨x.data.toList.toArray⟩ : ByteArray) = x by cases x; rfl]
                  rw [strs_append, List.length_append, ← HDN.out, e]; exact hown5
                clear hown5 hlies5 hw5 HO2 HNW HSZ HB2
                go_wp2_with fail
                go_roundw
                case rel => exact ⟨done ++ [x.data.toList], i + 1, i + 1, v5, rfl, by go_num, by go_num, by omega, HS2, HO5, HB5⟩
                case measure => simp [intOf]; omega
    · have HP := Lib.hid (HS.out.done (by omega))
      go_wp2_with fail
      refine bodyPost_ret (v := .tuple #[.slice a1 dn cc1, .bool true]) (by simp [results, Tryd.results11, go_sem]) rfl ?_
      refine ⟨_, true, rfl, HB.out, fun p hp => ⟨rfl, ?_⟩, fun hp => by rw [HP.out] at hp; cases hp⟩
      rw [HP.out] at hp
      obtain rfl := Option.some.inj hp
      have := owns_names (v := .slice a1 dn cc1) (w := wr) (base := w.heap.size) (l := done) HO.out
      exact this
end Go.Proofs.YtfhbjinajloecaaDoor
