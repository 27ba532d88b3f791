/- top.New; slices.Clone and slices.SortFunc of a pile. -/
import Derived.Test.YtfkkckadnookoaaTopAdd
import Derived.Shelf.SlSortCmp.WholeK
namespace Go.Proofs.Ytfkkckadnookoaa
open Go.RowKit
open Seal
section
variable {w : World} {p : Nat} {m c s : Int} {v : Value} {d : List Rk}
/-- The items stand so in block g (wherever the block ends). -/
def RowRd (w : World) (g : Nat) (d : List Rk) : Prop := ∀ i (hi : i < d.length), w.cell? ⟨g, i * 3, none⟩ = some d[i].kv ∧ w.cell? ⟨g, i * 3 + 1, none⟩ = some d[i].dv ∧ w.cell? ⟨g, i * 3 + 2, none⟩ = some (.int .i64 d[i].c)
set_option maxRecDepth 100000 in
theorem new_any (k : Int) (w : World) (hk : -9223372036854775808 ≤ k ∧ k ≤ 9223372036854775807) :
    Calls Try.prog 8 #[.int .i64 k] w fun e w' => e = .returned (.pointer (some ⟨w.heap.size, 0, none⟩)) ∧ TopIs w' w.heap.size (.slice none 0 0) (max k 0).toNat 0 [] ∧ Below w.heap.size w w' := by
  have HM : Hid (((max k 0).toNat : Int) = if k < 0 then 0 else k) := by unfold Hid; split <;> omega
  have HEND : Hid (∀ u, u = ((max k 0).toNat : Int) → TopIs (w.alloc (.cells #[.int .i64 u, .slice none 0 0, .int .i64 0, .int .i64 0] 45)) w.heap.size (.slice none 0 0) (max k 0).toNat 0 [] ∧ Below w.heap.size w (w.alloc (.cells #[.int .i64 u, .slice none 0 0, .int .i64 0, .int .i64 0] 45))) := by
    rintro u rfl
    exact ⟨⟨0, [], [], ⟨heap_alloc_new w _, World.ownsRow_nil _ _ _ _, fun r hr => (by cases hr)⟩, fun k hk => (by cases hk), List.Perm.refl _, List.Pairwise.nil, fun r hr => (by cases hr), rfl, rfl⟩, (Below.refl _ w).alloc (Nat.le_refl _) _⟩
  by_cases h : k < 0
  · have hm : max k 0 = 0 := by omega
    have e := HM.out
    rw [if_pos h] at e
    rw [e] at HEND
    generalize (max k 0).toNat = mm at HEND ⊢
    clear HM e
    go_enter Try.func8, Try.ntmps8
    go_wp2_with fail
    go_ret
    first | exact ⟨rfl, HEND.out _ rfl⟩ | (simp only [hm]; exact ⟨rfl, HEND.out _ rfl⟩)
  · have hm : max k 0 = k := by omega
    have e := HM.out
    rw [if_neg h] at e
    rw [e] at HEND
    generalize (max k 0).toNat = mm at HEND ⊢
    clear HM e
    go_enter Try.func8, Try.ntmps8
    go_wp2_with fail
    go_ret
    first | exact ⟨rfl, HEND.out _ rfl⟩ | (simp only [hm]; exact ⟨rfl, HEND.out _ rfl⟩)
set_option maxRecDepth 100000 in
set_option maxHeartbeats 4000000 in
theorem tclone_any (h : PileAt w p m c s v d) (hlim : d.length ≤ 100000) :
    Calls Try.prog 21 #[v] w fun e w' => ∃ v', e = .returned v' ∧ ((v' = .slice none 0 0 ∧ d = []) ∨ ∃ g cap, v' = .slice (some ⟨g, 0, none⟩) d.length cap ∧ w.heap.size ≤ g ∧ RowAt w' g cap d) ∧ Below w.heap.size w w' := by
  obtain ⟨hx, ⟨rfl, h3⟩ | ⟨b, cap, cs, rfl, hg, hr⟩⟩ := h.own
  · have hnil : d = [] := List.eq_nil_of_length_eq_zero h3
    subst hnil
    clear h hx hlim h3
    have q43 : ∀ (w : World) (a : Option Addr) (n c n' c' : Nat), (binOp .eql 43 (.slice a n c) (.slice none n' c')).run Try.prog w = .ok (.bool a.isNone) w := fun w a n c n' c' => Lib.run_eql_slice_nil w _ _ a n c n' c' Try.underlying43
    go_enter Try.func21, Try.ntmps21
    go_wp2
    go_ret
    exact ⟨.slice none 0 0, rfl, .inl ⟨rfl, trivial⟩, Below.refl _ _⟩
  · obtain ⟨i0, hi, hz0, hz1, hz2⟩ := info_of infoR
    have hrow := (row_of h.own).1
    have hshape : ∀ r ∈ d, (∃ a n c, r.kv = .slice a n c) ∧ (∃ a n c, r.dv = .slice a n c) := fun r hx => RkIn.shapes (h.el r hx)
    have HNEW : Hid (∀ j u, (flat d)[j]? = some u → (w.alloc (.cells #[] 49)).cell? (Addr.add ⟨b, 0, none⟩ j) = some u) := fun j u hj => by
      have hjl : j < (flat d).length := (List.getElem?_eq_some_iff.1 hj).1
      rw [flat_length] at hjl
      obtain ⟨⟨cs', hb', hs', ha'⟩, _⟩ := hrow
      have e1 := ha' (j / 3) (j % 3) (by omega) (by omega)
      rw [← flat_get d (j / 3) (j % 3) (by omega), show j / 3 * 3 + j % 3 = j by omega, hj] at e1
      have ea : (⟨b, 0, none⟩ : Addr).add j = ⟨b, j, none⟩ := by unfold Addr.add; split <;> simp_all
      rw [ea]
      exact cell_keepW ((Below.refl _ w).alloc (Nat.le_refl _) _) ((cell_of_row w b j _ _ _ hb').trans e1)
    have HONE : Hid (∀ u ∈ flat d, u.oneCell' = true) := fun u hu => by
      obtain ⟨r, hr, hu⟩ := List.mem_flatMap.1 hu
      obtain ⟨⟨x1, x2, x3, e1⟩, ⟨x4, x5, x6, e2⟩⟩ := hshape r hr
      simp only [Rk.cells, e1, e2, List.mem_cons, List.not_mem_nil, or_false] at hu
      rcases hu with rfl | rfl | rfl <;> rfl
    have HL := Lib.hid (flat_length d)
    have HOUT : Hid (∀ W v', W.ownsRow w.heap.size 49 3 v' d.length (flat d) → v' ≠ .slice none 0 0 → ∃ g cap, v' = .slice (some ⟨g, 0, none⟩) d.length cap ∧ w.heap.size ≤ g ∧ RowAt W g cap d) := fun W v' ho hne => by
      have ho' := ho
      obtain ⟨_, ⟨rfl, _⟩ | ⟨g, cp, cur, rfl, hg, _⟩⟩ := ho
      · exact absurd rfl hne
      · obtain ⟨q1, q2, q3⟩ := row_of ho'
        exact ⟨g, cp, rfl, hg, q1⟩
    generalize flat d = fd at HNEW HONE HL HOUT
    generalize d.length = n at HL HOUT hlim hr h hx ⊢
    clear h hx hr hg hshape hrow
    have q43 : ∀ (w : World) (a : Option Addr) (n c n' c' : Nat), (binOp .eql 43 (.slice a n c) (.slice none n' c')).run Try.prog w = .ok (.bool a.isNone) w := fun w a n c n' c' => Lib.run_eql_slice_nil w _ _ a n c n' c' Try.underlying43
    go_enter Try.func21, Try.ntmps21
    go_wp2_with (at_builtin; refine wpList_append_own _ rfl _ _ 43 rfl w.heap.size 49 i0 (.agg #[.slice none 0 0, .slice none 0 0, .int .i64 0]) 3 56 Try.underlying43 hi hz0 hz1 hz2 rfl (by decide) _ _ _ rfl (World.ownsRow_made w #[] 0 (Nat.le_refl _) (Nat.zero_le _) (by simp)) ⟨b, 0, none⟩ n cap fd rfl HL.out HNEW.out HONE.out ?qc4 ?qc5 ?qc6 ?_)
    case qc4 => rw [Nat.zero_add]; unfold maxLen; omega
    case qc5 => rw [Nat.zero_add]; omega
    case qc6 => simp
    intro v' w1 hown hgrow hnil
    have HB : Hid (Below w.heap.size w w1) := ((Below.refl _ w).alloc (Nat.le_refl _) _).grown hgrow (by simp) (by intro k hk; simp [Value.ownBlock] at hk; omega)
    have HO := Lib.hid (HOUT.out w1 v' (by simpa using hown) hnil)
    clear hown hgrow hnil
    go_wp2_with fail
    go_ret
    exact ⟨v', rfl, .inr HO.out, HB.out⟩
open Go.Sort in
theorem other_row {α : Type} (enc : α → List Value) (w : World) (g off n : Nat) (D : Array α) [Inhabited α] (os : Array Obj) {k : Nat} (hk : k < w.heap.size) (hg : k ≠ g) : (sortWorldK enc 3 w g off n D os).heap[k]? = w.heap[k]? := by
  show ((w.heap.modify g (onCells (putCells id off (flatK enc 3 D)))) ++ os)[k]? = w.heap[k]?
  rw [Array.getElem?_append_left (by simpa using hk), Array.getElem?_modify, if_neg (fun e => hg e.symm)]
open Go.Sort in
theorem sort_size {α : Type} (enc : α → List Value) (w : World) (g off n : Nat) (D : Array α) [Inhabited α] (os : Array Obj) : w.heap.size ≤ (sortWorldK enc 3 w g off n D os).heap.size := by
  show w.heap.size ≤ ((w.heap.modify g (onCells (putCells id off (flatK enc 3 D)))) ++ os).size
  rw [Array.size_append, Array.size_modify]; omega
open Go.Sort in
theorem swo_of {α : Type} {k : α → α → Int} (hc : Order.IsCmp k) : SWO (ltOf k) := by
  refine ⟨fun x => ?_, fun x y z h1 h2 => ?_, fun x y z h1 h2 => ?_⟩
  · unfold ltOf; rw [hc.refl]; rfl
  · unfold ltOf at *
    rw [decide_eq_true_eq] at *
    exact hc.lt_le h1 (by omega)
  · unfold ltOf at *
    rw [decide_eq_false_iff_not] at *
    have a1 := hc.anti x y; have a2 := hc.anti y z; have a3 := hc.anti x z
    have := hc.trans z y x (by omega) (by omega)
    omega
open Go.Sort in
set_option maxRecDepth 100000 in
set_option maxHeartbeats 4000000 in
/-- slices.SortFunc of a pile in a block of its own. -/
theorem tsort_any (g cap : Nat) (d : List Rk) (w : World) (Q : Nat → Prop) (hQ : ∀ k, Q k → k ≠ g) (hr : RowAt w g cap d) (hel : ∀ r ∈ d, RkIn w Q r) (hlim : d.length ≤ 100000) :
    Calls Try.prog 22 #[.slice (some ⟨g, 0, none⟩) d.length cap, .func (.func 23) #[] #[]] w fun e w' => e = .returned (.tuple #[]) ∧ ∃ d', d'.Perm d ∧ (d'.Pairwise fun a b => cf a b ≤ 0) ∧ RowRd w' g d' ∧ RM (fun k => k = g) w w' := by
  let α := { r : Rk // RkIn w (fun k => k ≠ g) r }
  haveI : Inhabited α := ⟨⟨default, ⟨⟨⟨none, 0, rfl, ⟨Nat.le_refl _, by omega⟩, .inl rfl⟩, fun c hc => (by cases hc), Nat.zero_le _⟩, ⟨⟨none, 0, rfl, ⟨Nat.le_refl _, by omega⟩, .inl rfl⟩, fun c hc => (by cases hc), Nat.zero_le _⟩, Nat.zero_le _⟩⟩⟩
  let enc : α → List Value := fun x => x.1.cells
  let cfa : α → α → Int := fun x y => cf x.1 y.1
  have hcf : Order.IsCmp cfa := cf_cmp.on Subtype.val
  let D : Array α := (d.attach.map fun x => (⟨x.1, (hel x.1 x.2).keep (fun _ _ _ => rfl) (fun k hk _ => hQ k hk)⟩ : α)).toArray
  have hDs : D.size = d.length := by simp [D]
  have hDm : D.toList.map Subtype.val = d := by
    show (d.attach.map fun x => (⟨x.1, _⟩ : α)).map Subtype.val = d
    rw [List.map_map]
    exact List.attach_map_subtype_val d
  have hDg : ∀ i (hi : i < d.length), D[i]!.1 = d[i] := fun i hi => by
    have h1 : (D.toList.map Subtype.val)[i]'(by rw [hDm]; exact hi) = d[i] := by simp only [hDm]
    rw [List.getElem_map] at h1
    rw [getElem!_pos D i (by omega), ← Array.getElem_toList]
    exact h1
  have hone : ∀ x : α, ∀ u ∈ enc x, u.oneCell' = true := fun x u hu => by
    obtain ⟨⟨x1, x2, x3, e1⟩, ⟨x4, x5, x6, e2⟩⟩ := RkIn.shapes x.2
    simp only [enc, Rk.cells, e1, e2, List.mem_cons, List.not_mem_nil, or_false] at hu
    rcases hu with rfl | rfl | rfl <;> rfl
  have hH : HoldsK enc 3 w g 0 D := fun j hj => by
    have hj' : j < D.size * 3 := by simpa using hj
    have h1 : (flatK enc 3 D)[j]! = (enc D[j / 3]!)[j % 3]! := get_flatK enc 3 D j hj'
    have hq : j / 3 < d.length := by omega
    refine ⟨?_, by rw [Nat.zero_add]; exact hr.frozen j⟩
    have h2 := hr.cell hq
    show w.cell? ⟨g, 0 + j, none⟩ = some (flatK enc 3 D)[j]!
    rw [h1, Nat.zero_add]
    have he : enc D[j / 3]! = [d[j / 3].kv, d[j / 3].dv, .int .i64 d[j / 3].c] := by show (D[j / 3]!).1.cells = _; rw [hDg _ hq]; rfl
    rw [he]
    have h3 : j % 3 = 0 ∨ j % 3 = 1 ∨ j % 3 = 2 := by omega
    have e0 : j = j / 3 * 3 + j % 3 := by omega
    rcases h3 with h3 | h3 | h3 <;> rw [h3] at e0 ⊢
    · exact (congrArg (fun o => w.cell? ⟨g, o, none⟩) e0).trans h2.1
    · exact (congrArg (fun o => w.cell? ⟨g, o, none⟩) e0).trans h2.2.1
    · exact (congrArg (fun o => w.cell? ⟨g, o, none⟩) e0).trans h2.2.2
  have hlays : CmpLays Try.prog 23 #[] enc 3 cfa g 0 D.size w := fun m os dk _ x y => by
    have hk : ∀ z : α, RkIn (sortWorldK enc 3 w g 0 m dk os) (fun k => k ≠ g) z.1 := fun z => z.2.keep (fun k hk hl => other_row enc w g 0 m dk os hl hk) (fun _ h _ => h)
    have := compare_ex x.1 y.1 _ _ (sortWorldK enc 3 w g 0 m dk os) (hk x) (hk y)
    exact this
  have eg : ∀ args w, (callFunc 23 args).run Try.prog w = .ok (.enter 23 args) w := enters_of Try.func23 (by kernel_rfl) rfl
  have hp := AnyQ.pdqsortCmpFunc_all Try.laysSort 3 (by intro w; kernel_rfl) (by intro w; kernel_rfl) enc cfa 23 #[] (swo_of hcf) g 0 cap D w eg hlays ⟨fun _ => rfl, hone, hH, hr.lt⟩ (D.size + 1) 0 D.size (Lib.bitLen D.size) D w (by omega) rfl (SWK.start hH) (Nat.zero_le _) (Nat.le_refl _) (by omega) (Nat.lt_of_le_of_lt (Lib.bitLen_le D.size 62 (by omega) (by omega)) (by omega)) (Or.inl rfl)
  have hs := pdq_sorts (ltOf cfa) (swo_of hcf) D 0 D.size (Lib.bitLen D.size) true true (Nat.zero_le _) (Nat.le_refl _) (Or.inl rfl)
  have HEND : Hid (∀ W, SWK enc 3 w g 0 (pdq (ltOf cfa) D 0 D.size (Lib.bitLen D.size) true true) W → ∃ d', d'.Perm d ∧ (d'.Pairwise fun a b => cf a b ≤ 0) ∧ RowRd W g d' ∧ RM (fun k => k = g) w W) := by
    intro W hW
    generalize pdq (ltOf cfa) D 0 D.size (Lib.bitLen D.size) true true = E at hs hW
    obtain ⟨⟨hsz, _, hperm⟩, hsort⟩ := hs
    have x1 : (E.extract 0 D.size).toList = E.toList := by rw [← hsz]; simp
    have x2 : (D.extract 0 D.size).toList = D.toList := by simp
    rw [x1, x2] at hperm
    have hEg : ∀ i (hi : i < (E.toList.map Subtype.val).length), (E.toList.map Subtype.val)[i] = E[i]!.1 := fun i hi => by
      have hi' : i < E.size := by simpa using hi
      rw [List.getElem_map, getElem!_pos E i hi', ← Array.getElem_toList]
    refine ⟨E.toList.map Subtype.val, ?_, ?_, ?_, ?_⟩
    · rw [← hDm]; exact hperm.map _
    · refine List.pairwise_iff_getElem.2 fun i j hi hj hij => ?_
      rw [hEg i hi, hEg j hj]
      have hj' : j < D.size := by rw [← hsz]; simpa using hj
      have q := hsort i j (Nat.zero_le _) hij hj'
      unfold ltOf at q
      rw [decide_eq_false_iff_not] at q
      have a := hcf.anti E[i]! E[j]!
      show cfa E[i]! E[j]! ≤ 0
      omega
    · have hh := SWK.holds hW hr.lt hH hsz
      intro i hi
      have hi' : i < E.size := by simpa using hi
      rw [hEg i hi]
      have e : ∀ j, j < 3 → W.cell? ⟨g, i * 3 + j, none⟩ = some (enc E[i]!)[j]! := fun j hj => by
        have q := (hh (i * 3 + j) (by simp; omega)).1
        rw [Nat.zero_add, id, get_flatK enc 3 E _ (by omega), show (i * 3 + j) / 3 = i by omega, show (i * 3 + j) % 3 = j by omega] at q
        exact q
      exact ⟨e 0 (by omega), e 1 (by omega), e 2 (by omega)⟩
    · obtain ⟨n, os, rfl⟩ := hW
      exact ⟨rfl, rfl, rfl, sort_size enc w g 0 n E os, fun k hk hne => other_row enc w g 0 n E os hk hne⟩
  have hl := Try.bits_Len (D.size : Int) w (by omega) (by omega)
  rw [Int.toNat_natCast] at hl
  rw [hDs] at hp hl HEND
  generalize Lib.bitLen d.length = bl at hp hl HEND
  have HP := Lib.hid (hp.mono fun e w' (q : _ ∧ _) => (⟨q.1, HEND.out w' q.2⟩ : e = .returned (.tuple #[]) ∧ ∃ d', d'.Perm d ∧ (d'.Pairwise fun a b => cf a b ≤ 0) ∧ RowRd w' g d' ∧ RM (fun k => k = g) w w'))
  have HLn := Lib.hid hl
  clear hp hl HEND hs hlays eg hH hone hDg hDm hDs hcf
  clear_value D
  clear D enc cfa
  clear hr hel hQ
  generalize d.length = n at HP HLn hlim ⊢
  have HP : Hid (Calls Try.prog 29 #[.slice (some ⟨g, 0, none⟩) n cap, .int .i64 0, .int .i64 n, .int .i64 bl, .func (.func 23) #[] #[]] w fun e w' => e = .returned (.tuple #[]) ∧ ∃ d', d'.Perm d ∧ (d'.Pairwise fun a b => cf a b ≤ 0) ∧ RowRd w' g d' ∧ RM (fun k => k = g) w w') := HP.out
  go_enter Try.func22, Try.ntmps22
  go_wp2_with fail
  go_at_call 30
  refine HLn.out.mono ?_
  rintro e1 w1 ⟨rfl, rfl⟩
  go_wp2_with fail
  go_at_call 29
  refine HP.out.mono ?_
  rintro e2 w2 ⟨rfl, h2⟩
  have H2 := Lib.hid h2
  clear h2 HP HLn
  go_wp2_with fail
  go_end0
  exact ⟨rfl, H2.out⟩
end
end Go.Proofs.Ytfkkckadnookoaa
