/- aqueductlaw13.Sorted: the walk. -/
import Derived.Test.YtfkkckadnookoaaTopSorted
namespace Go.Proofs.Ytfkkckadnookoaa
open Go.RowKit
open Seal
/-- A sorted row that is new. -/
def SortedIs (w : World) (B : Nat) (v : Value) (E : List La) : Prop := ∃ a c, v = .slice a E.length c ∧ (E.length ≤ c ∧ c ≤ 9223372036854775807) ∧ (E.length = 0 ∨ ∃ g, a = some ⟨g, 0, none⟩ ∧ B ≤ g ∧ RowL w g E)
set_option maxRecDepth 100000 in
set_option maxHeartbeats 8000000 in
theorem sorted13_any (a : Option Addr) (c : Nat) (L : List (List Nat × List Nat)) (X : List La) (w : World) (hX : X.map La.it = L) (hel : ∀ r ∈ X, LaIn w w.heap.size r) (hsrc : Src w a L.length (flatL X)) (hlim : L.length ≤ 1000) :
    Calls Try.prog 11 #[.slice a L.length c] w fun e w' => ∃ v', e = .returned v' ∧ SortedIs w' w.heap.size v' (Top.srt cl X) ∧ Below w.heap.size w w' := by
  obtain ⟨i0, hi, hz0, hz1, hz2⟩ := info_of infoL
  have hXl : X.length = L.length := by rw [← hX, List.length_map]
  have HSRC : Hid (Src (w.alloc (.cells #[] 32)) a L.length (flatL X)) := ⟨hsrc.1, fun ad e j u hu => by
    have q := hsrc.2 ad e j u hu
    exact ((((Below.refl w.heap.size w).alloc (Nat.le_refl _) _)).cell (World.block_lt_of_cell? w _ q)).trans q⟩
  have HONE : Hid (∀ u ∈ flatL X, u.oneCell' = true) := fun u hu => by
    obtain ⟨r, hr, hu⟩ := List.mem_flatMap.1 hu
    obtain ⟨⟨x1, x2, e1⟩, ⟨x4, x5, e2⟩⟩ := (hel r hr).shapes
    simp only [e1, e2, List.mem_cons, List.not_mem_nil, or_false] at hu
    rcases hu with rfl | rfl <;> rfl
  have HL : Hid ((flatL X).length = L.length * 2) := by rw [← hXl]; exact flatL_length X
  have HOUT : Hid (∀ W v, W.ownsRow w.heap.size 32 2 v L.length (flatL X) → ∃ a c, v = .slice a L.length c ∧ (L.length ≤ c ∧ c ≤ 9223372036854775807) ∧ (L.length = 0 ∨ ∃ g, a = some ⟨g, 0, none⟩ ∧ w.heap.size ≤ g ∧ RowL W g X)) := fun W v ho => rowL_of ho hXl
  have HEL := Lib.hid hel
  have HXL := Lib.hid hXl
  generalize flatL X = fX at HSRC HONE HL HOUT
  generalize L.length = n at HSRC HL HOUT HXL hlim ⊢
  clear hX hel hsrc hXl
  go_enter Try.func11, Try.ntmps11
  go_wp2_with (at_builtin; refine wpList_src rfl (.tmp 6) (.tmp 7) 22 rfl w.heap.size 32 i0 (.agg #[.slice none 0 0, .slice none 0 0]) 2 48 Try.underlying22 hi hz0 hz1 hz2 rfl (by decide) (.slice (some ⟨w.heap.size, 0, none⟩) 0 0) 0 [] rfl (World.ownsRow_made w #[] 0 (Nat.le_refl _) (Nat.zero_le _) (by simp)) a n c fX rfl HSRC.out HL.out HONE.out (by unfold maxLen; omega) (by omega) (by simp) ?_)
  intro v1 w1 hown hgrow
  have HB1 : Hid (Below w.heap.size w w1) := ((Below.refl _ w).alloc (Nat.le_refl _) _).grown hgrow (by simp) (by intro k hk; simp [Value.ownBlock] at hk; omega)
  obtain ⟨a1, c1, rfl, hc1, hrow⟩ := HOUT.out w1 v1 hown
  have HC1 := Lib.hid hc1
  have HROW := Lib.hid hrow
  clear hown hgrow hc1 hrow HSRC HONE HL HOUT
  have hEL : Hid (∀ W, Below w.heap.size w W → ∀ r ∈ X, LaIn W w.heap.size r) := fun W hW r hr => (HEL.out r hr).keep hW
  go_wp2_with fail
  go_loopw [4] (fun ii wr => ∃ i : Nat, i ≤ n ∧ ii = .int .i64 i ∧ Hid (n = 0 ∨ ∃ g, a1 = some ⟨g, 0, none⟩ ∧ w.heap.size ≤ g ∧ RowL wr g (Top.srt cl (X.take i) ++ X.drop i)) ∧ Hid (Below w.heap.size w wr)) (fun ii _ => n - (intOf ii).toNat)
  case atStart => exact ⟨0, Nat.zero_le _, rfl, HROW.out, HB1.out⟩
  case round =>
    obtain ⟨i, hin, rfl, HR, HB⟩ := hrel
    by_cases hlt : i < n
    · have hlt' : (i : Int) < (n : Int) := by omega
      obtain ⟨g, rfl, hwg, hrow⟩ := HR.out.resolve_left (by omega)
      have hiX : i < X.length := by rw [HXL.out]; exact hlt
      have HINS : Hid (Ins (Top.srt cl (X.take i)) X[i] (X.drop (i + 1)) (Top.srt cl (X.take i) ++ X.drop i) i) := ⟨Top.srt cl (X.take i), [], by rw [List.drop_eq_getElem_cons hiX]; rfl, by rw [(Top.srt_perm _).length_eq, List.length_take]; omega, by simp, fun b hb => (by cases hb)⟩
      have HROWi := Lib.hid hrow
      have HDL : Hid ((Top.srt cl (X.take i) ++ X.drop i).length = n) := by
        unfold Hid
        rw [List.length_append, (Top.srt_perm _).length_eq, List.length_take, List.length_drop, HXL.out]; omega
      have HMEM : Hid (∀ r ∈ Top.srt cl (X.take i) ++ X.drop i, r ∈ X) := fun r hr => by
        rcases List.mem_append.1 hr with hr | hr
        · exact List.mem_of_mem_take ((Top.srt_perm _).mem_iff.1 hr)
        · exact List.mem_of_mem_drop hr
      have HNEXT : Hid (Top.ins cl X[i] (Top.srt cl (X.take i)) ++ X.drop (i + 1) = Top.srt cl (X.take (i + 1)) ++ X.drop (i + 1)) := by
        unfold Hid
        rw [List.take_succ_eq_append_getElem hiX, Top.srt_snoc]
      have HASC : Hid (Top.Asc cl (Top.srt cl (X.take i))) := Top.srt_asc cl_cmp _
      generalize Top.srt cl (X.take i) ++ X.drop i = D0 at HINS HROWi HDL HMEM
      generalize Top.srt cl (X.take i) = P at HINS HASC HNEXT
      generalize X[i] = x at HINS HNEXT
      clear hrow HR hiX
      go_wp2_with fail
      go_loopw [5] (fun kk wr2 => ∃ (k : Nat) (D : List La), k ≤ i ∧ kk = .int .i64 k ∧ Hid (Ins P x (X.drop (i + 1)) D k) ∧ Hid (RowL wr2 g D) ∧ Hid (D.length = n) ∧ Hid (∀ r ∈ D, r ∈ X) ∧ Hid (Below w.heap.size w wr2)) (fun kk _ => (intOf kk).toNat)
      case atStart => exact ⟨i, D0, Nat.le_refl _, rfl, HINS.out, HROWi.out, HDL.out, HMEM.out, HB.out⟩
      case round =>
        obtain ⟨k, D, hki, rfl, HI, HRW, HDn, HM, HB2⟩ := hrel
        rcases Nat.eq_zero_or_pos k with rfl | hkp
        · have HE := Lib.hid (HI.out.done HASC.out (.inl rfl))
          go_wp2_with fail
          go_quiet (fail)
          go_wp2_with fail
          exact ⟨⟨i + 1, by omega, by go_num, .inr ⟨g, rfl, hwg, by rw [← HNEXT.out, ← HE.out]; exact HRW.out.same rfl⟩, HB2.out.trans ⟨rfl, rfl, rfl, Nat.le_refl _, fun _ _ => rfl⟩⟩, by simp [intOf]; omega⟩
        · obtain ⟨j, rfl⟩ : ∃ j, k = j + 1 := ⟨k - 1, by omega⟩
          obtain ⟨hj1, hx⟩ := HI.out.get
          have hj0 : j < D.length := by omega
          have hn1 := HDn.out
          have b1 : (j : Int) < (n : Int) := by omega
          have b2 : (j : Int) + 1 < (n : Int) := by omega
          have b3 : decide (0 < j + 1) = true := by simp
          have hxe := hEL _ HB2.out D[j + 1] (HM.out _ (List.getElem_mem hj1))
          have hye := hEL _ HB2.out D[j] (HM.out _ (List.getElem_mem hj0))
          obtain ⟨q0, q1⟩ := HRW.out.cell hj1
          obtain ⟨r0, r1⟩ := HRW.out.cell hj0
          have HCMP : Hid (cl x D[j] = Order.octs D[j + 1].k D[j].k) := by rw [← hx]; rfl
          obtain ⟨⟨xa, xc, ex1⟩, ⟨xd, xe, ex2⟩⟩ := hxe.shapes
          obtain ⟨⟨ya, yc, ey1⟩, ⟨yd, ye, ey2⟩⟩ := hye.shapes
          have HA : Hid (∀ q, Calls Try.prog 15 #[.slice xa D[j + 1].k.length xc, .slice ya D[j].k.length yc] (wr.drewN q) fun e w' => e = .returned (.bool (decide (cl x D[j] < 0))) ∧ ∃ m, w' = (wr.drewN q).drewN m) := fun q => by
            have hd : Below wr.heap.size wr (wr.drewN q) := ⟨rfl, rfl, rfl, Nat.le_refl _, fun _ _ => rfl⟩
            rw [HCMP.out]
            obtain ⟨a3, c3, e3, s3⟩ := (hxe.k.below hd).is
            obtain ⟨a4, c4, e4, s4⟩ := (hye.k.below hd).is
            rw [ex1] at e3; rw [ey1] at e4
            cases e3; cases e4
            exact ahead13_any xa xc _ ya yc _ _ s3 s4 (by have := hxe.k.lim; omega) (by have := hye.k.lim; omega)
          have HSW := Lib.hid (fun (w5 W : World) (h : w5 = wr.drewN (0) ∨ ∃ q, w5 = wr.drewN q) (hW : W = (puts (puts w5 g ((j + 1) * 2) [D[j].kv, D[j].dv]) g (j * 2) [D[j + 1].kv, D[j + 1].dv]).drew) => swapL_mem (w := w5) (W := W) (g := g) (i := j + 1) (j := j) (D := D) (by obtain ⟨q, rfl⟩ : ∃ q, w5 = wr.drewN q := h.elim (fun e => ⟨0, e⟩) id; exact HRW.out.same rfl) hj1 hj0 hW)
          have hfz := HRW.out.frozen
          rw [ex1] at q0; rw [ex2] at q1; rw [ey1] at r0; rw [ey2] at r1
          rw [ex1, ex2, ey1, ey2] at HSW
          generalize D[j + 1].k.length = xkl at q0 HA HSW; generalize D[j + 1].d.length = xdl at q1 HSW
          generalize D[j].k.length = ykl at r0 HA HSW; generalize D[j].d.length = ydl at r1 HSW
          by_cases hc : cl x D[j] < 0
          · have HN := Lib.hid (HI.out.next hj0 hj1 hc)
            have hd : decide (cl x D[j] < 0) = true := by simpa using hc
            rw [hd] at HA
            have HPM : Hid (∀ r ∈ Top.swp D (j + 1) j hj1 hj0, r ∈ X) := fun r hr => HM.out r ((Top.swp_perm D (j + 1) j hj1 hj0).mem_iff.1 hr)
            have HLN : Hid ((Top.swp D (j + 1) j hj1 hj0).length = n) := by unfold Hid; rw [Top.swp_length]; exact hn1
            generalize Top.swp D (j + 1) j hj1 hj0 = D2 at HN HPM HLN HSW
            clear hd hc hx ex1 ex2 ey1 ey2 hxe hye HCMP
            go_wp2_with fail
            go_quiet ((go_at_call 15; exact Calls.quiet_of (HA.out _)))
            go_wp2_with fail
            generalize hw5 : wr.drewN _ = w5
            have s0 : w5.cell? ⟨g, (j + 1) * 2, none⟩ = some (.slice xa xkl xc) := by rw [← hw5, World.cell?_drewN]; exact q0
            have s1 : w5.cell? ⟨g, (j + 1) * 2 + 1, none⟩ = some (.slice xd xdl xe) := by rw [← hw5, World.cell?_drewN]; exact q1
            have t0 : w5.cell? ⟨g, j * 2, none⟩ = some (.slice ya ykl yc) := by rw [← hw5, World.cell?_drewN]; exact r0
            have t1 : w5.cell? ⟨g, j * 2 + 1, none⟩ = some (.slice yd ydl ye) := by rw [← hw5, World.cell?_drewN]; exact r1
            have fz : ∀ o, w5.frozen? ⟨g, o, none⟩ = false := fun o => by rw [← hw5]; exact hfz o
            have f0 := fz ((j + 1) * 2); have f1 := fz ((j + 1) * 2 + 1); have f2 := fz (j * 2); have f3 := fz (j * 2 + 1)
            have HB5 : Hid (Below w.heap.size w w5) := by rw [← hw5]; exact HB2.out.trans ⟨rfl, rfl, rfl, Nat.le_refl _, fun _ _ => rfl⟩
            have HSW5 := Lib.hid (fun W hW => HSW.out w5 W (.inr ⟨_, hw5.symm⟩) hW)
            obtain ⟨_, e0⟩ := cell?_setCell_some (w := w5) (p := ⟨g, (j + 1) * 2, none⟩) (x := .slice ya ykl yc) (q := ⟨g, j * 2, none⟩) t0
            obtain ⟨_, e1'⟩ := cell?_setCell_some (w := w5) (p := ⟨g, (j + 1) * 2, none⟩) (x := .slice ya ykl yc) (q := ⟨g, j * 2 + 1, none⟩) t1
            obtain ⟨_, e1⟩ := cell?_setCell_some (w := w5.setCell ⟨g, (j + 1) * 2, none⟩ (.slice ya ykl yc)) (p := ⟨g, (j + 1) * 2 + 1, none⟩) (x := .slice yd ydl ye) (q := ⟨g, j * 2 + 1, none⟩) e1'
            clear hw5 HSW q0 q1 r0 r1 hfz fz e1' HB2 HRW HA hEL HEL hn1
            have h9 := HSW5.out _ rfl
            simp only [puts, World.setCells] at h9
            have H9 := Lib.hid h9
            clear h9 HSW5
            go_region
            go_wp2_with fail
            exact ⟨⟨j, D2, by omega, rfl, HN.out, H9.out.1, HLN.out, HPM.out, HB5.out.trans (H9.out.2.below HB5.out.size (fun k hk => by omega))⟩, by simp [intOf]⟩
          · have HE := Lib.hid (HI.out.done HASC.out (.inr ⟨by simpa using hj0, by simpa using hc⟩))
            have hd : decide (cl x D[j] < 0) = false := by simpa using hc
            rw [hd] at HA
            clear hd hc hx ex1 ex2 ey1 ey2 hxe hye HCMP HSW
            go_wp2_with fail
            go_quiet ((go_at_call 15; exact Calls.quiet_of (HA.out _)))
            go_wp2_with fail
            exact ⟨⟨i + 1, by omega, by go_num, .inr ⟨g, rfl, hwg, by rw [← HNEXT.out, ← HE.out]; exact HRW.out.same rfl⟩, HB2.out.trans ⟨rfl, rfl, rfl, Nat.le_refl _, fun _ _ => rfl⟩⟩, by simp [intOf]; omega⟩
    · obtain rfl : i = n := by omega
      have hXi : X.take i = X := List.take_of_length_le (by rw [HXL.out]; exact Nat.le_refl _)
      have HE : Hid ((Top.srt cl X).length = i) := by unfold Hid; rw [(Top.srt_perm _).length_eq]; exact HXL.out
      have HR2 := HR.out
      rw [hXi, List.drop_eq_nil_of_le (by rw [HXL.out]; exact Nat.le_refl _), List.append_nil] at HR2
      have HR2 := Lib.hid HR2
      clear HR hXi
      go_wp2_with fail
      go_ret
      refine ⟨_, rfl, ⟨a1, c1, by rw [HE.out]; rfl, by rw [HE.out]; exact HC1.out, ?_⟩, HB.out⟩
      rw [HE.out]; exact HR2.out
end Go.Proofs.Ytfkkckadnookoaa
