/- RefReachI. -/
import Derived.Test.YtdgncpoephdboaaDoorMg19
import Derived.Test.YtdgncpoephdboaaDoorMg17
set_option maxRecDepth 100000
section
namespace Go.Proofs.YtdgncpoephdboaaDoor
open Go.RowKit
open Seal
open Bson (Val)
/-- Beside the row and what is in it one block was written. -/
theorem Acc.beside {w w' : World} {base : Nat} {v : Value} {QA : Nat → Prop} {H : Nat} {ys : List Val} {xs : List Value} {G : Nat} (ha : Acc w base v QA H ys xs) (hk : ∀ g, g ≠ G → w'.heap[g]? = w.heap[g]?) (hG : ¬ QA G) (hv : v.ownBlock ≠ some G) : Acc w' base v QA H ys xs := by
  refine ⟨?_, fun i hi => ?_⟩
  · obtain ⟨h1, h2 | ⟨g, cap, cur, e, hg, hrow, h3⟩⟩ := ha.own
    · exact ⟨h1, .inl h2⟩
    · refine ⟨h1, .inr ⟨g, cap, cur, e, hg, (hk g (fun e2 => hv (by rw [e, e2]; rfl))).trans hrow, h3⟩⟩
  · obtain ⟨c0, c1, c2, c3, c4, c5, h0, h1, h2, h3, h4, h5, hV⟩ := ha.at' i hi
    exact ⟨c0, c1, c2, c3, c4, c5, h0, h1, h2, h3, h4, h5, hV.kept (fun g hg _ => hk g (fun e => hG (e ▸ hg.1))) (fun _ hg => hg)⟩
theorem set_row6 {w : World} {G : Nat} {t : TypeId} {c0 c1 c2 c3 c4 c5 u : Value} (h : w.heap[G]? = some (.cells #[c0, c1, c2, c3, c4, c5] t (0, 0))) : (w.setCell ⟨G, 5, none⟩ u).heap[G]? = some (.cells #[c0, c1, c2, c3, c4, u] t (0, 0)) := by
  rw [heap_setCell_same w G 5 _ t u h]; rfl
set_option maxRecDepth 100000 in
set_option maxHeartbeats 4000000 in
theorem rreach_items (h : Nat) (p : List ByteArray) (pa : Option Addr) (pn pc m : Nat) (IH0 : RReachAt h p pa pn pc (fun y => Bson.reach m y p)) (Q : Nat → Prop) (x : Val) (v : Value) (w : World) (hp0 : p ≠ []) (hpn : p.length = pn) (h7 : x.kind = 7) (hv : VIn w Q (h + 1) x v) (hp : StrsIn w pa p) :
    Calls Tryd.prog 14 #[v, .slice pa pn pc] w (ValPost (fun g => Q g ∨ w.heap.size ≤ g) w (h + 1) (Bson.reach (m + 1) x p)) := by
  obtain ⟨i0, hi, hz0, hz1, hz2⟩ := info_parts infoV6
  have hv2 := hv.lt
  obtain ⟨xk, xn, xs, ba, fa, la, bn, bc, fn, fc, ln, lc, rfl, hxk, hxn, hxs, hbn, hfn, hln, hL, hF, hI⟩ := hv2.letters
  have hpos : 0 < pn := by rw [← hpn]; exact List.length_pos_iff.2 hp0
  have hpe : ((pn : Int) == 0) = false := by simp; omega
  obtain rfl : xk = 7 := by rw [hxk, h7]
  obtain ⟨f, hf⟩ : ∃ f : Val → Val, f = fun y => Bson.reach m y p := ⟨_, rfl⟩
  have hres : Bson.reach (m + 1) x p = Bson.listOf (gather f x.l) := by
    rw [hf]
    cases p with
    | nil => exact absurd rfl hp0
    | cons a r => exact Bson.reach_list m x a r h7
  have HOTHER : Hid (∀ y, y.kind ≠ 6 → y.kind ≠ 7 → (f y).kind = 0) := fun y h1 h2 => by
    rw [hf]
    cases p with
    | nil => exact absurd rfl hp0
    | cons a r => show (Bson.reach m y (a :: r)).kind = 0; rw [Bson.reach_other m y a r h1 h2]; rfl
  rw [hres]
  rw [← hf] at IH0
  have hll := hL.l
  rw [← hln] at hll
  have HX := Lib.hid (BoxV.new (.int .i64 7) (.int .i64 xn) (.string xs) (.slice ba bn bc) (.slice fa fn fc) (.slice la ln lc) w)
  obtain ⟨c0, c1, c2, c3, c4, c5⟩ := HX.out.cells
  generalize hW0 : ((w.alloc (.cells #[.int .i64 7, .int .i64 xn, .string xs, .slice ba bn bc, .slice fa fn fc, .slice la ln lc] 27)).alloc (.cells #[.int .i64 0, .int .i64 0, .string ⟨#[]⟩, .slice none 0 0, .slice none 0 0, .slice none 0 0] 27)) = W0 at *
  have hI0 : ItemsIn W0 (fun g => Q g ∧ g < w.heap.size) (VIn W0 (fun g => Q g ∧ g < w.heap.size) h) la x.l := hI.kept (Kept.of_below HX.out.2.2.1) (fun _ h => h) (fun _ _ h => VIn.keep HX.out.2.2.1 h)
  have hp1 := hp.keep HX.out.2.2.1
  have hs0 : w.heap.size + 2 ≤ W0.heap.size := HX.out.2.2.2
  obtain ⟨QA, hQA⟩ : ∃ QA : Nat → Prop, QA = fun g => (Q g ∧ g < w.heap.size) ∨ W0.heap.size + 1 ≤ g := ⟨_, rfl⟩
  have HQA := Lib.hid hQA
  have HQG : Hid (¬ QA W0.heap.size) := by rw [hQA]; rintro (⟨_, h⟩ | h) <;> omega
  have IH := Lib.hid IH0
  have HI := Lib.hid hI0
  have HP := Lib.hid hp1
  have HN := Lib.hid hln
  clear hv hv2 hxk hxn hxs hbn hfn hln hL hF hI hres h7 hpn hp0 hp IH0 hI0 hp1 hQA hf
  go_enter Tryd.func14, Tryd.ntmps14
  go_wp2_with fail
  clear hW0
  go_loopw [6] (fun i wr => ∃ (k : Nat) (a : Option Addr) (gn c : Nat) (xs' : List Value), i = .int .i64 k ∧ k ≤ ln ∧ gn ≤ k ∧ Hid (gn = (gather f (x.l.take k)).length) ∧ Hid (wr.heap[W0.heap.size]? = some (.cells #[.int .i64 7, .int .i64 0, .string ⟨#[]⟩, .slice none 0 0, .slice none 0 0, .slice a gn c] 27 (0, 0))) ∧ Hid (Acc wr (W0.heap.size + 1) (.slice a gn c) QA h (gather f (x.l.take k)) xs') ∧ Hid (Below W0.heap.size W0 wr)) (fun i _ => ln - (intOf i).toNat)
  case atStart => exact ⟨0, none, 0, 0, [], rfl, Nat.zero_le _, Nat.le_refl _, rfl, heap_alloc_new W0 _, Acc.nil _ _ _ _, (Below.refl _ W0).alloc (Nat.le_refl _) _⟩
  case round =>
    clear c0 c1 c2 c3 c4 c5
    obtain ⟨k, a1, gn, cc, xs1, rfl, hk, hgk, HG, HR, HA, HB⟩ := hrel
    obtain ⟨c0, c1, c2, c3, c4, c5⟩ := (HX.out.keep HB.out).cells
    have r0 := (cell_of_row wr W0.heap.size 0 _ _ _ HR.out).trans (rfl : _ = some (Value.int .i64 7))
    have r1 := (cell_of_row wr W0.heap.size 1 _ _ _ HR.out).trans (rfl : _ = some (Value.int .i64 0))
    have r2 := (cell_of_row wr W0.heap.size 2 _ _ _ HR.out).trans (rfl : _ = some (Value.string ⟨#[]⟩))
    have r3 := (cell_of_row wr W0.heap.size 3 _ _ _ HR.out).trans (rfl : _ = some (Value.slice none 0 0))
    have r4 := (cell_of_row wr W0.heap.size 4 _ _ _ HR.out).trans (rfl : _ = some (Value.slice none 0 0))
    have r5 := (cell_of_row wr W0.heap.size 5 _ _ _ HR.out).trans (rfl : _ = some (Value.slice a1 gn cc))
    by_cases hlt : k < ln
    · obtain ⟨g, o, hla, _, hall⟩ := HI.out.resolve_left (fun e => by have := HN.out; rw [e] at this; simp at this; omega)
      obtain ⟨v', hsix, hV⟩ := hall k (by have := HN.out; omega)
      subst hla
      obtain ⟨ka, na, sa, ba2, fa2, la2, bl, bc2, fl, fc2, ll, lc2, rfl⟩ := hV.shape
      obtain ⟨y, hy⟩ : ∃ y, y = x.l[k]'(by have := HN.out; omega) := ⟨_, rfl⟩
      rw [← hy] at hV
      have hka := hV.kind
      have HY := Lib.hid hy
      have HKA := Lib.hid hka
      have HV := Lib.hid (VIn.keep HB.out hV.lt)
      obtain ⟨s0, s1, s2, s3, s4, s5⟩ := (hsix.keep HB.out).cells
      have HPw := Lib.hid (HP.out.keep HB.out)
      clear hall hsix hV hy hka
      by_cases hoth : ka ≠ 6 ∧ ka ≠ 7
      · have k6 : (ka != 6) = true := by rw [bne_iff_ne]; exact hoth.1
        have k7 : (ka != 7) = true := by rw [bne_iff_ne]; exact hoth.2
        have hg1 : gather f (x.l.take (k + 1)) = gather f (x.l.take k) := gather_no _ _ _ (by have := HN.out; omega) (by rw [← HY.out]; exact HOTHER.out y (by rw [← HKA.out]; exact hoth.1) (by rw [← HKA.out]; exact hoth.2))
        have HG1 := Lib.hid hg1
        clear hg1 hoth
        go_wp2_with fail
        go_roundw
        case rel => exact ⟨k + 1, a1, gn, cc, xs1, by go_num, by omega, by omega, by rw [HG1.out]; exact HG.out, HR.out, by rw [HG1.out]; exact HA.out, HB⟩
        case measure => simp [intOf]; omega
      · have ARM : (ka != 6) = false ∨ ((ka != 6) = true ∧ (ka != 7) = false) := by
          by_cases e6 : ka = 6
          · exact .inl (by rw [e6]; rfl)
          · exact .inr ⟨by rw [bne_iff_ne]; exact e6, by rw [bne_eq_false_iff_eq]; exact Classical.not_not.1 (fun e7 => hoth ⟨e6, e7⟩)⟩
        clear hoth
        rcases ARM with k6 | ⟨k6, k7⟩
        · go_wp2_with fail
          refine (IH.out _ y _ _ HV.out HPw.out).mono ?_
          rintro e w2 ⟨v2, rfl, hv2, hb2⟩
          obtain ⟨kd, nd, sd, bd, fd, ld, bm, bz, fm, fz, lm, lz, rfl⟩ := hv2.shape
          have hsW := HB.out.size
          have hGlt : W0.heap.size < wr.heap.size := (Array.getElem?_eq_some_iff.1 HR.out).1
          have HB2 := Lib.hid hb2
          have HA2 := Lib.hid (HA.out.keep HB2.out)
          have HR2 : Hid (w2.heap[W0.heap.size]? = some (.cells #[.int .i64 7, .int .i64 0, .string ⟨#[]⟩, .slice none 0 0, .slice none 0 0, .slice a1 gn cc] 27 (0, 0))) := (HB2.out.block _ hGlt).trans HR.out
          have HBw2 : Hid (Below W0.heap.size W0 w2) := HB.out.trans (HB2.out.mono hsW)
          have HV2 : Hid (VIn w2 (fun g => QA g ∧ (Value.slice a1 gn cc).ownBlock ≠ some g) h (f y) (.agg #[.int .i64 kd, .int .i64 nd, .string sd, .slice bd bm bz, .slice fd fm fz, .slice ld lm lz])) := by
            refine hv2.kept (Kept.of_below (Below.refl _ _)) (fun g hg => ?_)
            rw [HQA.out]
            rcases hg with ⟨hg1, hg2⟩ | hg
            · refine ⟨.inl ⟨hg1.1, hg1.2⟩, fun e => ?_⟩
              have := owns_block HA.out.own e; omega
            · refine ⟨.inr (by omega), fun e => ?_⟩
              have := owns_block HA.out.own e; omega
          have hkd : kd = (f y).kind := hv2.kind
          have HKD := Lib.hid hkd
          clear s0 s1 s2 s3 s4 s5 c0 c1 c2 c3 c4 c5 r0 r1 r2 r3 r4 r5 hv2 hb2 HV HA HPw hkd HR
          have r5 := (cell_of_row w2 W0.heap.size 5 _ _ _ HR2.out).trans (rfl : _ = some (Value.slice a1 gn cc))
          by_cases h0 : kd = 0
          · subst h0
            have hg1 : gather f (x.l.take (k + 1)) = gather f (x.l.take k) := gather_no _ _ _ (by have := HN.out; omega) (by rw [← HY.out]; exact HKD.out.symm)
            have HA3 : Hid (Acc (w2.alloc (.cells #[.int .i64 0, .int .i64 nd, .string sd, .slice bd bm bz, .slice fd fm fz, .slice ld lm lz] 27)) (W0.heap.size + 1) (.slice a1 gn cc) QA h (gather f (x.l.take (k + 1))) xs1) := by
              rw [hg1]; exact HA2.out.keep ((Below.refl _ w2).alloc (Nat.le_refl _) _)
            have HB3 : Hid (Below W0.heap.size W0 (w2.alloc (.cells #[.int .i64 0, .int .i64 nd, .string sd, .slice bd bm bz, .slice fd fm fz, .slice ld lm lz] 27))) := HBw2.out.alloc HBw2.out.size _
            have HR3 : Hid ((w2.alloc (.cells #[.int .i64 0, .int .i64 nd, .string sd, .slice bd bm bz, .slice fd fm fz, .slice ld lm lz] 27)).heap[W0.heap.size]? = some (.cells #[.int .i64 7, .int .i64 0, .string ⟨#[]⟩, .slice none 0 0, .slice none 0 0, .slice a1 gn cc] 27 (0, 0))) := (Below.heap_alloc _ _ _ (Array.getElem?_eq_some_iff.1 HR2.out).1).trans HR2.out
            have HG1 := Lib.hid hg1
            clear hg1
            go_wp2_with fail
            go_roundw
            case rel => exact ⟨k + 1, a1, gn, cc, xs1, by go_num, by omega, by omega, by rw [HG1.out]; exact HG.out, HR3, HA3, HB3⟩
            case measure => simp [intOf]; omega
          · have hkb : (kd != 0) = true := by rw [bne_iff_ne]; exact h0
            have hkb2 : (kd == 0) = false := by rw [beq_eq_false_iff_ne]; exact h0
            have hg1 : gather f (x.l.take (k + 1)) = gather f (x.l.take k) ++ [f y] := by
              have := gather_yes f x.l k (by have := HN.out; omega) (by rw [← HY.out, ← HKD.out]; exact h0)
              rw [← HY.out] at this; exact this
            have HG1 := Lib.hid hg1
            clear hg1
            have HA3 : Hid (Acc ((w2.alloc (.cells #[.int .i64 kd, .int .i64 nd, .string sd, .slice bd bm bz, .slice fd fm fz, .slice ld lm lz] 27)).alloc (.cells #[.int .i64 kd, .int .i64 nd, .string sd, .slice bd bm bz, .slice fd fm fz, .slice ld lm lz] 27)) (W0.heap.size + 1) (.slice a1 gn cc) QA h (gather f (x.l.take k)) xs1) := (HA2.out.keep ((Below.refl _ w2).alloc (Nat.le_refl _) _)).keep ((Below.refl _ _).alloc (Nat.le_refl _) _)
            have HV3 : Hid (VIn ((w2.alloc (.cells #[.int .i64 kd, .int .i64 nd, .string sd, .slice bd bm bz, .slice fd fm fz, .slice ld lm lz] 27)).alloc (.cells #[.int .i64 kd, .int .i64 nd, .string sd, .slice bd bm bz, .slice fd fm fz, .slice ld lm lz] 27)) (fun g => QA g ∧ (Value.slice a1 gn cc).ownBlock ≠ some g) h (f y) (.agg #[.int .i64 kd, .int .i64 nd, .string sd, .slice bd bm bz, .slice fd fm fz, .slice ld lm lz])) := (VIn.keep ((Below.refl _ w2).alloc (Nat.le_refl _) _) HV2.out).keep ((Below.refl _ _).alloc (Nat.le_refl _) _)
            have HB3 : Hid (Below W0.heap.size W0 ((w2.alloc (.cells #[.int .i64 kd, .int .i64 nd, .string sd, .slice bd bm bz, .slice fd fm fz, .slice ld lm lz] 27)).alloc (.cells #[.int .i64 kd, .int .i64 nd, .string sd, .slice bd bm bz, .slice fd fm fz, .slice ld lm lz] 27))) := (HBw2.out.alloc HBw2.out.size _).alloc (by have := HBw2.out.size; simp; omega) _
            have HR3 : Hid (((w2.alloc (.cells #[.int .i64 kd, .int .i64 nd, .string sd, .slice bd bm bz, .slice fd fm fz, .slice ld lm lz] 27)).alloc (.cells #[.int .i64 kd, .int .i64 nd, .string sd, .slice bd bm bz, .slice fd fm fz, .slice ld lm lz] 27)).heap[W0.heap.size]? = some (.cells #[.int .i64 7, .int .i64 0, .string ⟨#[]⟩, .slice none 0 0, .slice none 0 0, .slice a1 gn cc] 27 (0, 0))) := by
              have h1 := (Array.getElem?_eq_some_iff.1 HR2.out).1
              rw [Below.heap_alloc _ _ _ (by simp; omega), Below.heap_alloc _ _ _ h1]; exact HR2.out
            have HOWN : Hid (((w2.alloc (.cells #[.int .i64 kd, .int .i64 nd, .string sd, .slice bd bm bz, .slice fd fm fz, .slice ld lm lz] 27)).alloc (.cells #[.int .i64 kd, .int .i64 nd, .string sd, .slice bd bm bz, .slice fd fm fz, .slice ld lm lz] 27)).ownsRow (W0.heap.size + 1) 27 6 (.slice a1 gn cc) gn xs1) := by have := HA3.out.own; rw [← HG.out] at this; exact this
            have HNW : Hid (∀ j u, ([.int .i64 kd, .int .i64 nd, .string sd, .slice bd bm bz, .slice fd fm fz, .slice ld lm lz] : List Value)[j]? = some u → ((w2.alloc (.cells #[.int .i64 kd, .int .i64 nd, .string sd, .slice bd bm bz, .slice fd fm fz, .slice ld lm lz] 27)).alloc (.cells #[.int .i64 kd, .int .i64 nd, .string sd, .slice bd bm bz, .slice fd fm fz, .slice ld lm lz] 27)).cell? (Addr.add ⟨w2.heap.size + 1, 0, none⟩ j) = some u) := by
              have hh := six_new (w2.alloc (.cells #[.int .i64 kd, .int .i64 nd, .string sd, .slice bd bm bz, .slice fd fm fz, .slice ld lm lz] 27)) (.int .i64 kd) (.int .i64 nd) (.string sd) (.slice bd bm bz) (.slice fd fm fz) (.slice ld lm lz) 27
              have e : (w2.alloc (.cells #[.int .i64 kd, .int .i64 nd, .string sd, .slice bd bm bz, .slice fd fm fz, .slice ld lm lz] 27)).heap.size = w2.heap.size + 1 := by simp
              rw [e] at hh; exact hh
            have r5b := cell_keep ((Below.refl _ w2).alloc (Nat.le_refl _) (.cells #[.int .i64 kd, .int .i64 nd, .string sd, .slice bd bm bz, .slice fd fm fz, .slice ld lm lz] 27)) r5
            have HSZ : Hid (W0.heap.size + 1 ≤ ((w2.alloc (.cells #[.int .i64 kd, .int .i64 nd, .string sd, .slice bd bm bz, .slice fd fm fz, .slice ld lm lz] 27)).alloc (.cells #[.int .i64 kd, .int .i64 nd, .string sd, .slice bd bm bz, .slice fd fm fz, .slice ld lm lz] 27)).heap.size) := by have := HB2.out.size; show _ ≤ _; simp; omega
            clear HA2 HV2
            go_wp2_with (at_builtin; refine wpList_append_sz _ rfl (.tmp 61) (.tmp 63) 25 rfl (W0.heap.size + 1) 27 i0 (.agg #[.int .i64 0, .int .i64 0, .string ⟨#[]⟩, .slice none 0 0, .slice none 0 0, .slice none 0 0]) 6 104 Tryd.underlying25 hi hz0 hz1 hz2 rfl (.slice a1 gn cc) gn xs1 rfl HOWN.out ⟨w2.heap.size + 1, 0, none⟩ 1 1 [.int .i64 kd, .int .i64 nd, .string sd, .slice bd bm bz, .slice fd fm fz, .slice ld lm lz] rfl rfl (by decide) (by decide) HNW.out (six_one _ _ _ _ _ _ _ _ _ _ _ _) (by unfold maxLen; omega) (by omega) HSZ.out ?_)
            intro v5 w5 hown5 hlies5
            have hw5 := Wrote.of_lies hlies5
            obtain ⟨a5, c5', rfl⟩ : ∃ a c, v5 = .slice a (gn + 1) c := owns_shape hown5
            have hne3 : (Value.slice a1 gn cc).ownBlock ≠ some W0.heap.size := fun e => by have := (owns_block HOWN.out e).1; omega
            have hlt3 : W0.heap.size < ((w2.alloc (.cells #[.int .i64 kd, .int .i64 nd, .string sd, .slice bd bm bz, .slice fd fm fz, .slice ld lm lz] 27)).alloc (.cells #[.int .i64 kd, .int .i64 nd, .string sd, .slice bd bm bz, .slice fd fm fz, .slice ld lm lz] 27)).heap.size := by have := HSZ.out; omega
            have hr5 : w5.heap[W0.heap.size]? = some (.cells #[.int .i64 7, .int .i64 0, .string ⟨#[]⟩, .slice none 0 0, .slice none 0 0, .slice a1 gn cc] 27 (0, 0)) := (hw5.1.block _ hlt3 (fun e => hne3 e.symm)).trans HR3.out
            have hA5 : Acc w5 (W0.heap.size + 1) (.slice a5 (gn + 1) c5') QA h (gather f (x.l.take (k + 1))) (xs1 ++ [.int .i64 kd, .int .i64 nd, .string sd, .slice bd bm bz, .slice fd fm fz, .slice ld lm lz]) := by
              rw [HG1.out]; exact HA3.out.push hw5 (by rw [← HG.out]; exact hown5) HV3.out
            have hne5 : (Value.slice a5 (gn + 1) c5').ownBlock ≠ some W0.heap.size := fun e => by have := (owns_block hA5.own e).1; omega
            have HB5 : Hid (Below W0.heap.size W0 w5) := HB3.out.grown hw5.1 HB3.out.size (fun j hj => by have := (owns_block HOWN.out hj).1; omega)
            have HR6 : Hid ((w5.setCell ⟨W0.heap.size, 5, none⟩ (.slice a5 (gn + 1) c5')).heap[W0.heap.size]? = some (.cells #[.int .i64 7, .int .i64 0, .string ⟨#[]⟩, .slice none 0 0, .slice none 0 0, .slice a5 (gn + 1) c5'] 27 (0, 0))) := set_row6 hr5
            have HA6 : Hid (Acc (w5.setCell ⟨W0.heap.size, 5, none⟩ (.slice a5 (gn + 1) c5')) (W0.heap.size + 1) (.slice a5 (gn + 1) c5') QA h (gather f (x.l.take (k + 1))) (xs1 ++ [.int .i64 kd, .int .i64 nd, .string sd, .slice bd bm bz, .slice fd fm fz, .slice ld lm lz])) := hA5.beside (G := W0.heap.size) (fun g hg => Below.heap_setCell w5 ⟨W0.heap.size, 5, none⟩ _ g hg) HQG.out hne5
            have HB6 := Lib.hid (puts_below HB5.out (G := W0.heap.size) (Nat.le_refl _) [.slice a5 (gn + 1) c5'] 5)
            have HG6 : Hid (gn + 1 = (gather f (x.l.take (k + 1))).length) := by rw [HG1.out, List.length_append, ← HG.out]; rfl
            have q5 := (cell_of_row w5 W0.heap.size 5 _ _ _ hr5).trans (rfl : _ = some (Value.slice a1 gn cc))
            have fz5 := frozen_of_row w5 W0.heap.size 5 _ _ hr5
            clear hown5 hlies5 hw5 HA3 HV3 HB3 HR3 HOWN HNW HSZ HG1 hne3 hlt3 hr5 hA5 hne5 HB5 r5 r5b
            go_wp2_with fail
            go_roundw
            case rel => exact ⟨k + 1, a5, gn + 1, c5', _, by go_num, by omega, by omega, HG6, HR6, HA6, HB6⟩
            case measure => simp [intOf]; omega
        · go_wp2_with fail
          refine (IH.out _ y _ _ HV.out HPw.out).mono ?_
          rintro e w2 ⟨v2, rfl, hv2, hb2⟩
          obtain ⟨kd, nd, sd, bd, fd, ld, bm, bz, fm, fz, lm, lz, rfl⟩ := hv2.shape
          have hsW := HB.out.size
          have hGlt : W0.heap.size < wr.heap.size := (Array.getElem?_eq_some_iff.1 HR.out).1
          have HB2 := Lib.hid hb2
          have HA2 := Lib.hid (HA.out.keep HB2.out)
          have HR2 : Hid (w2.heap[W0.heap.size]? = some (.cells #[.int .i64 7, .int .i64 0, .string ⟨#[]⟩, .slice none 0 0, .slice none 0 0, .slice a1 gn cc] 27 (0, 0))) := (HB2.out.block _ hGlt).trans HR.out
          have HBw2 : Hid (Below W0.heap.size W0 w2) := HB.out.trans (HB2.out.mono hsW)
          have HV2 : Hid (VIn w2 (fun g => QA g ∧ (Value.slice a1 gn cc).ownBlock ≠ some g) h (f y) (.agg #[.int .i64 kd, .int .i64 nd, .string sd, .slice bd bm bz, .slice fd fm fz, .slice ld lm lz])) := by
            refine hv2.kept (Kept.of_below (Below.refl _ _)) (fun g hg => ?_)
            rw [HQA.out]
            rcases hg with ⟨hg1, hg2⟩ | hg
            · refine ⟨.inl ⟨hg1.1, hg1.2⟩, fun e => ?_⟩
              have := owns_block HA.out.own e; omega
            · refine ⟨.inr (by omega), fun e => ?_⟩
              have := owns_block HA.out.own e; omega
          have hkd : kd = (f y).kind := hv2.kind
          have HKD := Lib.hid hkd
          clear s0 s1 s2 s3 s4 s5 c0 c1 c2 c3 c4 c5 r0 r1 r2 r3 r4 r5 hv2 hb2 HV HA HPw hkd HR
          have r5 := (cell_of_row w2 W0.heap.size 5 _ _ _ HR2.out).trans (rfl : _ = some (Value.slice a1 gn cc))
          by_cases h0 : kd = 0
          · subst h0
            have hg1 : gather f (x.l.take (k + 1)) = gather f (x.l.take k) := gather_no _ _ _ (by have := HN.out; omega) (by rw [← HY.out]; exact HKD.out.symm)
            have HA3 : Hid (Acc (w2.alloc (.cells #[.int .i64 0, .int .i64 nd, .string sd, .slice bd bm bz, .slice fd fm fz, .slice ld lm lz] 27)) (W0.heap.size + 1) (.slice a1 gn cc) QA h (gather f (x.l.take (k + 1))) xs1) := by
              rw [hg1]; exact HA2.out.keep ((Below.refl _ w2).alloc (Nat.le_refl _) _)
            have HB3 : Hid (Below W0.heap.size W0 (w2.alloc (.cells #[.int .i64 0, .int .i64 nd, .string sd, .slice bd bm bz, .slice fd fm fz, .slice ld lm lz] 27))) := HBw2.out.alloc HBw2.out.size _
            have HR3 : Hid ((w2.alloc (.cells #[.int .i64 0, .int .i64 nd, .string sd, .slice bd bm bz, .slice fd fm fz, .slice ld lm lz] 27)).heap[W0.heap.size]? = some (.cells #[.int .i64 7, .int .i64 0, .string ⟨#[]⟩, .slice none 0 0, .slice none 0 0, .slice a1 gn cc] 27 (0, 0))) := (Below.heap_alloc _ _ _ (Array.getElem?_eq_some_iff.1 HR2.out).1).trans HR2.out
            have HG1 := Lib.hid hg1
            clear hg1
            go_wp2_with fail
            go_roundw
            case rel => exact ⟨k + 1, a1, gn, cc, xs1, by go_num, by omega, by omega, by rw [HG1.out]; exact HG.out, HR3, HA3, HB3⟩
            case measure => simp [intOf]; omega
          · have hkb : (kd != 0) = true := by rw [bne_iff_ne]; exact h0
            have hkb2 : (kd == 0) = false := by rw [beq_eq_false_iff_ne]; exact h0
            have hg1 : gather f (x.l.take (k + 1)) = gather f (x.l.take k) ++ [f y] := by
              have := gather_yes f x.l k (by have := HN.out; omega) (by rw [← HY.out, ← HKD.out]; exact h0)
              rw [← HY.out] at this; exact this
            have HG1 := Lib.hid hg1
            clear hg1
            have HA3 : Hid (Acc ((w2.alloc (.cells #[.int .i64 kd, .int .i64 nd, .string sd, .slice bd bm bz, .slice fd fm fz, .slice ld lm lz] 27)).alloc (.cells #[.int .i64 kd, .int .i64 nd, .string sd, .slice bd bm bz, .slice fd fm fz, .slice ld lm lz] 27)) (W0.heap.size + 1) (.slice a1 gn cc) QA h (gather f (x.l.take k)) xs1) := (HA2.out.keep ((Below.refl _ w2).alloc (Nat.le_refl _) _)).keep ((Below.refl _ _).alloc (Nat.le_refl _) _)
            have HV3 : Hid (VIn ((w2.alloc (.cells #[.int .i64 kd, .int .i64 nd, .string sd, .slice bd bm bz, .slice fd fm fz, .slice ld lm lz] 27)).alloc (.cells #[.int .i64 kd, .int .i64 nd, .string sd, .slice bd bm bz, .slice fd fm fz, .slice ld lm lz] 27)) (fun g => QA g ∧ (Value.slice a1 gn cc).ownBlock ≠ some g) h (f y) (.agg #[.int .i64 kd, .int .i64 nd, .string sd, .slice bd bm bz, .slice fd fm fz, .slice ld lm lz])) := (VIn.keep ((Below.refl _ w2).alloc (Nat.le_refl _) _) HV2.out).keep ((Below.refl _ _).alloc (Nat.le_refl _) _)
            have HB3 : Hid (Below W0.heap.size W0 ((w2.alloc (.cells #[.int .i64 kd, .int .i64 nd, .string sd, .slice bd bm bz, .slice fd fm fz, .slice ld lm lz] 27)).alloc (.cells #[.int .i64 kd, .int .i64 nd, .string sd, .slice bd bm bz, .slice fd fm fz, .slice ld lm lz] 27))) := (HBw2.out.alloc HBw2.out.size _).alloc (by have := HBw2.out.size; simp; omega) _
            have HR3 : Hid (((w2.alloc (.cells #[.int .i64 kd, .int .i64 nd, .string sd, .slice bd bm bz, .slice fd fm fz, .slice ld lm lz] 27)).alloc (.cells #[.int .i64 kd, .int .i64 nd, .string sd, .slice bd bm bz, .slice fd fm fz, .slice ld lm lz] 27)).heap[W0.heap.size]? = some (.cells #[.int .i64 7, .int .i64 0, .string ⟨#[]⟩, .slice none 0 0, .slice none 0 0, .slice a1 gn cc] 27 (0, 0))) := by
              have h1 := (Array.getElem?_eq_some_iff.1 HR2.out).1
              rw [Below.heap_alloc _ _ _ (by simp; omega), Below.heap_alloc _ _ _ h1]; exact HR2.out
            have HOWN : Hid (((w2.alloc (.cells #[.int .i64 kd, .int .i64 nd, .string sd, .slice bd bm bz, .slice fd fm fz, .slice ld lm lz] 27)).alloc (.cells #[.int .i64 kd, .int .i64 nd, .string sd, .slice bd bm bz, .slice fd fm fz, .slice ld lm lz] 27)).ownsRow (W0.heap.size + 1) 27 6 (.slice a1 gn cc) gn xs1) := by have := HA3.out.own; rw [← HG.out] at this; exact this
            have HNW : Hid (∀ j u, ([.int .i64 kd, .int .i64 nd, .string sd, .slice bd bm bz, .slice fd fm fz, .slice ld lm lz] : List Value)[j]? = some u → ((w2.alloc (.cells #[.int .i64 kd, .int .i64 nd, .string sd, .slice bd bm bz, .slice fd fm fz, .slice ld lm lz] 27)).alloc (.cells #[.int .i64 kd, .int .i64 nd, .string sd, .slice bd bm bz, .slice fd fm fz, .slice ld lm lz] 27)).cell? (Addr.add ⟨w2.heap.size + 1, 0, none⟩ j) = some u) := by
              have hh := six_new (w2.alloc (.cells #[.int .i64 kd, .int .i64 nd, .string sd, .slice bd bm bz, .slice fd fm fz, .slice ld lm lz] 27)) (.int .i64 kd) (.int .i64 nd) (.string sd) (.slice bd bm bz) (.slice fd fm fz) (.slice ld lm lz) 27
              have e : (w2.alloc (.cells #[.int .i64 kd, .int .i64 nd, .string sd, .slice bd bm bz, .slice fd fm fz, .slice ld lm lz] 27)).heap.size = w2.heap.size + 1 := by simp
              rw [e] at hh; exact hh
            have r5b := cell_keep ((Below.refl _ w2).alloc (Nat.le_refl _) (.cells #[.int .i64 kd, .int .i64 nd, .string sd, .slice bd bm bz, .slice fd fm fz, .slice ld lm lz] 27)) r5
            have HSZ : Hid (W0.heap.size + 1 ≤ ((w2.alloc (.cells #[.int .i64 kd, .int .i64 nd, .string sd, .slice bd bm bz, .slice fd fm fz, .slice ld lm lz] 27)).alloc (.cells #[.int .i64 kd, .int .i64 nd, .string sd, .slice bd bm bz, .slice fd fm fz, .slice ld lm lz] 27)).heap.size) := by have := HB2.out.size; show _ ≤ _; simp; omega
            clear HA2 HV2
            go_wp2_with (at_builtin; refine wpList_append_sz _ rfl (.tmp 61) (.tmp 63) 25 rfl (W0.heap.size + 1) 27 i0 (.agg #[.int .i64 0, .int .i64 0, .string ⟨#[]⟩, .slice none 0 0, .slice none 0 0, .slice none 0 0]) 6 104 Tryd.underlying25 hi hz0 hz1 hz2 rfl (.slice a1 gn cc) gn xs1 rfl HOWN.out ⟨w2.heap.size + 1, 0, none⟩ 1 1 [.int .i64 kd, .int .i64 nd, .string sd, .slice bd bm bz, .slice fd fm fz, .slice ld lm lz] rfl rfl (by decide) (by decide) HNW.out (six_one _ _ _ _ _ _ _ _ _ _ _ _) (by unfold maxLen; omega) (by omega) HSZ.out ?_)
            intro v5 w5 hown5 hlies5
            have hw5 := Wrote.of_lies hlies5
            obtain ⟨a5, c5', rfl⟩ : ∃ a c, v5 = .slice a (gn + 1) c := owns_shape hown5
            have hne3 : (Value.slice a1 gn cc).ownBlock ≠ some W0.heap.size := fun e => by have := (owns_block HOWN.out e).1; omega
            have hlt3 : W0.heap.size < ((w2.alloc (.cells #[.int .i64 kd, .int .i64 nd, .string sd, .slice bd bm bz, .slice fd fm fz, .slice ld lm lz] 27)).alloc (.cells #[.int .i64 kd, .int .i64 nd, .string sd, .slice bd bm bz, .slice fd fm fz, .slice ld lm lz] 27)).heap.size := by have := HSZ.out; omega
            have hr5 : w5.heap[W0.heap.size]? = some (.cells #[.int .i64 7, .int .i64 0, .string ⟨#[]⟩, .slice none 0 0, .slice none 0 0, .slice a1 gn cc] 27 (0, 0)) := (hw5.1.block _ hlt3 (fun e => hne3 e.symm)).trans HR3.out
            have hA5 : Acc w5 (W0.heap.size + 1) (.slice a5 (gn + 1) c5') QA h (gather f (x.l.take (k + 1))) (xs1 ++ [.int .i64 kd, .int .i64 nd, .string sd, .slice bd bm bz, .slice fd fm fz, .slice ld lm lz]) := by
              rw [HG1.out]; exact HA3.out.push hw5 (by rw [← HG.out]; exact hown5) HV3.out
            have hne5 : (Value.slice a5 (gn + 1) c5').ownBlock ≠ some W0.heap.size := fun e => by have := (owns_block hA5.own e).1; omega
            have HB5 : Hid (Below W0.heap.size W0 w5) := HB3.out.grown hw5.1 HB3.out.size (fun j hj => by have := (owns_block HOWN.out hj).1; omega)
            have HR6 : Hid ((w5.setCell ⟨W0.heap.size, 5, none⟩ (.slice a5 (gn + 1) c5')).heap[W0.heap.size]? = some (.cells #[.int .i64 7, .int .i64 0, .string ⟨#[]⟩, .slice none 0 0, .slice none 0 0, .slice a5 (gn + 1) c5'] 27 (0, 0))) := set_row6 hr5
            have HA6 : Hid (Acc (w5.setCell ⟨W0.heap.size, 5, none⟩ (.slice a5 (gn + 1) c5')) (W0.heap.size + 1) (.slice a5 (gn + 1) c5') QA h (gather f (x.l.take (k + 1))) (xs1 ++ [.int .i64 kd, .int .i64 nd, .string sd, .slice bd bm bz, .slice fd fm fz, .slice ld lm lz])) := hA5.beside (G := W0.heap.size) (fun g hg => Below.heap_setCell w5 ⟨W0.heap.size, 5, none⟩ _ g hg) HQG.out hne5
            have HB6 := Lib.hid (puts_below HB5.out (G := W0.heap.size) (Nat.le_refl _) [.slice a5 (gn + 1) c5'] 5)
            have HG6 : Hid (gn + 1 = (gather f (x.l.take (k + 1))).length) := by rw [HG1.out, List.length_append, ← HG.out]; rfl
            have q5 := (cell_of_row w5 W0.heap.size 5 _ _ _ hr5).trans (rfl : _ = some (Value.slice a1 gn cc))
            have fz5 := frozen_of_row w5 W0.heap.size 5 _ _ hr5
            clear hown5 hlies5 hw5 HA3 HV3 HB3 HR3 HOWN HNW HSZ HG1 hne3 hlt3 hr5 hA5 hne5 HB5 r5 r5b
            go_wp2_with fail
            go_roundw
            case rel => exact ⟨k + 1, a5, gn + 1, c5', _, by go_num, by omega, by omega, HG6, HR6, HA6, HB6⟩
            case measure => simp [intOf]; omega
    · have hkk : k = ln := by omega
      subst hkk
      have htk : x.l.take k = x.l := List.take_of_length_le (by rw [HN.out]; exact Nat.le_refl _)
      rw [htk] at HA HG
      have hsb : w.heap.size < W0.heap.size := by omega
      obtain ⟨a', c', he', hc, hit⟩ := HA.out.items (Q' := fun g => Q g ∨ w.heap.size ≤ g) (fun g hg => by rw [HQA.out] at hg; rcases hg with hg | hg; exact .inl hg.1; exact .inr (by omega)) (fun g hg _ => .inr (by omega))
      rw [← HG.out] at he' hc
      injection he' with he1 _ he3
      subst he1 he3
      have HX1 := Lib.hid (HX.out.keep HB.out)
      have HB9 := Lib.hid (puts_below HX1.out.2.2.1 (G := w.heap.size + 1) (by omega) [.int .i64 7, .int .i64 0, .string ⟨#[]⟩, .slice none 0 0, .slice none 0 0, .slice a1 gn cc] 0)
      have hgl : (gather f x.l).length ≤ 1353245080339 := by rw [← HG.out]; omega
      have HV9 : Hid (VIn (puts wr (w.heap.size + 1) 0 [.int .i64 7, .int .i64 0, .string ⟨#[]⟩, .slice none 0 0, .slice none 0 0, .slice a1 gn cc]) (fun g => Q g ∨ w.heap.size ≤ g) (h + 1) (Bson.listOf (gather f x.l)) (.agg #[.int .i64 7, .int .i64 0, .string ⟨#[]⟩, .slice none 0 0, .slice none 0 0, .slice a1 gn cc])) := by
        obtain ⟨a2, c2', he2, hc2, hit2⟩ := HA.out.items (Q' := fun g => (Q g ∧ g < w.heap.size) ∨ W0.heap.size + 1 ≤ g) (fun g hg => by rw [HQA.out] at hg; exact hg) (fun g hg _ => .inr hg)
        rw [← HG.out] at he2
        injection he2 with he1 _ he3
        subst he1 he3
        have hq := puts_kept (fun g => (Q g ∧ g < w.heap.size) ∨ W0.heap.size + 1 ≤ g) (w := wr) (G := w.heap.size + 1) (by rintro (⟨_, hg⟩ | hg) <;> omega) 0 [.int .i64 7, .int .i64 0, .string ⟨#[]⟩, .slice none 0 0, .slice none 0 0, .slice a1 gn cc]
        have hqq : ∀ g, ((Q g ∧ g < w.heap.size) ∨ W0.heap.size + 1 ≤ g) → (Q g ∨ w.heap.size ≤ g) := fun g hg => by
          rcases hg with hg | hg
          · exact .inl hg.1
          · exact .inr (by omega)
        refine list_in (a := a1) (n := gn) HG.out hgl (by rw [← HG.out]; exact hc) ?_
        exact hit2.kept hq hqq (fun _ _ hv => hv.kept hq hqq)
      obtain ⟨z0, z1, z2, z3, z4, z5, g0, g1, g2, g3, g4, g5⟩ := HX1.out.zeros
      clear hit hc htk HA HG hgl
      go_wp2_with fail
      exact bodyPost_ret (v := .agg #[.int .i64 7, .int .i64 0, .string ⟨#[]⟩, .slice none 0 0, .slice none 0 0, .slice a1 gn cc]) (by simp [results, Tryd.results14, go_sem, z0, z1, z2, z3, z4, z5]) rfl ⟨_, rfl, HV9.out, HB9.out⟩
theorem rreach_any : ∀ (n h : Nat) (p : List ByteArray) (pa : Option Addr) (pn pc : Nat), p.length + h ≤ n → p.length = pn → pn ≤ pc → RReachAt (h + 1) p pa pn pc (fun x => Bson.reach n x p)
  | n, h, [], pa, pn, pc, _, hpn, _ => by
    obtain rfl : 0 = pn := hpn
    exact rreach_empty h pa pc n
  | 0, h, a :: r, pa, pn, pc, hle, _, _ => by simp at hle
  | m + 1, h, a :: r, pa, pn, pc, hle, hpn, hpc => by
    intro Q x v w hv hp
    have hp2 := hp
    obtain ⟨g, o, rfl, hcell⟩ := hp.resolve_left (by simp)
    simp only [List.length_cons] at hle hpn
    by_cases h6 : x.kind = 6
    · by_cases hc1 : pc = 1
      · subst hc1
        obtain rfl : pn = 1 := by omega
        refine rreach_last h a r g o m Q x v w (by simpa using hpn) h6 hv hcell ?_
        cases r with
        | nil => exact rreach_empty h _ 0 m
        | cons b t => simp at hpn
      · exact rreach_doc h a r g o pn pc m Q x v w (by simpa using hpn) hpc hc1 h6 hv hcell (rreach_any m h r _ (pn - 1) (pc - 1) (by omega) (by omega) (by omega))
    · by_cases h7 : x.kind = 7
      · refine rreach_items h (a :: r) _ pn pc m ?_ Q x v w (by simp) (by simpa using hpn) h7 hv hp2
        cases h with
        | zero => intro Q x v w hv hp; exact hv.elim
        | succ h => exact rreach_any m h (a :: r) _ pn pc (by simp; omega) (by simpa using hpn) hpc
      · exact rreach_else h (a :: r) _ pn pc (m + 1) Q x v w (by simp) (by simpa using hpn) h6 h7 hv
end Go.Proofs.YtdgncpoephdboaaDoor
end
