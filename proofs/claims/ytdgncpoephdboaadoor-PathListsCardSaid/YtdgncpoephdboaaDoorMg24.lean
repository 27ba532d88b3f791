/- PathAll. -/
import Derived.Test.YtdgncpoephdboaaDoorMg23
set_option maxRecDepth 100000
section
namespace Go.Proofs.YtdgncpoephdboaaDoor
open Go.RowKit
open Seal
open Bson (Val)
/-- A row of values, each of which lies in other blocks than the row. -/
def Held (w : World) (g H : Nat) (Q : Nat → Prop) (zs : List Val) : Prop := ∀ i (hi : i < zs.length), ∃ v, SixAt w g (i * 6) v ∧ VIn w (fun b => Q b ∧ b ≠ g) H zs[i] v
theorem Held.keep {w w' : World} {g H : Nat} {Q : Nat → Prop} {zs : List Val} (h : Held w g H Q zs) (hb : Below w.heap.size w w') : Held w' g H Q zs := fun i hi => by
  obtain ⟨v, h1, h2⟩ := h i hi
  exact ⟨v, h1.keep hb, h2.keep hb⟩
theorem Held.put {w : World} {g H len : Nat} {Q : Nat → Prop} {zs : List Val} {t : TypeId} (h : Held w g H Q zs) (hr : Row6 w g t len) (hl : zs.length * 6 ≤ len) {k : Nat} (hk : k < zs.length) {c0 c1 c2 c3 c4 c5 : Value} (hn : VIn w (fun b => Q b ∧ b ≠ g) H zs[k] (.agg #[c0, c1, c2, c3, c4, c5])) :
    Held (puts w g (k * 6) [c0, c1, c2, c3, c4, c5]) g H Q zs := by
  intro i hi
  have hkp : Kept (fun b => Q b ∧ b ≠ g) w (puts w g (k * 6) [c0, c1, c2, c3, c4, c5]) := puts_kept _ (fun e => e.2 rfl) _ _
  have hfit : k * 6 + [c0, c1, c2, c3, c4, c5].length ≤ len := by simp; omega
  by_cases hik : i = k
  · subst hik
    exact ⟨_, SixAt.of_puts hr (i * 6) 0 _ hfit c0 c1 c2 c3 c4 c5 rfl rfl rfl rfl rfl rfl, hn.kept hkp (fun _ hg => hg)⟩
  · obtain ⟨v, h1, h2⟩ := h i hi
    refine ⟨v, ?_, h2.kept hkp (fun _ hg => hg)⟩
    obtain ⟨d0, d1, d2, d3, d4, d5, e, h0, h1, h2, h3, h4, h5⟩ := h1
    obtain ⟨_, h6, _⟩ := hr.puts (k * 6) [c0, c1, c2, c3, c4, c5] hfit
    have q : ∀ j, j < 6 → (i * 6 + j < k * 6 ∨ k * 6 + [c0, c1, c2, c3, c4, c5].length ≤ i * 6 + j) := fun j hj => by simp; omega
    exact ⟨d0, d1, d2, d3, d4, d5, e, (h6 (i * 6) (q 0 (by omega))).trans h0, (h6 _ (q 1 (by omega))).trans h1, (h6 _ (q 2 (by omega))).trans h2, (h6 _ (q 3 (by omega))).trans h3, (h6 _ (q 4 (by omega))).trans h4, (h6 _ (q 5 (by omega))).trans h5⟩
theorem Acc.held {w : World} {base : Nat} {v : Value} {QA : Nat → Prop} {H : Nat} {ys : List Val} {xs : List Value} (ha : Acc w base v QA H ys xs) (hne : ys ≠ []) :
    ∃ g cap, v = .slice (some ⟨g, 0, none⟩) ys.length cap ∧ ys.length ≤ cap ∧ cap ≤ 9223372036854775807 ∧ base ≤ g ∧ Row6 w g 27 (cap * 6) ∧ Held w g H QA ys := by
  obtain ⟨hxl, ⟨rfl, hn⟩ | ⟨g, cap, cur, rfl, hbg, hrow, hc, hm, hsz, htake⟩⟩ := ha.own
  · exact absurd (List.eq_nil_of_length_eq_zero hn) hne
  · refine ⟨g, cap, rfl, hc, by unfold maxLen at hm; omega, hbg, ⟨cur, hrow, hsz⟩, fun i hi => ?_⟩
    obtain ⟨c0, c1, c2, c3, c4, c5, h0, h1, h2, h3, h4, h5, hv⟩ := ha.at' i hi
    have e : ∀ j c, xs[j]? = some c → w.cell? ⟨g, j, none⟩ = some c := fun j c hj => by
      have hl : j < xs.length := (List.getElem?_eq_some_iff.1 hj).1
      rw [cell_of_row w g j _ _ _ hrow, ← Array.getElem?_toList, ← hj, ← htake, List.getElem?_take_of_lt (by omega)]
    exact ⟨_, ⟨c0, c1, c2, c3, c4, c5, rfl, e _ _ h0, e _ _ h1, e _ _ h2, e _ _ h3, e _ _ h4, e _ _ h5⟩, hv.kept (Kept.of_below (Below.refl _ _)) (fun b hb => ⟨hb.1, fun e => hb.2 (by rw [e]; rfl)⟩)⟩
set_option maxRecDepth 100000 in
set_option maxHeartbeats 1000000 in
theorem All_any (n h : Nat) (p : List ByteArray) (pa : Option Addr) (pn pc : Nat) (hle : p.length + h ≤ n) (hpn : p.length = pn) (hpc : pn ≤ pc) (Q : Nat → Prop) (x : Val) (u : Value) (w : World) (hv : VIn w Q (h + 1) x u) (hp : StrsIn w pa p) (hN : (Bson.all n x p).length ≤ 1353245080339) :
    Calls Tryd.prog 9 #[u, .slice pa pn pc] w fun e w' => ∃ a' c', e = .returned (.slice a' (Bson.all n x p).length c') ∧ ((Bson.all n x p).length ≤ c' ∧ c' ≤ 9223372036854775807) ∧
      ItemsIn w' (fun g => Q g ∨ w.heap.size ≤ g) (VIn w' (fun g => Q g ∨ w.heap.size ≤ g) (h + 1)) a' (Bson.all n x p) ∧ Below w.heap.size w w' := by
  obtain ⟨xk, xn, xs0, ba, fa, la, bn, bc, fn, fc, ln, lc, rfl, hxk, hrest⟩ := hv.letters
  clear hrest
  have hsb : StrsBy (w.alloc (.cells #[.int .i64 xk, .int .i64 xn, .string xs0, .slice ba bn bc, .slice fa fn fc, .slice la ln lc] 27)) (.slice none 0 0) pa p := by
    rcases hp.keep ((Below.refl _ w).alloc (Nat.le_refl _) (.cells #[.int .i64 xk, .int .i64 xn, .string xs0, .slice ba bn bc, .slice fa fn fc, .slice la ln lc] 27)) with hp | ⟨g, o, e, hc⟩
    · exact .inl hp
    · exact .inr ⟨g, o, e, nofun, hc⟩
  have HC := Lib.hid (aall_any (h + 1) n h p pa pn pc hle (Nat.le_refl _) hpn hpc w.heap.size (.slice none 0 0) (fun g => (Q g ∧ g < w.heap.size) ∨ w.heap.size ≤ g) [] [] x _ (w.alloc (.cells #[.int .i64 xk, .int .i64 xn, .string xs0, .slice ba bn bc, .slice fa fn fc, .slice la ln lc] 27)) (Acc.nil _ _ _ _) (by simp) ((VIn.keep ((Below.refl _ w).alloc (Nat.le_refl _) _) hv.lt).kept (Kept.of_below (Below.refl _ _)) (fun g hg => ⟨.inl hg, nofun⟩)) hsb (by simpa using hN))
  have HB1 : Hid (Below w.heap.size w (w.alloc (.cells #[.int .i64 xk, .int .i64 xn, .string xs0, .slice ba bn bc, .slice fa fn fc, .slice la ln lc] 27))) := (Below.refl _ w).alloc (Nat.le_refl _) _
  have hne := Bson.all_ne n x p
  obtain ⟨zs, hzs⟩ : ∃ zs, zs = Bson.all n x p := ⟨_, rfl⟩
  rw [← hzs] at hne hN ⊢
  have HZS := Lib.hid hzs
  have HNE := Lib.hid hne
  obtain ⟨zn, hzn⟩ : ∃ zn, zn = zs.length := ⟨_, rfl⟩
  rw [← hzn] at hN ⊢
  have HZN := Lib.hid hzn
  clear hzs hne hsb hv hp hle hpn hpc hxk hzn
  go_enter Tryd.func9, Tryd.ntmps9
  go_wp2_with fail
  refine HC.out.mono ?_
  rintro e w1 ⟨v1, xs1, rfl, hA1, hW1⟩
  simp only [List.nil_append, ← HZS.out] at hA1
  obtain ⟨g, cap, rfl, hc1, hc2, hbg, hrow1, hheld1⟩ := hA1.held HNE.out
  rw [← HZN.out] at hc1
  rw [← HZN.out]
  have HBw1 : Hid (Below w.heap.size w w1) := by
    refine HB1.out.trans ?_
    exact ⟨hW1.1.os, hW1.1.tape, hW1.1.output, by have := hW1.1.size; simp at this ⊢; omega, fun k hk => hW1.1.block k (by simp; omega) nofun⟩
  have HR1 := Lib.hid hrow1
  have HH1 := Lib.hid hheld1
  have HBG := Lib.hid hbg
  clear hA1 hW1 hrow1 hheld1 HC hbg
  go_wp2_with fail
  go_loopw [13] (fun i wr => ∃ k : Nat, i = .int .i64 k ∧ k ≤ zn ∧ Hid (Row6 wr g 27 (cap * 6)) ∧ Hid (Held wr g (h + 1) (fun b => (Q b ∧ b < w.heap.size) ∨ w.heap.size ≤ b) zs) ∧ Hid (Below w.heap.size w wr)) (fun i _ => zn - (intOf i).toNat)
  case atStart => exact ⟨0, rfl, Nat.zero_le _, HR1, HH1, HBw1⟩
  case round =>
    obtain ⟨k, rfl, hk, HR, HH, HB⟩ := hrel
    by_cases hlt : k < zn
    · obtain ⟨v', hsix, hV⟩ := HH.out k (by rw [← HZN.out]; exact hlt)
      obtain ⟨ka, na, sa, ba, fa, la, bl, bc, fl, fc, ll, lc, rfl⟩ := hV.shape
      obtain ⟨s0, s1, s2, s3, s4, s5⟩ := hsix.cells
      have HV := Lib.hid (VIn.keep ((Below.refl _ wr).alloc (Nat.le_refl _) (.cells #[.int .i64 ka, .int .i64 na, .string sa, .slice ba bl bc, .slice fa fl fc, .slice la ll lc] 27)) hV)
      have CP := Lib.hid (copy_any _ _ _ _ _ HV.out)
      clear hsix hV
      go_wp2_with fail
      refine CP.out.mono ?_
      rintro e w2 ⟨v2, rfl, hv2, hb2⟩
      obtain ⟨kd, nd, sd, bd, fd, ld, bm, bz, fm, fz, lm, lz, rfl⟩ := hv2.shape
      have HB2 : Hid (Below wr.heap.size wr w2) := ((Below.refl _ wr).alloc (Nat.le_refl _) _).trans (hb2.mono (by simp))
      have HR2 := Lib.hid (HR.out.keep HB2.out)
      have HH2 := Lib.hid (HH.out.keep HB2.out)
      have HBw2 : Hid (Below w.heap.size w w2) := HB.out.trans (HB2.out.mono HB.out.size)
      have hGlt : g < wr.heap.size := HR.out.lt
      have hsz := HB.out.size
      have HV2 : Hid (VIn w2 (fun b => ((Q b ∧ b < w.heap.size) ∨ w.heap.size ≤ b) ∧ b ≠ g) (h + 1) (zs[k]'(by rw [← HZN.out]; exact hlt)) (.agg #[.int .i64 kd, .int .i64 nd, .string sd, .slice bd bm bz, .slice fd fm fz, .slice ld lm lz])) := hv2.kept (Kept.of_below (Below.refl _ _)) (fun b hb => by simp at hb; exact ⟨.inr (by omega), by omega⟩)
      clear hv2 hb2
      obtain ⟨⟨z0, g0⟩, f0⟩ := HR2.out.at (j := k * 6) (by omega)
      obtain ⟨⟨z1, g1⟩, f1⟩ := HR2.out.at (j := k * 6 + 1) (by omega)
      obtain ⟨⟨z2, g2⟩, f2⟩ := HR2.out.at (j := k * 6 + 2) (by omega)
      obtain ⟨⟨z3, g3⟩, f3⟩ := HR2.out.at (j := k * 6 + 3) (by omega)
      obtain ⟨⟨z4, g4⟩, f4⟩ := HR2.out.at (j := k * 6 + 4) (by omega)
      obtain ⟨⟨z5, g5⟩, f5⟩ := HR2.out.at (j := k * 6 + 5) (by omega)
      have HN2 : Hid (Held (puts w2 g (k * 6) [.int .i64 kd, .int .i64 nd, .string sd, .slice bd bm bz, .slice fd fm fz, .slice ld lm lz]) g (h + 1) (fun b => (Q b ∧ b < w.heap.size) ∨ w.heap.size ≤ b) zs) := HH2.out.put HR2.out (by rw [← HZN.out]; omega) (by rw [← HZN.out]; exact hlt) HV2.out
      have HR3 := Lib.hid (HR2.out.puts (k * 6) [.int .i64 kd, .int .i64 nd, .string sd, .slice bd bm bz, .slice fd fm fz, .slice ld lm lz] (by simp; omega)).1
      have HB3 := Lib.hid (puts_below HBw2.out (G := g) HBG.out [.int .i64 kd, .int .i64 nd, .string sd, .slice bd bm bz, .slice fd fm fz, .slice ld lm lz] (k * 6))
      clear s0 s1 s2 s3 s4 s5 HV CP HH HR HB
      go_wp2_with fail
      go_roundw
      case rel => exact ⟨k + 1, by go_num, by omega, HR3, HN2, HB3⟩
      case measure => simp [intOf]; omega
    · have hkk : k = zn := by omega
      subst hkk
      go_wp2_with fail
      go_ret
      refine ⟨some ⟨g, 0, none⟩, cap, rfl, ⟨hc1, hc2⟩, .inr ⟨g, 0, rfl, .inr HBG.out, fun i hi => ?_⟩, HB.out⟩
      obtain ⟨v, h1, h2⟩ := HH.out i hi
      rw [Nat.zero_add]
      exact ⟨v, h1, h2.kept (Kept.of_below (Below.refl _ _)) (fun b hb => by rcases hb.1 with hb | hb; exact .inl hb.1; exact .inr hb)⟩
end Go.Proofs.YtdgncpoephdboaaDoor
end
