/- ExprRow, ExprDoc, StrWrite, StrJoin, ExprJoin. -/
import Derived.Lib.Builder
import Derived.Shelf.Strings.BuilderX
import Derived.Test.YtiajjgehnmkokaaGreatDoorMl19
import Derived.Test.YtiajjgehnmkokaaGreatDoorMl9
import Derived.Test.YtiajjgehnmkokaaGreatDoorMl3
import Derived.Test.YtiajjgehnmkokaaGreatDoorMl0
set_option maxRecDepth 100000
set_option maxHeartbeats 20000000
section
namespace Go.Proofs.YtiajjgehnmkokaaGreatDoor
open Go.RowKit
open Seal
open Bson (Val)
def RowIs (w : World) (base B : Nat) (a : Option Addr) (M : Nat) (l : List Val) (k : Nat) : Prop :=
 l = [] ∨ ∃ G, a = some ⟨G, 0, none⟩ ∧ base ≤ G ∧ l.length * 6 ≤ M ∧ Row6 w G 26 M ∧ ∀ t (ht : t < l.length), ∃ u, SixAt w G (t * 6) u ∧ VIn w (fun g => base ≤ g ∧ g ≠ G) B (if t < k then Expr.nullIf l[t] else l[t]) u
section
variable {w w' : World} {base B M k : Nat} {a : Option Addr} {l : List Val}
theorem RowIs.keep (h : RowIs w base B a M l k) (hb : Below w.heap.size w w') : RowIs w' base B a M l k := by
 rcases h with h | ⟨G, e, h1, h2, h3, h4⟩
 ·exact .inl h
 ·refine .inr ⟨G, e, h1, h2, h3.keep hb, fun t ht => ?_⟩
  obtain ⟨u, h5, h6⟩ := h4 t ht
  exact ⟨u, h5.keep hb, VIn.keep hb h6⟩
theorem RowIs.skip (h : RowIs w base B a M l k) (hk : k < l.length) (h0 : ¬ l[k].kind = 0) : RowIs w base B a M l (k + 1) := by
 rcases h with h | ⟨G, e, h1, h2, h3, h4⟩
 ·exact .inl h
 ·refine .inr ⟨G, e, h1, h2, h3, fun t ht => ?_⟩
  obtain ⟨u, h5, h6⟩ := h4 t ht
  refine ⟨u, h5, ?_⟩
  by_cases e2 : t = k
  ·subst e2
   rw [if_neg (Nat.lt_irrefl _)] at h6
   rw [if_pos (Nat.lt_succ_self _)]
   unfold Expr.nullIf
   rw [if_neg h0]
   exact h6
  ·by_cases hlt : t < k
   ·rw [if_pos hlt] at h6
    rw [if_pos (by omega)]
    exact h6
   ·rw [if_neg hlt] at h6
    rw [if_neg (by omega)]
    exact h6
theorem RowIs.put {G : Nat} (h : RowIs w base B (some ⟨G, 0, none⟩) M l k) (hk : k < l.length) (h0 : l[k].kind = 0) : RowIs (puts w G (k * 6) [.int .i64 2, .int .i64 0, .string ⟨#[]⟩, .slice none 0 0, .slice none 0 0, .slice none 0 0]) base B (some ⟨G, 0, none⟩) M l (k + 1) := by
 rcases h with h | ⟨G', e, h1, h2, h3, h4⟩
 ·rw [h] at hk; cases hk
 ·have e2 := Option.some.inj e
  injection e2 with e3
  subst e3
  have hfit : k * 6 + ([.int .i64 2, .int .i64 0, .string ⟨#[]⟩, .slice none 0 0, .slice none 0 0, .slice none 0 0] : List Value).length ≤ M := by show k * 6 + 6 ≤ M; omega
  refine .inr ⟨G, rfl, h1, h2, (h3.puts (k * 6) _ hfit).1, fun t ht => ?_⟩
  by_cases e2 : t = k
  ·subst e2
   refine ⟨_, SixAt.of_puts h3 (t * 6) 0 _ hfit (.int .i64 2) (.int .i64 0) (.string ⟨#[]⟩) (.slice none 0 0) (.slice none 0 0) (.slice none 0 0) rfl rfl rfl rfl rfl rfl, ?_⟩
   obtain ⟨u, -, h6⟩ := h4 t ht
   rw [if_pos (Nat.lt_succ_self _)]
   unfold Expr.nullIf
   rw [if_pos h0]
   cases B with
   | zero => exact h6.elim
   | succ B => exact leafV_in _ _ 2 0 (by omega) (by omega) _
  ·obtain ⟨u, h5, h6⟩ := h4 t ht
   refine ⟨u, ?_, ?_⟩
   ·obtain ⟨c0, c1, c2, c3, c4, c5, e, g0, g1, g2, g3, g4, g5⟩ := h5
    have hp := (h3.puts (k * 6) _ hfit).2.1
    have hj : ∀ j, j < 6 → t * 6 + j < k * 6 ∨ k * 6 + ([.int .i64 2, .int .i64 0, .string ⟨#[]⟩, .slice none 0 0, .slice none 0 0, .slice none 0 0] : List Value).length ≤ t * 6 + j := fun j hj => by
     show _ ∨ k * 6 + 6 ≤ _
     omega
    exact ⟨c0, c1, c2, c3, c4, c5, e, (hp _ (hj 0 (by omega))).trans g0, (hp _ (hj 1 (by omega))).trans g1, (hp _ (hj 2 (by omega))).trans g2, (hp _ (hj 3 (by omega))).trans g3, (hp _ (hj 4 (by omega))).trans g4, (hp _ (hj 5 (by omega))).trans g5⟩
   ·have h7 := h6.kept (puts_kept (fun g => base ≤ g ∧ g ≠ G) (fun h => h.2 rfl) (k * 6) [.int .i64 2, .int .i64 0, .string ⟨#[]⟩, .slice none 0 0, .slice none 0 0, .slice none 0 0]) (fun _ h => h)
    by_cases hlt : t < k
    ·rw [if_pos hlt] at h7
     rw [if_pos (by omega)]
     exact h7
    ·rw [if_neg hlt] at h7
     rw [if_neg (by omega)]
     exact h7
theorem RowIs.items {Q : Nat → Prop} (h : RowIs w base B a M l l.length) (hQ : ∀ g, base ≤ g → Q g) : ItemsIn w Q (VIn w Q B) a (l.map Expr.nullIf) := by
 rcases h with h | ⟨G, e, h1, h2, h3, h4⟩
 ·exact .inl (by rw [h]; rfl)
 ·refine .inr ⟨G, 0, e, hQ G h1, fun t ht => ?_⟩
  rw [List.length_map] at ht
  obtain ⟨u, h5, h6⟩ := h4 t ht
  rw [if_pos ht] at h6
  rw [List.getElem_map, Nat.zero_add]
  exact ⟨u, h5, h6.kept (Kept.of_below (Below.refl _ _)) (fun g hg => hQ g hg.1)⟩
end
theorem Acc.rowIs {w : World} {base b2 : Nat} {v : Value} {QA : Nat → Prop} {h : Nat} {ys : List Val} {xs : List Value} (ha : Acc w base v QA h ys xs) (hb : b2 ≤ base) (hQ : ∀ g, QA g → b2 ≤ g) :
  ∃ a c M, v = .slice a ys.length c ∧ (ys.length ≤ c ∧ c ≤ 9223372036854775807) ∧ RowIs w b2 h a M ys 0 := by
 obtain ⟨hxl, ⟨rfl, hn⟩ | ⟨g, cap, cur, rfl, hbg, hrow, hc, hm, hsz, htake⟩⟩ := ha.own
 ·have hn' := List.eq_nil_of_length_eq_zero hn
  exact ⟨none, 0, 0, by rw [hn], by rw [hn]; exact ⟨Nat.le_refl _, by omega⟩, .inl hn'⟩
 ·refine ⟨some ⟨g, 0, none⟩, cap, cur.size, rfl, ⟨hc, by unfold maxLen at hm; omega⟩, .inr ⟨g, rfl, by omega, by omega, ⟨cur, hrow, rfl⟩, fun i hi => ?_⟩⟩
  obtain ⟨c0, c1, c2, c3, c4, c5, h0, h1, h2, h3, h4, h5, hv⟩ := ha.at' i hi
  have e : ∀ j c, xs[j]? = some c → w.cell? ⟨g, j, none⟩ = some c := fun j c hj => by
   have hl : j < xs.length := (List.getElem?_eq_some_iff.1 hj).1
   rw [cell_of_row w g j _ _ _ hrow, ← Array.getElem?_toList, ← hj, ← htake, List.getElem?_take_of_lt (by omega)]
  refine ⟨_, ⟨c0, c1, c2, c3, c4, c5, rfl, e _ _ h0, e _ _ h1, e _ _ h2, e _ _ h3, e _ _ h4, e _ _ h5⟩, ?_⟩
  rw [if_neg (Nat.not_lt_zero _)]
  exact hv.kept (Kept.of_below (Below.refl _ _)) (fun g' hg => ⟨hQ _ hg.1, fun e => hg.2 (by rw [e]; rfl)⟩)
theorem rowL_in {w : World} {Q : Nat → Prop} {B : Nat} {l : List Val} {a : Option Addr} {n c : Nat} (hn : l.length = n) (hm : n ≤ 3000) (hc : n ≤ c ∧ c ≤ 9223372036854775807) (h : ItemsIn w Q (VIn w Q B) a l) :
  VIn w Q (B + 1) (.mk 7 0 ⟨#[]⟩ [] [] l) (.agg #[.int .i64 7, .int .i64 0, .string ⟨#[]⟩, .slice none 0 0, .slice none 0 0, .slice a n c]) := by
 subst hn
 exact ⟨none, none, a, 0, 0, c, rfl, ⟨by show (-9223372036854775808 : Int) ≤ 7; omega, by show (7 : Int) ≤ _; omega, by show (-9223372036854775808 : Int) ≤ 0; omega, by show (0 : Int) ≤ _; omega, by show (0 : Nat) ≤ _; omega, by show (0 : Nat) ≤ _; omega, by show (0 : Nat) ≤ _; omega, by show l.length ≤ _; omega, (fun _ h => by cases h)⟩, ⟨Nat.le_refl _, by omega⟩, ⟨Nat.le_refl _, by omega⟩, hc, .inl rfl, .inl rfl, h⟩
theorem evRow_any (H hd : Nat) (a : Option Addr) (n c : Nat) (fs : List (Nat → Val → Expr.Out)) (Q : Nat → Prop) (d : Val) (dv : Value) (w : World) (hn : fs.length = n) (hlim : n ≤ 3000) (hT : TermsIn w a H fs) (hd0 : VIn w Q (hd + 1) d dv) :
  Calls Tryz.prog 192 #[.slice a n c, dv] w (EvPost w (H + hd + 1) (Expr.rowO (Expr.allO (outsOf fs hd d)))) := by
 obtain ⟨dk, dn, ds, da, df, dl, ba, bc, fa, fc, la, lc, rfl⟩ := hd0.shape
 obtain ⟨W0, hW0⟩ : ∃ W0, W0 = (w.alloc (.cells #[.int .i64 dk, .int .i64 dn, .string ds, .slice da ba bc, .slice df fa fc, .slice dl la lc] 26)).alloc (.cells #[.int .i64 0, .int .i64 0, .string ⟨#[]⟩, .slice none 0 0, .slice none 0 0, .slice none 0 0] 26) := ⟨_, rfl⟩
 obtain ⟨hb0, hsz, hx, hr0⟩ := ev_boxes2 w (.int .i64 dk) (.int .i64 dn) (.string ds) (.slice da ba bc) (.slice df fa fc) (.slice dl la lc) W0 hW0
 have CA := Lib.hid (evalAll_any H hd a n c fs Q d _ W0 hn hlim (hT.keep hb0) (VIn.keep hb0 hd0))
 obtain ⟨r, hr⟩ : ∃ r, r = Expr.allO (outsOf fs hd d) := ⟨_, rfl⟩
 have hrl : r.1 = 0 → r.2.length = n := fun h => by rw [hr] at h ⊢; rw [Expr.allO_len h, outsOf_length, hn]
 rw [← hr] at CA ⊢
 have HRL := Lib.hid hrl
 obtain ⟨res, hres⟩ : ∃ z, z = Expr.rowO r := ⟨_, rfl⟩
 rw [← hres]
 have HRES := Lib.hid hres
 have HB := Lib.hid hb0
 have HSZ : Hid (W0.heap.size = w.heap.size + 2) := hsz
 have HR := Lib.hid hr0
 have HW0 := Lib.hid hW0
 obtain ⟨x0, x1, x2, x3, x4, x5⟩ := hx.cells
 clear hT hd0 hn hr hrl hres hW0 hb0 hsz hx hr0
 go_enter Tryz.func192, Tryz.ntmps192
 go_upto_region 1 with fail
 rw [← HW0.out]
 go_wp2_with fail
 clear x0 x1 x2 x3 x4 x5
 refine CA.out.mono ?_
 rintro e w2 ⟨v2, rfl, hA, hN, hb2⟩
 have HB2 := Lib.hid (HB.out.trans (hb2.mono HB.out.size))
 have HR2 := Lib.hid (HR.out.keep hb2)
 by_cases hz : r.1 = 0
 ·obtain ⟨xs, hA⟩ := hA hz
  have hl2 := HRL.out hz
  obtain ⟨a', c', M, rfl, hc', hrow⟩ := hA.rowIs (b2 := W0.heap.size) (Nat.le_succ _) (fun _ h => h)
  have hre : res = (0, .mk 7 0 ⟨#[]⟩ [] [] (r.2.map Expr.nullIf)) := by rw [HRES.out]; unfold Expr.rowO; rw [if_pos hz]
  have HRE := Lib.hid hre
  obtain ⟨N, hNN⟩ : ∃ N, N = r.2.length := ⟨_, rfl⟩
  rw [hz, ← hNN]
  have hN3 : N ≤ 3000 := by omega
  have hcap : N ≤ c' := by omega
  have HC := Lib.hid hc'
  have HNN := Lib.hid hNN
  have HROW := Lib.hid hrow
  clear hA hN hb2 hc' hl2 hz hre hNN hrow
  go_wp2_with fail
  go_loopw [22] (fun i wr => ∃ (k : Nat), i = .int .i64 k ∧ k ≤ N ∧ Hid (RowIs wr W0.heap.size (H + hd) a' M r.2 k) ∧ Hid (Below w.heap.size w wr) ∧ Hid (IsBox wr (w.heap.size + 1) (.int .i64 0) (.int .i64 0) (.string ⟨#[]⟩) (.slice none 0 0) (.slice none 0 0) (.slice none 0 0))) (fun i _ => N - (intOf i).toNat)
  case atStart => exact ⟨0, rfl, Nat.zero_le _, HROW.out, HB2.out, HR2.out⟩
  case round =>
   obtain ⟨k, rfl, hk, HRo, HBr, HRr⟩ := hrel
   by_cases hlt : k < N
   ·have hkr : k < r.2.length := by rw [← HNN.out]; exact hlt
    obtain ⟨G, rfl, hG, hM, hrow, hall⟩ := HRo.out.resolve_left (fun e => by rw [e] at hkr; cases hkr)
    obtain ⟨u, hsix, hV⟩ := hall k hkr
    rw [if_neg (Nat.lt_irrefl _)] at hV
    obtain ⟨ik, im, is_, b0, f0, l0, bb0, bc0, fb0, fc0, lb0, lc0, rfl⟩ := hV.shape
    obtain ⟨e1, -, -, -, -⟩ := hV.top
    obtain ⟨s0, s1, s2, s3, s4, s5⟩ := hsix.cells
    obtain ⟨W5, hW5⟩ : ∃ W5, W5 = wr.alloc (.cells #[.int .i64 ik, .int .i64 im, .string is_, .slice b0 bb0 bc0, .slice f0 fb0 fc0, .slice l0 lb0 lc0] 26) := ⟨_, rfl⟩
    have hb5 : Below wr.heap.size wr W5 := by rw [hW5]; exact (Below.refl _ _).alloc (Nat.le_refl _) _
    obtain ⟨T, hT⟩ : ∃ T, T = wr.heap.size := ⟨_, rfl⟩
    have hX5 : IsBox W5 T (.int .i64 ik) (.int .i64 im) (.string is_) (.slice b0 bb0 bc0) (.slice f0 fb0 fc0) (.slice l0 lb0 lc0) := by rw [hW5, hT]; exact IsBox.new wr (.int .i64 ik) (.int .i64 im) (.string is_) (.slice b0 bb0 bc0) (.slice f0 fb0 fc0) (.slice l0 lb0 lc0)
    have HB5 := Lib.hid (HBr.out.trans (hb5.mono HBr.out.size))
    have HR5 := Lib.hid (HRr.out.keep hb5)
    have HRo5 := Lib.hid (HRo.out.keep hb5)
    have HS5 := Lib.hid (hsix.keep hb5)
    have HRW5 := Lib.hid (hrow.keep hb5)
    have HE1 := Lib.hid e1
    have HW5 := Lib.hid hW5
    have HTT := Lib.hid hT
    have HGM : Hid (W0.heap.size ≤ G ∧ k * 6 + 6 ≤ M) := ⟨hG, by omega⟩
    clear hG hM hrow hall hsix hV e1 hb5 hW5 hT
    go_upto_region 7 with fail
    rw [← HW5.out, ← HTT.out]
    clear s0 s1 s2 s3 s4 s5
    obtain ⟨y0, y1, y2, y3, y4, y5⟩ := hX5.cells
    by_cases he : ik = 0
    ·subst he
     obtain ⟨s0, s1, s2, s3, s4, s5⟩ := HS5.out.cells
     have q0 := (HRW5.out.at (j := k * 6) (by have := HGM.out.2; omega)).2
     have q1 := (HRW5.out.at (j := k * 6 + 1) (by have := HGM.out.2; omega)).2
     have q2 := (HRW5.out.at (j := k * 6 + 2) (by have := HGM.out.2; omega)).2
     have q3 := (HRW5.out.at (j := k * 6 + 3) (by have := HGM.out.2; omega)).2
     have q4 := (HRW5.out.at (j := k * 6 + 4) (by have := HGM.out.2; omega)).2
     have q5 := (HRW5.out.at (j := k * 6 + 5) (by have := HGM.out.2; omega)).2
     have HRo6 := Lib.hid (HRo5.out.put hkr HE1.out.symm)
     have HB6 := Lib.hid (puts_below HB5.out (by have := HGM.out.1; have := HSZ.out; omega : w.heap.size ≤ G) [.int .i64 2, .int .i64 0, .string ⟨#[]⟩, .slice none 0 0, .slice none 0 0, .slice none 0 0] (k * 6))
     have HR6 := Lib.hid (HR5.out.other (by have := HGM.out.1; have := HSZ.out; omega : w.heap.size + 1 ≠ G) (k * 6) [.int .i64 2, .int .i64 0, .string ⟨#[]⟩, .slice none 0 0, .slice none 0 0, .slice none 0 0])
     clear hX5
     go_wp2_with fail
     go_roundw
     case rel => exact ⟨k + 1, by go_num, by omega, HRo6.out, HB6.out, HR6.out⟩
     case measure => simp [intOf]; omega
    ·have he2 : (ik == 0) = false := by rw [beq_eq_false_iff_ne]; exact he
     have HRo6 := Lib.hid (HRo5.out.skip hkr (by rw [← HE1.out]; exact he))
     clear hX5
     go_wp2_with fail
     go_roundw
     case rel => exact ⟨k + 1, by go_num, by omega, HRo6.out, HB5.out, HR5.out⟩
     case measure => simp [intOf]; omega
   ·obtain rfl : k = N := by omega
    have hro := HRo.out
    rw [HNN.out] at hro
    have hend := puts_below HBr.out (by omega : w.heap.size ≤ w.heap.size + 1) [.int .i64 7, .int .i64 0, .string ⟨#[]⟩, .slice none 0 0, .slice none 0 0, .slice a' k c'] 0
    have hv : VIn wr (fun g => W0.heap.size ≤ g) (H + hd + 1) (.mk 7 0 ⟨#[]⟩ [] [] (r.2.map Expr.nullIf)) (.agg #[.int .i64 7, .int .i64 0, .string ⟨#[]⟩, .slice none 0 0, .slice none 0 0, .slice a' k c']) := rowL_in (by rw [List.length_map]; exact HNN.out.symm) hN3 ⟨hcap, HC.out.2⟩ (hro.items (fun _ h => h))
    have HEND : Hid (VIn (puts wr (w.heap.size + 1) 0 [.int .i64 7, .int .i64 0, .string ⟨#[]⟩, .slice none 0 0, .slice none 0 0, .slice a' k c']) (fun g => w.heap.size ≤ g) (H + hd + 1) (.mk 7 0 ⟨#[]⟩ [] [] (r.2.map Expr.nullIf)) (.agg #[.int .i64 7, .int .i64 0, .string ⟨#[]⟩, .slice none 0 0, .slice none 0 0, .slice a' k c']) ∧ Below w.heap.size w (puts wr (w.heap.size + 1) 0 [.int .i64 7, .int .i64 0, .string ⟨#[]⟩, .slice none 0 0, .slice none 0 0, .slice a' k c'])) :=
     ⟨hv.kept (puts_kept (fun g => W0.heap.size ≤ g) (by have := HSZ.out; omega) _ _) (fun g hg => by have := HSZ.out; omega), hend⟩
    obtain ⟨r0, r1, r2, r3, r4, r5⟩ := HRr.out.cells
    obtain ⟨q0, q1, q2, q3, q4, q5⟩ := HRr.out.thaw
    clear hro hend hv
    go_wp2_with fail
    refine bodyPost_ret (v := .tuple #[.agg #[.int .i64 7, .int .i64 0, .string ⟨#[]⟩, .slice none 0 0, .slice none 0 0, .slice a' k c'], .int .i64 0]) ?_ rfl ?_
    ·simp [results, Tryz.results192, go_sem, *]
    ·exact ⟨_, by rw [HRE.out], by rw [HRE.out]; exact HEND.out.1, HEND.out.2⟩
 ·have hz2 : (r.1 == 0) = false := by rw [beq_eq_false_iff_ne]; exact hz
  have hre : res = (r.1, Bson.zero) := by rw [HRES.out]; unfold Expr.rowO; rw [if_neg hz]; rfl
  have HRE := Lib.hid hre
  obtain rfl := hN hz
  have HEND := Lib.hid (below_six HB2.out (by omega : w.heap.size ≤ w.heap.size + 1) (.int .i64 0) (.int .i64 0) (.string ⟨#[]⟩) (.slice none 0 0) (.slice none 0 0) (.slice none 0 0))
  obtain ⟨r0, r1, r2, r3, r4, r5⟩ := HR2.out.cells
  obtain ⟨q0, q1, q2, q3, q4, q5⟩ := HR2.out.thaw
  clear hA hN hb2 hz hre
  go_wp2_with fail
  refine bodyPost_ret (v := .tuple #[.agg #[.int .i64 0, .int .i64 0, .string ⟨#[]⟩, .slice none 0 0, .slice none 0 0, .slice none 0 0], .int .i64 r.1]) ?_ rfl ?_
  ·simp [results, Tryz.results192, go_sem, *]
  ·exact ⟨_, by rw [HRE.out], by rw [HRE.out]; exact (zero_in _ _).up (by omega), HEND.out⟩
theorem ev_row (w : World) (H : Nat) (a : Option Addr) (n c : Nat) (fs : List (Nat → Val → Expr.Out)) (hn : fs.length = n) (hlim : n ≤ 3000) (hT : TermsIn w a H fs) : Ev w (.iface 93 (.slice a n c)) (H + 1) (fun hd d => Expr.rowO (Expr.allO (outsOf fs hd d))) :=
 ⟨93, 192, _, rfl, fun u => by kernel_rfl, fun _ _ => rfl, fun W hW Q hd d dv hv => (evRow_any H hd a n c fs Q d dv W hn hlim (hT.keep hW) hv).mono fun e w' h => h.up (by omega)⟩
end Go.Proofs.YtiajjgehnmkokaaGreatDoor
end
section
namespace Go.Proofs.YtiajjgehnmkokaaGreatDoor
open Go.RowKit
open Seal
open Bson (Val)
def PartsIn (w : World) (a : Option Addr) (H : Nat) (ps : List (ByteArray × (Nat → Val → Expr.Out))) : Prop :=
 ps = [] ∨ ∃ g o, a = some ⟨g, o, none⟩ ∧ ∀ i (hi : i < ps.length), w.cell? ⟨g, o + i * 2, none⟩ = some (.string ps[i].1) ∧ ps[i].1.size ≤ 140737488355328 ∧ ∃ t, w.cell? ⟨g, o + i * 2 + 1, none⟩ = some t ∧ Ev w t H ps[i].2
theorem PartsIn.keep {w w' : World} {a : Option Addr} {H : Nat} {ps : List (ByteArray × (Nat → Val → Expr.Out))} (h : PartsIn w a H ps) (hb : Below w.heap.size w w') : PartsIn w' a H ps := by
 rcases h with h | ⟨g, o, e, h⟩
 ·exact .inl h
 ·refine .inr ⟨g, o, e, fun i hi => ?_⟩
  obtain ⟨h1, h2, t, h3, h4⟩ := h i hi
  exact ⟨cell_keep hb h1, h2, t, cell_keep hb h3, h4.keep hb⟩
def partsOf (ps : List (ByteArray × (Nat → Val → Expr.Out))) (hd : Nat) (d : Val) : List (ByteArray × Expr.Out) := ps.map fun p => (p.1, p.2 hd d)
theorem partsOf_length (ps : List (ByteArray × (Nat → Val → Expr.Out))) (hd : Nat) (d : Val) : (partsOf ps hd d).length = ps.length := List.length_map ..
theorem partsOf_get (ps : List (ByteArray × (Nat → Val → Expr.Out))) (hd : Nat) (d : Val) (i : Nat) (hi : i < ps.length) : (partsOf ps hd d)[i]'(by rw [partsOf_length]; exact hi) = (ps[i].1, ps[i].2 hd d) := by simp [partsOf]
namespace Expr
def docF (l : List (ByteArray × Out)) : List (ByteArray × Val) := (l.filter fun p => !(p.2.2.kind == 0)).map fun p => (p.1, p.2.2)
theorem docF_snoc (l : List (ByteArray × Out)) (p : ByteArray × Out) : docF (l ++ [p]) = docF l ++ (if p.2.2.kind = 0 then [] else [(p.1, p.2.2)]) := by
 unfold docF
 rw [List.filter_append, List.map_append]
 by_cases h : p.2.2.kind = 0
 ·rw [if_pos h]; simp [h]
 ·rw [if_neg h]; simp [h]
theorem docF_le (l : List (ByteArray × Out)) : (docF l).length ≤ l.length := by
 unfold docF
 rw [List.length_map]
 exact List.length_filter_le _ _
theorem docFO_ok : ∀ {l : List (ByteArray × Out)}, (∀ x ∈ l, x.2.1 = 0) → docFO l = (0, docF l)
 | [], _ => rfl
 | x :: r, h => by
  have h1 := h x List.mem_cons_self
  have h2 := docFO_ok fun y hy => h y (List.mem_cons_of_mem _ hy)
  rw [docFO, if_pos h1, h2, if_pos rfl]
  unfold docF
  by_cases h0 : x.2.2.kind = 0
  ·rw [if_pos h0]; simp [h0]
  ·rw [if_neg h0]; simp [h0]
theorem docFO_bad : ∀ {l : List (ByteArray × Out)} {k : Nat} (hk : k < l.length), (∀ i (hi : i < k), (l[i]'(by omega)).2.1 = 0) → (l[k]).2.1 ≠ 0 → docFO l = ((l[k]).2.1, [])
 | [], _, hk, _, _ => by simp at hk
 | x :: r, 0, _, _, h => by
  have h' : ¬ x.2.1 = 0 := h
  rw [docFO, if_neg h']; rfl
 | x :: r, k + 1, hk, hb, h => by
  have h1 : x.2.1 = 0 := hb 0 (by omega)
  have h2 := docFO_bad (l := r) (k := k) (by simpa using hk) (fun i hi => hb (i + 1) (by omega)) h
  have h' : ¬ (r[k]'(by simpa using hk)).2.1 = 0 := h
  rw [docFO, if_pos h1, h2]
  show (if (r[k]'(by simpa using hk)).2.1 = 0 then _ else _) = _
  rw [if_neg h']; rfl
end Expr
theorem IsBox.put4 {W : World} {n : Nat} {c0 c1 c2 c3 c4 c5 : Value} (h : IsBox W n c0 c1 c2 c3 c4 c5) (d : Value) : IsBox (puts W n 4 [d]) n c0 c1 c2 c3 d c5 := by
 obtain ⟨ds, h1, h2, h4, h5, h3⟩ := puts_same n 26 [d] W 4 _ h
 have e : ds = #[c0, c1, c2, c3, d, c5] := by
  apply Array.ext_getElem?
  intro j
  match j with
  | 0 => exact (h4 0 (by omega)).trans rfl
  | 1 => exact (h4 1 (by omega)).trans rfl
  | 2 => exact (h4 2 (by omega)).trans rfl
  | 3 => exact (h4 3 (by omega)).trans rfl
  | 4 => exact (h3 (by simp) 0 (by simp)).trans rfl
  | j + 5 => exact (h5 (j + 5) (by simp)).trans (by match j with | 0 => rfl | j + 1 => rfl)
 unfold IsBox
 rw [h1, e]
theorem FAcc.apart {w w' : World} {base G : Nat} {v : Value} {QA : Nat → Prop} {h : Nat} {ys : List (ByteArray × Val)} {xs : List Value} (ha : FAcc w base v QA h ys xs) (hk : ∀ g, g ≠ G → w'.heap[g]? = w.heap[g]?) (hG : ¬ QA G) (hb : G < base) : FAcc w' base v QA h ys xs := by
 refine ⟨owns_same ha.own (fun g hg => hk g (by have := (owns_block ha.own hg).1; omega)), fun i hi => ?_⟩
 obtain ⟨hn, hs, c0, c1, c2, c3, c4, c5, h0, h1, h2, h3, h4, h5, hv⟩ := ha.at' i hi
 exact ⟨hn, hs, c0, c1, c2, c3, c4, c5, h0, h1, h2, h3, h4, h5, hv.kept (fun g hg _ => hk g (fun e => hG (e ▸ hg.1))) (fun _ h => h)⟩
theorem rowF_in {w : World} {Q : Nat → Prop} {B : Nat} {f : List (ByteArray × Val)} {a : Option Addr} {n c : Nat} (hn : f.length = n) (hm : n ≤ 3000) (hc : n ≤ c ∧ c ≤ 9223372036854775807) (h : FieldsIn w Q (VIn w Q B) a f) :
  VIn w Q (B + 1) (.mk 6 0 ⟨#[]⟩ [] f []) (.agg #[.int .i64 6, .int .i64 0, .string ⟨#[]⟩, .slice none 0 0, .slice a n c, .slice none 0 0]) := by
 subst hn
 exact ⟨none, a, none, 0, c, 0, rfl, ⟨by show (-9223372036854775808 : Int) ≤ 6; omega, by show (6 : Int) ≤ _; omega, by show (-9223372036854775808 : Int) ≤ 0; omega, by show (0 : Int) ≤ _; omega, by show (0 : Nat) ≤ _; omega, by show (0 : Nat) ≤ _; omega, by show f.length ≤ _; omega, by show (0 : Nat) ≤ _; omega, (fun _ h => by cases h)⟩, ⟨Nat.le_refl _, by omega⟩, hc, ⟨Nat.le_refl _, by omega⟩, .inl rfl, h, .inl rfl⟩
theorem doc_boxes (w : World) (d0 d1 d2 d3 d4 d5 : Value) (W0 : World) (hW0 : W0 = ((w.alloc (.cells #[d0, d1, d2, d3, d4, d5] 26)).alloc (.cells #[.int .i64 0, .int .i64 0, .string ⟨#[]⟩, .slice none 0 0, .slice none 0 0, .slice none 0 0] 26)).alloc (.cells #[.int .i64 6, .int .i64 0, .string ⟨#[]⟩, .slice none 0 0, .slice none 0 0, .slice none 0 0] 26)) :
  Below w.heap.size w W0 ∧ W0.heap.size = w.heap.size + 3 ∧ IsBox W0 w.heap.size d0 d1 d2 d3 d4 d5 ∧ IsBox W0 (w.heap.size + 1) (.int .i64 0) (.int .i64 0) (.string ⟨#[]⟩) (.slice none 0 0) (.slice none 0 0) (.slice none 0 0) ∧ IsBox W0 (w.heap.size + 1 + 1) (.int .i64 6) (.int .i64 0) (.string ⟨#[]⟩) (.slice none 0 0) (.slice none 0 0) (.slice none 0 0) := by
 have b1 := (Below.refl w.heap.size w).alloc (Nat.le_refl _) (.cells #[d0, d1, d2, d3, d4, d5] 26)
 have b2 := b1.alloc b1.size (.cells #[.int .i64 0, .int .i64 0, .string ⟨#[]⟩, .slice none 0 0, .slice none 0 0, .slice none 0 0] 26)
 have b3 := b2.alloc b2.size (.cells #[.int .i64 6, .int .i64 0, .string ⟨#[]⟩, .slice none 0 0, .slice none 0 0, .slice none 0 0] 26)
 subst hW0
 refine ⟨b3, by simp, ?_, ?_, ?_⟩
 ·exact ((IsBox.new w d0 d1 d2 d3 d4 d5).keep ((Below.refl _ _).alloc (Nat.le_refl _) _)).keep ((Below.refl _ _).alloc (Nat.le_refl _) _)
 ·exact (IsBox.new2 w (.cells #[d0, d1, d2, d3, d4, d5] 26) (.int .i64 0) (.int .i64 0) (.string ⟨#[]⟩) (.slice none 0 0) (.slice none 0 0) (.slice none 0 0)).keep ((Below.refl _ _).alloc (Nat.le_refl _) _)
 ·have := IsBox.new2 (w.alloc (.cells #[d0, d1, d2, d3, d4, d5] 26)) (.cells #[.int .i64 0, .int .i64 0, .string ⟨#[]⟩, .slice none 0 0, .slice none 0 0, .slice none 0 0] 26) (.int .i64 6) (.int .i64 0) (.string ⟨#[]⟩) (.slice none 0 0) (.slice none 0 0) (.slice none 0 0)
  have e : (w.alloc (.cells #[d0, d1, d2, d3, d4, d5] 26)).heap.size = w.heap.size + 1 := by simp
  rw [e] at this
  exact this
theorem evDoc_any (H hd : Nat) (a : Option Addr) (n c : Nat) (ps : List (ByteArray × (Nat → Val → Expr.Out))) (Q : Nat → Prop) (d : Val) (dv : Value) (w : World) (hn : ps.length = n) (hlim : n ≤ 3000) (hT : PartsIn w a H ps) (hd0 : VIn w Q (hd + 1) d dv) :
  Calls Tryz.prog 199 #[.slice a n c, dv] w (EvPost w (H + hd + 1) (Expr.docO (Expr.docFO (partsOf ps hd d)))) := by
 obtain ⟨i0, hi, hz0, hz1, hz2⟩ := info_parts infoField
 obtain ⟨dk, dn, ds, da, df, dl, ba, bc, fa, fc, la, lc, rfl⟩ := hd0.shape
 obtain ⟨W0, hW0⟩ : ∃ W0, W0 = ((w.alloc (.cells #[.int .i64 dk, .int .i64 dn, .string ds, .slice da ba bc, .slice df fa fc, .slice dl la lc] 26)).alloc (.cells #[.int .i64 0, .int .i64 0, .string ⟨#[]⟩, .slice none 0 0, .slice none 0 0, .slice none 0 0] 26)).alloc (.cells #[.int .i64 6, .int .i64 0, .string ⟨#[]⟩, .slice none 0 0, .slice none 0 0, .slice none 0 0] 26) := ⟨_, rfl⟩
 obtain ⟨hb0, hsz, hx, hr0, hm0⟩ := doc_boxes w (.int .i64 dk) (.int .i64 dn) (.string ds) (.slice da ba bc) (.slice df fa fc) (.slice dl la lc) W0 hW0
 obtain ⟨res, hres⟩ : ∃ z, z = Expr.docO (Expr.docFO (partsOf ps hd d)) := ⟨_, rfl⟩
 rw [← hres]
 have HRES := Lib.hid hres
 have HB := Lib.hid hb0
 have HSZ : Hid (W0.heap.size = w.heap.size + 3) := hsz
 have HD0 := Lib.hid hx
 have HR := Lib.hid hr0
 have HM := Lib.hid hm0
 have HW0 := Lib.hid hW0
 have HT := Lib.hid hT
 have HD := Lib.hid hd0
 have HN := Lib.hid hn
 have HFA := Lib.hid (FAcc.nil W0 (w.heap.size + 3) (fun g => w.heap.size + 3 ≤ g) (H + hd))
 clear hT hd0 hn hres hW0 hb0 hsz hx hr0 hm0
 go_enter Tryz.func199, Tryz.ntmps199
 go_upto_region 2 with fail
 rw [← HW0.out]
 go_wp2_with fail
 go_loopw [14] (fun i wr => ∃ (k : Nat) (v : Value) (xs : List Value), i = .int .i64 k ∧ k ≤ n ∧ Hid (∀ i (hi : i < k) (hi2 : i < ps.length), (ps[i].2 hd d).1 = 0) ∧ Hid (FAcc wr (w.heap.size + 3) v (fun g => w.heap.size + 3 ≤ g) (H + hd) (Expr.docF ((partsOf ps hd d).take k)) xs) ∧ Hid (IsBox wr (w.heap.size + 1 + 1) (.int .i64 6) (.int .i64 0) (.string ⟨#[]⟩) (.slice none 0 0) v (.slice none 0 0)) ∧ Hid (Below w.heap.size w wr) ∧ Hid (IsBox wr w.heap.size (.int .i64 dk) (.int .i64 dn) (.string ds) (.slice da ba bc) (.slice df fa fc) (.slice dl la lc)) ∧ Hid (IsBox wr (w.heap.size + 1) (.int .i64 0) (.int .i64 0) (.string ⟨#[]⟩) (.slice none 0 0) (.slice none 0 0) (.slice none 0 0)) ∧ Hid (w.heap.size + 3 ≤ wr.heap.size)) (fun i _ => n - (intOf i).toNat)
 case atStart => exact ⟨0, .slice none 0 0, [], rfl, Nat.zero_le _, (fun _ h => absurd h (Nat.not_lt_zero _)), HFA.out, HM.out, HB.out, HD0.out, HR.out, by have := HSZ.out; show _ ≤ _; omega⟩
 case round =>
  obtain ⟨k, v, xs, rfl, hk, HOK, HA, HMr, HBr, HDr, HRr, HSr⟩ := hrel
  by_cases hlt : k < n
  ·have hkf : k < ps.length := by rw [HN.out]; exact hlt
   obtain ⟨g, o, rfl, hall⟩ := HT.out.resolve_left (fun e => by rw [e] at hkf; cases hkf)
   obtain ⟨hcn, hns, t, hct, T, K, rv, rfl, hm, hme, hcall⟩ := hall k hkf
   have hcn := cell_keep HBr.out hcn
   have hct := cell_keep HBr.out hct
   obtain ⟨nm, hnm⟩ : ∃ z, z = ps[k].1 := ⟨_, rfl⟩
   rw [← hnm] at hcn hns
   obtain ⟨ou, hou⟩ : ∃ z, z = ps[k].2 hd d := ⟨_, rfl⟩
   obtain ⟨W5, hW5⟩ : ∃ W5, W5 = wr.alloc (.cells #[.string nm, .iface T rv] 120) := ⟨_, rfl⟩
   obtain ⟨P5, hP5⟩ : ∃ P5, P5 = wr.heap.size := ⟨_, rfl⟩
   have hb5 : Below wr.heap.size wr W5 := by rw [hW5]; exact (Below.refl _ _).alloc (Nat.le_refl _) _
   have hp5 : W5.heap[P5]? = some (.cells #[.string nm, .iface T rv] 120 (0, 0)) := by rw [hW5, hP5]; exact heap_alloc_new wr _
   have hB5 := HBr.out.trans (hb5.mono HBr.out.size)
   have CK := Lib.hid (hcall W5 hB5 Q hd d _ (VIn.keep hB5 HD.out))
   rw [← hou] at CK
   have hpl : P5 < W5.heap.size := (Array.getElem?_eq_some_iff.1 hp5).1
   have HP5 := Lib.hid hp5
   have HPL := Lib.hid hpl
   have HW5 := Lib.hid hW5
   have HPP := Lib.hid hP5
   have HA5 := Lib.hid (HA.out.keep hb5)
   have HM5 := Lib.hid (HMr.out.keep hb5)
   have HD5 := Lib.hid (HDr.out.keep hb5)
   have HR5 := Lib.hid (HRr.out.keep hb5)
   have HB5 := Lib.hid hB5
   have HS5 : Hid (w.heap.size + 3 ≤ W5.heap.size) := Nat.le_trans HSr.out hb5.size
   have HOU := Lib.hid hou
   have HNM := Lib.hid hnm
   have HNS := Lib.hid hns
   have hsnoc : Expr.docF ((partsOf ps hd d).take (k + 1)) = Expr.docF ((partsOf ps hd d).take k) ++ (if ou.2.kind = 0 then [] else [(nm, ou.2)]) := by
    rw [List.take_succ_eq_append_getElem (by rw [partsOf_length]; exact hkf), Expr.docF_snoc, partsOf_get ps hd d k hkf, HNM.out, HOU.out]
   have HSN := Lib.hid hsnoc
   obtain ⟨m, hmk⟩ : ∃ m, m = (Expr.docF ((partsOf ps hd d).take k)).length := ⟨_, rfl⟩
   have hm3 : m ≤ 3000 := by
    have := Expr.docF_le ((partsOf ps hd d).take k)
    rw [List.length_take] at this
    omega
   have HMK := Lib.hid hmk
   clear hall hcall hou hnm hns hsnoc hmk hb5 hp5 hB5 hpl hW5 hP5 HA HMr HBr HDr HRr HSr
   go_upto_region 5 with fail
   rw [← HW5.out, ← HPP.out]
   clear hcn hct
   have c0 : W5.cell? ⟨P5, 0, none⟩ = some (.string nm) := (cell_of_row W5 _ 0 _ _ _ HP5.out).trans rfl
   have c1 : W5.cell? ⟨P5, 1, none⟩ = some (.iface T rv) := (cell_of_row W5 _ 1 _ _ _ HP5.out).trans rfl
   obtain ⟨x0, x1, x2, x3, x4, x5⟩ := HD5.out.cells
   go_wp2_with fail
   clear c0 c1 x0 x1 x2 x3 x4 x5
   refine CK.out.mono ?_
   rintro e w6 ⟨v6, rfl, hv6, hb6⟩
   obtain ⟨ik, im, is_, b0, f0, l0, bb0, bc0, fb0, fc0, lb0, lc0, rfl⟩ := hv6.shape
   obtain ⟨e1, -, -, -, -⟩ := hv6.top
   obtain ⟨W7, hW7⟩ : ∃ W7, W7 = w6.alloc (.cells #[.int .i64 ik, .int .i64 im, .string is_, .slice b0 bb0 bc0, .slice f0 fb0 fc0, .slice l0 lb0 lc0] 26) := ⟨_, rfl⟩
   obtain ⟨P7, hP7⟩ : ∃ P7, P7 = w6.heap.size := ⟨_, rfl⟩
   have hb7 : Below w6.heap.size w6 W7 := by rw [hW7]; exact (Below.refl _ _).alloc (Nat.le_refl _) _
   have hb57 : Below W5.heap.size W5 W7 := hb6.trans (hb7.mono hb6.size)
   have HX7 : Hid (IsBox W7 P7 (.int .i64 ik) (.int .i64 im) (.string is_) (.slice b0 bb0 bc0) (.slice f0 fb0 fc0) (.slice l0 lb0 lc0)) := by rw [hW7, hP7]; exact IsBox.new w6 (.int .i64 ik) (.int .i64 im) (.string is_) (.slice b0 bb0 bc0) (.slice f0 fb0 fc0) (.slice l0 lb0 lc0)
   have hpp7 : W7.heap[P5]? = some (.cells #[.string nm, .iface T rv] 120 (0, 0)) := (hb57.block _ HPL.out).trans HP5.out
   have HP7 := Lib.hid hpp7
   have HA7 := Lib.hid (HA5.out.keep hb57)
   have HM7 := Lib.hid (HM5.out.keep hb57)
   have HD7 := Lib.hid (HD5.out.keep hb57)
   have HR7 := Lib.hid (HR5.out.keep hb57)
   have HB7 := Lib.hid (HB5.out.trans (hb57.mono HB5.out.size))
   have HS7 : Hid (w.heap.size + 3 ≤ W7.heap.size) := Nat.le_trans HS5.out hb57.size
   have HV7 : Hid (VIn W7 (fun g => w.heap.size + 3 ≤ g ∧ v.ownBlock ≠ some g) (H + hd) ou.2 (.agg #[.int .i64 ik, .int .i64 im, .string is_, .slice b0 bb0 bc0, .slice f0 fb0 fc0, .slice l0 lb0 lc0])) := by
    refine hv6.kept (Kept.of_below hb7) (fun g hg => ⟨by have := HS5.out; omega, fun e => ?_⟩)
    have := (owns_block HA5.out.own e).2; omega
   have HE1 := Lib.hid e1
   have HW7 := Lib.hid hW7
   have HPP7 := Lib.hid hP7
   clear hv6 hb6 hb7 hb57 hpp7 e1 hW7 hP7 CK HA5 HM5 HD5 HR5
   go_upto_region 6 with fail
   rw [← HW7.out, ← HPP7.out]
   obtain ⟨z0, z1, z2, z3, z4, z5⟩ := HX7.out.cells
   by_cases hz : ou.1 = 0
   ·rw [hz]
    have HOK2 : Hid (∀ i (hi : i < k + 1) (hi2 : i < ps.length), (ps[i].2 hd d).1 = 0) := fun i hi hi2 => by
     by_cases e : i = k
     ·subst e; rw [← HOU.out]; exact hz
     ·exact HOK.out i (by omega) hi2
    clear hz
    by_cases h0 : ik = 0
    ·have HA8 : Hid (FAcc W7 (w.heap.size + 3) v (fun g => w.heap.size + 3 ≤ g) (H + hd) (Expr.docF ((partsOf ps hd d).take (k + 1))) xs) := by
      rw [HSN.out, if_pos (by rw [← HE1.out]; exact h0), List.append_nil]; exact HA7.out
     subst h0
     go_wp2_with fail
     go_roundw
     case rel => exact ⟨k + 1, v, xs, by go_num, by omega, HOK2.out, HA8.out, HM7.out, HB7.out, HD7.out, HR7.out, HS7.out⟩
     case measure => simp [intOf]; omega
    ·have h0b : (ik == 0) = false := by rw [beq_eq_false_iff_ne]; exact h0
     have h0c : (ik != 0) = true := by unfold bne; rw [h0b]; rfl
     have hb8 : Below W7.heap.size W7 (W7.alloc (.cells #[.string nm, .int .i64 ik, .int .i64 im, .string is_, .slice b0 bb0 bc0, .slice f0 fb0 fc0, .slice l0 lb0 lc0] 40)) := (Below.refl _ _).alloc (Nat.le_refl _) _
     have HA8 := Lib.hid (HA7.out.keep hb8)
     have HM8 := Lib.hid (HM7.out.keep hb8)
     have HD8 := Lib.hid (HD7.out.keep hb8)
     have HR8 := Lib.hid (HR7.out.keep hb8)
     have HB8 := Lib.hid (HB7.out.trans (hb8.mono HB7.out.size))
     have HS8 : Hid (w.heap.size + 3 ≤ (W7.alloc (.cells #[.string nm, .int .i64 ik, .int .i64 im, .string is_, .slice b0 bb0 bc0, .slice f0 fb0 fc0, .slice l0 lb0 lc0] 40)).heap.size) := Nat.le_trans HS7.out hb8.size
     have HV8 := Lib.hid (HV7.out.keep hb8)
     have HOWN : Hid ((W7.alloc (.cells #[.string nm, .int .i64 ik, .int .i64 im, .string is_, .slice b0 bb0 bc0, .slice f0 fb0 fc0, .slice l0 lb0 lc0] 40)).ownsRow (w.heap.size + 3) 40 7 v m xs) := by have := HA8.out.own; rw [← HMK.out] at this; exact this
     have HNW := Lib.hid (seven_new W7 (.string nm) (.int .i64 ik) (.int .i64 im) (.string is_) (.slice b0 bb0 bc0) (.slice f0 fb0 fc0) (.slice l0 lb0 lc0) 40)
     have HK0 := Lib.hid h0
     have c0 : W7.cell? ⟨P5, 0, none⟩ = some (.string nm) := (cell_of_row W7 _ 0 _ _ _ HP7.out).trans rfl
     obtain ⟨y0, y1, y2, y3, y4, y5⟩ := HM7.out.cells
     clear hb8 h0
     go_wp2_with (at_builtin; refine wpList_append_sz _ rfl (.tmp 33) (.tmp 38) 23 rfl (w.heap.size + 3) 40 i0 (.agg #[.string ⟨#[]⟩, .int .i64 0, .int .i64 0, .string ⟨#[]⟩, .slice none 0 0, .slice none 0 0, .slice none 0 0]) 7 120 Tryz.underlying23 hi hz0 hz1 hz2 rfl v m xs rfl HOWN.out ⟨W7.heap.size, 0, none⟩ 1 1 [.string nm, .int .i64 ik, .int .i64 im, .string is_, .slice b0 bb0 bc0, .slice f0 fb0 fc0, .slice l0 lb0 lc0] rfl rfl (by decide) (by decide) HNW.out (seven_one _ _ _ _ _ _ _ _ _ _ _ _ _) (by unfold maxLen; omega) (by omega) HS8.out ?_)
     intro v9 w9 hown9 hlies9
     have hw9 := Wrote.of_lies hlies9
     have hob : ∀ j, v.ownBlock = some j → w.heap.size + 3 ≤ j := fun j hj => (owns_block HOWN.out hj).1
     have hkb : ∀ (x : Nat), x < w.heap.size + 3 → w9.heap[x]? = (W7.alloc (.cells #[.string nm, .int .i64 ik, .int .i64 im, .string is_, .slice b0 bb0 bc0, .slice f0 fb0 fc0, .slice l0 lb0 lc0] 40)).heap[x]? := fun x hx => hw9.1.block _ (by have := HS8.out; omega) (fun e => by have := hob x e.symm; omega)
     have HB9 : Hid (Below w.heap.size w w9) := HB8.out.grown hw9.1 HB8.out.size (fun j hj => by have := hob j hj; omega)
     have HM9 : Hid (IsBox w9 (w.heap.size + 1 + 1) (.int .i64 6) (.int .i64 0) (.string ⟨#[]⟩) (.slice none 0 0) v (.slice none 0 0)) := (hkb _ (by omega)).trans HM8.out
     have HD9 : Hid (IsBox w9 w.heap.size (.int .i64 dk) (.int .i64 dn) (.string ds) (.slice da ba bc) (.slice df fa fc) (.slice dl la lc)) := (hkb _ (by omega)).trans HD8.out
     have HR9 : Hid (IsBox w9 (w.heap.size + 1) (.int .i64 0) (.int .i64 0) (.string ⟨#[]⟩) (.slice none 0 0) (.slice none 0 0) (.slice none 0 0)) := (hkb _ (by omega)).trans HR8.out
     have hS9 : w.heap.size + 3 ≤ w9.heap.size := Nat.le_trans HS8.out hw9.1.size
     have hA9 : FAcc w9 (w.heap.size + 3) v9 (fun g => w.heap.size + 3 ≤ g) (H + hd) (Expr.docF ((partsOf ps hd d).take (k + 1))) (xs ++ [.string nm, .int .i64 ik, .int .i64 im, .string is_, .slice b0 bb0 bc0, .slice f0 fb0 fc0, .slice l0 lb0 lc0]) := by
      rw [HSN.out, if_neg (by rw [← HE1.out]; exact HK0.out)]
      exact HA8.out.push hw9 (by rw [← HMK.out]; exact hown9) HNS.out HV8.out
     have HA10 : Hid (FAcc (puts w9 (w.heap.size + 1 + 1) 4 [v9]) (w.heap.size + 3) v9 (fun g => w.heap.size + 3 ≤ g) (H + hd) (Expr.docF ((partsOf ps hd d).take (k + 1))) (xs ++ [.string nm, .int .i64 ik, .int .i64 im, .string is_, .slice b0 bb0 bc0, .slice f0 fb0 fc0, .slice l0 lb0 lc0])) := hA9.apart (fun g hg => puts_other _ _ hg _ _ _) (by omega) (by omega)
     have HM10 := Lib.hid (HM9.out.put4 v9)
     have HB10 := Lib.hid (puts_below HB9.out (by omega : w.heap.size ≤ w.heap.size + 1 + 1) [v9] 4)
     have HD10 := Lib.hid (HD9.out.other (by omega : w.heap.size ≠ w.heap.size + 1 + 1) 4 [v9])
     have HR10 := Lib.hid (HR9.out.other (by omega : w.heap.size + 1 ≠ w.heap.size + 1 + 1) 4 [v9])
     have HS10 : Hid (w.heap.size + 3 ≤ (puts w9 (w.heap.size + 1 + 1) 4 [v9]).heap.size) := by show _ ≤ _; rw [puts_size]; exact hS9
     obtain ⟨p0, p1, p2, p3, p4, p5⟩ := HM9.out.cells
     obtain ⟨q0, q1, q2, q3, q4, q5⟩ := HM9.out.thaw
     obtain ⟨a9, c9, e9⟩ := owns_shape hown9
     have hone : v9.oneCell' = true := by rw [e9]; rfl
     clear hown9 hlies9 hw9 hob hkb hS9 hA9 HA8 HM8 HD8 HR8 HB8 HV8 HOWN HNW
     clear z0 z1 z2 z3 z4 z5 c0 y0 y1 y2 y3 y4 y5
     subst e9
     go_wp2_with fail
     go_roundw
     case rel => exact ⟨k + 1, _, _, by go_num, by omega, HOK2.out, HA10.out, HM10.out, HB10.out, HD10.out, HR10.out, HS10.out⟩
     case measure => simp [intOf]; omega
   ·have hz2 : (ou.1 == 0) = false := by rw [beq_eq_false_iff_ne]; exact hz
    have hre : res = (ou.1, Bson.zero) := by
     have h1 := Expr.docFO_bad (l := partsOf ps hd d) (k := k) (by rw [partsOf_length]; exact hkf) (fun i hi => by rw [partsOf_get ps hd d i (by omega)]; exact HOK.out i hi (by omega)) (by rw [partsOf_get ps hd d k hkf, ← HOU.out]; exact hz)
     rw [HRES.out, h1, partsOf_get ps hd d k hkf, ← HOU.out]
     unfold Expr.docO
     rw [if_neg hz]; rfl
    have HRE := Lib.hid hre
    have HEND := Lib.hid (below_six HB7.out (by omega : w.heap.size ≤ w.heap.size + 1) (.int .i64 0) (.int .i64 0) (.string ⟨#[]⟩) (.slice none 0 0) (.slice none 0 0) (.slice none 0 0))
    obtain ⟨r0, r1, r2, r3, r4, r5⟩ := HR7.out.cells
    obtain ⟨q0, q1, q2, q3, q4, q5⟩ := HR7.out.thaw
    clear hz hre
    go_wp2_with fail
    refine bodyPost_ret (v := .tuple #[.agg #[.int .i64 0, .int .i64 0, .string ⟨#[]⟩, .slice none 0 0, .slice none 0 0, .slice none 0 0], .int .i64 ou.1]) ?_ rfl ?_
    ·simp [results, Tryz.results199, go_sem, *]
    ·exact ⟨_, by rw [HRE.out], by rw [HRE.out]; exact (zero_in _ _).up (by omega), HEND.out⟩
  ·obtain rfl : k = n := by omega
   have hall : Expr.docFO (partsOf ps hd d) = (0, Expr.docF (partsOf ps hd d)) := Expr.docFO_ok fun x hx => by
    obtain ⟨i, hi, rfl⟩ := List.getElem_of_mem hx
    have hi' : i < ps.length := by rw [partsOf_length] at hi; exact hi
    rw [partsOf_get ps hd d i hi']
    exact HOK.out i (by have := HN.out; omega) hi'
   have hre : res = (0, .mk 6 0 ⟨#[]⟩ [] (Expr.docF (partsOf ps hd d)) []) := by rw [HRES.out, hall]; rfl
   have HRE := Lib.hid hre
   have htk : (partsOf ps hd d).take k = partsOf ps hd d := List.take_of_length_le (by rw [partsOf_length, HN.out]; exact Nat.le_refl _)
   have hA := HA.out
   rw [htk] at hA
   have hlen : (Expr.docF (partsOf ps hd d)).length ≤ 3000 := by
    have := Expr.docF_le (partsOf ps hd d)
    rw [partsOf_length, HN.out] at this
    omega
   obtain ⟨a', c', rfl, hc', hfl⟩ := hA.fields (Q' := (fun g => w.heap.size + 3 ≤ g)) (fun _ h => h) (fun _ h _ => h)
   have hv := rowF_in rfl hlen hc' hfl
   obtain ⟨N, hNN⟩ : ∃ N, N = (Expr.docF (partsOf ps hd d)).length := ⟨_, rfl⟩
   rw [← hNN] at hv
   have hend := puts_below HBr.out (by omega : w.heap.size ≤ w.heap.size + 1) [.int .i64 6, .int .i64 0, .string ⟨#[]⟩, .slice none 0 0, .slice a' N c', .slice none 0 0] 0
   have HEND : Hid (VIn (puts wr (w.heap.size + 1) 0 [.int .i64 6, .int .i64 0, .string ⟨#[]⟩, .slice none 0 0, .slice a' N c', .slice none 0 0]) (fun g => w.heap.size ≤ g) (H + hd + 1) (.mk 6 0 ⟨#[]⟩ [] (Expr.docF (partsOf ps hd d)) []) (.agg #[.int .i64 6, .int .i64 0, .string ⟨#[]⟩, .slice none 0 0, .slice a' N c', .slice none 0 0]) ∧ Below w.heap.size w (puts wr (w.heap.size + 1) 0 [.int .i64 6, .int .i64 0, .string ⟨#[]⟩, .slice none 0 0, .slice a' N c', .slice none 0 0])) :=
    ⟨hv.kept (puts_kept (fun g => w.heap.size + 3 ≤ g) (by omega) _ _) (fun g hg => by omega), hend⟩
   have HMN := HMr
   rw [← hNN] at HMN
   obtain ⟨y0, y1, y2, y3, y4, y5⟩ := HMN.out.cells
   obtain ⟨r0, r1, r2, r3, r4, r5⟩ := HRr.out.cells
   obtain ⟨q0, q1, q2, q3, q4, q5⟩ := HRr.out.thaw
   clear hall hre htk hA hlen hc' hfl hv hend hNN
   go_wp2_with fail
   refine bodyPost_ret (v := .tuple #[.agg #[.int .i64 6, .int .i64 0, .string ⟨#[]⟩, .slice none 0 0, .slice a' N c', .slice none 0 0], .int .i64 0]) ?_ rfl ?_
   ·simp [results, Tryz.results199, go_sem, *]
   ·exact ⟨_, by rw [HRE.out], by rw [HRE.out]; exact HEND.out.1, HEND.out.2⟩
theorem ev_doc (w : World) (H : Nat) (a : Option Addr) (n c : Nat) (ps : List (ByteArray × (Nat → Val → Expr.Out))) (hn : ps.length = n) (hlim : n ≤ 3000) (hT : PartsIn w a H ps) : Ev w (.iface 118 (.slice a n c)) (H + 1) (fun hd d => Expr.docO (Expr.docFO (partsOf ps hd d))) :=
 ⟨118, 199, _, rfl, fun u => by kernel_rfl, fun _ _ => rfl, fun W hW Q hd d dv hv => (evDoc_any H hd a n c ps Q d dv W hn hlim (hT.keep hW) hv).mono fun e w' h => h.up (by omega)⟩
end Go.Proofs.YtiajjgehnmkokaaGreatDoor
end
section
namespace Go.Proofs.YtiajjgehnmkokaaGreatDoor
open Go.RowKit
open Seal
theorem infoB8 : (Tryz.prog.info? 5).map (fun i => (i.zero, i.size, i.bytes)) = some (some (.int .u8 0), 1, 1) := by kernel_rfl
theorem copyUsed_any (B b : Nat) (bs : List Value) (w : World) (h : Lib.BuilderAt 169 5 B b (.pointer (some ⟨b, 0, none⟩)) bs w) :
  Calls Tryz.prog 171 #[.pointer (some ⟨b, 0, none⟩)] w fun e w' => e = .returned (.tuple #[]) ∧ Below w.heap.size w w' := by
 have c0 := h.cell0
 clear h
 obtain ⟨j, hj, _⟩ := Option.map_eq_some_iff.1 (show (Tryz.prog.info? 169).map (·.size) = some 2 by kernel_rfl)
 go_enter Tryz.func171, Tryz.ntmps171
 go_wp2
 rw [Lib.run_neq_ptr_same w _ Tryz.underlying167 hj]
 go_wp2
 go_end0
 exact ⟨rfl, Below.refl _ _⟩
theorem builder_keep {B b : Nat} {p : Value} {bs : List Value} {w w' : World} (h : Lib.BuilderAt 169 5 B b p bs w) (hb : Below w.heap.size w w') : Lib.BuilderAt 169 5 B b p bs w' := by
 obtain ⟨hB, v, h1, h2, h3⟩ := h
 exact ⟨hB, v, (hb.block _ (Array.getElem?_eq_some_iff.1 h1).1).trans h1, owns_below h2 hb, h3⟩
theorem writeStr_any (B b : Nat) (bs : List Value) (s : ByteArray) (w : World) (h : Lib.BuilderAt 169 5 B b (.pointer (some ⟨b, 0, none⟩)) bs w) (hlen : bs.length + s.size ≤ 140737488355328) (hBw : B ≤ w.heap.size) :
  Calls Tryz.prog 165 #[.pointer (some ⟨b, 0, none⟩), .string s] w fun e w' => e = .returned (.tuple #[.int .i64 s.size, .nilIface]) ∧ Lib.BuilderAt 169 5 B b (.pointer (some ⟨b, 0, none⟩)) (bs ++ Lib.strCells s) w' ∧ Below B w w' := by
 obtain ⟨i0, hi, hz0, hz1, hz2⟩ := info_parts infoB8
 have CC := Lib.hid (copyUsed_any B b bs w h)
 have HH := Lib.hid h
 clear h
 go_enter Tryz.func165, Tryz.ntmps165
 go_wp2_with fail
 refine CC.out.mono ?_
 rintro e w1 ⟨rfl, hb1⟩
 obtain ⟨hB, v, hbk, hown, hne⟩ := builder_keep HH.out hb1
 have hb1 : Below B w w1 := hb1.mono hBw
 have c0 : w1.cell? ⟨b, 0, none⟩ = some (.pointer (some ⟨b, 0, none⟩)) := by rw [Lib.cell_of_heap hbk]; rfl
 have c1 : w1.cell? ⟨b, 1, none⟩ = some v := by rw [Lib.cell_of_heap hbk]; rfl
 clear CC HH
 go_wp2_with (at_builtin; refine Lib.wpList_append_own_string _ rfl _ _ 22 9 rfl B 5 i0 Tryz.underlying22 Tryz.underlying9 hi hz0 hz1 hz2 _ _ _ rfl hown s rfl ?c3 ?c4 ?c5 ?_)
 case c3 => unfold maxLen; omega
 case c4 => omega
 case c5 => have := hb1.size; omega
 intro v' w2 hown' hgrow _
 have hlt : b < w1.heap.size := (Array.getElem?_eq_some_iff.1 hbk).1
 have hb2 : w2.heap[b]? = some (.cells #[.pointer (some ⟨b, 0, none⟩), v] 169 (0, 0)) := by
  rw [hgrow.block b hlt (fun e => hne e.symm)]
  exact hbk
 have d0 : w2.cell? ⟨b, 0, none⟩ = some (.pointer (some ⟨b, 0, none⟩)) := by rw [Lib.cell_of_heap hb2]; rfl
 have d1 : w2.cell? ⟨b, 1, none⟩ = some v := by rw [Lib.cell_of_heap hb2]; rfl
 have f1 : w2.frozen? ⟨b, 1, none⟩ = false := Lib.frozen_of_heap hb2 1
 obtain ⟨ao, n', cap, rfl⟩ : ∃ ao n' cap, v' = .slice ao n' cap := by
  rcases hown'.2 with ⟨hv, _⟩ | ⟨g, cap, cur, hv, _⟩
  ·exact ⟨_, _, _, hv⟩
  ·exact ⟨_, _, _, hv⟩
 go_wp2_with fail
 go_ret2
 refine ⟨rfl, ?_, ?_⟩
 ·exact Lib.BuilderAt.put (T := 169) (e := 5) hB hb2 (bs' := bs ++ Lib.strCells s) (by simpa [Lib.strCells_length] using hown') (by decide)
 ·exact (hb1.grown hgrow (by have := hb1.size; omega) (fun k hk => (hown.lt k hk).1)).setCell (p := ⟨b, 1, none⟩) hB _
end Go.Proofs.YtiajjgehnmkokaaGreatDoor
end
section
namespace Go.Proofs.YtiajjgehnmkokaaGreatDoor
open Go.RowKit
open Seal
def bytesL (l : List ByteArray) : List UInt8 := l.flatMap fun s => s.data.toList
def sumS (l : List ByteArray) : Nat := (l.map fun s => s.size).sum
theorem bytesL_len : ∀ l : List ByteArray, (bytesL l).length = sumS l
 | [] => rfl
 | x :: r => by
  have := bytesL_len r
  unfold bytesL sumS at *
  rw [List.flatMap_cons, List.length_append, this, List.map_cons, List.sum_cons]
  rfl
theorem sumS_snoc (l : List ByteArray) (x : ByteArray) : sumS (l ++ [x]) = sumS l + x.size := by unfold sumS; simp
theorem bytesL_snoc (l : List ByteArray) (x : ByteArray) : bytesL (l ++ [x]) = bytesL l ++ x.data.toList := by unfold bytesL; simp
theorem sumS_take (l : List ByteArray) : ∀ k, sumS (l.take k) ≤ sumS l := fun k => by
 have h : sumS l = sumS (l.take k) + sumS (l.drop k) := by
  unfold sumS
  rw [← List.sum_append, ← List.map_append, List.take_append_drop]
 omega
theorem strs_at {w : World} {a : Option Addr} {l : List ByteArray} (h : StrsIn w a l) {k : Nat} (hk : k < l.length) : ∃ g o, a = some ⟨g, o, none⟩ ∧ ∀ i (hi : i < l.length), w.cell? ⟨g, o + i, none⟩ = some (.string l[i]) :=
 h.resolve_left (fun e => by rw [e] at hk; cases hk)
theorem join_any (w : World) (a : Option Addr) (n c : Nat) (l : List ByteArray) (hn : l.length = n) (hm : n ≤ 3000) (hc : n ≤ c ∧ c ≤ 9223372036854775807) (hs : sumS l ≤ 65536) (hp : StrsIn w a l) :
  Calls Tryz.prog 150 #[.slice a n c, .string ⟨#[]⟩] w fun e w' => e = .returned (.string ⟨(bytesL l).toArray⟩) ∧ Below w.heap.size w w' := by
 by_cases h0 : n = 0
 ·subst h0
  have hl := List.eq_nil_of_length_eq_zero hn
  have HL := Lib.hid hl
  clear hn hm hc hs hp hl
  go_enter Tryz.func150, Tryz.ntmps150
  go_wp2_with fail
  go_ret
  exact ⟨ret_eq (by rw [HL.out]; rfl), Below.refl _ _⟩
 ·by_cases h1 : n = 1
  ·subst h1
   obtain ⟨g, o, rfl, hall⟩ := strs_at hp (k := 0) (by omega)
   have c0 := hall 0 (by omega)
   rw [Nat.add_zero] at c0
   have hl : bytesL l = (l[0]'(by omega)).data.toList := by
    match l, hn with
    | [x], _ => simp [bytesL]
   obtain ⟨x, hx⟩ : ∃ x, x = l[0]'(by omega) := ⟨_, rfl⟩
   rw [← hx] at c0 hl
   have HL := Lib.hid hl
   clear hn hm hs hp hall hl hx h0
   obtain ⟨hc1, hc2⟩ := hc
   go_enter Tryz.func150, Tryz.ntmps150
   go_wp2_with fail
   go_ret
   exact ⟨ret_eq (by rw [HL.out, Array.toArray_toList]; rfl), Below.refl _ _⟩
  ·have hn2 : 2 ≤ n := by omega
   have e0 : (((n : Nat) : Int) == 0) = false := by rw [beq_eq_false_iff_ne]; omega
   have e1 : (((n : Nat) : Int) == 1) = false := by rw [beq_eq_false_iff_ne]; omega
   obtain ⟨g, o, rfl, hall⟩ := strs_at hp (k := 0) (by omega)
   have HALL := Lib.hid hall
   have HN := Lib.hid hn
   have HS := Lib.hid hs
   clear hn hs hp hall h0 h1
   obtain ⟨hc1, hc2⟩ := hc
   go_enter Tryz.func150, Tryz.ntmps150
   go_wp2_with fail
   go_loopw [5, 41] (fun s i wr => ∃ (k : Nat) (z : Nat), s = .int .i64 z ∧ i = .int .i64 k ∧ k ≤ n ∧ Hid (z = sumS (l.take k)) ∧ Hid (Below w.heap.size w wr)) (fun _ i _ => n - (intOf i).toNat)
   case atStart => exact ⟨0, 0, rfl, rfl, Nat.zero_le _, rfl, Below.refl _ _⟩
   case round =>
    obtain ⟨k, z, rfl, rfl, hk, HZ, HBr⟩ := hrel
    by_cases hlt : k < n
    ·have hkl : k < l.length := by rw [HN.out]; exact hlt
     have ck := cell_keep HBr.out (HALL.out k hkl)
     obtain ⟨x, hx⟩ : ∃ x, x = l[k] := ⟨_, rfl⟩
     rw [← hx] at ck
     have hz2 : z + x.size = sumS (l.take (k + 1)) := by
      rw [List.take_succ_eq_append_getElem hkl, sumS_snoc, HZ.out, hx]
     have hle : z + x.size ≤ 65536 := by have := sumS_take l (k + 1); have := HS.out; omega
     have HZ2 := Lib.hid hz2
     clear hx hz2
     go_wp2_with fail
     go_roundw
     case rel => exact ⟨k + 1, z + x.size, by go_num, by go_num, by omega, HZ2.out, HBr.out⟩
     case measure => simp [intOf]; omega
    ·obtain rfl : k = n := by omega
     have hz : z = sumS l := by rw [HZ.out, List.take_of_length_le (by rw [HN.out]; exact Nat.le_refl _)]
     have hz6 : z ≤ 65536 := by have := HS.out; omega
     obtain ⟨W2, hW2⟩ : ∃ W2, W2 = wr.alloc (.cells #[.pointer none, .slice none 0 0] 169) := ⟨_, rfl⟩
     obtain ⟨P, hP⟩ : ∃ P, P = wr.heap.size := ⟨_, rfl⟩
     have hb2 : Below wr.heap.size wr W2 := by rw [hW2]; exact (Below.refl _ _).alloc (Nat.le_refl _) _
     have hp2 : W2.heap[P]? = some (.cells #[.pointer none, .slice none 0 0] 169 (0, 0)) := by rw [hW2, hP]; exact heap_alloc_new wr _
     have hpl : P < W2.heap.size := (Array.getElem?_eq_some_iff.1 hp2).1
     have GR := Lib.hid (Tryz.Builder_Grow_fresh P P z W2 (Nat.le_refl _) hp2 (by omega) (by omega))
     have HB2 := Lib.hid (HBr.out.trans (hb2.mono HBr.out.size))
     have HWP : Hid (w.heap.size ≤ P ∧ P < W2.heap.size) := ⟨by rw [hP]; exact HBr.out.size, hpl⟩
     have HW2 := Lib.hid hW2
     have HPP := Lib.hid hP
     clear hz hb2 hp2 hpl hW2 hP
     go_upto_region 19 with fail
     rw [← HW2.out, ← HPP.out]
     go_wp2_with fail
     refine GR.out.mono ?_
     rintro e w3 ⟨rfl, hba3, hb3⟩
     have HB3 := Lib.hid (HB2.out.trans (hb3.mono HWP.out.1))
     have hps3 : P ≤ w3.heap.size := by have := hb3.size; have := HWP.out.2; omega
     have c0 := cell_keep HB3.out (HALL.out 0 (by rw [HN.out]; omega))
     rw [Nat.add_zero] at c0
     obtain ⟨x, hx⟩ : ∃ x, x = l[0]'(by rw [HN.out]; omega) := ⟨_, rfl⟩
     rw [← hx] at c0
     have hx1 : l.take 1 = [x] := by
      rw [hx]
      have := List.take_succ_eq_append_getElem (l := l) (i := 0) (by rw [HN.out]; omega)
      rw [this]; rfl
     have hxs : x.size ≤ 65536 := by
      have := sumS_take l 1
      rw [hx1] at this
      have := HS.out
      unfold sumS at *
      simp at *
      omega
     have CW := Lib.hid (writeStr_any P P [] x w3 hba3 (by simp; omega) hps3)
     have HX1 := Lib.hid hx1
     clear GR hba3 hb3 hx hx1
     go_wp2_with fail
     refine CW.out.mono ?_
     rintro e w4 ⟨rfl, hba4, hb4⟩
     have HB4 := Lib.hid (HB3.out.trans (hb4.mono HWP.out.1))
     have HS4 : Hid (P ≤ w4.heap.size) := Nat.le_trans hps3 hb4.size
     have HBA4 : Hid (Lib.BuilderAt 169 5 P P (.pointer (some ⟨P, 0, none⟩)) (Lib.byteCells (bytesL (l.take (0 + 1)))) w4) := by
      show Lib.BuilderAt 169 5 P P (.pointer (some ⟨P, 0, none⟩)) (Lib.byteCells (bytesL (l.take 1))) w4
      rw [HX1.out]
      have e : bytesL [x] = x.data.toList := by simp [bytesL]
      rw [e]
      exact hba4
     clear CW hba4 hb4 c0 hps3
     go_wp2_with fail
     go_loopw [65] (fun i wr => ∃ (k2 : Nat), i = .int .i64 k2 ∧ k2 ≤ k - 1 ∧ Hid (Lib.BuilderAt 169 5 P P (.pointer (some ⟨P, 0, none⟩)) (Lib.byteCells (bytesL (l.take (k2 + 1)))) wr) ∧ Hid (Below w.heap.size w wr) ∧ Hid (P ≤ wr.heap.size)) (fun i _ => k - 1 - (intOf i).toNat)
     case atStart => exact ⟨0, rfl, Nat.zero_le _, HBA4.out, HB4.out, HS4.out⟩
     case round =>
      obtain ⟨k2, rfl, hk2, HBA, HBr2, HSr2⟩ := hrel
      by_cases hlt2 : k2 < k - 1
      ·have hkl : k2 + 1 < l.length := by rw [HN.out]; omega
       have ck := cell_keep HBr2.out (HALL.out (k2 + 1) hkl)
       obtain ⟨y, hy⟩ : ∃ y, y = l[k2 + 1] := ⟨_, rfl⟩
       rw [← hy] at ck
       have htk : l.take (k2 + 1 + 1) = l.take (k2 + 1) ++ [y] := by rw [List.take_succ_eq_append_getElem hkl, hy]
       have hsz : (bytesL (l.take (k2 + 1))).length + y.size ≤ 65536 := by
        have h1 := sumS_take l (k2 + 1 + 1)
        rw [htk, sumS_snoc] at h1
        rw [bytesL_len]
        have := HS.out
        omega
       have CS := Lib.hid (writeStr_any P P _ ⟨#[]⟩ _ HBA.out (by rw [Lib.byteCells_length]; show _ + 0 ≤ _; omega) HSr2.out)
       have HY := Lib.hid htk
       have HSZ := Lib.hid hsz
       rw [show o + (k2 + 1) = o + 1 + k2 by omega] at ck
       have HCK := Lib.hid ck
       clear hy htk hsz ck
       have ck := HCK.out
       go_wp2_with fail
       refine CS.out.mono ?_
       rintro e w5 ⟨rfl, hba5, hb5⟩
       rw [show Lib.strCells ⟨#[]⟩ = [] from rfl, List.append_nil] at hba5
       have CY := Lib.hid (writeStr_any P P _ y w5 hba5 (by rw [Lib.byteCells_length]; have := HSZ.out; omega) (Nat.le_trans HSr2.out hb5.size))
       have HB5 := Lib.hid (HBr2.out.trans (hb5.mono HWP.out.1))
       have HS5 : Hid (P ≤ w5.heap.size) := Nat.le_trans HSr2.out hb5.size
       clear CS hba5 hb5 ck
       go_wp2_with fail
       refine CY.out.mono ?_
       rintro e w6 ⟨rfl, hba6, hb6⟩
       have HB6 := Lib.hid (HB5.out.trans (hb6.mono HWP.out.1))
       have HS6 : Hid (P ≤ w6.heap.size) := Nat.le_trans HS5.out hb6.size
       have HBA6 : Hid (Lib.BuilderAt 169 5 P P (.pointer (some ⟨P, 0, none⟩)) (Lib.byteCells (bytesL (l.take (k2 + 1 + 1)))) w6) := by
        rw [HY.out, bytesL_snoc]
        have e : Lib.byteCells (bytesL (l.take (k2 + 1)) ++ y.data.toList) = Lib.byteCells (bytesL (l.take (k2 + 1))) ++ Lib.strCells y := by simp [Lib.byteCells, Lib.strCells]
        rw [e]
        exact hba6
       clear CY hba6 hb6
       go_wp2_with fail
       go_roundw
       case rel => exact ⟨k2 + 1, by go_num, by omega, HBA6.out, HB6.out, HS6.out⟩
       case measure => simp [intOf]; omega
      ·have hk3 : k2 + 1 = k := by omega
       have hl : l.take (k2 + 1) = l := List.take_of_length_le (by rw [HN.out]; omega)
       have hba := HBA.out
       rw [hl] at hba
       have CS := Lib.hid (Tryz.Builder_String_any P P (bytesL l) _ (.inr hba) HSr2.out)
       clear hl hba
       obtain rfl : k2 = k - 1 := by omega
       go_wp2_with fail
       refine CS.out.mono ?_
       rintro e w7 ⟨rfl, hb7⟩
       have HB7 := Lib.hid (HBr2.out.trans (hb7.mono HWP.out.1))
       clear CS hb7
       go_wp2_with fail
       go_ret
       exact ⟨rfl, HB7.out⟩
end Go.Proofs.YtiajjgehnmkokaaGreatDoor
end
section
namespace Go.Proofs.YtiajjgehnmkokaaGreatDoor
open Go.RowKit
open Seal
open Bson (Val)
theorem infoStr1 : (Tryz.prog.info? 9).map (fun i => (i.zero, i.size, i.bytes)) = some (some (.string ⟨#[]⟩), 1, 16) := by kernel_rfl
theorem str_new (w : World) (c : Value) (t : TypeId) : ∀ j u, ([c] : List Value)[j]? = some u → (w.alloc (.cells #[c] t)).cell? (Addr.add ⟨w.heap.size, 0, none⟩ j) = some u := by
 intro j u hj
 rw [Addr.add_mid, Nat.zero_add, cell_of_row _ _ j _ _ _ (heap_alloc_new w _)]
 simpa using hj
theorem owns_strs {w : World} {base : Nat} {v : Value} {l : List ByteArray} (h : w.ownsRow base 9 1 v l.length (l.map .string)) : ∃ a c, v = .slice a l.length c ∧ (l.length ≤ c ∧ c ≤ 9223372036854775807) ∧ StrsIn w a l := by
 obtain ⟨hxl, ⟨rfl, hn⟩ | ⟨g, cap, cur, rfl, hbg, hrow, hc, hm, hsz, htake⟩⟩ := h
 ·have hn' := List.eq_nil_of_length_eq_zero hn
  subst hn'
  exact ⟨none, 0, rfl, ⟨Nat.le_refl _, by omega⟩, .inl rfl⟩
 ·refine ⟨some ⟨g, 0, none⟩, cap, rfl, ⟨hc, by unfold maxLen at hm; omega⟩, .inr ⟨g, 0, rfl, fun i hi => ?_⟩⟩
  rw [Nat.zero_add, cell_of_row w g i _ _ _ hrow, ← Array.getElem?_toList]
  have e : cur.toList[i]? = (l.map Value.string)[i]? := by rw [← htake, List.getElem?_take_of_lt (by omega)]
  rw [e, List.getElem?_map, List.getElem?_eq_getElem hi]
  rfl
theorem textJ_in (w : World) (Q : Nat → Prop) (s : ByteArray) (hs : s.size ≤ 140737488355328) (h : Nat) : VIn w Q (h + 1) (Expr.textV s) (.agg #[.int .i64 5, .int .i64 0, .string s, .slice none 0 0, .slice none 0 0, .slice none 0 0]) :=
 ⟨none, none, none, 0, 0, 0, rfl, ⟨by show (-9223372036854775808 : Int) ≤ 5; omega, by show (5 : Int) ≤ _; omega, by show (-9223372036854775808 : Int) ≤ 0; omega, by show (0 : Int) ≤ _; omega, hs, Nat.zero_le _, Nat.zero_le _, Nat.zero_le _, fun c hc => (by cases hc)⟩, ⟨Nat.le_refl _, by omega⟩, ⟨Nat.le_refl _, by omega⟩, ⟨Nat.le_refl _, by omega⟩, .inl rfl, .inl rfl, .inl rfl⟩
def sizeV (l : List Val) : Nat := (l.map fun x => x.s.size).sum
theorem sizeV_snoc (l : List Val) (x : Val) : sizeV (l ++ [x]) = sizeV l + x.s.size := by unfold sizeV; simp
theorem sizeV_sumS (l : List Val) : sumS (l.map fun x => x.s) = sizeV l := by unfold sumS sizeV; rw [List.map_map]; rfl
theorem joinS_bytes : ∀ l : List Val, Expr.joinS l = ⟨(bytesL (l.map fun x => x.s)).toArray⟩
 | [] => rfl
 | x :: r => by
  rw [Expr.joinS, joinS_bytes r]
  apply ByteArray.ext
  unfold bytesL
  rw [List.map_cons, List.flatMap_cons]
  simp
def joinR (l : List Val) : Expr.Out :=
 if (l.any fun x => !(x.kind == 5)) = true then Expr.bad 12
 else if 65536 < sizeV l then Expr.bad 3
 else (0, Expr.textV (Expr.joinS l))
theorem exprJoin_any (w : World) (Q : Nat → Prop) (B : Nat) (a : Option Addr) (n c : Nat) (r : List Val) (hn : r.length = n) (hm : n ≤ 3000) (hit : ItemsIn w Q (VIn w Q B) a r) :
  Calls Tryz.prog 134 #[.slice a n c] w (EvPost w 1 (joinR r)) := by
 obtain ⟨i0, hi, hz0, hz1, hz2⟩ := info_parts infoStr1
 obtain ⟨W0, hW0⟩ : ∃ W0, W0 = w.alloc (.cells #[.int .i64 0, .int .i64 0, .string ⟨#[]⟩, .slice none 0 0, .slice none 0 0, .slice none 0 0] 26) := ⟨_, rfl⟩
 have hb0 : Below w.heap.size w W0 := by rw [hW0]; exact (Below.refl _ _).alloc (Nat.le_refl _) _
 have hx0 : IsBox W0 w.heap.size (.int .i64 0) (.int .i64 0) (.string ⟨#[]⟩) (.slice none 0 0) (.slice none 0 0) (.slice none 0 0) := by rw [hW0]; exact IsBox.new w (.int .i64 0) (.int .i64 0) (.string ⟨#[]⟩) (.slice none 0 0) (.slice none 0 0) (.slice none 0 0)
 have hs0 : w.heap.size + 1 ≤ W0.heap.size := by rw [hW0]; simp
 obtain ⟨res, hres⟩ : ∃ z, z = joinR r := ⟨_, rfl⟩
 rw [← hres]
 have HRES := Lib.hid hres
 have HB := Lib.hid hb0
 have HR := Lib.hid hx0
 have HS := Lib.hid hs0
 have HW0 := Lib.hid hW0
 have HIT := Lib.hid hit
 have HN := Lib.hid hn
 clear hn hit hres hW0 hb0 hx0 hs0
 go_enter Tryz.func134, Tryz.ntmps134
 go_upto_region 1 with fail
 rw [← HW0.out]
 go_wp2_with fail
 go_loopw [4, 5, 10] (fun tx s i wr => ∃ (k z : Nat) (v : Value), tx = v ∧ s = .int .i64 z ∧ i = .int .i64 k ∧ k ≤ n ∧ Hid (∀ i (hi : i < k) (hi2 : i < r.length), r[i].kind = 5) ∧ Hid (z = sizeV (r.take k)) ∧ Hid (z ≤ k * 140737488355328) ∧ Hid (wr.ownsRow (w.heap.size + 1) 9 1 v k ((r.take k).map fun x => Value.string x.s)) ∧ Hid (Below w.heap.size w wr) ∧ Hid (IsBox wr w.heap.size (.int .i64 0) (.int .i64 0) (.string ⟨#[]⟩) (.slice none 0 0) (.slice none 0 0) (.slice none 0 0)) ∧ Hid (w.heap.size + 1 ≤ wr.heap.size)) (fun _ _ i _ => n - (intOf i).toNat)
 case atStart => exact ⟨0, 0, .slice none 0 0, rfl, rfl, rfl, Nat.zero_le _, (fun _ h => absurd h (Nat.not_lt_zero _)), rfl, Nat.zero_le _, World.ownsRow_nil _ _ _ _, HB.out, HR.out, HS.out⟩
 case round =>
  obtain ⟨k, z, v, rfl, rfl, rfl, hk, HOK, HZ, HZM, HO, HBr, HRr, HSr⟩ := hrel
  by_cases hlt : k < n
  ·have hkr : k < r.length := by rw [HN.out]; exact hlt
   obtain ⟨g, o, rfl, -, hall⟩ := HIT.out.resolve_left (fun e => by rw [e] at hkr; cases hkr)
   obtain ⟨v', hsix, hV⟩ := hall k hkr
   obtain ⟨ik, im, is_, b0, f0, l0, bb0, bc0, fb0, fc0, lb0, lc0, rfl⟩ := hV.shape
   obtain ⟨e1, -, e3, -, eL⟩ := hV.top
   have hsl : is_.size ≤ 140737488355328 := by rw [e3]; exact eL.s
   obtain ⟨s0, s1, s2, s3, s4, s5⟩ := (hsix.keep HBr.out).cells
   obtain ⟨W5, hW5⟩ : ∃ W5, W5 = wr.alloc (.cells #[.int .i64 ik, .int .i64 im, .string is_, .slice b0 bb0 bc0, .slice f0 fb0 fc0, .slice l0 lb0 lc0] 26) := ⟨_, rfl⟩
   obtain ⟨P, hP⟩ : ∃ P, P = wr.heap.size := ⟨_, rfl⟩
   have hb5 : Below wr.heap.size wr W5 := by rw [hW5]; exact (Below.refl _ _).alloc (Nat.le_refl _) _
   have hX5 : IsBox W5 P (.int .i64 ik) (.int .i64 im) (.string is_) (.slice b0 bb0 bc0) (.slice f0 fb0 fc0) (.slice l0 lb0 lc0) := by rw [hW5, hP]; exact IsBox.new wr (.int .i64 ik) (.int .i64 im) (.string is_) (.slice b0 bb0 bc0) (.slice f0 fb0 fc0) (.slice l0 lb0 lc0)
   have HB5 := Lib.hid (HBr.out.trans (hb5.mono HBr.out.size))
   have HR5 := Lib.hid (HRr.out.keep hb5)
   have HO5 := Lib.hid (owns_below HO.out hb5)
   have HS5 : Hid (w.heap.size + 1 ≤ W5.heap.size) := Nat.le_trans HSr.out hb5.size
   have HW5 := Lib.hid hW5
   have HPP := Lib.hid hP
   have HX5 := Lib.hid hX5
   have HE1 := Lib.hid e1
   have HE3 := Lib.hid e3
   clear hall hsix hV e1 e3 eL hb5 hX5 hW5 hP
   go_upto_region 6 with fail
   rw [← HW5.out, ← HPP.out]
   clear s0 s1 s2 s3 s4 s5
   obtain ⟨y0, y1, y2, y3, y4, y5⟩ := HX5.out.cells
   by_cases he : ik = 5
   ·have hz2 : z + is_.size = sizeV (r.take (k + 1)) := by rw [List.take_succ_eq_append_getElem hkr, sizeV_snoc, HZ.out, HE3.out]
    have hzm : z + is_.size ≤ (k + 1) * 140737488355328 := by have := HZM.out; omega
    have hzl : z + is_.size ≤ 422212465065984000 := by omega
    have hxs : ((r.take (k + 1)).map fun x => Value.string x.s) = ((r.take k).map fun x => Value.string x.s) ++ [.string is_] := by
     rw [List.take_succ_eq_append_getElem hkr, List.map_append, HE3.out]; rfl
    have HOK2 : Hid (∀ i (hi : i < k + 1) (hi2 : i < r.length), r[i].kind = 5) := fun i hi hi2 => by
     by_cases e : i = k
     ·subst e; rw [← HE1.out]; exact he
     ·exact HOK.out i (by omega) hi2
    have hb6 : Below W5.heap.size W5 (W5.alloc (.cells #[.string is_] 9)) := (Below.refl _ _).alloc (Nat.le_refl _) _
    have HB6 := Lib.hid (HB5.out.trans (hb6.mono HB5.out.size))
    have HR6 := Lib.hid (HR5.out.keep hb6)
    have HX6 := Lib.hid (HX5.out.keep hb6)
    have HO6 := Lib.hid (owns_below HO5.out hb6)
    have HS6 : Hid (w.heap.size + 1 ≤ (W5.alloc (.cells #[.string is_] 9)).heap.size) := Nat.le_trans HS5.out hb6.size
    have HNW := Lib.hid (str_new W5 (.string is_) 9)
    have HPL : Hid (P < (W5.alloc (.cells #[.string is_] 9)).heap.size ∧ wr.heap.size ≤ P) := ⟨HX6.out.lt, by rw [HPP.out]; exact Nat.le_refl _⟩
    have HVL : Hid (∀ j, u4.ownBlock = some j → w.heap.size + 1 ≤ j ∧ j < wr.heap.size) := fun j hj => owns_block HO.out hj
    have HZ2 := Lib.hid hz2
    have HZM2 := Lib.hid hzm
    have HXS := Lib.hid hxs
    subst he
    clear hb6 hz2 hzm hxs HO5 HO
    go_wp2_with (at_builtin; refine wpList_append_sz _ rfl (.tmp 18) (.tmp 21) 42 rfl (w.heap.size + 1) 9 i0 (.string ⟨#[]⟩) 1 16 Tryz.underlying42 hi hz0 hz1 hz2 rfl u4 k _ rfl HO6.out ⟨W5.heap.size, 0, none⟩ 1 1 [.string is_] rfl rfl (by decide) (by decide) HNW.out (by intro u hu; simp at hu; subst hu; rfl) (by unfold maxLen; omega) (by omega) HS6.out ?_)
    intro v9 w9 hown9 hlies9
    have hw9 := Wrote.of_lies hlies9
    have HB9 : Hid (Below w.heap.size w w9) := HB6.out.grown hw9.1 HB6.out.size (fun j hj => by have := (HVL.out j hj).1; omega)
    have HR9 : Hid (IsBox w9 w.heap.size (.int .i64 0) (.int .i64 0) (.string ⟨#[]⟩) (.slice none 0 0) (.slice none 0 0) (.slice none 0 0)) := (hw9.1.block _ HR6.out.lt (fun e => by have := (HVL.out _ e.symm).1; omega)).trans HR6.out
    have HX9 : Hid (IsBox w9 P (.int .i64 5) (.int .i64 im) (.string is_) (.slice b0 bb0 bc0) (.slice f0 fb0 fc0) (.slice l0 lb0 lc0)) := (hw9.1.block _ HPL.out.1 (fun e => by have := (HVL.out _ e.symm).2; have := HPL.out.2; omega)).trans HX6.out
    have HS9 : Hid (w.heap.size + 1 ≤ w9.heap.size) := Nat.le_trans HS6.out hw9.1.size
    have HO9 : Hid (w9.ownsRow (w.heap.size + 1) 9 1 v9 (k + 1) ((r.take (k + 1)).map fun x => Value.string x.s)) := by show World.ownsRow _ _ _ _ _ _ _; rw [HXS.out, List.map_take]; exact hown9
    clear hown9 hlies9 hw9 y0 y1 y2 y3 y4 y5
    obtain ⟨y0, y1, y2, y3, y4, y5⟩ := HX9.out.cells
    go_wp2_with fail
    go_roundw
    case rel => exact ⟨k + 1, z + is_.size, v9, rfl, by go_num, by go_num, by omega, HOK2.out, HZ2.out, HZM2.out, HO9.out, HB9.out, HR9.out, HS9.out⟩
    case measure => simp [intOf]; omega
   ·have he2 : (ik == 5) = false := by rw [beq_eq_false_iff_ne]; exact he
    have he3 : (ik != 5) = true := by unfold bne; rw [he2]; rfl
    have hany : (r.any fun x => !(x.kind == 5)) = true := by
     rw [List.any_eq_true]
     exact ⟨r[k], List.getElem_mem hkr, by rw [← HE1.out, he2]; rfl⟩
    have hre : res = (12, Bson.zero) := by rw [HRES.out]; unfold joinR; rw [if_pos hany]; rfl
    have HRE := Lib.hid hre
    clear he hany hre
    have HEND := Lib.hid (below_six HB5.out (by omega : w.heap.size ≤ w.heap.size) (.int .i64 0) (.int .i64 0) (.string ⟨#[]⟩) (.slice none 0 0) (.slice none 0 0) (.slice none 0 0))
    obtain ⟨r0, r1, r2, r3, r4, r5⟩ := HR5.out.cells
    obtain ⟨q0, q1, q2, q3, q4, q5⟩ := HR5.out.thaw
    go_wp2_with fail
    refine bodyPost_ret (v := .tuple #[.agg #[.int .i64 0, .int .i64 0, .string ⟨#[]⟩, .slice none 0 0, .slice none 0 0, .slice none 0 0], .int .i64 12]) ?_ rfl ?_
    ·simp [results, Tryz.results134, go_sem, *]
    ·exact ⟨_, by rw [HRE.out], by rw [HRE.out]; exact zero_in _ _, HEND.out⟩
  ·obtain rfl : k = n := by omega
   have htk : r.take k = r := List.take_of_length_le (by rw [HN.out]; exact Nat.le_refl _)
   have hany : ¬ (r.any fun x => !(x.kind == 5)) = true := by
    rw [List.any_eq_true]
    rintro ⟨x, hx, h5⟩
    obtain ⟨i, hi, rfl⟩ := List.getElem_of_mem hx
    rw [HOK.out i (by have := HN.out; omega) hi] at h5
    cases h5
   have hz : z = sizeV r := by rw [HZ.out, htk]
   have hown := HO.out
   rw [htk] at hown
   have hl : (r.map fun x => x.s).length = k := by rw [List.length_map, HN.out]
   have hown2 : wr.ownsRow (w.heap.size + 1) 9 1 u4 (r.map fun x => x.s).length ((r.map fun x => x.s).map .string) := by rw [hl, List.map_map]; exact hown
   obtain ⟨a', c', e', hc', hst⟩ := owns_strs hown2
   rw [hl] at e' hc'
   by_cases hbig : 65536 < z
   ·have hre : res = (3, Bson.zero) := by rw [HRES.out]; unfold joinR; rw [if_neg hany, if_pos (by rw [← hz]; exact hbig)]; rfl
    have HRE := Lib.hid hre
    have hbig2 : (65536 : Int) < (z : Int) := by omega
    clear htk hany hz hown hl hown2 e' hc' hst hre
    have HEND := Lib.hid (below_six HBr.out (by omega : w.heap.size ≤ w.heap.size) (.int .i64 0) (.int .i64 0) (.string ⟨#[]⟩) (.slice none 0 0) (.slice none 0 0) (.slice none 0 0))
    obtain ⟨r0, r1, r2, r3, r4, r5⟩ := HRr.out.cells
    obtain ⟨q0, q1, q2, q3, q4, q5⟩ := HRr.out.thaw
    go_wp2_with fail
    refine bodyPost_ret (v := .tuple #[.agg #[.int .i64 0, .int .i64 0, .string ⟨#[]⟩, .slice none 0 0, .slice none 0 0, .slice none 0 0], .int .i64 3]) ?_ rfl ?_
    ·simp [results, Tryz.results134, go_sem, *]
    ·exact ⟨_, by rw [HRE.out], by rw [HRE.out]; exact zero_in _ _, HEND.out⟩
   ·have hre : res = (0, Expr.textV (Expr.joinS r)) := by rw [HRES.out]; unfold joinR; rw [if_neg hany, if_neg (by rw [← hz]; exact hbig)]
    have hsum : sumS (r.map fun x => x.s) ≤ 65536 := by rw [sizeV_sumS, ← hz]; omega
    have CJ := Lib.hid (join_any wr a' k c' (r.map fun x => x.s) hl hm hc' hsum hst)
    have hjl : (bytesL (r.map fun x => x.s)).length ≤ 65536 := by rw [bytesL_len]; exact hsum
    obtain ⟨js, hjs⟩ : ∃ js : ByteArray, js = ⟨(bytesL (r.map fun x => x.s)).toArray⟩ := ⟨_, rfl⟩
    have hjs2 : js.size ≤ 140737488355328 := by rw [hjs]; show (bytesL _).toArray.size ≤ _; simp; omega
    rw [joinS_bytes, ← hjs] at hre
    rw [← hjs] at CJ
    have HRE := Lib.hid hre
    have HJ := Lib.hid hjs2
    have hbig2 : (z : Int) ≤ (65536 : Int) := by omega
    subst e'
    clear htk hany hz hown hl hown2 hc' hst hre hsum hjl hjs hjs2
    go_wp2_with fail
    refine CJ.out.mono ?_
    rintro e w7 ⟨rfl, hb7⟩
    have HB7 := Lib.hid (HBr.out.trans (hb7.mono HBr.out.size))
    have HR7 := Lib.hid (HRr.out.keep hb7)
    have HEND := Lib.hid (below_six HB7.out (by omega : w.heap.size ≤ w.heap.size) (.int .i64 5) (.int .i64 0) (.string js) (.slice none 0 0) (.slice none 0 0) (.slice none 0 0))
    obtain ⟨r0, r1, r2, r3, r4, r5⟩ := HR7.out.cells
    obtain ⟨q0, q1, q2, q3, q4, q5⟩ := HR7.out.thaw
    clear CJ hb7
    go_wp2_with fail
    refine bodyPost_ret (v := .tuple #[.agg #[.int .i64 5, .int .i64 0, .string js, .slice none 0 0, .slice none 0 0, .slice none 0 0], .int .i64 0]) ?_ rfl ?_
    ·simp [results, Tryz.results134, go_sem, *]
    ·exact ⟨_, by rw [HRE.out], by rw [HRE.out]; exact textJ_in _ _ js HJ.out 0, HEND.out⟩
end Go.Proofs.YtiajjgehnmkokaaGreatDoor
end
