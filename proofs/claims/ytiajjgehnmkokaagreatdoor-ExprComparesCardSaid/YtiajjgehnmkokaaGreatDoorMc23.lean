/- ExprPlace, PathTab, ExprCompare, ExprDecide, ExprReckon. -/
import Derived.Test.YtiajjgehnmkokaaGreatDoorCards
import Derived.Test.YtiajjgehnmkokaaGreatDoorTie
import Derived.Lib.LaidU8T
import Derived.Deep.DeepWitnessRowRef
import Derived.SizedLaws
import Derived.Lay
import Derived.Deep.Strs
import Derived.Lib.IndexBytes
import Derived.Test.YtiajjgehnmkokaaGreatDoorMc20
import Derived.Test.YtiajjgehnmkokaaGreatDoorMc21
import Derived.Test.YtiajjgehnmkokaaGreatDoorMc5
import Derived.Test.YtiajjgehnmkokaaGreatDoorMc0
import Derived.Test.YtiajjgehnmkokaaGreatDoorMc1
import Derived.Test.YtiajjgehnmkokaaGreatDoorMc19
import Derived.Test.YtiajjgehnmkokaaGreatDoorMc3
import Derived.Test.YtiajjgehnmkokaaGreatDoorMc14
set_option maxRecDepth 100000
set_option maxHeartbeats 20000000
section
namespace Go.Proofs.YtiajjgehnmkokaaGreatDoor
open Go.RowKit
open Seal
open Bson (Val)
theorem Expr.allO_len : ∀ {l : List Expr.Out}, (Expr.allO l).1 = 0 → (Expr.allO l).2.length = l.length
 | [], _ => rfl
 | x :: r, h => by
  rw [Expr.allO] at h ⊢
  by_cases h1 : x.1 = 0
  ·rw [if_pos h1] at h ⊢
   by_cases h2 : (Expr.allO r).1 = 0
   ·rw [if_pos h2]
    show (x.2 :: (Expr.allO r).2).length = _
    rw [List.length_cons, Expr.allO_len h2]; rfl
   ·rw [if_neg h2] at h; exact absurd h h2
  ·rw [if_neg h1] at h; exact absurd h h1
theorem call_boxes (w : World) (fv : Value) (a : Option Addr) (n c : Nat) (d0 d1 d2 d3 d4 d5 : Value) (W : World) (hW : W = (w.alloc (.cells #[fv, .slice a n c] 126)).alloc (.cells #[d0, d1, d2, d3, d4, d5] 26)) :
  Below w.heap.size w W ∧ W.heap[w.heap.size]? = some (.cells #[fv, .slice a n c] 126 (0, 0)) ∧ IsBox W (w.heap.size + 1) d0 d1 d2 d3 d4 d5 := by
 have b1 := (Below.refl w.heap.size w).alloc (Nat.le_refl _) (.cells #[fv, .slice a n c] 126)
 have b2 := b1.alloc b1.size (.cells #[d0, d1, d2, d3, d4, d5] 26)
 subst hW
 exact ⟨b2, (Below.heap_alloc _ _ _ (by simp)).trans (heap_alloc_new w _), IsBox.new2 w _ _ _ _ _ _ _⟩
theorem two_of {w : World} {Q : Nat → Prop} {B : Nat} {a : Option Addr} {l : List Val} (h : ItemsIn w Q (VIn w Q B) a l) (hl : l.length = 2) : ∃ g o, a = some ⟨g, o, none⟩ ∧ ∃ v0 v1, SixAt w g o v0 ∧ SixAt w g (o + 6) v1 ∧ VIn w Q B (l.getD 0 Bson.zero) v0 ∧ VIn w Q B (l.getD 1 Bson.zero) v1 := by
 obtain ⟨g, o, e, -, hall⟩ := h.resolve_left (fun e => by rw [e] at hl; cases hl)
 obtain ⟨v0, h0, h1⟩ := hall 0 (by omega)
 obtain ⟨v1, h2, h3⟩ := hall 1 (by omega)
 refine ⟨g, o, e, v0, v1, by simpa using h0, by simpa using h2, ?_, ?_⟩
 ·rw [List.getD_eq_getElem?_getD, List.getElem?_eq_getElem (by omega)]; exact h1
 ·rw [List.getD_eq_getElem?_getD, List.getElem?_eq_getElem (by omega)]; exact h3
def PlaceR (c : Nat) (r : Int × List Val) : Int × Int := if r.1 = 0 then (Expr.place c r.2, 0) else (0, r.1)
theorem place_any (H hd C : Nat) (K : FuncId) (a : Option Addr) (n c : Nat) (fs : List (Nat → Val → Expr.Out)) (Q : Nat → Prop) (d : Val) (dv : Value) (w : World) (hn : fs.length = n) (h2 : n = 2) (hC : H ≤ C) (hT : TermsIn w a H fs) (hd0 : VIn w Q (hd + 1) d dv) :
  Calls Tryz.prog 127 #[.agg #[.func (.func K) #[] #[], .slice a n c], dv] w fun e w' => e = .returned (.tuple #[.int .i64 (PlaceR (C + hd) (Expr.allO (outsOf fs hd d))).1, .int .i64 (PlaceR (C + hd) (Expr.allO (outsOf fs hd d))).2]) ∧ Below w.heap.size w w' := by
 obtain ⟨dk, dn, ds, da, df, dl, ba, bc, fa, fc, la, lc, rfl⟩ := hd0.shape
 obtain ⟨W0, hW0⟩ : ∃ W0, W0 = (w.alloc (.cells #[.func (.func K) #[] #[], .slice a n c] 126)).alloc (.cells #[.int .i64 dk, .int .i64 dn, .string ds, .slice da ba bc, .slice df fa fc, .slice dl la lc] 26) := ⟨_, rfl⟩
 obtain ⟨hb, hc, hx⟩ := call_boxes w (.func (.func K) #[] #[]) a n c (.int .i64 dk) (.int .i64 dn) (.string ds) (.slice da ba bc) (.slice df fa fc) (.slice dl la lc) W0 hW0
 have HB := Lib.hid hb
 have CA := Lib.hid (evalAll_any H hd a n c fs Q d _ W0 hn (by omega) (hT.keep hb) (VIn.keep hb hd0))
 obtain ⟨r, hr⟩ : ∃ r, r = Expr.allO (outsOf fs hd d) := ⟨_, rfl⟩
 have hrl : r.1 = 0 → r.2.length = 2 := fun h => by rw [hr] at h ⊢; rw [Expr.allO_len h, outsOf_length, hn, h2]
 rw [← hr] at CA ⊢
 have HRL := Lib.hid hrl
 have HC := Lib.hid hC
 have c1 : W0.cell? ⟨w.heap.size, 1, none⟩ = some (.slice a n c) := (cell_of_row W0 _ 1 _ _ _ hc).trans rfl
 obtain ⟨x0, x1, x2, x3, x4, x5⟩ := hx.cells
 have HW0 := Lib.hid hW0
 clear hT hd0 hb hc hx hn h2 hr hrl hC hW0
 go_enter Tryz.func127, Tryz.ntmps127
 go_upto_region 1 with fail
 rw [← HW0.out]
 go_wp2_with fail
 clear c1 x0 x1 x2 x3 x4 x5
 refine CA.out.mono ?_
 rintro e w2 ⟨v2, rfl, hA, hN, hb2⟩
 have HB2 := Lib.hid (HB.out.trans (hb2.mono HB.out.size))
 by_cases hz : r.1 = 0
 ·obtain ⟨xs, hA⟩ := hA hz
  have hl2 := HRL.out hz
  obtain ⟨a', c', rfl, hc', hit⟩ := hA.items (Q' := fun _ => True) (fun _ _ => trivial) (fun _ _ _ => trivial)
  obtain ⟨g, o, rfl, v0, v1, s0, s1, hv0, hv1⟩ := two_of hit hl2
  rw [hl2]
  obtain ⟨k0, n0, t0, b0, f0, l0, bb0, bc0, fb0, fc0, lb0, lc0, rfl⟩ := hv0.shape
  obtain ⟨k1, n1, t1, b1, f1, l1, bb1, bc1, fb1, fc1, lb1, lc1, rfl⟩ := hv1.shape
  have HP : Hid (∀ W, Below w2.heap.size w2 W → Calls Tryz.prog 148 #[.agg #[.int .i64 k0, .int .i64 n0, .string t0, .slice b0 bb0 bc0, .slice f0 fb0 fc0, .slice l0 lb0 lc0], .agg #[.int .i64 k1, .int .i64 n1, .string t1, .slice b1 bb1 bc1, .slice f1 fb1 fc1, .slice l1 lb1 lc1]] W (CmpPost (Expr.place (C + hd) r.2) W)) :=
   fun W hb => compare_any (C + hd) _ _ _ _ _ _ W ((VIn.keep hb hv0).up (by have := HC.out; omega)) ((VIn.keep hb hv1).up (by have := HC.out; omega))
  have HS0 := Lib.hid s0
  have HS1 := Lib.hid s1
  have hres : PlaceR (C + hd) r = (Expr.place (C + hd) r.2, 0) := by unfold PlaceR; rw [if_pos hz]
  obtain ⟨pl, hpl⟩ : ∃ z, z = Expr.place (C + hd) r.2 := ⟨_, rfl⟩
  rw [← hpl] at HP hres
  have HRES := Lib.hid hres
  rw [hz]
  clear hA hN hb2 hc' hit hl2 hv0 hv1 s0 s1 hz hres hpl
  go_upto_region 4 with fail
  refine wp_region_facts (fun V => { tmps := #[Value.agg #[Value.func (Fn.func K) #[] #[], Value.slice a n c], Value.agg #[Value.int IntKind.i64 dk, Value.int IntKind.i64 dn, Value.string ds, Value.slice da ba bc, Value.slice df fa fc, Value.slice dl la lc], Value.pointer (some ⟨w.heap.size, 0, none⟩), Value.pointer (some ⟨w.heap.size + 1, 0, none⟩), V 7, V 8, Value.slice (some ⟨g, o, none⟩) 2 c', Value.int IntKind.i64 0, Value.tuple #[Value.slice (some ⟨g, o, none⟩) 2 c', Value.int IntKind.i64 0], Value.pointer (some ⟨w.heap.size, 1, none⟩), Value.slice a n c, Value.agg #[Value.int IntKind.i64 dk, Value.int IntKind.i64 dn, Value.string ds, Value.slice da ba bc, Value.slice df fa fc, Value.slice dl la lc], Value.tuple #[Value.slice (some ⟨g, o, none⟩) 2 c', Value.int IntKind.i64 0], Value.slice (some ⟨g, o, none⟩) 2 c', Value.int IntKind.i64 0, Value.int IntKind.i64 0, Value.bool false, undef, V 0, V 1, V 2, V 3, V 4, V 5, V 6], defers := [] }) [Fact.is (.slice (some ⟨g, o, none⟩) 2 c'), Fact.is (.pointer (some ⟨g, o, none⟩)), Fact.is (.agg #[.int .i64 k0, .int .i64 n0, .string t0, .slice b0 bb0 bc0, .slice f0 fb0 fc0, .slice l0 lb0 lc0]), Fact.is (.slice (some ⟨g, o, none⟩) 2 c'), Fact.is (.pointer (some ⟨g, o + 6, none⟩)), Fact.is (.agg #[.int .i64 k1, .int .i64 n1, .string t1, .slice b1 bb1 bc1, .slice f1 fb1 fc1, .slice l1 lb1 lc1]), Fact.is (.int .i64 pl), Fact.is (.int .i64 pl), Fact.is (.int .i64 0)] (by kernel_rfl) (by kernel_rfl) (by kernel_rfl) (fun V => by kernel_rfl) ?_ ?_
  ·refine ⟨?_, ?_⟩
   ·refine fact_free rfl (fun V w5 hB hF K hK => ?_)
    go_simp
    exact put_is (by kernel_rfl) (hK.out (.slice (some ⟨g, o, none⟩) 2 c') w5 (Below.refl _ _) rfl)
   refine ⟨?_, ?_⟩
   ·refine fact_free rfl (fun V w5 hB hF K hK => ?_)
    have h0 : V 0 = .slice (some ⟨g, o, none⟩) 2 c' := hF.out 0 (by kernel_rfl)
    go_simp
    exact put_is (by rw [h0]; kernel_rfl) (hK.out (.pointer (some ⟨g, o, none⟩)) w5 (Below.refl _ _) rfl)
   refine ⟨?_, ?_⟩
   ·refine fact_free rfl (fun V w5 hB hF K hK => ?_)
    have h1 : V 1 = .pointer (some ⟨g, o, none⟩) := hF.out 1 (by kernel_rfl)
    obtain ⟨y0, y1, y2, y3, y4, y5⟩ := (HS0.out.keep hB).cells
    go_simp
    exact put_is (by rw [h1]; kernel_rfl) (hK.out (.agg #[.int .i64 k0, .int .i64 n0, .string t0, .slice b0 bb0 bc0, .slice f0 fb0 fc0, .slice l0 lb0 lc0]) w5 (Below.refl _ _) rfl)
   refine ⟨?_, ?_⟩
   ·refine fact_free rfl (fun V w5 hB hF K hK => ?_)
    go_simp
    exact put_is (by kernel_rfl) (hK.out (.slice (some ⟨g, o, none⟩) 2 c') w5 (Below.refl _ _) rfl)
   refine ⟨?_, ?_⟩
   ·refine fact_free rfl (fun V w5 hB hF K hK => ?_)
    have h3 : V 3 = .slice (some ⟨g, o, none⟩) 2 c' := hF.out 3 (by kernel_rfl)
    go_simp
    exact put_is (by rw [h3]; kernel_rfl) (hK.out (.pointer (some ⟨g, o + 6, none⟩)) w5 (Below.refl _ _) rfl)
   refine ⟨?_, ?_⟩
   ·refine fact_free rfl (fun V w5 hB hF K hK => ?_)
    have h4 : V 4 = .pointer (some ⟨g, o + 6, none⟩) := hF.out 4 (by kernel_rfl)
    obtain ⟨y0, y1, y2, y3, y4, y5⟩ := (HS1.out.keep hB).cells
    go_simp
    exact put_is (by rw [h4]; kernel_rfl) (hK.out (.agg #[.int .i64 k1, .int .i64 n1, .string t1, .slice b1 bb1 bc1, .slice f1 fb1 fc1, .slice l1 lb1 lc1]) w5 (Below.refl _ _) rfl)
   refine ⟨?_, ?_⟩
   ·refine fact_free rfl (fun V w5 hB hF K hK => ?_)
    have h2 : V 2 = .agg #[.int .i64 k0, .int .i64 n0, .string t0, .slice b0 bb0 bc0, .slice f0 fb0 fc0, .slice l0 lb0 lc0] := hF.out 2 (by kernel_rfl)
    have h5 : V 5 = .agg #[.int .i64 k1, .int .i64 n1, .string t1, .slice b1 bb1 bc1, .slice f1 fb1 fc1, .slice l1 lb1 lc1] := hF.out 5 (by kernel_rfl)
    go_simp
    go_at_call 148
    refine (HP.out w5 hB).mono ?_
    rintro e w6 ⟨rfl, hb6⟩
    exact put_is (by rw [h2, h5]; kernel_rfl) (hK.out (.int .i64 pl) w6 hb6 rfl)
   refine ⟨?_, ?_⟩
   ·refine fact_free rfl (fun V w5 hB hF K hK => ?_)
    have h6 : V 6 = .int .i64 pl := hF.out 6 (by kernel_rfl)
    go_simp
    exact put_is (by rw [h6]; kernel_rfl) (hK.out (.int .i64 pl) w5 (Below.refl _ _) rfl)
   refine ⟨?_, ?_⟩
   ·refine fact_free rfl (fun V w5 hB hF K hK => ?_)
    go_simp
    exact put_is (by kernel_rfl) (hK.out (.int .i64 0) w5 (Below.refl _ _) rfl)
   trivial
  intro V w5 hB hF
  have h7 : V 7 = .int .i64 pl := hF 7 (by decide)
  have h8 : V 8 = .int .i64 0 := hF 8 (by decide)
  rw [h7, h8]
  have HB5 := Lib.hid (HB2.out.trans (hB.mono HB2.out.size))
  clear hF h7 h8 hB
  go_wp2_with fail
  go_ret2
  exact ⟨by rw [HRES.out]; rfl, HB5.out⟩
 ·have hz2 : (r.1 == 0) = false := by rw [beq_eq_false_iff_ne]; exact hz
  have hres : PlaceR (C + hd) r = (0, r.1) := by unfold PlaceR; rw [if_neg hz]
  have HRES := Lib.hid hres
  obtain rfl := hN hz
  clear hA hN hb2 hz hres
  go_wp2_with fail
  go_ret2
  exact ⟨by rw [HRES.out]; rfl, HB2.out⟩
end Go.Proofs.YtiajjgehnmkokaaGreatDoor
end
section
namespace Go.Proofs.YtiajjgehnmkokaaGreatDoor
open Go.ChangeShapes Go.WideShapes Go.ChangeAt Go.RowKit
open Go.ChangeMaps (open_string)
theorem ground_of {W : World} (h : laidMetH Tryz.prog laidList W) (hs : W.ShapedOpen Tryz.prog) : Ground W := by
 rw [laidList_eq] at h
 refine ⟨utf8Tabs_of_readsT (Go.Proofs.U8Types.of196 Tryz.lays196) ⟨by kernel_rfl, by kernel_rfl, by kernel_rfl, by kernel_rfl, by kernel_rfl, by kernel_rfl, by kernel_rfl⟩ (Lib.laidMet.reads h (.tail _ (.head _))) (Lib.laidMet.reads h (.head _)), ?_⟩
 exact Tryz.laysM145.s1_3 W hs
end Go.Proofs.YtiajjgehnmkokaaGreatDoor
end
section
namespace Go.Proofs.YtiajjgehnmkokaaGreatDoor
open Go.RowKit
open Seal
open Bson (Val)
theorem isAlike_any (p : Int) (w : World) : Calls Tryz.prog 121 #[.int .i64 p] w (BoolBe (decide (p = 0)) w) := by
 go_enter Tryz.func121, Tryz.ntmps121
 go_wp2_with fail
 go_ret
 exact ⟨ret_eq (show Value.bool (p == 0) = _ from by rw [show (p == 0) = decide (p = 0) from by rw [Bool.eq_iff_iff]; simp]), Below.refl _ _⟩
theorem isUnlike_any (p : Int) (w : World) : Calls Tryz.prog 122 #[.int .i64 p] w (BoolBe (decide (p ≠ 0)) w) := by
 go_enter Tryz.func122, Tryz.ntmps122
 go_wp2_with fail
 go_ret
 exact ⟨ret_eq (show Value.bool (p != 0) = _ from by rw [show (p != 0) = decide (p ≠ 0) from by rw [Bool.eq_iff_iff]; simp]), Below.refl _ _⟩
theorem isBehind_any (p : Int) (w : World) : Calls Tryz.prog 123 #[.int .i64 p] w (BoolBe (decide (p > 0)) w) := by
 go_enter Tryz.func123, Tryz.ntmps123
 go_wp2_with fail
 go_ret
 exact ⟨ret_eq (rfl), Below.refl _ _⟩
theorem notAhead_any (p : Int) (w : World) : Calls Tryz.prog 124 #[.int .i64 p] w (BoolBe (decide (p ≥ 0)) w) := by
 go_enter Tryz.func124, Tryz.ntmps124
 go_wp2_with fail
 go_ret
 exact ⟨ret_eq (rfl), Below.refl _ _⟩
theorem isAhead_any (p : Int) (w : World) : Calls Tryz.prog 125 #[.int .i64 p] w (BoolBe (decide (p < 0)) w) := by
 go_enter Tryz.func125, Tryz.ntmps125
 go_wp2_with fail
 go_ret
 exact ⟨ret_eq (rfl), Below.refl _ _⟩
theorem notBehind_any (p : Int) (w : World) : Calls Tryz.prog 126 #[.int .i64 p] w (BoolBe (decide (p ≤ 0)) w) := by
 go_enter Tryz.func126, Tryz.ntmps126
 go_wp2_with fail
 go_ret
 exact ⟨ret_eq (rfl), Below.refl _ _⟩
theorem comp_any (H hd C : Nat) (K K2 : FuncId) (bf : Int → Bool) (hK2 : ∀ p u, Calls Tryz.prog K2 #[.int .i64 p] u (BoolBe (bf p) u)) (hke : ∀ args (u : World), (callFunc K2 args).run Tryz.prog u = .ok (.enter K2 args) u) (a : Option Addr) (n c : Nat) (fs : List (Nat → Val → Expr.Out)) (Q : Nat → Prop) (d : Val) (dv : Value) (w : World) (hn : fs.length = n) (h2 : n = 2) (hC : H ≤ C) (hT : TermsIn w a H fs) (hd0 : VIn w Q (hd + 1) d dv) :
  Calls Tryz.prog 120 #[.agg #[.func (.func K) #[] #[], .slice a n c], dv, .func (.func K2) #[] #[]] w (EvPost w (H + hd + 1) (Expr.all (outsOf fs hd d) fun l => (0, Expr.boolV (bf (Expr.place (C + hd) l))))) := by
 obtain ⟨dk, dn, ds, da, df, dl, ba, bc, fa, fc, la, lc, rfl⟩ := hd0.shape
 obtain ⟨W0, hW0⟩ : ∃ W0, W0 = ((w.alloc (.cells #[(.func (.func K) #[] #[]), .slice a n c] 126)).alloc (.cells #[.int .i64 dk, .int .i64 dn, .string ds, .slice da ba bc, .slice df fa fc, .slice dl la lc] 26)).alloc (.cells #[.int .i64 0, .int .i64 0, .string { data := #[] }, .slice none 0 0, .slice none 0 0, .slice none 0 0] 26) := ⟨_, rfl⟩
 have HB := Lib.hid (CB.new w (.func (.func K) #[] #[]) a n c (.int .i64 dk) (.int .i64 dn) (.string ds) (.slice da ba bc) (.slice df fa fc) (.slice dl la lc) W0 hW0)
 have HW0 := Lib.hid hW0
 have c0 : W0.cell? ⟨w.heap.size, 0, none⟩ = some (.func (.func K) #[] #[]) := (cell_of_row W0 _ 0 _ _ _ HB.out.call).trans rfl
 have c1 := HB.out.c1
 obtain ⟨x0, x1, x2, x3, x4, x5⟩ := HB.out.doc.cells
 have CP := Lib.hid (place_any H hd C K a n c fs Q d _ W0 hn h2 hC (hT.keep HB.out.below) (VIn.keep HB.out.below hd0))
 obtain ⟨r, hr⟩ : ∃ r, r = Expr.allO (outsOf fs hd d) := ⟨_, rfl⟩
 have hall : ∀ f : List Val → Expr.Out, Expr.all (outsOf fs hd d) f = if r.1 = 0 then f r.2 else Expr.bad r.1 := fun f => by rw [hr]; rfl
 rw [← hr] at CP
 rw [hall]
 obtain ⟨res, hres⟩ : ∃ z, z = (if r.1 = 0 then ((0, Expr.boolV (bf (Expr.place (C + hd) r.2))) : Expr.Out) else Expr.bad r.1) := ⟨_, rfl⟩
 rw [← hres]
 have HRES := Lib.hid hres
 obtain ⟨p1, hp1⟩ : ∃ z, z = (PlaceR (C + hd) r).1 := ⟨_, rfl⟩
 obtain ⟨p2, hp2⟩ : ∃ z, z = (PlaceR (C + hd) r).2 := ⟨_, rfl⟩
 rw [← hp1, ← hp2] at CP
 have HP := Lib.hid (And.intro hp1 hp2)
 have HK2 := Lib.hid hK2
 clear hT hd0 hn h2 hr hall hres hC hp1 hp2 hW0 hK2
 go_enter Tryz.func120, Tryz.ntmps120
 go_upto_region 1 with fail
 rw [← HW0.out]
 go_wp2_with fail
 clear c0 c1 x0 x1 x2 x3 x4 x5
 refine CP.out.mono ?_
 rintro e w2 ⟨rfl, hb2⟩
 have HB2 := Lib.hid (HB.out.keep hb2)
 clear hb2 CP
 by_cases hz : r.1 = 0
 ·have hpr : p1 = Expr.place (C + hd) r.2 ∧ p2 = 0 := by
   obtain ⟨e1, e2⟩ := HP.out
   unfold PlaceR at e1 e2
   rw [if_pos hz] at e1 e2
   exact ⟨e1, e2⟩
  obtain ⟨hpe, rfl⟩ := hpr
  have hre : res = (0, Expr.boolV (bf p1)) := by rw [HRES.out, if_pos hz, hpe]
  have HRE := Lib.hid hre
  have CK := Lib.hid (HK2.out p1 w2)
  obtain ⟨tb, htb⟩ : ∃ z, z = bf p1 := ⟨_, rfl⟩
  rw [← htb] at CK
  have HTB := Lib.hid htb
  have HBO := Lib.hid (boolean_any tb)
  clear hre hpe hz htb
  go_wp2_with fail
  refine CK.out.mono ?_
  rintro e w3 ⟨rfl, hb3⟩
  have CB1 := Lib.hid (HBO.out w3)
  obtain ⟨bn, hbn⟩ : ∃ z : Int, z = if tb = true then 1 else 0 := ⟨_, rfl⟩
  have HBN : Hid ((bn = 0 ∨ bn = 1) ∧ Expr.boolV tb = Expr.leafV 10 bn) := by
   refine ⟨by rw [hbn]; cases tb <;> simp, by rw [hbn]; rfl⟩
  rw [← hbn] at CB1
  clear hbn
  go_wp2_with fail
  refine CB1.out.mono ?_
  rintro e w4 ⟨rfl, hb4⟩
  have HB4 := Lib.hid (HB2.out.keep (hb3.trans (hb4.mono hb3.size)))
  have HEND := Lib.hid (below_six HB4.out.below (by omega : w.heap.size ≤ w.heap.size + 1 + 1) (.int .i64 10) (.int .i64 bn) (.string ⟨#[]⟩) (.slice none 0 0) (.slice none 0 0) (.slice none 0 0))
  obtain ⟨r0, r1, r2, r3, r4, r5⟩ := HB4.out.res.cells
  obtain ⟨q0, q1, q2, q3, q4, q5⟩ := HB4.out.res.thaw
  clear hb3 hb4 CK CB1
  go_wp2_with fail
  exact bodyPost_ret (v := .tuple #[.agg #[.int .i64 10, .int .i64 bn, .string ⟨#[]⟩, .slice none 0 0, .slice none 0 0, .slice none 0 0], .int .i64 0]) (by simp [results, Tryz.results120, go_sem, *]) rfl ⟨_, by rw [HRE.out], by rw [HRE.out, ← HTB.out, HBN.out.2]; exact leafV_in _ _ 10 bn (by omega) (by have := HBN.out.1; omega) _, HEND.out⟩
 ·have hpr : p2 = r.1 := by
   obtain ⟨e1, e2⟩ := HP.out
   unfold PlaceR at e2
   rw [if_neg hz] at e2
   exact e2
  subst hpr
  have hz2 : (r.1 == 0) = false := by rw [beq_eq_false_iff_ne]; exact hz
  have hre : res = (r.1, Bson.zero) := by rw [HRES.out, if_neg hz]; rfl
  have HRE := Lib.hid hre
  have HEND := Lib.hid (below_six HB2.out.below (by omega : w.heap.size ≤ w.heap.size + 1 + 1) (.int .i64 0) (.int .i64 0) (.string { data := #[] }) (.slice none 0 0) (.slice none 0 0) (.slice none 0 0))
  obtain ⟨r0, r1, r2, r3, r4, r5⟩ := HB2.out.res.cells
  obtain ⟨q0, q1, q2, q3, q4, q5⟩ := HB2.out.res.thaw
  clear hre hz
  go_wp2_with fail
  exact bodyPost_ret (v := .tuple #[.agg #[.int .i64 0, .int .i64 0, .string { data := #[] }, .slice none 0 0, .slice none 0 0, .slice none 0 0], .int .i64 r.1]) (by simp [results, Tryz.results120, go_sem, *]) rfl ⟨_, by rw [HRE.out], by rw [HRE.out]; exact (zero_in _ _).up (by omega), HEND.out⟩
end Go.Proofs.YtiajjgehnmkokaaGreatDoor
end
section
namespace Go.Proofs.YtiajjgehnmkokaaGreatDoor
open Go.RowKit
open Seal
open Bson (Val)
theorem Expr.decideO_skip (b : Bool) : ∀ (l : List Expr.Out) (k : Nat), (∀ j (hj : j < l.length), j < k → (l[j]).1 = 0 ∧ Expr.truth (l[j]).2 ≠ b) → Expr.decideO b l = Expr.decideO b (l.drop k)
 | _, 0, _ => rfl
 | [], _ + 1, _ => by simp
 | x :: r, k + 1, h => by
  obtain ⟨h1, h2⟩ := h 0 (by simp) (by omega)
  have h1' : x.1 = 0 := h1
  have h2' : ¬ Expr.truth x.2 = b := h2
  rw [Expr.decideO, if_pos h1', if_neg h2', List.drop_succ_cons]
  exact Expr.decideO_skip b r k fun j hj hk => h (j + 1) (by simpa using hj) (by omega)
theorem decide_any (H hd : Nat) (K0 : FuncId) (b : Bool) (a : Option Addr) (n c : Nat) (fs : List (Nat → Val → Expr.Out)) (Q : Nat → Prop) (d : Val) (dv : Value) (w : World) (hn : fs.length = n) (hlim : n ≤ 3000) (hT : TermsIn w a H fs) (hd0 : VIn w Q (hd + 1) d dv) :
  Calls Tryz.prog 128 #[.agg #[.func (.func K0) #[] #[], .slice a n c], dv, .bool b] w (EvPost w (H + hd + 1) (Expr.decideO b (outsOf fs hd d))) := by
 obtain ⟨dk, dn, ds, da, df, dl, ba, bc, fa, fc, la, lc, rfl⟩ := hd0.shape
 obtain ⟨W0, hW0⟩ : ∃ W0, W0 = ((w.alloc (.cells #[(.func (.func K0) #[] #[]), .slice a n c] 126)).alloc (.cells #[.int .i64 dk, .int .i64 dn, .string ds, .slice da ba bc, .slice df fa fc, .slice dl la lc] 26)).alloc (.cells #[.int .i64 0, .int .i64 0, .string { data := #[] }, .slice none 0 0, .slice none 0 0, .slice none 0 0] 26) := ⟨_, rfl⟩
 have HB := Lib.hid (CB.new w (.func (.func K0) #[] #[]) a n c (.int .i64 dk) (.int .i64 dn) (.string ds) (.slice da ba bc) (.slice df fa fc) (.slice dl la lc) W0 hW0)
 have HW0 := Lib.hid hW0
 have c0 : W0.cell? ⟨w.heap.size, 0, none⟩ = some (.func (.func K0) #[] #[]) := (cell_of_row W0 _ 0 _ _ _ HB.out.call).trans rfl
 have c1 := HB.out.c1
 obtain ⟨x0, x1, x2, x3, x4, x5⟩ := HB.out.doc.cells
 have HT := Lib.hid hT
 have HD := Lib.hid hd0
 have HN := Lib.hid hn
 have HBO := Lib.hid (fun (b : Bool) (w : World) => boolean_any b w)
 obtain ⟨res, hres⟩ : ∃ z, z = Expr.decideO b (outsOf fs hd d) := ⟨_, rfl⟩
 rw [← hres]
 have HRES := Lib.hid hres
 clear hT hd0 hn hres hW0
 go_enter Tryz.func128, Tryz.ntmps128
 go_upto_region 1 with fail
 rw [← HW0.out]
 go_wp2_with fail
 clear c0 c1 x0 x1 x2 x3 x4 x5
 go_loopw [15] (fun i wr => ∃ (k : Nat), k ≤ n ∧ i = .int .i64 k ∧ Hid (∀ j (hj : j < fs.length), j < k → (fs[j] hd d).1 = 0 ∧ Expr.truth (fs[j] hd d).2 ≠ b) ∧ Hid (CB w wr (.func (.func K0) #[] #[]) a n c (.int .i64 dk) (.int .i64 dn) (.string ds) (.slice da ba bc) (.slice df fa fc) (.slice dl la lc))) (fun i _ => n - (intOf i).toNat)
 case atStart => exact ⟨0, Nat.zero_le _, rfl, fun _ _ h => absurd h (Nat.not_lt_zero _), HB.out⟩
 case round =>
  obtain ⟨k, hk, rfl, HOK, HBw⟩ := hrel
  have hskip : res = Expr.decideO b ((outsOf fs hd d).drop k) := by
   rw [HRES.out]
   exact Expr.decideO_skip b _ k fun j hj hjk => by
    rw [outsOf_length] at hj
    rw [outsOf_get fs hd d j hj]; exact HOK.out j hj hjk
  have HSK := Lib.hid hskip
  clear hskip
  by_cases hlt : k < n
  ·have hkf : k < fs.length := by rw [HN.out]; exact hlt
   obtain ⟨g, o, t, rfl, hct, T, K, rv, rfl, hm, hme, hcall⟩ := HT.out.at k hkf
   have hct := cell_keep HBw.out.below hct
   obtain ⟨x0, x1, x2, x3, x4, x5⟩ := HBw.out.doc.cells
   have CK := Lib.hid (hcall wr HBw.out.below Q hd d _ (VIn.keep HBw.out.below HD.out))
   obtain ⟨ou, hou⟩ : ∃ z, z = fs[k] hd d := ⟨_, rfl⟩
   rw [← hou] at CK
   have hsk2 : res = Expr.decideO b (ou :: (outsOf fs hd d).drop (k + 1)) := by
    rw [HSK.out, List.drop_eq_getElem_cons (by rw [outsOf_length]; exact hkf), outsOf_get fs hd d k hkf, ← hou]
   have HS2 := Lib.hid hsk2
   have HOU := Lib.hid hou
   clear hcall hou hsk2
   go_wp2_with fail
   refine CK.out.mono ?_
   rintro e w2 ⟨v2, rfl, hv2, hb2⟩
   obtain ⟨k9, m9, s9, b1, f1, l1, b2, b3, f2, f3, l2, l3, rfl⟩ := hv2.shape
   have hb3 : Below w2.heap.size w2 (w2.alloc (.cells #[.int .i64 k9, .int .i64 m9, .string s9, .slice b1 b2 b3, .slice f1 f2 f3, .slice l1 l2 l3] 26)) := (Below.refl _ _).alloc (Nat.le_refl _) _
   have HB3 := Lib.hid ((HBw.out.keep hb2).keep hb3)
   have HX3 := Lib.hid (IsBox.new w2 (.int .i64 k9) (.int .i64 m9) (.string s9) (.slice b1 b2 b3) (.slice f1 f2 f3) (.slice l1 l2 l3))
   have htop := hv2.top
   have HTOP := Lib.hid (And.intro htop.1 htop.2.1)
   clear hv2 hb2 hb3 CK x0 x1 x2 x3 x4 x5 hm hme hct htop
   by_cases hz : ou.1 = 0
   ·rw [hz]
    obtain ⟨z0, z1, z2, z3, z4, z5⟩ := HX3.out.cells
    obtain ⟨W3, hW3⟩ : ∃ W3, W3 = w2.alloc (.cells #[.int .i64 k9, .int .i64 m9, .string s9, .slice b1 b2 b3, .slice f1 f2 f3, .slice l1 l2 l3] 26) := ⟨_, rfl⟩
    have CT := Lib.hid (true_any k9 m9 (.string s9) (.slice b1 b2 b3) (.slice f1 f2 f3) (.slice l1 l2 l3) (w2.alloc (.cells #[.int .i64 k9, .int .i64 m9, .string s9, .slice b1 b2 b3, .slice f1 f2 f3, .slice l1 l2 l3] 26)))
    obtain ⟨tb, htb⟩ : ∃ z, z = truthK k9 m9 := ⟨_, rfl⟩
    rw [← htb] at CT
    have HTB : Hid (tb = Expr.truth ou.2) := by show _ = _; rw [htb, HTOP.out.1, HTOP.out.2]; rfl
    have HZ := Lib.hid hz
    clear htb hz hW3
    go_wp2_with fail
    clear z0 z1 z2 z3 z4 z5
    refine CT.out.mono ?_
    rintro e w4 ⟨rfl, hb4⟩
    have HB4 := Lib.hid (HB3.out.keep hb4)
    clear hb4 CT HX3 HB3
    by_cases hbt : tb = b
    ·subst hbt
     have hre : res = (0, Expr.boolV tb) := by rw [HS2.out, Expr.decideO, if_pos HZ.out, if_pos HTB.out.symm]
     have HRE := Lib.hid hre
     have hbb : (tb == tb) = true := by simp
     clear hre
     have CB1 := Lib.hid (HBO.out tb w4)
     obtain ⟨bn, hbn⟩ : ∃ z : Int, z = if tb = true then 1 else 0 := ⟨_, rfl⟩
     have HBN : Hid ((bn = 0 ∨ bn = 1) ∧ Expr.boolV (tb) = Expr.leafV 10 bn) := by
      refine ⟨by rw [hbn]; cases tb <;> simp, by rw [hbn]; rfl⟩
     rw [← hbn] at CB1
     clear hbn
     go_wp2_with fail
     refine CB1.out.mono ?_
     rintro e w5 ⟨rfl, hb5⟩
     have HB5 := Lib.hid (HB4.out.keep hb5)
     have HEND := Lib.hid (below_six HB5.out.below (by omega : w.heap.size ≤ w.heap.size + 1 + 1) (.int .i64 10) (.int .i64 bn) (.string ⟨#[]⟩) (.slice none 0 0) (.slice none 0 0) (.slice none 0 0))
     obtain ⟨r0, r1, r2, r3, r4, r5⟩ := HB5.out.res.cells
     obtain ⟨q0, q1, q2, q3, q4, q5⟩ := HB5.out.res.thaw
     clear hb5 CB1
     go_wp2_with fail
     exact bodyPost_ret (v := .tuple #[.agg #[.int .i64 10, .int .i64 bn, .string ⟨#[]⟩, .slice none 0 0, .slice none 0 0, .slice none 0 0], .int .i64 0]) (by simp [results, Tryz.results128, go_sem, *]) rfl ⟨_, by rw [HRE.out], by rw [HRE.out, HBN.out.2]; exact leafV_in _ _ 10 bn (by omega) (by have := HBN.out.1; omega) _, HEND.out⟩
    ·have hbb : (tb == b) = false := by rw [beq_eq_false_iff_ne]; exact hbt
     have HOK2 : Hid (∀ j (hj : j < fs.length), j < k + 1 → (fs[j] hd d).1 = 0 ∧ Expr.truth (fs[j] hd d).2 ≠ b) := fun j hj hjk => by
      by_cases e : j = k
      ·subst e; rw [← HOU.out]; exact ⟨HZ.out, by rw [← HTB.out]; exact hbt⟩
      ·exact HOK.out j hj (by omega)
     clear hbt
     go_wp2_with fail
     go_roundw
     case rel => exact ⟨k + 1, by omega, by go_num, HOK2.out, HB4.out⟩
     case measure => simp [intOf]; omega
   ·have hz2 : (ou.1 == 0) = false := by rw [beq_eq_false_iff_ne]; exact hz
    have hre : res = (ou.1, Bson.zero) := by rw [HS2.out, Expr.decideO, if_neg hz]; rfl
    have HRE := Lib.hid hre
    have HEND := Lib.hid (below_six HB3.out.below (by omega : w.heap.size ≤ w.heap.size + 1 + 1) (.int .i64 0) (.int .i64 0) (.string { data := #[] }) (.slice none 0 0) (.slice none 0 0) (.slice none 0 0))
    obtain ⟨r0, r1, r2, r3, r4, r5⟩ := HB3.out.res.cells
    obtain ⟨q0, q1, q2, q3, q4, q5⟩ := HB3.out.res.thaw
    clear hre hz
    go_wp2_with fail
    exact bodyPost_ret (v := .tuple #[.agg #[.int .i64 0, .int .i64 0, .string { data := #[] }, .slice none 0 0, .slice none 0 0, .slice none 0 0], .int .i64 ou.1]) (by simp [results, Tryz.results128, go_sem, *]) rfl ⟨_, by rw [HRE.out], by rw [HRE.out]; exact (zero_in _ _).up (by omega), HEND.out⟩
  ·obtain rfl : k = n := by omega
   have hre : res = (0, Expr.boolV (!b)) := by
    rw [HSK.out, List.drop_eq_nil_of_le (by rw [outsOf_length, HN.out]; exact Nat.le_refl _)]; rfl
   have HRE := Lib.hid hre
   obtain ⟨w4, hw4⟩ : ∃ z, z = wr := ⟨_, rfl⟩
   subst hw4
   have HB4 := HBw
   clear hre
   have CB1 := Lib.hid (HBO.out (!b) w4)
   obtain ⟨bn, hbn⟩ : ∃ z : Int, z = if (!b) = true then 1 else 0 := ⟨_, rfl⟩
   have HBN : Hid ((bn = 0 ∨ bn = 1) ∧ Expr.boolV ((!b)) = Expr.leafV 10 bn) := by
    refine ⟨by rw [hbn]; cases b <;> simp, by rw [hbn]; rfl⟩
   rw [← hbn] at CB1
   clear hbn
   go_wp2_with fail
   refine CB1.out.mono ?_
   rintro e w5 ⟨rfl, hb5⟩
   have HB5 := Lib.hid (HB4.out.keep hb5)
   have HEND := Lib.hid (below_six HB5.out.below (by omega : w.heap.size ≤ w.heap.size + 1 + 1) (.int .i64 10) (.int .i64 bn) (.string ⟨#[]⟩) (.slice none 0 0) (.slice none 0 0) (.slice none 0 0))
   obtain ⟨r0, r1, r2, r3, r4, r5⟩ := HB5.out.res.cells
   obtain ⟨q0, q1, q2, q3, q4, q5⟩ := HB5.out.res.thaw
   clear hb5 CB1
   go_wp2_with fail
   exact bodyPost_ret (v := .tuple #[.agg #[.int .i64 10, .int .i64 bn, .string ⟨#[]⟩, .slice none 0 0, .slice none 0 0, .slice none 0 0], .int .i64 0]) (by simp [results, Tryz.results128, go_sem, *]) rfl ⟨_, by rw [HRE.out], by rw [HRE.out, HBN.out.2]; exact leafV_in _ _ 10 bn (by omega) (by have := HBN.out.1; omega) _, HEND.out⟩
theorem op_and_any (H hd C : Nat) (a : Option Addr) (n c : Nat) (fs : List (Nat → Val → Expr.Out)) (Q : Nat → Prop) (d : Val) (dv : Value) (w : World) (hn : fs.length = n) (hlim : n ≤ 3000) (hT : TermsIn w a H fs) (hd0 : VIn w Q (hd + 1) d dv) :
  Calls Tryz.prog 99 #[.agg #[.func (.func 99) #[] #[], .slice a n c], dv] w (EvPost w (H + hd + 2) (Expr.apply (C + hd) .and_ (outsOf fs hd d))) := by
 obtain ⟨dk, dn, ds, da, df, dl, ba, bc, fa, fc, la, lc, rfl⟩ := hd0.shape
 obtain ⟨W0, hW0⟩ : ∃ W0, W0 = ((w.alloc (.cells #[(.func (.func 99) #[] #[]), .slice a n c] 126)).alloc (.cells #[.int .i64 dk, .int .i64 dn, .string ds, .slice da ba bc, .slice df fa fc, .slice dl la lc] 26)).alloc (.cells #[.int .i64 0, .int .i64 0, .string { data := #[] }, .slice none 0 0, .slice none 0 0, .slice none 0 0] 26) := ⟨_, rfl⟩
 have HB := Lib.hid (CB.new w (.func (.func 99) #[] #[]) a n c (.int .i64 dk) (.int .i64 dn) (.string ds) (.slice da ba bc) (.slice df fa fc) (.slice dl la lc) W0 hW0)
 have HW0 := Lib.hid hW0
 have c0 : W0.cell? ⟨w.heap.size, 0, none⟩ = some (.func (.func 99) #[] #[]) := (cell_of_row W0 _ 0 _ _ _ HB.out.call).trans rfl
 have c1 := HB.out.c1
 obtain ⟨x0, x1, x2, x3, x4, x5⟩ := HB.out.doc.cells
 have CP := Lib.hid (decide_any H hd 99 false a n c fs Q d _ W0 hn hlim (hT.keep HB.out.below) (VIn.keep HB.out.below hd0))
 obtain ⟨res, hres⟩ : ∃ z, z = Expr.apply (C + hd) .and_ (outsOf fs hd d) := ⟨_, rfl⟩
 rw [← Expr.apply_and_ (C + hd), ← hres] at CP
 rw [← hres]
 clear hT hd0 hn hlim hres hW0
 go_enter Tryz.func99, Tryz.ntmps99
 go_upto_region 1 with fail
 rw [← HW0.out]
 go_wp2_with fail
 clear c0 c1 x0 x1 x2 x3 x4 x5
 refine CP.out.mono ?_
 rintro e w2 ⟨v2, rfl, hv2, hb2⟩
 obtain ⟨k, m, s, b1, f1, l1, b2, b3, f2, f3, l2, l3, rfl⟩ := hv2.shape
 have HB2 := Lib.hid (HB.out.keep hb2)
 have HEND : Hid (VIn (puts w2 (w.heap.size + 1 + 1) 0 [.int .i64 k, .int .i64 m, .string s, .slice b1 b2 b3, .slice f1 f2 f3, .slice l1 l2 l3]) (fun g => w.heap.size ≤ g) (H + hd + 2) res.2 (.agg #[.int .i64 k, .int .i64 m, .string s, .slice b1 b2 b3, .slice f1 f2 f3, .slice l1 l2 l3]) ∧ Below w.heap.size w (puts w2 (w.heap.size + 1 + 1) 0 [.int .i64 k, .int .i64 m, .string s, .slice b1 b2 b3, .slice f1 f2 f3, .slice l1 l2 l3])) :=
  ⟨(hv2.kept (puts_kept (fun g => W0.heap.size ≤ g) (by have := HB.out.size; omega) _ _) (fun g hg => by have := HB.out.size; omega)).up (by omega), puts_below HB2.out.below (by omega) _ _⟩
 obtain ⟨r0, r1, r2, r3, r4, r5⟩ := HB2.out.res.cells
 obtain ⟨q0, q1, q2, q3, q4, q5⟩ := HB2.out.res.thaw
 clear hv2 hb2 CP
 go_wp2_with fail
 exact bodyPost_ret (v := .tuple #[.agg #[.int .i64 k, .int .i64 m, .string s, .slice b1 b2 b3, .slice f1 f2 f3, .slice l1 l2 l3], .int .i64 res.1]) (by simp [results, Tryz.results99, go_sem, *]) rfl ⟨_, rfl, HEND.out.1, HEND.out.2⟩
theorem op_or_any (H hd C : Nat) (a : Option Addr) (n c : Nat) (fs : List (Nat → Val → Expr.Out)) (Q : Nat → Prop) (d : Val) (dv : Value) (w : World) (hn : fs.length = n) (hlim : n ≤ 3000) (hT : TermsIn w a H fs) (hd0 : VIn w Q (hd + 1) d dv) :
  Calls Tryz.prog 100 #[.agg #[.func (.func 100) #[] #[], .slice a n c], dv] w (EvPost w (H + hd + 2) (Expr.apply (C + hd) .or_ (outsOf fs hd d))) := by
 obtain ⟨dk, dn, ds, da, df, dl, ba, bc, fa, fc, la, lc, rfl⟩ := hd0.shape
 obtain ⟨W0, hW0⟩ : ∃ W0, W0 = ((w.alloc (.cells #[(.func (.func 100) #[] #[]), .slice a n c] 126)).alloc (.cells #[.int .i64 dk, .int .i64 dn, .string ds, .slice da ba bc, .slice df fa fc, .slice dl la lc] 26)).alloc (.cells #[.int .i64 0, .int .i64 0, .string { data := #[] }, .slice none 0 0, .slice none 0 0, .slice none 0 0] 26) := ⟨_, rfl⟩
 have HB := Lib.hid (CB.new w (.func (.func 100) #[] #[]) a n c (.int .i64 dk) (.int .i64 dn) (.string ds) (.slice da ba bc) (.slice df fa fc) (.slice dl la lc) W0 hW0)
 have HW0 := Lib.hid hW0
 have c0 : W0.cell? ⟨w.heap.size, 0, none⟩ = some (.func (.func 100) #[] #[]) := (cell_of_row W0 _ 0 _ _ _ HB.out.call).trans rfl
 have c1 := HB.out.c1
 obtain ⟨x0, x1, x2, x3, x4, x5⟩ := HB.out.doc.cells
 have CP := Lib.hid (decide_any H hd 100 true a n c fs Q d _ W0 hn hlim (hT.keep HB.out.below) (VIn.keep HB.out.below hd0))
 obtain ⟨res, hres⟩ : ∃ z, z = Expr.apply (C + hd) .or_ (outsOf fs hd d) := ⟨_, rfl⟩
 rw [← Expr.apply_or_ (C + hd), ← hres] at CP
 rw [← hres]
 clear hT hd0 hn hlim hres hW0
 go_enter Tryz.func100, Tryz.ntmps100
 go_upto_region 1 with fail
 rw [← HW0.out]
 go_wp2_with fail
 clear c0 c1 x0 x1 x2 x3 x4 x5
 refine CP.out.mono ?_
 rintro e w2 ⟨v2, rfl, hv2, hb2⟩
 obtain ⟨k, m, s, b1, f1, l1, b2, b3, f2, f3, l2, l3, rfl⟩ := hv2.shape
 have HB2 := Lib.hid (HB.out.keep hb2)
 have HEND : Hid (VIn (puts w2 (w.heap.size + 1 + 1) 0 [.int .i64 k, .int .i64 m, .string s, .slice b1 b2 b3, .slice f1 f2 f3, .slice l1 l2 l3]) (fun g => w.heap.size ≤ g) (H + hd + 2) res.2 (.agg #[.int .i64 k, .int .i64 m, .string s, .slice b1 b2 b3, .slice f1 f2 f3, .slice l1 l2 l3]) ∧ Below w.heap.size w (puts w2 (w.heap.size + 1 + 1) 0 [.int .i64 k, .int .i64 m, .string s, .slice b1 b2 b3, .slice f1 f2 f3, .slice l1 l2 l3])) :=
  ⟨(hv2.kept (puts_kept (fun g => W0.heap.size ≤ g) (by have := HB.out.size; omega) _ _) (fun g hg => by have := HB.out.size; omega)).up (by omega), puts_below HB2.out.below (by omega) _ _⟩
 obtain ⟨r0, r1, r2, r3, r4, r5⟩ := HB2.out.res.cells
 obtain ⟨q0, q1, q2, q3, q4, q5⟩ := HB2.out.res.thaw
 clear hv2 hb2 CP
 go_wp2_with fail
 exact bodyPost_ret (v := .tuple #[.agg #[.int .i64 k, .int .i64 m, .string s, .slice b1 b2 b3, .slice f1 f2 f3, .slice l1 l2 l3], .int .i64 res.1]) (by simp [results, Tryz.results100, go_sem, *]) rfl ⟨_, rfl, HEND.out.1, HEND.out.2⟩
end Go.Proofs.YtiajjgehnmkokaaGreatDoor
end
section
namespace Go.Proofs.YtiajjgehnmkokaaGreatDoor
open Go.RowKit
open Seal
open Bson (Val)
def RkR (o : Int → Int → Int × Int) (r : Int × List Val) : Int × Int × Int := if r.1 = 0 then Num.reck (o (r.2.getD 0 Bson.zero).n (r.2.getD 1 Bson.zero).n) (r.2.getD 0 Bson.zero).kind (r.2.getD 1 Bson.zero).kind else (0, 0, r.1)
theorem six_old {w2 W : World} {r g p : Nat} {c0 c1 c2 c3 c4 c5 : Value} (h : SixAt w2 g p (.agg #[c0, c1, c2, c3, c4, c5])) (hold : ∀ g, g < w2.heap.size → g ≠ r → W.heap[g]? = w2.heap[g]?) (hg : g < w2.heap.size) (hne : g ≠ r) :
  W.cell? ⟨g, p, none⟩ = some c0 ∧ W.cell? ⟨g, p + 1, none⟩ = some c1 ∧ W.cell? ⟨g, p + 2, none⟩ = some c2 ∧ W.cell? ⟨g, p + 3, none⟩ = some c3 ∧ W.cell? ⟨g, p + 4, none⟩ = some c4 ∧ W.cell? ⟨g, p + 5, none⟩ = some c5 := by
 obtain ⟨s0, s1, s2, s3, s4, s5⟩ := h.cells
 have k := fun q => World.cell?_of_block (w := w2) (w' := W) (a := ⟨g, q, none⟩) (hold g hg hne)
 exact ⟨(k _).trans s0, (k _).trans s1, (k _).trans s2, (k _).trans s3, (k _).trans s4, (k _).trans s5⟩
theorem reckon_two (H hd : Nat) (K Kf : FuncId) (op : Int → Int → Int × Int) (hKf : ∀ (ak an bk bn : Int) (p2 p3 p4 p5 q2 q3 q4 q5 : Value) (u : World), Num.In an → Num.In bn → Calls Tryz.prog Kf #[.agg #[.int .i64 ak, .int .i64 an, p2, p3, p4, p5], .agg #[.int .i64 bk, .int .i64 bn, q2, q3, q4, q5]] u (ValE (Num.reck (op an bn) ak bk) u)) (hke : ∀ args (u : World), (callFunc Kf args).run Tryz.prog u = .ok (.enter Kf args) u) (hop : ∀ a b, Num.In a → Num.In b → (op a b).2 = 0 → Num.In (op a b).1)
  (a : Option Addr) (n c : Nat) (fs : List (Nat → Val → Expr.Out)) (Q : Nat → Prop) (d : Val) (dv : Value) (w : World) (hn : fs.length = n) (h2 : n = 2) (hT : TermsIn w a H fs) (hd0 : VIn w Q (hd + 1) d dv) :
  Calls Tryz.prog 115 #[.agg #[.func (.func K) #[] #[], .slice a n c], dv, .func (.func Kf) #[] #[]] w fun e w' => ValE (RkR op (Expr.allO (outsOf fs hd d))) w e w' ∧ Num.In (RkR op (Expr.allO (outsOf fs hd d))).1 ∧ Num.In (RkR op (Expr.allO (outsOf fs hd d))).2.1 := by
 obtain ⟨dk, dn, ds, da, df, dl, ba, bc, fa, fc, la, lc, rfl⟩ := hd0.shape
 obtain ⟨W0, hW0⟩ : ∃ W0, W0 = ((w.alloc (.cells #[(.func (.func K) #[] #[]), .slice a n c] 126)).alloc (.cells #[.int .i64 dk, .int .i64 dn, .string ds, .slice da ba bc, .slice df fa fc, .slice dl la lc] 26)).alloc (.cells #[.int .i64 0, .int .i64 0, .string { data := #[] }, .slice none 0 0, .slice none 0 0, .slice none 0 0] 26) := ⟨_, rfl⟩
 have HB := Lib.hid (CB.new w (.func (.func K) #[] #[]) a n c (.int .i64 dk) (.int .i64 dn) (.string ds) (.slice da ba bc) (.slice df fa fc) (.slice dl la lc) W0 hW0)
 have HW0 := Lib.hid hW0
 have c0 : W0.cell? ⟨w.heap.size, 0, none⟩ = some (.func (.func K) #[] #[]) := (cell_of_row W0 _ 0 _ _ _ HB.out.call).trans rfl
 have c1 := HB.out.c1
 obtain ⟨x0, x1, x2, x3, x4, x5⟩ := HB.out.doc.cells
 have CA := Lib.hid (evalAll_any H hd a n c fs Q d _ W0 hn (by omega) (hT.keep HB.out.below) (VIn.keep HB.out.below hd0))
 obtain ⟨r, hr⟩ : ∃ r, r = Expr.allO (outsOf fs hd d) := ⟨_, rfl⟩
 have hrl : r.1 = 0 → r.2.length = 2 := fun h => by rw [hr] at h ⊢; rw [Expr.allO_len h, outsOf_length, hn, h2]
 rw [← hr] at CA ⊢
 have HRL := Lib.hid hrl
 obtain ⟨res, hres⟩ : ∃ z, z = RkR op r := ⟨_, rfl⟩
 rw [← hres]
 have HRES0 := Lib.hid hres
 clear hT hd0 hn h2 hr hrl hres hW0
 go_enter Tryz.func115, Tryz.ntmps115
 go_upto_region 1 with fail
 rw [← HW0.out]
 go_wp2_with fail
 clear c0 c1 x0 x1 x2 x3 x4 x5
 refine CA.out.mono ?_
 rintro e w2 ⟨v2, rfl, hA, hN, hb2⟩
 have HB2 := Lib.hid (HB.out.keep hb2)
 by_cases hz : r.1 = 0
 ·obtain ⟨xs, hA⟩ := hA hz
  have hl2 := HRL.out hz
  have hbase := fun g (hg : v2.ownBlock = some g) => owns_block hA.own hg
  obtain ⟨a', c', rfl, hc', hit⟩ := hA.items (Q' := fun _ => True) (fun _ _ => trivial) (fun _ _ _ => trivial)
  obtain ⟨g, o, rfl, v0, v1, s0, s1, hv0, hv1⟩ := two_of hit hl2
  have hg := hbase g rfl
  rw [hl2]
  obtain ⟨k0, n0, t0, b0, f0, l0, bb0, bc0, fb0, fc0, lb0, lc0, rfl⟩ := hv0.shape
  obtain ⟨k1, n1, t1, b1, f1, l1, bb1, bc1, fb1, fc1, lb1, lc1, rfl⟩ := hv1.shape
  obtain ⟨p1, p2, -, -, pL⟩ := hv0.top
  obtain ⟨u1, u2, -, -, uL⟩ := hv1.top
  obtain ⟨rr, hrr⟩ : ∃ z, z = Num.reck (op n0 n1) k0 k1 := ⟨_, rfl⟩
  have hKF : ∀ u, Calls Tryz.prog Kf #[.agg #[.int .i64 k0, .int .i64 n0, .string t0, .slice b0 bb0 bc0, .slice f0 fb0 fc0, .slice l0 lb0 lc0], .agg #[.int .i64 k1, .int .i64 n1, .string t1, .slice b1 bb1 bc1, .slice f1 fb1 fc1, .slice l1 lb1 lc1]] u (ValE (Num.reck (op n0 n1) k0 k1) u) := fun u => hKf k0 n0 k1 n1 _ _ _ _ _ _ _ _ u (by rw [p2]; exact ⟨pL.n0, pL.n1⟩) (by rw [u2]; exact ⟨uL.n0, uL.n1⟩)
  rw [← hrr] at hKF
  have hre : res = rr := by rw [HRES0.out, hrr, p1, p2, u1, u2]; unfold RkR; rw [if_pos hz]
  have hin : Num.In rr.1 ∧ Num.In rr.2.1 := by rw [hrr]; exact reck_in _ _ _ (hop n0 n1 (by rw [p2]; exact ⟨pL.n0, pL.n1⟩) (by rw [u2]; exact ⟨uL.n0, uL.n1⟩))
  obtain ⟨rk, rn, re⟩ := rr
  have HIN : Hid (Num.In res.1 ∧ Num.In res.2.1) := by rw [hre]; exact hin
  have HKF := Lib.hid hKF
  have HRES := Lib.hid hre
  have HS0 := Lib.hid s0
  have HS1 := Lib.hid s1
  have HG : Hid (g < w2.heap.size ∧ g ≠ w.heap.size + 1 + 1) := ⟨hg.2, by have := hg.1; have := HB.out.size; omega⟩
  rw [hz]
  clear hA hN hb2 hc' hit hl2 hv0 hv1 s0 s1 hz hre hrr hKF hin p1 p2 pL u1 u2 uL hbase hg hKf
  go_upto_region 4 with fail
  refine wp_region_inv0 (fun V => { tmps := #[Value.agg #[Value.func (Fn.func K) #[] #[], Value.slice a n c], Value.agg #[Value.int IntKind.i64 dk, Value.int IntKind.i64 dn, Value.string ds, Value.slice da ba bc, Value.slice df fa fc, Value.slice dl la lc], Value.func (Fn.func Kf) #[] #[], Value.pointer (some ⟨w.heap.size, 0, none⟩), Value.pointer (some ⟨w.heap.size + 1, 0, none⟩), undef, Value.pointer (some ⟨w.heap.size + 1 + 1, 0, none⟩), V 11, Value.slice (some ⟨g, o, none⟩) 2 c', Value.int IntKind.i64 0, Value.tuple #[Value.slice (some ⟨g, o, none⟩) 2 c', Value.int IntKind.i64 0], Value.pointer (some ⟨w.heap.size, 1, none⟩), Value.slice a n c, Value.agg #[Value.int IntKind.i64 dk, Value.int IntKind.i64 dn, Value.string ds, Value.slice da ba bc, Value.slice df fa fc, Value.slice dl la lc], Value.tuple #[Value.slice (some ⟨g, o, none⟩) 2 c', Value.int IntKind.i64 0], Value.slice (some ⟨g, o, none⟩) 2 c', Value.int IntKind.i64 0, Value.int IntKind.i64 0, Value.bool false, undef, undef, V 0, V 1, V 2, V 3, V 4, V 5, V 6, V 7, V 8, V 9], defers := [] }) (RJ w w2 [.func (.func Kf) #[] #[], .slice (some ⟨g, o, none⟩) 2 c', .pointer (some ⟨g, o, none⟩), .agg #[.int .i64 k0, .int .i64 n0, .string t0, .slice b0 bb0 bc0, .slice f0 fb0 fc0, .slice l0 lb0 lc0], .slice (some ⟨g, o, none⟩) 2 c', .pointer (some ⟨g, o + 6, none⟩), .agg #[.int .i64 k1, .int .i64 n1, .string t1, .slice b1 bb1 bc1, .slice f1 fb1 fc1, .slice l1 lb1 lc1], .tuple #[.agg #[.int .i64 rk, .int .i64 rn, .string ⟨#[]⟩, .slice none 0 0, .slice none 0 0, .slice none 0 0], .int .i64 re], .agg #[.int .i64 rk, .int .i64 rn, .string ⟨#[]⟩, .slice none 0 0, .slice none 0 0, .slice none 0 0], .int .i64 re, undef, .int .i64 re] (w.heap.size + 1 + 1) #[.int .i64 rk, .int .i64 rn, .string ⟨#[]⟩, .slice none 0 0, .slice none 0 0, .slice none 0 0] 10) (by kernel_rfl) (by kernel_rfl) (by kernel_rfl) (fun V => by kernel_rfl) ?_ (RJ.start HB2.out.below) ?_
  ·refine ⟨?_, ?_⟩
   ·refine inv_free rfl (fun D9 V w5 hDi hpre hI K hK => ?_)
    go_simp
    exact put_is (by kernel_rfl) (hK.out (.func (.func Kf) #[] #[]) w5 (hI.pure (by decide) (by have := HB2.out.size; omega) rfl))
   refine ⟨?_, ?_⟩
   ·refine inv_free rfl (fun D9 V w5 hDi hpre hI K hK => ?_)
    go_simp
    exact put_is (by kernel_rfl) (hK.out (.slice (some ⟨g, o, none⟩) 2 c') w5 (hI.pure (by decide) (by have := HB2.out.size; omega) rfl))
   refine ⟨?_, ?_⟩
   ·refine inv_free rfl (fun D9 V w5 hDi hpre hI K hK => ?_)
    have h1 : V 1 = .slice (some ⟨g, o, none⟩) 2 c' := hI.1 1 (hpre.out 1 (by kernel_rfl))
    go_simp
    exact put_is (by rw [h1]; kernel_rfl) (hK.out (.pointer (some ⟨g, o, none⟩)) w5 (hI.pure (by decide) (by have := HB2.out.size; omega) rfl))
   refine ⟨?_, ?_⟩
   ·refine inv_free rfl (fun D9 V w5 hDi hpre hI K hK => ?_)
    have h2 : V 2 = .pointer (some ⟨g, o, none⟩) := hI.1 2 (hpre.out 2 (by kernel_rfl))
    obtain ⟨y0, y1, y2, y3, y4, y5⟩ := six_old HS0.out (fun g hg hne => hI.2.2.2.2.2 g hg hne) HG.out.1 HG.out.2
    go_simp
    exact put_is (by rw [h2]; kernel_rfl) (hK.out (.agg #[.int .i64 k0, .int .i64 n0, .string t0, .slice b0 bb0 bc0, .slice f0 fb0 fc0, .slice l0 lb0 lc0]) w5 (hI.pure (by decide) (by have := HB2.out.size; omega) rfl))
   refine ⟨?_, ?_⟩
   ·refine inv_free rfl (fun D9 V w5 hDi hpre hI K hK => ?_)
    go_simp
    exact put_is (by kernel_rfl) (hK.out (.slice (some ⟨g, o, none⟩) 2 c') w5 (hI.pure (by decide) (by have := HB2.out.size; omega) rfl))
   refine ⟨?_, ?_⟩
   ·refine inv_free rfl (fun D9 V w5 hDi hpre hI K hK => ?_)
    have h4 : V 4 = .slice (some ⟨g, o, none⟩) 2 c' := hI.1 4 (hpre.out 4 (by kernel_rfl))
    go_simp
    exact put_is (by rw [h4]; kernel_rfl) (hK.out (.pointer (some ⟨g, o + 6, none⟩)) w5 (hI.pure (by decide) (by have := HB2.out.size; omega) rfl))
   refine ⟨?_, ?_⟩
   ·refine inv_free rfl (fun D9 V w5 hDi hpre hI K hK => ?_)
    have h5 : V 5 = .pointer (some ⟨g, o + 6, none⟩) := hI.1 5 (hpre.out 5 (by kernel_rfl))
    obtain ⟨y0, y1, y2, y3, y4, y5⟩ := six_old HS1.out (fun g hg hne => hI.2.2.2.2.2 g hg hne) HG.out.1 HG.out.2
    go_simp
    exact put_is (by rw [h5]; kernel_rfl) (hK.out (.agg #[.int .i64 k1, .int .i64 n1, .string t1, .slice b1 bb1 bc1, .slice f1 fb1 fc1, .slice l1 lb1 lc1]) w5 (hI.pure (by decide) (by have := HB2.out.size; omega) rfl))
   refine ⟨?_, ?_⟩
   ·refine inv_free rfl (fun D9 V w5 hDi hpre hI K hK => ?_)
    have h0 : V 0 = .func (.func Kf) #[] #[] := hI.1 0 (hpre.out 0 (by kernel_rfl))
    have h3 : V 3 = .agg #[.int .i64 k0, .int .i64 n0, .string t0, .slice b0 bb0 bc0, .slice f0 fb0 fc0, .slice l0 lb0 lc0] := hI.1 3 (hpre.out 3 (by kernel_rfl))
    have h6 : V 6 = .agg #[.int .i64 k1, .int .i64 n1, .string t1, .slice b1 bb1 bc1, .slice f1 fb1 fc1, .slice l1 lb1 lc1] := hI.1 6 (hpre.out 6 (by kernel_rfl))
    go_simp
    refine (HKF.out w5).mono ?_
    rintro e w6 ⟨rfl, hb6⟩
    exact put_is (by rw [h0, h3, h6]; kernel_rfl) (hK.out (.tuple #[.agg #[.int .i64 rk, .int .i64 rn, .string ⟨#[]⟩, .slice none 0 0, .slice none 0 0, .slice none 0 0], .int .i64 re]) w6 (hI.step (by decide) (by have := HB2.out.size; omega) hb6 rfl))
   refine ⟨?_, ?_⟩
   ·refine inv_free rfl (fun D9 V w5 hDi hpre hI K hK => ?_)
    have h7 : V 7 = .tuple #[.agg #[.int .i64 rk, .int .i64 rn, .string ⟨#[]⟩, .slice none 0 0, .slice none 0 0, .slice none 0 0], .int .i64 re] := hI.1 7 (hpre.out 7 (by kernel_rfl))
    go_simp
    exact put_is (by rw [h7]; kernel_rfl) (hK.out (.agg #[.int .i64 rk, .int .i64 rn, .string ⟨#[]⟩, .slice none 0 0, .slice none 0 0, .slice none 0 0]) w5 (hI.pure (by decide) (by have := HB2.out.size; omega) rfl))
   refine ⟨?_, ?_⟩
   ·refine inv_free rfl (fun D9 V w5 hDi hpre hI K hK => ?_)
    have h7 : V 7 = .tuple #[.agg #[.int .i64 rk, .int .i64 rn, .string ⟨#[]⟩, .slice none 0 0, .slice none 0 0, .slice none 0 0], .int .i64 re] := hI.1 7 (hpre.out 7 (by kernel_rfl))
    go_simp
    exact put_is (by rw [h7]; kernel_rfl) (hK.out (.int .i64 re) w5 (hI.pure (by decide) (by have := HB2.out.size; omega) rfl))
   refine ⟨?_, ?_⟩
   ·refine inv_free rfl (fun D9 V w5 hDi hpre hI K hK => ?_)
    have h8 : V 8 = .agg #[.int .i64 rk, .int .i64 rn, .string ⟨#[]⟩, .slice none 0 0, .slice none 0 0, .slice none 0 0] := hI.1 8 (hpre.out 8 (by kernel_rfl))
    obtain ⟨hbx, h10⟩ := hI.store hDi (by have := HB2.out.size; omega) (by omega) (fun W hW => (HB2.out.keep hW).res) rfl
    obtain ⟨z0, z1, z2, z3, z4, z5⟩ := hbx.cells
    obtain ⟨q0, q1, q2, q3, q4, q5⟩ := hbx.thaw
    go_simp
    exact put_is (by rw [h8]; kernel_rfl) (hK.out undef _ h10)
   refine ⟨?_, ?_⟩
   ·refine inv_free rfl (fun D9 V w5 hDi hpre hI K hK => ?_)
    have h9 : V 9 = .int .i64 re := hI.1 9 (hpre.out 9 (by kernel_rfl))
    go_simp
    exact put_is (by rw [h9]; kernel_rfl) (hK.out (.int .i64 re) w5 (hI.pure (by decide) (by have := HB2.out.size; omega) rfl))
   trivial
  intro V0 V w5 hD hI
  have h11 : V 11 = .int .i64 re := hI.1 11 (hD 11 (by decide))
  rw [h11]
  have hbx : IsBox w5 (w.heap.size + 1 + 1) (.int .i64 rk) (.int .i64 rn) (.string ⟨#[]⟩) (.slice none 0 0) (.slice none 0 0) (.slice none 0 0) := hI.2.2.2.1 (hD 10 (by decide))
  obtain ⟨r0, r1, r2, r3, r4, r5⟩ := hbx.cells
  have HEND := Lib.hid hI.2.1
  clear hI hD h11
  go_wp2_with fail
  exact bodyPost_ret (v := .tuple #[.agg #[.int .i64 rk, .int .i64 rn, .string ⟨#[]⟩, .slice none 0 0, .slice none 0 0, .slice none 0 0], .int .i64 re]) (by simp [results, Tryz.results115, go_sem, *]) rfl ⟨⟨by rw [HRES.out], HEND.out⟩, HIN.out⟩
 ·have hz2 : (r.1 == 0) = false := by rw [beq_eq_false_iff_ne]; exact hz
  have hre : res = (0, 0, r.1) := by rw [HRES0.out]; unfold RkR; rw [if_neg hz]
  have HRES := Lib.hid hre
  obtain rfl := hN hz
  have HEND := Lib.hid (below_six HB2.out.below (by omega : w.heap.size ≤ w.heap.size + 1 + 1) (.int .i64 0) (.int .i64 0) (.string { data := #[] }) (.slice none 0 0) (.slice none 0 0) (.slice none 0 0))
  obtain ⟨r0, r1, r2, r3, r4, r5⟩ := HB2.out.res.cells
  obtain ⟨q0, q1, q2, q3, q4, q5⟩ := HB2.out.res.thaw
  clear hA hN hb2 hz hre
  go_wp2_with fail
  exact bodyPost_ret (v := .tuple #[.agg #[.int .i64 0, .int .i64 0, .string { data := #[] }, .slice none 0 0, .slice none 0 0, .slice none 0 0], .int .i64 r.1]) (by simp [results, Tryz.results115, go_sem, *]) rfl ⟨⟨by rw [HRES.out], HEND.out⟩, by rw [HRES.out]; show Num.In 0; unfold Num.In; omega, by rw [HRES.out]; show Num.In 0; unfold Num.In; omega⟩
theorem difR_in {a b : Int} (_ : Num.In a) : (Num.difR a b).2 = 0 → Num.In (Num.difR a b).1 := by
 unfold Num.difR
 split
 ·intro _; assumption
 ·intro e; cases e
theorem quoR_in {a b : Int} (_ : Num.In a) : (Num.quoR a b).2 = 0 → Num.In (Num.quoR a b).1 := by
 unfold Num.quoR
 split
 ·intro e; cases e
 ·split
  ·intro _; assumption
  ·intro e; cases e
theorem remR_in {a b : Int} (ha : Num.In a) : (Num.remR a b).2 = 0 → Num.In (Num.remR a b).1 := by
 unfold Num.remR
 split
 ·intro e; cases e
 ·intro _; exact Num.tmod_in ha
theorem op_subtract_any (H hd C : Nat) (a : Option Addr) (n c : Nat) (fs : List (Nat → Val → Expr.Out)) (Q : Nat → Prop) (d : Val) (dv : Value) (w : World) (hn : fs.length = n) (h2 : n = 2) (hT : TermsIn w a H fs) (hd0 : VIn w Q (hd + 1) d dv) :
  Calls Tryz.prog 88 #[.agg #[.func (.func 88) #[] #[], .slice a n c], dv] w (EvPost w (H + hd + 1) (Expr.apply (C + hd) .subtract (outsOf fs hd d))) := by
 obtain ⟨dk, dn, ds, da, df, dl, ba, bc, fa, fc, la, lc, rfl⟩ := hd0.shape
 obtain ⟨W0, hW0⟩ : ∃ W0, W0 = ((w.alloc (.cells #[(.func (.func 88) #[] #[]), .slice a n c] 126)).alloc (.cells #[.int .i64 dk, .int .i64 dn, .string ds, .slice da ba bc, .slice df fa fc, .slice dl la lc] 26)).alloc (.cells #[.int .i64 0, .int .i64 0, .string { data := #[] }, .slice none 0 0, .slice none 0 0, .slice none 0 0] 26) := ⟨_, rfl⟩
 have HB := Lib.hid (CB.new w (.func (.func 88) #[] #[]) a n c (.int .i64 dk) (.int .i64 dn) (.string ds) (.slice da ba bc) (.slice df fa fc) (.slice dl la lc) W0 hW0)
 have HW0 := Lib.hid hW0
 have c0 : W0.cell? ⟨w.heap.size, 0, none⟩ = some (.func (.func 88) #[] #[]) := (cell_of_row W0 _ 0 _ _ _ HB.out.call).trans rfl
 have c1 := HB.out.c1
 obtain ⟨x0, x1, x2, x3, x4, x5⟩ := HB.out.doc.cells
 have CP := Lib.hid (reckon_two H hd 88 116 Num.difR numSub_any (fun _ _ => rfl) (fun _ _ hx _ => difR_in hx) a n c fs Q d _ W0 hn h2 (hT.keep HB.out.below) (VIn.keep HB.out.below hd0))
 obtain ⟨res, hres⟩ : ∃ z, z = RkR Num.difR (Expr.allO (outsOf fs hd d)) := ⟨_, rfl⟩
 have hout : Expr.apply (C + hd) .subtract (outsOf fs hd d) = Expr.numO res := by
  rw [Expr.apply_subtract, hres]
  unfold Expr.all RkR
  split
  ·rfl
  ·rfl
 rw [← hres] at CP
 rw [hout]
 obtain ⟨rk, rn, re⟩ := res
 clear hT hd0 hn h2 hres hout hW0
 go_enter Tryz.func88, Tryz.ntmps88
 go_upto_region 1 with fail
 rw [← HW0.out]
 go_wp2_with fail
 clear c0 c1 x0 x1 x2 x3 x4 x5
 refine CP.out.mono ?_
 rintro e w2 ⟨⟨rfl, hb2⟩, hin⟩
 have HIN := Lib.hid hin
 have HB2 := Lib.hid (HB.out.keep hb2)
 have HEND := Lib.hid (below_six HB2.out.below (by omega : w.heap.size ≤ w.heap.size + 1 + 1) (.int .i64 rk) (.int .i64 rn) (.string ⟨#[]⟩) (.slice none 0 0) (.slice none 0 0) (.slice none 0 0))
 obtain ⟨r0, r1, r2, r3, r4, r5⟩ := HB2.out.res.cells
 obtain ⟨q0, q1, q2, q3, q4, q5⟩ := HB2.out.res.thaw
 clear hb2 CP hin
 go_wp2_with fail
 exact bodyPost_ret (v := .tuple #[.agg #[.int .i64 rk, .int .i64 rn, .string ⟨#[]⟩, .slice none 0 0, .slice none 0 0, .slice none 0 0], .int .i64 re]) (by simp [results, Tryz.results88, go_sem, *]) rfl ⟨_, rfl, leafV_in _ _ rk rn HIN.out.1 HIN.out.2 _, HEND.out⟩
theorem op_divide_any (H hd C : Nat) (a : Option Addr) (n c : Nat) (fs : List (Nat → Val → Expr.Out)) (Q : Nat → Prop) (d : Val) (dv : Value) (w : World) (hn : fs.length = n) (h2 : n = 2) (hT : TermsIn w a H fs) (hd0 : VIn w Q (hd + 1) d dv) :
  Calls Tryz.prog 89 #[.agg #[.func (.func 89) #[] #[], .slice a n c], dv] w (EvPost w (H + hd + 1) (Expr.apply (C + hd) .divide (outsOf fs hd d))) := by
 obtain ⟨dk, dn, ds, da, df, dl, ba, bc, fa, fc, la, lc, rfl⟩ := hd0.shape
 obtain ⟨W0, hW0⟩ : ∃ W0, W0 = ((w.alloc (.cells #[(.func (.func 89) #[] #[]), .slice a n c] 126)).alloc (.cells #[.int .i64 dk, .int .i64 dn, .string ds, .slice da ba bc, .slice df fa fc, .slice dl la lc] 26)).alloc (.cells #[.int .i64 0, .int .i64 0, .string { data := #[] }, .slice none 0 0, .slice none 0 0, .slice none 0 0] 26) := ⟨_, rfl⟩
 have HB := Lib.hid (CB.new w (.func (.func 89) #[] #[]) a n c (.int .i64 dk) (.int .i64 dn) (.string ds) (.slice da ba bc) (.slice df fa fc) (.slice dl la lc) W0 hW0)
 have HW0 := Lib.hid hW0
 have c0 : W0.cell? ⟨w.heap.size, 0, none⟩ = some (.func (.func 89) #[] #[]) := (cell_of_row W0 _ 0 _ _ _ HB.out.call).trans rfl
 have c1 := HB.out.c1
 obtain ⟨x0, x1, x2, x3, x4, x5⟩ := HB.out.doc.cells
 have CP := Lib.hid (reckon_two H hd 89 117 Num.quoR numDiv_any (fun _ _ => rfl) (fun _ _ hx _ => quoR_in hx) a n c fs Q d _ W0 hn h2 (hT.keep HB.out.below) (VIn.keep HB.out.below hd0))
 obtain ⟨res, hres⟩ : ∃ z, z = RkR Num.quoR (Expr.allO (outsOf fs hd d)) := ⟨_, rfl⟩
 have hout : Expr.apply (C + hd) .divide (outsOf fs hd d) = Expr.numO res := by
  rw [Expr.apply_divide, hres]
  unfold Expr.all RkR
  split
  ·rfl
  ·rfl
 rw [← hres] at CP
 rw [hout]
 obtain ⟨rk, rn, re⟩ := res
 clear hT hd0 hn h2 hres hout hW0
 go_enter Tryz.func89, Tryz.ntmps89
 go_upto_region 1 with fail
 rw [← HW0.out]
 go_wp2_with fail
 clear c0 c1 x0 x1 x2 x3 x4 x5
 refine CP.out.mono ?_
 rintro e w2 ⟨⟨rfl, hb2⟩, hin⟩
 have HIN := Lib.hid hin
 have HB2 := Lib.hid (HB.out.keep hb2)
 have HEND := Lib.hid (below_six HB2.out.below (by omega : w.heap.size ≤ w.heap.size + 1 + 1) (.int .i64 rk) (.int .i64 rn) (.string ⟨#[]⟩) (.slice none 0 0) (.slice none 0 0) (.slice none 0 0))
 obtain ⟨r0, r1, r2, r3, r4, r5⟩ := HB2.out.res.cells
 obtain ⟨q0, q1, q2, q3, q4, q5⟩ := HB2.out.res.thaw
 clear hb2 CP hin
 go_wp2_with fail
 exact bodyPost_ret (v := .tuple #[.agg #[.int .i64 rk, .int .i64 rn, .string ⟨#[]⟩, .slice none 0 0, .slice none 0 0, .slice none 0 0], .int .i64 re]) (by simp [results, Tryz.results89, go_sem, *]) rfl ⟨_, rfl, leafV_in _ _ rk rn HIN.out.1 HIN.out.2 _, HEND.out⟩
theorem op_mod_any (H hd C : Nat) (a : Option Addr) (n c : Nat) (fs : List (Nat → Val → Expr.Out)) (Q : Nat → Prop) (d : Val) (dv : Value) (w : World) (hn : fs.length = n) (h2 : n = 2) (hT : TermsIn w a H fs) (hd0 : VIn w Q (hd + 1) d dv) :
  Calls Tryz.prog 90 #[.agg #[.func (.func 90) #[] #[], .slice a n c], dv] w (EvPost w (H + hd + 1) (Expr.apply (C + hd) .mod_ (outsOf fs hd d))) := by
 obtain ⟨dk, dn, ds, da, df, dl, ba, bc, fa, fc, la, lc, rfl⟩ := hd0.shape
 obtain ⟨W0, hW0⟩ : ∃ W0, W0 = ((w.alloc (.cells #[(.func (.func 90) #[] #[]), .slice a n c] 126)).alloc (.cells #[.int .i64 dk, .int .i64 dn, .string ds, .slice da ba bc, .slice df fa fc, .slice dl la lc] 26)).alloc (.cells #[.int .i64 0, .int .i64 0, .string { data := #[] }, .slice none 0 0, .slice none 0 0, .slice none 0 0] 26) := ⟨_, rfl⟩
 have HB := Lib.hid (CB.new w (.func (.func 90) #[] #[]) a n c (.int .i64 dk) (.int .i64 dn) (.string ds) (.slice da ba bc) (.slice df fa fc) (.slice dl la lc) W0 hW0)
 have HW0 := Lib.hid hW0
 have c0 : W0.cell? ⟨w.heap.size, 0, none⟩ = some (.func (.func 90) #[] #[]) := (cell_of_row W0 _ 0 _ _ _ HB.out.call).trans rfl
 have c1 := HB.out.c1
 obtain ⟨x0, x1, x2, x3, x4, x5⟩ := HB.out.doc.cells
 have CP := Lib.hid (reckon_two H hd 90 118 Num.remR numMod_any (fun _ _ => rfl) (fun _ _ hx _ => remR_in hx) a n c fs Q d _ W0 hn h2 (hT.keep HB.out.below) (VIn.keep HB.out.below hd0))
 obtain ⟨res, hres⟩ : ∃ z, z = RkR Num.remR (Expr.allO (outsOf fs hd d)) := ⟨_, rfl⟩
 have hout : Expr.apply (C + hd) .mod_ (outsOf fs hd d) = Expr.numO res := by
  rw [Expr.apply_mod_, hres]
  unfold Expr.all RkR
  split
  ·rfl
  ·rfl
 rw [← hres] at CP
 rw [hout]
 obtain ⟨rk, rn, re⟩ := res
 clear hT hd0 hn h2 hres hout hW0
 go_enter Tryz.func90, Tryz.ntmps90
 go_upto_region 1 with fail
 rw [← HW0.out]
 go_wp2_with fail
 clear c0 c1 x0 x1 x2 x3 x4 x5
 refine CP.out.mono ?_
 rintro e w2 ⟨⟨rfl, hb2⟩, hin⟩
 have HIN := Lib.hid hin
 have HB2 := Lib.hid (HB.out.keep hb2)
 have HEND := Lib.hid (below_six HB2.out.below (by omega : w.heap.size ≤ w.heap.size + 1 + 1) (.int .i64 rk) (.int .i64 rn) (.string ⟨#[]⟩) (.slice none 0 0) (.slice none 0 0) (.slice none 0 0))
 obtain ⟨r0, r1, r2, r3, r4, r5⟩ := HB2.out.res.cells
 obtain ⟨q0, q1, q2, q3, q4, q5⟩ := HB2.out.res.thaw
 clear hb2 CP hin
 go_wp2_with fail
 exact bodyPost_ret (v := .tuple #[.agg #[.int .i64 rk, .int .i64 rn, .string ⟨#[]⟩, .slice none 0 0, .slice none 0 0, .slice none 0 0], .int .i64 re]) (by simp [results, Tryz.results90, go_sem, *]) rfl ⟨_, rfl, leafV_in _ _ rk rn HIN.out.1 HIN.out.2 _, HEND.out⟩
end Go.Proofs.YtiajjgehnmkokaaGreatDoor
end
