/- ExprJoin, ExprConcat, ExprCalls, ExprTie, ExprOpOf, ExprPrefix, ExprIsOp. -/
import Derived.Test.YtiajjgehnmkokaaGreatDoorMc26
import Derived.Test.YtiajjgehnmkokaaGreatDoorMc23
import Derived.Test.YtiajjgehnmkokaaGreatDoorMc21
import Derived.Test.YtiajjgehnmkokaaGreatDoorMc22
import Derived.Test.YtiajjgehnmkokaaGreatDoorMc24
import Derived.Test.YtiajjgehnmkokaaGreatDoorMc4
set_option maxRecDepth 100000
set_option maxHeartbeats 20000000
section
namespace Go.Proofs.YtiajjgehnmkokaaGreatDoor
open Go.RowKit
open Seal
open Bson (Val)
theorem infoStr1 : (Tryz.prog.info? 9).map (fun i => (i.zero, i.size, i.bytes)) = some (some (.string ⟨#[]⟩), 1, 16) := by kernel_rfl
theorem str_new (w : World) (c : Value) (t : TypeId) : ∀ j u, ([c] : List Value)[j]? = some u → (w.alloc (.cells #[c] t)).cell? (Addr.add ⟨w.heap.size, 0, none⟩ j) = some u := by
 intro j u hj
 rw [Addr.add_mid, Nat.zero_add, cell_of_row _ _ j _ _ _ (heap_alloc_new w _)]
 simpa using hj
theorem owns_strs {w : World} {base : Nat} {v : Value} {l : List ByteArray} (h : w.ownsRow base 9 1 v l.length (l.map .string)) : ∃ a c, v = .slice a l.length c ∧ (l.length ≤ c ∧ c ≤ 9223372036854775807) ∧ StrsIn w a l := by
 obtain ⟨hxl, ⟨rfl, hn⟩ | ⟨g, cap, cur, rfl, hbg, hrow, hc, hm, hsz, htake⟩⟩ := h
 ·have hn' := List.eq_nil_of_length_eq_zero hn
  subst hn'
  exact ⟨none, 0, rfl, ⟨Nat.le_refl _, by omega⟩, .inl rfl⟩
 ·refine ⟨some ⟨g, 0, none⟩, cap, rfl, ⟨hc, by unfold maxLen at hm; omega⟩, .inr ⟨g, 0, rfl, fun i hi => ?_⟩⟩
  rw [Nat.zero_add, cell_of_row w g i _ _ _ hrow, ← Array.getElem?_toList]
  have e : cur.toList[i]? = (l.map Value.string)[i]? := by rw [← htake, List.getElem?_take_of_lt (by omega)]
  rw [e, List.getElem?_map, List.getElem?_eq_getElem hi]
  rfl
theorem textJ_in (w : World) (Q : Nat → Prop) (s : ByteArray) (hs : s.size ≤ 140737488355328) (h : Nat) : VIn w Q (h + 1) (Expr.textV s) (.agg #[.int .i64 5, .int .i64 0, .string s, .slice none 0 0, .slice none 0 0, .slice none 0 0]) :=
 ⟨none, none, none, 0, 0, 0, rfl, ⟨by show (-9223372036854775808 : Int) ≤ 5; omega, by show (5 : Int) ≤ _; omega, by show (-9223372036854775808 : Int) ≤ 0; omega, by show (0 : Int) ≤ _; omega, hs, Nat.zero_le _, Nat.zero_le _, Nat.zero_le _, fun c hc => (by cases hc)⟩, ⟨Nat.le_refl _, by omega⟩, ⟨Nat.le_refl _, by omega⟩, ⟨Nat.le_refl _, by omega⟩, .inl rfl, .inl rfl, .inl rfl⟩
def sizeV (l : List Val) : Nat := (l.map fun x => x.s.size).sum
theorem sizeV_snoc (l : List Val) (x : Val) : sizeV (l ++ [x]) = sizeV l + x.s.size := by unfold sizeV; simp
theorem sizeV_sumS (l : List Val) : sumS (l.map fun x => x.s) = sizeV l := by unfold sumS sizeV; rw [List.map_map]; rfl
theorem joinS_bytes : ∀ l : List Val, Expr.joinS l = ⟨(bytesL (l.map fun x => x.s)).toArray⟩
 | [] => rfl
 | x :: r => by
  rw [Expr.joinS, joinS_bytes r]
  apply ByteArray.ext
  unfold bytesL
  rw [List.map_cons, List.flatMap_cons]
  simp
def joinR (l : List Val) : Expr.Out :=
 if (l.any fun x => !(x.kind == 5)) = true then Expr.bad 12
 else if 65536 < sizeV l then Expr.bad 3
 else (0, Expr.textV (Expr.joinS l))
theorem exprJoin_any (w : World) (Q : Nat → Prop) (B : Nat) (a : Option Addr) (n c : Nat) (r : List Val) (hn : r.length = n) (hm : n ≤ 3000) (hit : ItemsIn w Q (VIn w Q B) a r) :
  Calls Tryz.prog 134 #[.slice a n c] w (EvPost w 1 (joinR r)) := by
 obtain ⟨i0, hi, hz0, hz1, hz2⟩ := info_parts infoStr1
 obtain ⟨W0, hW0⟩ : ∃ W0, W0 = w.alloc (.cells #[.int .i64 0, .int .i64 0, .string { data := #[] }, .slice none 0 0, .slice none 0 0, .slice none 0 0] 26) := ⟨_, rfl⟩
 have hb0 : Below w.heap.size w W0 := by rw [hW0]; exact (Below.refl _ _).alloc (Nat.le_refl _) _
 have hx0 : IsBox W0 w.heap.size (.int .i64 0) (.int .i64 0) (.string { data := #[] }) (.slice none 0 0) (.slice none 0 0) (.slice none 0 0) := by rw [hW0]; exact IsBox.new w (.int .i64 0) (.int .i64 0) (.string { data := #[] }) (.slice none 0 0) (.slice none 0 0) (.slice none 0 0)
 have hs0 : w.heap.size + 1 ≤ W0.heap.size := by rw [hW0]; simp
 obtain ⟨res, hres⟩ : ∃ z, z = joinR r := ⟨_, rfl⟩
 rw [← hres]
 have HRES := Lib.hid hres
 have HB := Lib.hid hb0
 have HR := Lib.hid hx0
 have HS := Lib.hid hs0
 have HW0 := Lib.hid hW0
 have HIT := Lib.hid hit
 have HN := Lib.hid hn
 clear hn hit hres hW0 hb0 hx0 hs0
 go_enter Tryz.func134, Tryz.ntmps134
 go_upto_region 1 with fail
 rw [← HW0.out]
 go_wp2_with fail
 go_loopw [4, 5, 10] (fun tx s i wr => ∃ (k z : Nat) (v : Value), tx = v ∧ s = .int .i64 z ∧ i = .int .i64 k ∧ k ≤ n ∧ Hid (∀ i (hi : i < k) (hi2 : i < r.length), r[i].kind = 5) ∧ Hid (z = sizeV (r.take k)) ∧ Hid (z ≤ k * 140737488355328) ∧ Hid (wr.ownsRow (w.heap.size + 1) 9 1 v k ((r.take k).map fun x => Value.string x.s)) ∧ Hid (Below w.heap.size w wr) ∧ Hid (IsBox wr w.heap.size (.int .i64 0) (.int .i64 0) (.string { data := #[] }) (.slice none 0 0) (.slice none 0 0) (.slice none 0 0)) ∧ Hid (w.heap.size + 1 ≤ wr.heap.size)) (fun _ _ i _ => n - (intOf i).toNat)
 case atStart => exact ⟨0, 0, .slice none 0 0, rfl, rfl, rfl, Nat.zero_le _, (fun _ h => absurd h (Nat.not_lt_zero _)), rfl, Nat.zero_le _, World.ownsRow_nil _ _ _ _, HB.out, HR.out, HS.out⟩
 case round =>
  obtain ⟨k, z, v, rfl, rfl, rfl, hk, HOK, HZ, HZM, HO, HBr, HRr, HSr⟩ := hrel
  by_cases hlt : k < n
  ·have hkr : k < r.length := by rw [HN.out]; exact hlt
   obtain ⟨g, o, rfl, -, hall⟩ := HIT.out.resolve_left (fun e => by rw [e] at hkr; cases hkr)
   obtain ⟨v', hsix, hV⟩ := hall k hkr
   obtain ⟨ik, im, is_, b0, f0, l0, bb0, bc0, fb0, fc0, lb0, lc0, rfl⟩ := hV.shape
   obtain ⟨e1, -, e3, -, eL⟩ := hV.top
   have hsl : is_.size ≤ 140737488355328 := by rw [e3]; exact eL.s
   obtain ⟨s0, s1, s2, s3, s4, s5⟩ := (hsix.keep HBr.out).cells
   obtain ⟨W5, hW5⟩ : ∃ W5, W5 = wr.alloc (.cells #[.int .i64 ik, .int .i64 im, .string is_, .slice b0 bb0 bc0, .slice f0 fb0 fc0, .slice l0 lb0 lc0] 26) := ⟨_, rfl⟩
   obtain ⟨P, hP⟩ : ∃ P, P = wr.heap.size := ⟨_, rfl⟩
   have hb5 : Below wr.heap.size wr W5 := by rw [hW5]; exact (Below.refl _ _).alloc (Nat.le_refl _) _
   have hX5 : IsBox W5 P (.int .i64 ik) (.int .i64 im) (.string is_) (.slice b0 bb0 bc0) (.slice f0 fb0 fc0) (.slice l0 lb0 lc0) := by rw [hW5, hP]; exact IsBox.new wr (.int .i64 ik) (.int .i64 im) (.string is_) (.slice b0 bb0 bc0) (.slice f0 fb0 fc0) (.slice l0 lb0 lc0)
   have HB5 := Lib.hid (HBr.out.trans (hb5.mono HBr.out.size))
   have HR5 := Lib.hid (HRr.out.keep hb5)
   have HO5 := Lib.hid (owns_below HO.out hb5)
   have HS5 : Hid (w.heap.size + 1 ≤ W5.heap.size) := Nat.le_trans HSr.out hb5.size
   have HW5 := Lib.hid hW5
   have HPP := Lib.hid hP
   have HX5 := Lib.hid hX5
   have HE1 := Lib.hid e1
   have HE3 := Lib.hid e3
   clear hall hsix hV e1 e3 eL hb5 hX5 hW5 hP
   go_upto_region 6 with fail
   rw [← HW5.out, ← HPP.out]
   clear s0 s1 s2 s3 s4 s5
   obtain ⟨y0, y1, y2, y3, y4, y5⟩ := HX5.out.cells
   by_cases he : ik = 5
   ·have hz2 : z + is_.size = sizeV (r.take (k + 1)) := by rw [List.take_succ_eq_append_getElem hkr, sizeV_snoc, HZ.out, HE3.out]
    have hzm : z + is_.size ≤ (k + 1) * 140737488355328 := by have := HZM.out; omega
    have hzl : z + is_.size ≤ 422212465065984000 := by omega
    have hxs : ((r.take (k + 1)).map fun x => Value.string x.s) = ((r.take k).map fun x => Value.string x.s) ++ [.string is_] := by
     rw [List.take_succ_eq_append_getElem hkr, List.map_append, HE3.out]; rfl
    have HOK2 : Hid (∀ i (hi : i < k + 1) (hi2 : i < r.length), r[i].kind = 5) := fun i hi hi2 => by
     by_cases e : i = k
     ·subst e; rw [← HE1.out]; exact he
     ·exact HOK.out i (by omega) hi2
    have hb6 : Below W5.heap.size W5 (W5.alloc (.cells #[.string is_] 9)) := (Below.refl _ _).alloc (Nat.le_refl _) _
    have HB6 := Lib.hid (HB5.out.trans (hb6.mono HB5.out.size))
    have HR6 := Lib.hid (HR5.out.keep hb6)
    have HX6 := Lib.hid (HX5.out.keep hb6)
    have HO6 := Lib.hid (owns_below HO5.out hb6)
    have HS6 : Hid (w.heap.size + 1 ≤ (W5.alloc (.cells #[.string is_] 9)).heap.size) := Nat.le_trans HS5.out hb6.size
    have HNW := Lib.hid (str_new W5 (.string is_) 9)
    have HPL : Hid (P < (W5.alloc (.cells #[.string is_] 9)).heap.size ∧ wr.heap.size ≤ P) := ⟨HX6.out.lt, by rw [HPP.out]; exact Nat.le_refl _⟩
    have HVL : Hid (∀ j, u4.ownBlock = some j → w.heap.size + 1 ≤ j ∧ j < wr.heap.size) := fun j hj => owns_block HO.out hj
    have HZ2 := Lib.hid hz2
    have HZM2 := Lib.hid hzm
    have HXS := Lib.hid hxs
    subst he
    clear hb6 hz2 hzm hxs HO5 HO
    go_wp2_with (at_builtin; refine wpList_append_sz _ rfl (.tmp 18) (.tmp 21) 42 rfl (w.heap.size + 1) 9 i0 (.string ⟨#[]⟩) 1 16 Tryz.underlying42 hi hz0 hz1 hz2 rfl u4 k _ rfl HO6.out ⟨W5.heap.size, 0, none⟩ 1 1 [.string is_] rfl rfl (by decide) (by decide) HNW.out (by intro u hu; simp at hu; subst hu; rfl) (by unfold maxLen; omega) (by omega) HS6.out ?_)
    intro v9 w9 hown9 hlies9
    have hw9 := Wrote.of_lies hlies9
    have HB9 : Hid (Below w.heap.size w w9) := HB6.out.grown hw9.1 HB6.out.size (fun j hj => by have := (HVL.out j hj).1; omega)
    have HR9 : Hid (IsBox w9 w.heap.size (.int .i64 0) (.int .i64 0) (.string { data := #[] }) (.slice none 0 0) (.slice none 0 0) (.slice none 0 0)) := (hw9.1.block _ HR6.out.lt (fun e => by have := (HVL.out _ e.symm).1; omega)).trans HR6.out
    have HX9 : Hid (IsBox w9 P (.int .i64 5) (.int .i64 im) (.string is_) (.slice b0 bb0 bc0) (.slice f0 fb0 fc0) (.slice l0 lb0 lc0)) := (hw9.1.block _ HPL.out.1 (fun e => by have := (HVL.out _ e.symm).2; have := HPL.out.2; omega)).trans HX6.out
    have HS9 : Hid (w.heap.size + 1 ≤ w9.heap.size) := Nat.le_trans HS6.out hw9.1.size
    have HO9 : Hid (w9.ownsRow (w.heap.size + 1) 9 1 v9 (k + 1) ((r.take (k + 1)).map fun x => Value.string x.s)) := by show World.ownsRow _ _ _ _ _ _ _; rw [HXS.out, List.map_take]; exact hown9
    clear hown9 hlies9 hw9 y0 y1 y2 y3 y4 y5
    obtain ⟨y0, y1, y2, y3, y4, y5⟩ := HX9.out.cells
    go_wp2_with fail
    go_roundw
    case rel => exact ⟨k + 1, z + is_.size, v9, rfl, by go_num, by go_num, by omega, HOK2.out, HZ2.out, HZM2.out, HO9.out, HB9.out, HR9.out, HS9.out⟩
    case measure => simp [intOf]; omega
   ·have he2 : (ik == 5) = false := by rw [beq_eq_false_iff_ne]; exact he
    have he3 : (ik != 5) = true := by unfold bne; rw [he2]; rfl
    have hany : (r.any fun x => !(x.kind == 5)) = true := by
     rw [List.any_eq_true]
     exact ⟨r[k], List.getElem_mem hkr, by rw [← HE1.out, he2]; rfl⟩
    have hre : res = (12, Bson.zero) := by rw [HRES.out]; unfold joinR; rw [if_pos hany]; rfl
    have HRE := Lib.hid hre
    clear he hany hre
    have HEND := Lib.hid (below_six HB5.out (by omega : w.heap.size ≤ w.heap.size) (.int .i64 0) (.int .i64 0) (.string { data := #[] }) (.slice none 0 0) (.slice none 0 0) (.slice none 0 0))
    obtain ⟨r0, r1, r2, r3, r4, r5⟩ := HR5.out.cells
    obtain ⟨q0, q1, q2, q3, q4, q5⟩ := HR5.out.thaw
    go_wp2_with fail
    refine bodyPost_ret (v := .tuple #[.agg #[.int .i64 0, .int .i64 0, .string { data := #[] }, .slice none 0 0, .slice none 0 0, .slice none 0 0], .int .i64 12]) ?_ rfl ?_
    ·simp [results, Tryz.results134, go_sem, *]
    ·exact ⟨_, by rw [HRE.out], by rw [HRE.out]; exact zero_in _ _, HEND.out⟩
  ·obtain rfl : k = n := by omega
   have htk : r.take k = r := List.take_of_length_le (by rw [HN.out]; exact Nat.le_refl _)
   have hany : ¬ (r.any fun x => !(x.kind == 5)) = true := by
    rw [List.any_eq_true]
    rintro ⟨x, hx, h5⟩
    obtain ⟨i, hi, rfl⟩ := List.getElem_of_mem hx
    rw [HOK.out i (by have := HN.out; omega) hi] at h5
    cases h5
   have hz : z = sizeV r := by rw [HZ.out, htk]
   have hown := HO.out
   rw [htk] at hown
   have hl : (r.map fun x => x.s).length = k := by rw [List.length_map, HN.out]
   have hown2 : wr.ownsRow (w.heap.size + 1) 9 1 u4 (r.map fun x => x.s).length ((r.map fun x => x.s).map .string) := by rw [hl, List.map_map]; exact hown
   obtain ⟨a', c', e', hc', hst⟩ := owns_strs hown2
   rw [hl] at e' hc'
   by_cases hbig : 65536 < z
   ·have hre : res = (3, Bson.zero) := by rw [HRES.out]; unfold joinR; rw [if_neg hany, if_pos (by rw [← hz]; exact hbig)]; rfl
    have HRE := Lib.hid hre
    have hbig2 : (65536 : Int) < (z : Int) := by omega
    clear htk hany hz hown hl hown2 e' hc' hst hre
    have HEND := Lib.hid (below_six HBr.out (by omega : w.heap.size ≤ w.heap.size) (.int .i64 0) (.int .i64 0) (.string { data := #[] }) (.slice none 0 0) (.slice none 0 0) (.slice none 0 0))
    obtain ⟨r0, r1, r2, r3, r4, r5⟩ := HRr.out.cells
    obtain ⟨q0, q1, q2, q3, q4, q5⟩ := HRr.out.thaw
    go_wp2_with fail
    refine bodyPost_ret (v := .tuple #[.agg #[.int .i64 0, .int .i64 0, .string { data := #[] }, .slice none 0 0, .slice none 0 0, .slice none 0 0], .int .i64 3]) ?_ rfl ?_
    ·simp [results, Tryz.results134, go_sem, *]
    ·exact ⟨_, by rw [HRE.out], by rw [HRE.out]; exact zero_in _ _, HEND.out⟩
   ·have hre : res = (0, Expr.textV (Expr.joinS r)) := by rw [HRES.out]; unfold joinR; rw [if_neg hany, if_neg (by rw [← hz]; exact hbig)]
    have hsum : sumS (r.map fun x => x.s) ≤ 65536 := by rw [sizeV_sumS, ← hz]; omega
    have CJ := Lib.hid (join_any wr a' k c' (r.map fun x => x.s) hl hm hc' hsum hst)
    have hjl : (bytesL (r.map fun x => x.s)).length ≤ 65536 := by rw [bytesL_len]; exact hsum
    obtain ⟨js, hjs⟩ : ∃ js : ByteArray, js = ⟨(bytesL (r.map fun x => x.s)).toArray⟩ := ⟨_, rfl⟩
    have hjs2 : js.size ≤ 140737488355328 := by rw [hjs]; show (bytesL _).toArray.size ≤ _; simp; omega
    rw [joinS_bytes, ← hjs] at hre
    rw [← hjs] at CJ
    have HRE := Lib.hid hre
    have HJ := Lib.hid hjs2
    have hbig2 : (z : Int) ≤ (65536 : Int) := by omega
    subst e'
    clear htk hany hz hown hl hown2 hc' hst hre hsum hjl hjs hjs2
    go_wp2_with fail
    refine CJ.out.mono ?_
    rintro e w7 ⟨rfl, hb7⟩
    have HB7 := Lib.hid (HBr.out.trans (hb7.mono HBr.out.size))
    have HR7 := Lib.hid (HRr.out.keep hb7)
    have HEND := Lib.hid (below_six HB7.out (by omega : w.heap.size ≤ w.heap.size) (.int .i64 5) (.int .i64 0) (.string js) (.slice none 0 0) (.slice none 0 0) (.slice none 0 0))
    obtain ⟨r0, r1, r2, r3, r4, r5⟩ := HR7.out.cells
    obtain ⟨q0, q1, q2, q3, q4, q5⟩ := HR7.out.thaw
    clear CJ hb7
    go_wp2_with fail
    refine bodyPost_ret (v := .tuple #[.agg #[.int .i64 5, .int .i64 0, .string js, .slice none 0 0, .slice none 0 0, .slice none 0 0], .int .i64 0]) ?_ rfl ?_
    ·simp [results, Tryz.results134, go_sem, *]
    ·exact ⟨_, by rw [HRE.out], by rw [HRE.out]; exact textJ_in _ _ js HJ.out 0, HEND.out⟩
end Go.Proofs.YtiajjgehnmkokaaGreatDoor
end
section
namespace Go.Proofs.YtiajjgehnmkokaaGreatDoor
open Go.RowKit
open Seal
open Bson (Val)
theorem op_concat_any (H hd C : Nat) (a : Option Addr) (n c : Nat) (fs : List (Nat → Val → Expr.Out)) (Q : Nat → Prop) (d : Val) (dv : Value) (w : World) (hn : fs.length = n) (hlim : n ≤ 3000) (hT : TermsIn w a H fs) (hd0 : VIn w Q (hd + 1) d dv) :
  Calls Tryz.prog 104 #[.agg #[.func (.func 104) #[] #[], .slice a n c], dv] w (EvPost w (H + hd + 1) (Expr.apply (C + hd) .concat (outsOf fs hd d))) := by
 obtain ⟨dk, dn, ds, da, df, dl, ba, bc, fa, fc, la, lc, rfl⟩ := hd0.shape
 obtain ⟨W0, hW0⟩ : ∃ W0, W0 = ((w.alloc (.cells #[(.func (.func 104) #[] #[]), .slice a n c] 126)).alloc (.cells #[.int .i64 dk, .int .i64 dn, .string ds, .slice da ba bc, .slice df fa fc, .slice dl la lc] 26)).alloc (.cells #[.int .i64 0, .int .i64 0, .string { data := #[] }, .slice none 0 0, .slice none 0 0, .slice none 0 0] 26) := ⟨_, rfl⟩
 have HB := Lib.hid (CB.new w (.func (.func 104) #[] #[]) a n c (.int .i64 dk) (.int .i64 dn) (.string ds) (.slice da ba bc) (.slice df fa fc) (.slice dl la lc) W0 hW0)
 have HW0 := Lib.hid hW0
 have c0 : W0.cell? ⟨w.heap.size, 0, none⟩ = some (.func (.func 104) #[] #[]) := (cell_of_row W0 _ 0 _ _ _ HB.out.call).trans rfl
 have c1 := HB.out.c1
 obtain ⟨x0, x1, x2, x3, x4, x5⟩ := HB.out.doc.cells
 have CA := Lib.hid (evalAll_any H hd a n c fs Q d _ W0 hn hlim (hT.keep HB.out.below) (VIn.keep HB.out.below hd0))
 obtain ⟨res, hres⟩ : ∃ z, z = Expr.apply (C + hd) .concat (outsOf fs hd d) := ⟨_, rfl⟩
 have hres2 : res = if (Expr.allO (outsOf fs hd d)).1 = 0 then Expr.concatV (Expr.allO (outsOf fs hd d)).2 else Expr.bad (Expr.allO (outsOf fs hd d)).1 := hres
 rw [← hres]
 obtain ⟨r, hr⟩ : ∃ r, r = Expr.allO (outsOf fs hd d) := ⟨_, rfl⟩
 have hrl : r.1 = 0 → r.2.length = n := fun h => by rw [hr] at h ⊢; rw [Expr.allO_len h, outsOf_length, hn]
 rw [← hr] at CA hres2
 have HRL := Lib.hid hrl
 have HRES := Lib.hid hres2
 clear hT hd0 hn hr hrl hres hres2 hW0
 go_enter Tryz.func104, Tryz.ntmps104
 go_upto_region 1 with fail
 rw [← HW0.out]
 go_wp2_with fail
 clear c0 c1 x0 x1 x2 x3 x4 x5
 refine CA.out.mono ?_
 rintro e w2 ⟨v2, rfl, hA, hN, hb2⟩
 have HB2 := Lib.hid (HB.out.keep hb2)
 by_cases hz : r.1 = 0
 ·obtain ⟨xs, hA⟩ := hA hz
  have hl2 := HRL.out hz
  obtain ⟨a', c', rfl, hc', hit⟩ := hA.items (Q' := fun _ => True) (fun _ _ => trivial) (fun _ _ _ => trivial)
  rw [hl2]
  have CN := Lib.hid (nHas_any w2 _ _ a' n c' r.2 hl2 (by omega) hit)
  have HRI : Hid (res = Expr.concatV r.2) := by show _ = _; rw [HRES.out, if_pos hz]
  obtain ⟨nb, hnb⟩ : ∃ b, b = (r.2.any fun x => noneB x.kind) := ⟨_, rfl⟩
  rw [← hnb] at CN
  have HNB := Lib.hid hnb
  have HIT := Lib.hid hit
  have HL := Lib.hid hl2
  rw [hz]
  clear hA hN hb2 hc' hl2 hit hz hnb
  cases nb with
  | true =>
   have hre : res = (0, Expr.leafV 2 0) := by rw [HRI.out]; unfold Expr.concatV; rw [if_pos HNB.out.symm]
   have HRE := Lib.hid hre
   clear hre
   go_wp2_with fail
   refine CN.out.mono ?_
   rintro e w3 ⟨rfl, hb3⟩
   have HB3 := Lib.hid (HB2.out.keep hb3)
   have HEND := Lib.hid (below_six HB3.out.below (by omega : w.heap.size ≤ w.heap.size + 1 + 1) (.int .i64 2) (.int .i64 0) (.string ⟨#[]⟩) (.slice none 0 0) (.slice none 0 0) (.slice none 0 0))
   obtain ⟨r0, r1, r2, r3, r4, r5⟩ := HB3.out.res.cells
   obtain ⟨q0, q1, q2, q3, q4, q5⟩ := HB3.out.res.thaw
   clear hb3 CN
   go_wp2_with fail
   exact bodyPost_ret (v := .tuple #[.agg #[.int .i64 2, .int .i64 0, .string ⟨#[]⟩, .slice none 0 0, .slice none 0 0, .slice none 0 0], .int .i64 0]) (by simp [results, Tryz.results104, go_sem, *]) rfl ⟨_, by rw [HRE.out], by rw [HRE.out]; exact leafV_in _ _ 2 0 (by omega) (by omega) _, HEND.out⟩
  | false =>
   have hre : res = joinR r.2 := by
    rw [HRI.out]; unfold Expr.concatV
    rw [if_neg (by rw [← HNB.out]; exact Bool.false_ne_true)]
    rfl
   have HRE := Lib.hid hre
   clear hre
   go_wp2_with fail
   refine CN.out.mono ?_
   rintro e w3 ⟨rfl, hb3⟩
   have HB3 := Lib.hid (HB2.out.keep hb3)
   have hit3 := HIT.out.kept (Kept.of_below hb3) (fun _ h => h) (fun _ _ h => VIn.kept (Kept.of_below hb3) (fun _ h => h) h)
   have CJ := Lib.hid (exprJoin_any w3 _ _ a' n c' r.2 HL.out (by omega) hit3)
   rw [← HRE.out] at CJ
   have HS3 : Hid (w.heap.size + 3 ≤ w3.heap.size) := HB3.out.size
   clear hb3 CN hit3
   go_wp2_with fail
   refine CJ.out.mono ?_
   rintro e w4 ⟨v4, rfl, hv4, hb4⟩
   obtain ⟨k, m, s, b1, f1, l1, b2, b3, f2, f3, l2, l3, rfl⟩ := hv4.shape
   have HB4 := Lib.hid (HB3.out.keep hb4)
   have HEND : Hid (VIn (puts w4 (w.heap.size + 1 + 1) 0 [.int .i64 k, .int .i64 m, .string s, .slice b1 b2 b3, .slice f1 f2 f3, .slice l1 l2 l3]) (fun g => w.heap.size ≤ g) (H + hd + 1) res.2 (.agg #[.int .i64 k, .int .i64 m, .string s, .slice b1 b2 b3, .slice f1 f2 f3, .slice l1 l2 l3]) ∧ Below w.heap.size w (puts w4 (w.heap.size + 1 + 1) 0 [.int .i64 k, .int .i64 m, .string s, .slice b1 b2 b3, .slice f1 f2 f3, .slice l1 l2 l3])) :=
    ⟨(hv4.kept (puts_kept (fun g => w3.heap.size ≤ g) (by have := HS3.out; omega) _ _) (fun g hg => by have := HS3.out; omega)).up (by omega), puts_below HB4.out.below (by omega) _ _⟩
   obtain ⟨r0, r1, r2, r3, r4, r5⟩ := HB4.out.res.cells
   obtain ⟨q0, q1, q2, q3, q4, q5⟩ := HB4.out.res.thaw
   clear hv4 hb4 CJ
   go_wp2_with fail
   exact bodyPost_ret (v := .tuple #[.agg #[.int .i64 k, .int .i64 m, .string s, .slice b1 b2 b3, .slice f1 f2 f3, .slice l1 l2 l3], .int .i64 res.1]) (by simp [results, Tryz.results104, go_sem, *]) rfl ⟨_, rfl, HEND.out.1, HEND.out.2⟩
 ·have hz2 : (r.1 == 0) = false := by rw [beq_eq_false_iff_ne]; exact hz
  have hre : res = (r.1, Bson.zero) := by rw [HRES.out, if_neg hz]; rfl
  have HRE := Lib.hid hre
  obtain rfl := hN hz
  have HEND := Lib.hid (below_six HB2.out.below (by omega : w.heap.size ≤ w.heap.size + 1 + 1) (.int .i64 0) (.int .i64 0) (.string { data := #[] }) (.slice none 0 0) (.slice none 0 0) (.slice none 0 0))
  obtain ⟨r0, r1, r2, r3, r4, r5⟩ := HB2.out.res.cells
  obtain ⟨q0, q1, q2, q3, q4, q5⟩ := HB2.out.res.thaw
  clear hA hN hb2 hz hre
  go_wp2_with fail
  refine bodyPost_ret (v := .tuple #[.agg #[.int .i64 0, .int .i64 0, .string { data := #[] }, .slice none 0 0, .slice none 0 0, .slice none 0 0], .int .i64 r.1]) ?_ rfl ?_
  ·simp [results, Tryz.results104, go_sem, *]
  ·exact ⟨_, by rw [HRE.out], by rw [HRE.out]; exact (zero_in _ _).up (by omega), HEND.out⟩
end Go.Proofs.YtiajjgehnmkokaaGreatDoor
end
section
namespace Go.Proofs.YtiajjgehnmkokaaGreatDoor
open Go.RowKit
open Seal
open Bson (Val)
def opFn : Expr.Op → FuncId
 | .add => 86
 | .multiply => 87
 | .subtract => 88
 | .divide => 89
 | .mod_ => 90
 | .abs => 91
 | .eq_ => 92
 | .ne_ => 93
 | .gt => 94
 | .gte => 95
 | .lt_ => 96
 | .lte => 97
 | .cmp => 98
 | .and_ => 99
 | .or_ => 100
 | .not_ => 101
 | .cond => 102
 | .ifNull => 103
 | .concat => 104
 | .size_ => 105
 | .arrayElemAt => 106
 | .type_ => 107
theorem ev_op (o : Expr.Op) (w : World) (H C : Nat) (a : Option Addr) (n c : Nat) (fs : List (Nat → Val → Expr.Out)) (hn : fs.length = n) (hlim : n ≤ 3000) (hf : Expr.fits o n = true) (hC : H ≤ C) (hT : TermsIn w a H fs) :
  Ev w (.iface 126 (.agg #[.func (.func (opFn o)) #[] #[], .slice a n c])) (H + 2) (fun hd d => Expr.apply (C + hd) o (outsOf fs hd d)) := by
 refine ev_call w (H + 2) (opFn o) a n c _ (fun args u => ?_) (fun W hW Q hd d dv hv => ?_)
 ·cases o <;> rfl
 ·have hT := hT.keep hW
  cases o with
  | add => exact (op_add_any H hd C a n c fs Q d dv W hn hlim hT hv).mono fun e w' h => h.up (by omega)
  | multiply => exact (op_multiply_any H hd C a n c fs Q d dv W hn hlim hT hv).mono fun e w' h => h.up (by omega)
  | subtract => exact (op_subtract_any H hd C a n c fs Q d dv W hn (show n = 2 by simpa [Expr.fits, Expr.arity] using hf) hT hv).mono fun e w' h => h.up (by omega)
  | divide => exact (op_divide_any H hd C a n c fs Q d dv W hn (show n = 2 by simpa [Expr.fits, Expr.arity] using hf) hT hv).mono fun e w' h => h.up (by omega)
  | mod_ => exact (op_mod_any H hd C a n c fs Q d dv W hn (show n = 2 by simpa [Expr.fits, Expr.arity] using hf) hT hv).mono fun e w' h => h.up (by omega)
  | abs => exact (op_abs_any H hd C a n c fs Q d dv W hn (show n = 1 by simpa [Expr.fits, Expr.arity] using hf) hT hv).mono fun e w' h => h.up (by omega)
  | eq_ => exact (op_eq_any H hd C a n c fs Q d dv W hn (show n = 2 by simpa [Expr.fits, Expr.arity] using hf) hC hT hv).mono fun e w' h => h.up (by omega)
  | ne_ => exact (op_ne_any H hd C a n c fs Q d dv W hn (show n = 2 by simpa [Expr.fits, Expr.arity] using hf) hC hT hv).mono fun e w' h => h.up (by omega)
  | gt => exact (op_gt_any H hd C a n c fs Q d dv W hn (show n = 2 by simpa [Expr.fits, Expr.arity] using hf) hC hT hv).mono fun e w' h => h.up (by omega)
  | gte => exact (op_gte_any H hd C a n c fs Q d dv W hn (show n = 2 by simpa [Expr.fits, Expr.arity] using hf) hC hT hv).mono fun e w' h => h.up (by omega)
  | lt_ => exact (op_lt_any H hd C a n c fs Q d dv W hn (show n = 2 by simpa [Expr.fits, Expr.arity] using hf) hC hT hv).mono fun e w' h => h.up (by omega)
  | lte => exact (op_lte_any H hd C a n c fs Q d dv W hn (show n = 2 by simpa [Expr.fits, Expr.arity] using hf) hC hT hv).mono fun e w' h => h.up (by omega)
  | cmp => exact (op_cmp_any H hd C a n c fs Q d dv W hn (show n = 2 by simpa [Expr.fits, Expr.arity] using hf) hC hT hv).mono fun e w' h => h.up (by omega)
  | and_ => exact (op_and_any H hd C a n c fs Q d dv W hn hlim hT hv).mono fun e w' h => h.up (by omega)
  | or_ => exact (op_or_any H hd C a n c fs Q d dv W hn hlim hT hv).mono fun e w' h => h.up (by omega)
  | not_ => exact (op_not_any H hd C a n c fs Q d dv W hn (show n = 1 by simpa [Expr.fits, Expr.arity] using hf) hT hv).mono fun e w' h => h.up (by omega)
  | cond => exact (op_cond_any H hd C a n c fs Q d dv W hn (show n = 3 by simpa [Expr.fits, Expr.arity] using hf) hT hv).mono fun e w' h => h.up (by omega)
  | ifNull => exact (op_ifNull_any H hd C a n c fs Q d dv W hn (show n = 2 by simpa [Expr.fits, Expr.arity] using hf) hT hv).mono fun e w' h => h.up (by omega)
  | concat => exact (op_concat_any H hd C a n c fs Q d dv W hn hlim hT hv).mono fun e w' h => h.up (by omega)
  | size_ => exact (op_size_any H hd C a n c fs Q d dv W hn (show n = 1 by simpa [Expr.fits, Expr.arity] using hf) hT hv).mono fun e w' h => h.up (by omega)
  | arrayElemAt => exact (op_arrayElemAt_any H hd C a n c fs Q d dv W hn (show n = 2 by simpa [Expr.fits, Expr.arity] using hf) hT hv).mono fun e w' h => h.up (by omega)
  | type_ => exact (op_kind_any H hd C a n c fs Q d dv W hn (show n = 1 by simpa [Expr.fits, Expr.arity] using hf) hT hv).mono fun e w' h => h.up (by omega)
end Go.Proofs.YtiajjgehnmkokaaGreatDoor
end
section
namespace Go.Proofs.YtiajjgehnmkokaaGreatDoor
open Go.RowKit
open Seal
open Bson (Val)
def evF (N C h : Nat) (x : Val) : Nat → Val → Expr.Out := fun hd d => Expr.evalV (N + hd) (C + hd) d h x
theorem outs_evF (N C h : Nat) (l : List Val) (hd : Nat) (d : Val) : outsOf (l.map (evF N C h)) hd d = l.map (Expr.evalV (N + hd) (C + hd) d h) := by
 unfold outsOf
 rw [List.map_map]
 rfl
theorem parts_evF (N C h : Nat) (f : List (ByteArray × Val)) (hd : Nat) (d : Val) : partsOf (f.map fun p => (p.1, evF N C h p.2)) hd d = f.map fun p => (p.1, Expr.evalV (N + hd) (C + hd) d h p.2) := by
 unfold partsOf
 rw [List.map_map]
 rfl
theorem evF_path (N C h : Nat) (x : Val) (hk : x.kind = 5) (hs : Expr.dollar x.s = true) : evF N C (h + 1) x = fun hd d => (0, Bson.reach (N + hd) d ((Expr.pathOf x.s).getD [])) := by
 funext hd d
 unfold evF Expr.evalV
 rw [if_pos hk, if_pos hs]
theorem evF_text (N C h : Nat) (x : Val) (hk : x.kind = 5) (hs : Expr.dollar x.s = false) : evF N C (h + 1) x = fun _ _ => (0, x) := by
 funext hd d
 unfold evF Expr.evalV
 rw [if_pos hk, if_neg (by rw [hs]; exact Bool.false_ne_true)]
theorem evF_leaf (N C h : Nat) (x : Val) (h5 : x.kind ≠ 5) (h6 : x.kind ≠ 6) (h7 : x.kind ≠ 7) : evF N C (h + 1) x = fun _ _ => (0, x) := by
 funext hd d
 unfold evF Expr.evalV
 rw [if_neg h5, if_neg h7, if_neg h6]
theorem evF_row (N C h : Nat) (x : Val) (hk : x.kind = 7) : evF N C (h + 1) x = fun hd d => Expr.rowO (Expr.allO (outsOf (x.l.map (evF N C h)) hd d)) := by
 funext hd d
 rw [outs_evF]
 unfold evF
 rw [Expr.evalV, if_neg (by rw [hk]; decide), if_pos hk]
theorem evF_doc (N C h : Nat) (x : Val) (hk : x.kind = 6) (hs : ∀ p ∈ x.f, Expr.dollar p.1 = false) : evF N C (h + 1) x = fun hd d => Expr.docO (Expr.docFO (partsOf (x.f.map fun p => (p.1, evF N C h p.2)) hd d)) := by
 funext hd d
 rw [parts_evF]
 unfold evF
 rw [Expr.evalV, if_neg (by rw [hk]; decide), if_neg (by rw [hk]; decide), if_pos hk]
 match e : x.f with
 | [] => rfl
 | [(s, a)] =>
  have := hs (s, a) (by rw [e]; exact List.mem_cons_self)
  show (if Expr.dollar s = true then _ else _) = _
  rw [if_neg (by rw [this]; exact Bool.false_ne_true)]
  rfl
 | p :: q :: r => rfl
theorem evF_lit (N C h : Nat) (x a : Val) (hk : x.kind = 6) (hf : x.f = [(Expr.literal, a)]) : evF N C (h + 1) x = fun _ _ => (0, a) := by
 funext hd d
 unfold evF
 rw [Expr.evalV, if_neg (by rw [hk]; decide), if_neg (by rw [hk]; decide), if_pos hk, hf]
 show (if Expr.dollar Expr.literal = true then _ else _) = _
 rw [if_pos (by decide), if_pos rfl]
theorem evF_op (N C h : Nat) (x a : Val) (s : ByteArray) (o : Expr.Op) (hk : x.kind = 6) (hf : x.f = [(s, a)]) (hs : Expr.dollar s = true) (hl : s ≠ Expr.literal) (ho : Expr.opOf s = some o) :
  evF N C (h + 1) x = fun hd d => Expr.apply (C + hd) o (outsOf ((Expr.args a).map (evF N C h)) hd d) := by
 funext hd d
 rw [outs_evF]
 unfold evF
 rw [Expr.evalV, if_neg (by rw [hk]; decide), if_neg (by rw [hk]; decide), if_pos hk, hf]
 show (if Expr.dollar s = true then _ else _) = _
 rw [if_pos hs, if_neg hl, ho]
end Go.Proofs.YtiajjgehnmkokaaGreatDoor
end
section
namespace Go.Proofs.YtiajjgehnmkokaaGreatDoor
open Go.RowKit
open Seal
open Bson (Val)
def opVal : Option Expr.Op → Value
 | some o => .func (.func (opFn o)) #[] #[]
 | none => Value.nilFunc
def opMany : Option Expr.Op → Int
 | some o => (match Expr.arity o with | some k => (k : Int) | none => -1)
 | none => 0
theorem opOf_some {s : ByteArray} {o : Expr.Op} (h : Expr.opOf s = some o) : Expr.opName o = s := by
 have := List.find?_some h
 simpa using this
theorem opOf_none {s : ByteArray} (h : Expr.opOf s = none) (o : Expr.Op) : ¬ s = Expr.opName o := fun e => by
 have := List.find?_eq_none.1 h o (by cases o <;> decide)
 simp [e] at this
theorem operatorOf_any (s : ByteArray) (w : World) : Calls Tryz.prog 79 #[.string s] w fun e w' => e = .returned (.tuple #[opVal (Expr.opOf s), .int .i64 (opMany (Expr.opOf s))]) ∧ Below w.heap.size w w' := by
 cases h : Expr.opOf s with
 | none =>
  have n0 := str_ne (opOf_none h .add)
  have m0 : (s.toList == [36, 97, 100, 100]) = false := by have := n0; rw [ByteArray.toList_eq (Expr.opName _)] at this; exact this
  have n1 := str_ne (opOf_none h .multiply)
  have m1 : (s.toList == [36, 109, 117, 108, 116, 105, 112, 108, 121]) = false := by have := n1; rw [ByteArray.toList_eq (Expr.opName _)] at this; exact this
  have n2 := str_ne (opOf_none h .subtract)
  have m2 : (s.toList == [36, 115, 117, 98, 116, 114, 97, 99, 116]) = false := by have := n2; rw [ByteArray.toList_eq (Expr.opName _)] at this; exact this
  have n3 := str_ne (opOf_none h .divide)
  have m3 : (s.toList == [36, 100, 105, 118, 105, 100, 101]) = false := by have := n3; rw [ByteArray.toList_eq (Expr.opName _)] at this; exact this
  have n4 := str_ne (opOf_none h .mod_)
  have m4 : (s.toList == [36, 109, 111, 100]) = false := by have := n4; rw [ByteArray.toList_eq (Expr.opName _)] at this; exact this
  have n5 := str_ne (opOf_none h .abs)
  have m5 : (s.toList == [36, 97, 98, 115]) = false := by have := n5; rw [ByteArray.toList_eq (Expr.opName _)] at this; exact this
  have n6 := str_ne (opOf_none h .eq_)
  have m6 : (s.toList == [36, 101, 113]) = false := by have := n6; rw [ByteArray.toList_eq (Expr.opName _)] at this; exact this
  have n7 := str_ne (opOf_none h .ne_)
  have m7 : (s.toList == [36, 110, 101]) = false := by have := n7; rw [ByteArray.toList_eq (Expr.opName _)] at this; exact this
  have n8 := str_ne (opOf_none h .gt)
  have m8 : (s.toList == [36, 103, 116]) = false := by have := n8; rw [ByteArray.toList_eq (Expr.opName _)] at this; exact this
  have n9 := str_ne (opOf_none h .gte)
  have m9 : (s.toList == [36, 103, 116, 101]) = false := by have := n9; rw [ByteArray.toList_eq (Expr.opName _)] at this; exact this
  have n10 := str_ne (opOf_none h .lt_)
  have m10 : (s.toList == [36, 108, 116]) = false := by have := n10; rw [ByteArray.toList_eq (Expr.opName _)] at this; exact this
  have n11 := str_ne (opOf_none h .lte)
  have m11 : (s.toList == [36, 108, 116, 101]) = false := by have := n11; rw [ByteArray.toList_eq (Expr.opName _)] at this; exact this
  have n12 := str_ne (opOf_none h .cmp)
  have m12 : (s.toList == [36, 99, 109, 112]) = false := by have := n12; rw [ByteArray.toList_eq (Expr.opName _)] at this; exact this
  have n13 := str_ne (opOf_none h .and_)
  have m13 : (s.toList == [36, 97, 110, 100]) = false := by have := n13; rw [ByteArray.toList_eq (Expr.opName _)] at this; exact this
  have n14 := str_ne (opOf_none h .or_)
  have m14 : (s.toList == [36, 111, 114]) = false := by have := n14; rw [ByteArray.toList_eq (Expr.opName _)] at this; exact this
  have n15 := str_ne (opOf_none h .not_)
  have m15 : (s.toList == [36, 110, 111, 116]) = false := by have := n15; rw [ByteArray.toList_eq (Expr.opName _)] at this; exact this
  have n16 := str_ne (opOf_none h .cond)
  have m16 : (s.toList == [36, 99, 111, 110, 100]) = false := by have := n16; rw [ByteArray.toList_eq (Expr.opName _)] at this; exact this
  have n17 := str_ne (opOf_none h .ifNull)
  have m17 : (s.toList == [36, 105, 102, 78, 117, 108, 108]) = false := by have := n17; rw [ByteArray.toList_eq (Expr.opName _)] at this; exact this
  have n18 := str_ne (opOf_none h .concat)
  have m18 : (s.toList == [36, 99, 111, 110, 99, 97, 116]) = false := by have := n18; rw [ByteArray.toList_eq (Expr.opName _)] at this; exact this
  have n19 := str_ne (opOf_none h .size_)
  have m19 : (s.toList == [36, 115, 105, 122, 101]) = false := by have := n19; rw [ByteArray.toList_eq (Expr.opName _)] at this; exact this
  have n20 := str_ne (opOf_none h .arrayElemAt)
  have m20 : (s.toList == [36, 97, 114, 114, 97, 121, 69, 108, 101, 109, 65, 116]) = false := by have := n20; rw [ByteArray.toList_eq (Expr.opName _)] at this; exact this
  have n21 := str_ne (opOf_none h .type_)
  have m21 : (s.toList == [36, 116, 121, 112, 101]) = false := by have := n21; rw [ByteArray.toList_eq (Expr.opName _)] at this; exact this
  unfold Expr.opName at n0 n1 n2 n3 n4 n5 n6 n7 n8 n9 n10 n11 n12 n13 n14 n15 n16 n17 n18 n19 n20 n21
  go_enter Tryz.func79, Tryz.ntmps79
  go_wp2_with fail
  go_ret2
  exact ⟨rfl, Below.refl _ _⟩
 | some o =>
  have e := opOf_some h
  clear h
  subst e
  cases o with
  | add =>
   go_enter Tryz.func79, Tryz.ntmps79
   unfold Expr.opName
   go_wp2_with fail
   go_ret2
   exact ⟨rfl, Below.refl _ _⟩
  | multiply =>
   go_enter Tryz.func79, Tryz.ntmps79
   unfold Expr.opName
   go_wp2_with fail
   go_ret2
   exact ⟨rfl, Below.refl _ _⟩
  | subtract =>
   go_enter Tryz.func79, Tryz.ntmps79
   unfold Expr.opName
   go_wp2_with fail
   go_ret2
   exact ⟨rfl, Below.refl _ _⟩
  | divide =>
   go_enter Tryz.func79, Tryz.ntmps79
   unfold Expr.opName
   go_wp2_with fail
   go_ret2
   exact ⟨rfl, Below.refl _ _⟩
  | mod_ =>
   go_enter Tryz.func79, Tryz.ntmps79
   unfold Expr.opName
   go_wp2_with fail
   go_ret2
   exact ⟨rfl, Below.refl _ _⟩
  | abs =>
   go_enter Tryz.func79, Tryz.ntmps79
   unfold Expr.opName
   go_wp2_with fail
   go_ret2
   exact ⟨rfl, Below.refl _ _⟩
  | eq_ =>
   go_enter Tryz.func79, Tryz.ntmps79
   unfold Expr.opName
   go_wp2_with fail
   go_ret2
   exact ⟨rfl, Below.refl _ _⟩
  | ne_ =>
   go_enter Tryz.func79, Tryz.ntmps79
   unfold Expr.opName
   go_wp2_with fail
   go_ret2
   exact ⟨rfl, Below.refl _ _⟩
  | gt =>
   go_enter Tryz.func79, Tryz.ntmps79
   unfold Expr.opName
   go_wp2_with fail
   go_ret2
   exact ⟨rfl, Below.refl _ _⟩
  | gte =>
   go_enter Tryz.func79, Tryz.ntmps79
   unfold Expr.opName
   go_wp2_with fail
   go_ret2
   exact ⟨rfl, Below.refl _ _⟩
  | lt_ =>
   go_enter Tryz.func79, Tryz.ntmps79
   unfold Expr.opName
   go_wp2_with fail
   go_ret2
   exact ⟨rfl, Below.refl _ _⟩
  | lte =>
   go_enter Tryz.func79, Tryz.ntmps79
   unfold Expr.opName
   go_wp2_with fail
   go_ret2
   exact ⟨rfl, Below.refl _ _⟩
  | cmp =>
   go_enter Tryz.func79, Tryz.ntmps79
   unfold Expr.opName
   go_wp2_with fail
   go_ret2
   exact ⟨rfl, Below.refl _ _⟩
  | and_ =>
   go_enter Tryz.func79, Tryz.ntmps79
   unfold Expr.opName
   go_wp2_with fail
   go_ret2
   exact ⟨rfl, Below.refl _ _⟩
  | or_ =>
   go_enter Tryz.func79, Tryz.ntmps79
   unfold Expr.opName
   go_wp2_with fail
   go_ret2
   exact ⟨rfl, Below.refl _ _⟩
  | not_ =>
   go_enter Tryz.func79, Tryz.ntmps79
   unfold Expr.opName
   go_wp2_with fail
   go_ret2
   exact ⟨rfl, Below.refl _ _⟩
  | cond =>
   go_enter Tryz.func79, Tryz.ntmps79
   unfold Expr.opName
   go_wp2_with fail
   go_ret2
   exact ⟨rfl, Below.refl _ _⟩
  | ifNull =>
   go_enter Tryz.func79, Tryz.ntmps79
   unfold Expr.opName
   go_wp2_with fail
   go_ret2
   exact ⟨rfl, Below.refl _ _⟩
  | concat =>
   go_enter Tryz.func79, Tryz.ntmps79
   unfold Expr.opName
   go_wp2_with fail
   go_ret2
   exact ⟨rfl, Below.refl _ _⟩
  | size_ =>
   go_enter Tryz.func79, Tryz.ntmps79
   unfold Expr.opName
   go_wp2_with fail
   go_ret2
   exact ⟨rfl, Below.refl _ _⟩
  | arrayElemAt =>
   go_enter Tryz.func79, Tryz.ntmps79
   unfold Expr.opName
   go_wp2_with fail
   go_ret2
   exact ⟨rfl, Below.refl _ _⟩
  | type_ =>
   go_enter Tryz.func79, Tryz.ntmps79
   unfold Expr.opName
   go_wp2_with fail
   go_ret2
   exact ⟨rfl, Below.refl _ _⟩
end Go.Proofs.YtiajjgehnmkokaaGreatDoor
end
section
namespace Go.Proofs.YtiajjgehnmkokaaGreatDoor
open Go.RowKit
open Seal
open Bson (Val)
theorem dollar_cut (s : ByteArray) : Expr.dollar s = true ↔ 1 ≤ s.size ∧ s.extract 0 1 = ⟨#[36]⟩ := by
 obtain ⟨⟨l⟩⟩ := s
 unfold Expr.dollar
 match l with
 | [] => simp [ByteArray.size]
 | b :: r =>
  constructor
  ·intro h
   have hb : b = 36 := by simpa using h
   subst hb
   exact ⟨by simp [ByteArray.size], by apply ByteArray.ext; simp⟩
  ·rintro ⟨-, h⟩
   have h2 := congrArg ByteArray.data h
   simp at h2
   simp [h2]
theorem hasDollar0_any (s : ByteArray) (w : World) : Calls Tryz.prog 82 #[.string s, .string ⟨#[36]⟩] w fun e w' => e = .returned (.bool (Expr.dollar s)) ∧ Below w.heap.size w w' := by
 have hd := dollar_cut s
 by_cases h1 : 1 ≤ s.size
 ·have hge : decide ((s.size : Int) ≥ 1) = true := decide_eq_true (by omega)
  by_cases he : s.extract 0 1 = ⟨#[36]⟩
  ·have HD : Hid (Expr.dollar s = true) := hd.2 ⟨h1, he⟩
   have hb : ((s.extract 0 1).toList == [36]) = true := by rw [he, ByteArray.toList_eq]; rfl
   clear hd he
   go_enter Tryz.func82, Tryz.ntmps82
   go_wp2_with fail
   go_ret
   exact ⟨ret_eq (by rw [HD.out]; rfl), Below.refl _ _⟩
  ·have HD : Hid (Expr.dollar s = false) := by
    show _ = _
    cases h : Expr.dollar s with
    | false => rfl
    | true => exact absurd (hd.1 h).2 he
   have hb : ((s.extract 0 1).toList == [36]) = false := by
    have := str_ne he
    rw [ByteArray.toList_eq ⟨#[36]⟩] at this
    exact this
   clear hd he
   go_enter Tryz.func82, Tryz.ntmps82
   go_wp2_with fail
   go_ret
   exact ⟨ret_eq (by rw [HD.out]; rfl), Below.refl _ _⟩
 ·have HD : Hid (Expr.dollar s = false) := by
   show _ = _
   cases h : Expr.dollar s with
   | false => rfl
   | true => exact absurd (hd.1 h).1 h1
  have hlt : ¬ ((s.size : Int) ≥ 1) := by omega
  clear hd
  go_enter Tryz.func82, Tryz.ntmps82
  go_wp2_with fail
  go_ret
  exact ⟨ret_eq (by rw [HD.out]; rfl), Below.refl _ _⟩
theorem hasDollar_any (s : ByteArray) (w : World) : Calls Tryz.prog 78 #[.string s, .string ⟨#[36]⟩] w fun e w' => e = .returned (.bool (Expr.dollar s)) ∧ Below w.heap.size w w' := by
 have CH := Lib.hid (hasDollar0_any s w)
 go_enter Tryz.func78, Tryz.ntmps78
 go_wp2_with fail
 refine CH.out.mono ?_
 rintro e w2 ⟨rfl, hb2⟩
 have HB2 := Lib.hid hb2
 clear hb2 CH
 go_wp2_with fail
 go_ret
 exact ⟨rfl, HB2.out⟩
end Go.Proofs.YtiajjgehnmkokaaGreatDoor
end
section
namespace Go.Proofs.YtiajjgehnmkokaaGreatDoor
open Go.RowKit
open Seal
open Bson (Val)
theorem isOp_any (nm : ByteArray) (c0 c1 c2 c3 c4 c5 : Value) (w : World) : Calls Tryz.prog 64 #[.agg #[.string nm, c0, c1, c2, c3, c4, c5]] w fun e w' => e = .returned (.bool (Expr.dollar nm)) ∧ Below w.heap.size w w' := by
 obtain ⟨W0, hW0⟩ : ∃ W0, W0 = w.alloc (.cells #[.string nm, c0, c1, c2, c3, c4, c5] 40) := ⟨_, rfl⟩
 have hb0 : Below w.heap.size w W0 := by rw [hW0]; exact (Below.refl _ _).alloc (Nat.le_refl _) _
 have hh : W0.heap[w.heap.size]? = some (.cells #[.string nm, c0, c1, c2, c3, c4, c5] 40 (0, 0)) := by rw [hW0]; exact heap_alloc_new w _
 have k0 : W0.cell? ⟨w.heap.size, 0, none⟩ = some (.string nm) := (cell_of_row W0 _ 0 _ _ _ hh).trans rfl
 have CH := Lib.hid (hasDollar_any nm W0)
 have HB := Lib.hid hb0
 have HW0 := Lib.hid hW0
 clear hh hW0 hb0
 go_enter Tryz.func64, Tryz.ntmps64
 go_upto_region 1 with fail
 rw [← HW0.out]
 go_wp2_with fail
 refine CH.out.mono ?_
 rintro e w2 ⟨rfl, hb2⟩
 have HB2 := Lib.hid (HB.out.trans (hb2.mono HB.out.size))
 clear hb2 CH
 go_wp2_with fail
 go_ret
 exact ⟨rfl, HB2.out⟩
def opAt : List (ByteArray × Val) → Nat → Int
 | [], _ => -1
 | x :: r, i => if Expr.dollar x.1 = true then (i : Int) else opAt r (i + 1)
theorem opAt_ge : ∀ (l : List (ByteArray × Val)) (i : Nat), (0 ≤ opAt l i ↔ (l.any fun x => Expr.dollar x.1) = true)
 | [], i => by simp [opAt]
 | x :: r, i => by
  have ih := opAt_ge r (i + 1)
  rw [opAt, List.any_cons]
  by_cases h : Expr.dollar x.1 = true
  ·rw [if_pos h, h]; simp
  ·rw [if_neg h, ih]; simp [h]
theorem opIndex_any (w : World) (Q : Nat → Prop) (B : Nat) (a : Option Addr) (n c : Nat) (l : List (ByteArray × Val)) (hn : l.length = n) (hm : n ≤ 1172812402961) (hit : FieldsIn w Q (VIn w Q B) a l) :
  Calls Tryz.prog 77 #[.slice a n c, .func (.func 64) #[] #[]] w fun e w' => e = .returned (.int .i64 (opAt l 0)) ∧ Below w.heap.size w w' := by
 have HN := Lib.hid hn
 have HIT := Lib.hid hit
 obtain ⟨res, hres⟩ : ∃ z, z = opAt l 0 := ⟨_, rfl⟩
 rw [← hres]
 have HRES := Lib.hid hres
 clear hn hit hres
 go_enter Tryz.func77, Tryz.ntmps77
 go_wp2_with fail
 go_loopw [8] (fun i wr => ∃ k : Nat, i = .int .i64 k ∧ k ≤ n ∧ Hid (res = opAt (l.drop k) k) ∧ Hid (Below w.heap.size w wr)) (fun i _ => n - (intOf i).toNat)
 case atStart => exact ⟨0, rfl, Nat.zero_le _, HRES.out, Below.refl _ _⟩
 case round =>
  obtain ⟨k, rfl, hk, HP, HBr⟩ := hrel
  by_cases hlt : k < n
  ·have hkr : k < l.length := by rw [HN.out]; exact hlt
   obtain ⟨g, o, rfl, -, hall⟩ := HIT.out.resolve_left (fun e => by rw [e] at hkr; cases hkr)
   obtain ⟨hnm, -, v', hsix, hV⟩ := hall k hkr
   obtain ⟨ik, im, is_, b0, f0, l0, bb0, bc0, fb0, fc0, lb0, lc0, rfl⟩ := hV.shape
   have hnm := cell_keep HBr.out hnm
   obtain ⟨nm, hnme⟩ : ∃ z, z = l[k].1 := ⟨_, rfl⟩
   rw [← hnme] at hnm
   obtain ⟨s0, s1, s2, s3, s4, s5⟩ := (hsix.keep HBr.out).cells
   have hdrop : l.drop k = l[k] :: l.drop (k + 1) := List.drop_eq_getElem_cons hkr
   have hstep : res = if Expr.dollar nm = true then (k : Int) else opAt (l.drop (k + 1)) (k + 1) := by
    rw [HP.out, hdrop, opAt, ← hnme]
   have CN := Lib.hid (isOp_any nm (.int .i64 ik) (.int .i64 im) (.string is_) (.slice b0 bb0 bc0) (.slice f0 fb0 fc0) (.slice l0 lb0 lc0) wr)
   have HST := Lib.hid hstep
   clear hall hsix hV hdrop hstep hnme
   by_cases he : Expr.dollar nm = true
   ·rw [he] at CN
    have hre : res = (k : Int) := by have := HST.out; rw [if_pos he] at this; exact this
    have HRE := Lib.hid hre
    clear he hre
    go_wp2_with fail
    refine CN.out.mono ?_
    rintro e w2 ⟨rfl, hb2⟩
    have HB2 := Lib.hid (HBr.out.trans (hb2.mono HBr.out.size))
    clear hb2 CN
    go_wp2_with fail
    go_ret
    exact ⟨ret_eq (by rw [HRE.out]; rfl), HB2.out⟩
   ·have hf : Expr.dollar nm = false := Bool.not_eq_true _ ▸ he
    rw [hf] at CN
    have hre : Hid (res = opAt (l.drop (k + 1)) (k + 1)) := by have := HST.out; rw [if_neg he] at this; exact this
    clear he hf
    go_wp2_with fail
    refine CN.out.mono ?_
    rintro e w2 ⟨rfl, hb2⟩
    have HB2 := Lib.hid (HBr.out.trans (hb2.mono HBr.out.size))
    clear hb2 CN
    go_wp2_with fail
    go_roundw
    case rel => exact ⟨k + 1, by go_num, by omega, hre.out, HB2.out⟩
    case measure => simp [intOf]; omega
  ·obtain rfl : k = n := by omega
   have hre : res = -1 := by rw [HP.out, List.drop_eq_nil_of_le (by rw [HN.out]; exact Nat.le_refl _)]; rfl
   have HRE := Lib.hid hre
   clear hre
   go_wp2_with fail
   go_ret
   exact ⟨ret_eq (by rw [HRE.out]; rfl), HBr.out⟩
theorem hasOp_any (w : World) (Q : Nat → Prop) (B : Nat) (a : Option Addr) (n c : Nat) (l : List (ByteArray × Val)) (hn : l.length = n) (hm : n ≤ 1172812402961) (hit : FieldsIn w Q (VIn w Q B) a l) :
  Calls Tryz.prog 63 #[.slice a n c, .func (.func 64) #[] #[]] w fun e w' => e = .returned (.bool (l.any fun x => Expr.dollar x.1)) ∧ Below w.heap.size w w' := by
 have CN := Lib.hid (opIndex_any w Q B a n c l hn hm hit)
 have hge := opAt_ge l 0
 obtain ⟨z, hz⟩ : ∃ z, z = opAt l 0 := ⟨_, rfl⟩
 rw [← hz] at CN hge
 obtain ⟨b, hb⟩ : ∃ b, b = (l.any fun x => Expr.dollar x.1) := ⟨_, rfl⟩
 rw [← hb] at hge ⊢
 have HD : Hid (decide (z ≥ 0) = b) := by
  show _ = _
  by_cases h : 0 ≤ z
  ·rw [hge.1 h, decide_eq_true h]
  ·rw [decide_eq_false h]
   cases b with
   | false => rfl
   | true => exact absurd (hge.2 rfl) h
 clear hn hm hit hge hz hb
 go_enter Tryz.func63, Tryz.ntmps63
 go_wp2_with fail
 refine CN.out.mono ?_
 rintro e w2 ⟨rfl, hb2⟩
 have HB2 := Lib.hid hb2
 clear hb2 CN
 go_wp2_with fail
 go_ret
 exact ⟨ret_eq (by rw [← HD.out]; rfl), HB2.out⟩
theorem cutDollar0_any (s : ByteArray) (w : World) : Calls Tryz.prog 74 #[.string s, .string ⟨#[36]⟩] w fun e w' => e = .returned (.tuple #[.string (if Expr.dollar s = true then s.extract 1 s.size else s), .bool (Expr.dollar s)]) ∧ Below w.heap.size w w' := by
 have CH := Lib.hid (hasDollar0_any s w)
 cases h : Expr.dollar s with
 | true =>
  have hs : 1 ≤ s.size := ((dollar_cut s).1 h).1
  rw [h] at CH
  have hsi : (1 : Int) ≤ (s.size : Int) := by omega
  go_enter Tryz.func74, Tryz.ntmps74
  go_wp2_with fail
  refine CH.out.mono ?_
  rintro e w2 ⟨rfl, hb2⟩
  have HB2 := Lib.hid hb2
  clear hb2 CH
  go_wp2_with fail
  go_ret2
  exact ⟨rfl, HB2.out⟩
 | false =>
  rw [h] at CH
  go_enter Tryz.func74, Tryz.ntmps74
  go_wp2_with fail
  refine CH.out.mono ?_
  rintro e w2 ⟨rfl, hb2⟩
  have HB2 := Lib.hid hb2
  clear hb2 CH
  go_wp2_with fail
  go_ret2
  exact ⟨rfl, HB2.out⟩
theorem cutDollar_any (s : ByteArray) (w : World) : Calls Tryz.prog 61 #[.string s, .string ⟨#[36]⟩] w fun e w' => e = .returned (.tuple #[.string (if Expr.dollar s = true then s.extract 1 s.size else s), .bool (Expr.dollar s)]) ∧ Below w.heap.size w w' := by
 have CH := Lib.hid (cutDollar0_any s w)
 obtain ⟨x, hx⟩ : ∃ x, x = (if Expr.dollar s = true then s.extract 1 s.size else s) := ⟨_, rfl⟩
 rw [← hx] at CH ⊢
 clear hx
 go_enter Tryz.func61, Tryz.ntmps61
 go_wp2_with fail
 refine CH.out.mono ?_
 rintro e w2 ⟨rfl, hb2⟩
 have HB2 := Lib.hid hb2
 clear hb2 CH
 go_wp2_with fail
 go_ret2
 exact ⟨rfl, HB2.out⟩
end Go.Proofs.YtiajjgehnmkokaaGreatDoor
end
