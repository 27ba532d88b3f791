/- ExprRTerm, ExprCount, ExprMeasure, ExprParse, ExprEval. -/
import Derived.Test.YtiajjgehnmkokaaGreatDoorMl22
import Derived.Test.YtiajjgehnmkokaaGreatDoorMl8
import Derived.Test.YtiajjgehnmkokaaGreatDoorMl16
set_option maxRecDepth 100000
set_option maxHeartbeats 20000000
section
namespace Go.Proofs.YtiajjgehnmkokaaGreatDoor
open Go.RowKit
open Seal
open Bson (Val)
theorem VIn.shapes {w : World} {Q : Nat → Prop} {h : Nat} {x : Val} {k m : Int} {s : ByteArray} {ba fa la : Option Addr} {bn bc fn fc ln lc : Nat} (hv : VIn w Q (h + 1) x (.agg #[.int .i64 k, .int .i64 m, .string s, .slice ba bn bc, .slice fa fn fc, .slice la ln lc])) :
  FieldsIn w Q (VIn w Q h) fa x.f ∧ x.f.length = fn ∧ ItemsIn w Q (VIn w Q h) la x.l ∧ x.l.length = ln ∧ k = x.kind := by
 obtain ⟨ba, fa, la, bc, fc, lc, e, -, -, -, -, -, hF, hI⟩ := hv
 unfold agg at e
 simp only [Value.agg.injEq, Array.mk.injEq, List.cons.injEq, Value.int.injEq, Value.string.injEq, Value.slice.injEq, and_true, true_and] at e
 obtain ⟨e1, -, -, -, ⟨rfl, e5, -⟩, rfl, e6, -⟩ := e
 exact ⟨hF, e5.symm, hI, e6.symm, e1⟩
theorem pathsV_row (h : Nat) (x : Val) (hk : x.kind = 7) : pathsV (h + 1) x = (x.l.map (pathsV h)).flatten := by
 rw [pathsV, if_neg (by rw [hk]; decide), if_pos hk]
theorem parseV_row (h : Nat) (x : Val) (hk : x.kind = 7) : Expr.parseV (h + 1) x = Expr.parseAll (Expr.parseV h) x.l := by
 rw [Expr.parseV, if_neg (by rw [hk]; omega), if_neg (by rw [hk]; decide), if_pos hk]
theorem pathsV_leaf (h : Nat) (x : Val) (h5 : x.kind ≠ 5) (h6 : x.kind ≠ 6) (h7 : x.kind ≠ 7) : pathsV (h + 1) x = [] := by
 rw [pathsV, if_neg h5, if_neg h7, if_neg h6]
theorem parseV_leaf (h : Nat) (x : Val) (h5 : x.kind ≠ 5) (h6 : x.kind ≠ 6) (h7 : x.kind ≠ 7) : Expr.parseV (h + 1) x = if x.kind ≤ 0 ∨ 12 < x.kind then 12 else 0 := by
 by_cases hk : x.kind ≤ 0 ∨ 12 < x.kind
 ·rw [Expr.parseV, if_pos hk, if_pos hk]
 ·rw [Expr.parseV, if_neg hk, if_neg hk, if_neg h5, if_neg h7, if_neg h6]
theorem rterm_step (N C h : Nat) (hN : 16 ≤ N) (hC : 3 * (h + 1) ≤ C) (IH : TermDo N C h) : TermDo N C (h + 1) := by
 intro W0 w g pv L Q x v hG hg hb hR hv hf hL
 obtain ⟨ik, im, is_, b0, f0, l0, bb0, bc0, fb0, fc0, lb0, lc0, rfl⟩ := hv.shape
 obtain ⟨hFI, hfn, hII, hln, hkk⟩ := hv.shapes
 obtain ⟨W1, hW1⟩ : ∃ W, W = w.alloc (.cells #[.int .i64 ik, .int .i64 im, .string is_, .slice b0 bb0 bc0, .slice f0 fb0 fc0, .slice l0 lb0 lc0] 26) := ⟨_, rfl⟩
 obtain ⟨P1, hP1⟩ : ∃ P, P = w.heap.size := ⟨_, rfl⟩
 have hb1 : Below w.heap.size w W1 := by rw [hW1]; exact (Below.refl _ _).alloc (Nat.le_refl _) _
 have hX1 : IsBox W1 P1 (.int .i64 ik) (.int .i64 im) (.string is_) (.slice b0 bb0 bc0) (.slice f0 fb0 fc0) (.slice l0 lb0 lc0) := by rw [hW1, hP1]; exact IsBox.new w (.int .i64 ik) (.int .i64 im) (.string is_) (.slice b0 bb0 bc0) (.slice f0 fb0 fc0) (.slice l0 lb0 lc0)
 have hbW := hb.trans (hb1.mono hb.size)
 have hRW := hR.below hb1
 have HW1 := Lib.hid hW1
 have HP1 := Lib.hid hP1
 have HX1 := Lib.hid hX1
 have HB1 : Hid (Below w.heap.size w W1) := hb1
 obtain ⟨code, hcode⟩ : ∃ z, z = Expr.parseV (h + 1) x := ⟨_, rfl⟩
 obtain ⟨P, hP⟩ : ∃ z, z = pathsV (h + 1) x := ⟨_, rfl⟩
 have HCO := Lib.hid hcode
 have HPE := Lib.hid hP
 by_cases h5 : ik = 5
 ·have CT := Lib.hid ((etext_any N C h hN W0 W1 g pv L Q x _ (hkk.symm.trans h5) hG hg hbW hRW hv hf (by omega)).mono fun e w' hp => RdrPost.from hb1 hp fun _ _ _ hh => hh.from hb1.size (Nat.le_refl _))
  rw [← hcode, ← hP] at CT ⊢
  subst h5
  clear hv hb hR hG hf hW1 hP1 hX1 hb1 hg hL IH hFI hfn hII hln hkk hbW hRW hcode hP
  go_enter Tryz.func26, Tryz.ntmps26
  go_upto_region 1 with fail
  rw [← HW1.out, ← HP1.out]
  obtain ⟨x0, x1, x2, x3, x4, x5⟩ := HX1.out.cells
  go_wp2_with fail
  refine CT.out.mono ?_
  rintro e w3 ⟨t, pv', L', rfl, hpost⟩
  have HPO := Lib.hid hpost
  clear hpost CT x0 x1 x2 x3 x4 x5
  go_wp2_with fail
  refine bodyPost_ret (v := .tuple #[t, .int .i64 code]) ?_ rfl ?_
  ·simp [results, Tryz.results26, go_sem, *]
  ·exact ⟨t, pv', L', rfl, HPO.out⟩
 by_cases h6 : ik = 6
 ·have CT := Lib.hid ((edoc_any N C h hC IH W0 W1 g pv L Q x f0 fb0 fc0 (hkk.symm.trans h6) hfn hG hg hbW hRW hFI hf hL).mono fun e w' hp => RdrPost.from hb1 hp fun _ _ _ hh => hh.from hb1.size (Nat.le_refl _))
  rw [← hcode, ← hP] at CT ⊢
  subst h6
  clear hv hb hR hG hf hW1 hP1 hX1 hb1 hg hL IH hFI hfn hII hln hkk hbW hRW hcode hP h5
  go_enter Tryz.func26, Tryz.ntmps26
  go_upto_region 1 with fail
  rw [← HW1.out, ← HP1.out]
  obtain ⟨x0, x1, x2, x3, x4, x5⟩ := HX1.out.cells
  go_wp2_with fail
  refine CT.out.mono ?_
  rintro e w3 ⟨t, pv', L', rfl, hpost⟩
  have HPO := Lib.hid hpost
  clear hpost CT x0 x1 x2 x3 x4 x5
  go_wp2_with fail
  refine bodyPost_ret (v := .tuple #[t, .int .i64 code]) ?_ rfl ?_
  ·simp [results, Tryz.results26, go_sem, *]
  ·exact ⟨t, pv', L', rfl, HPO.out⟩
 by_cases h7 : ik = 7
 ·have hk7 := hkk.symm.trans h7
  have hlim : lb0 ≤ 256 := by rw [← hln]; exact hf.l
  rw [pathsV_row h x hk7] at hL hP
  rw [parseV_row h x hk7] at hcode
  have hit : ItemsIn W1 (fun k => k < W0.heap.size) (VIn W0 Q h) l0 x.l := items_old hII hbW
  have CT := Lib.hid ((rterms_any N C h IH W0 W1 g pv L Q _ l0 lb0 lc0 x.l hG hg hbW hRW hln hlim hf.ls hit (fun k hk hr => by have := hR.ge hr; omega) hL).mono fun e w' hp => RdrPost.from hb1 hp fun _ _ _ hh => hh)
  have HE := Lib.hid (evF_row N C h x hk7)
  have HLN : Hid ((x.l.map (evF N C h)).length = lb0) := by show _ = _; rw [List.length_map]; exact hln
  rw [← hcode, ← hP] at CT
  rw [← HCO.out, ← HPE.out]
  subst h7
  clear hv hb hR hG hf hW1 hP1 hX1 hb1 hg hL IH hFI hfn hII hln hkk hbW hRW hcode hP h5 h6 hk7 hit
  go_enter Tryz.func26, Tryz.ntmps26
  go_upto_region 1 with fail
  rw [← HW1.out, ← HP1.out]
  obtain ⟨x0, x1, x2, x3, x4, x5⟩ := HX1.out.cells
  go_wp2_with fail
  refine CT.out.mono ?_
  rintro e w3 ⟨t, pv', L', rfl, hm, hv, hR, hgd⟩
  have HM := Lib.hid hm
  have HV := Lib.hid hv
  have HR := Lib.hid hR
  by_cases hz : code = 0
  ·obtain ⟨hL', ta, tc, rfl, hc1, hc2, hT⟩ := hgd hz
   have HL' := Lib.hid hL'
   have HT : Hid (TermGood g w.heap.size (3 * (h + 1)) (evF N C (h + 1) x) w3 pv' (.iface 93 (.slice ta lb0 tc))) := fun W hW => by
    rw [HE.out]
    exact (ev_row W (3 * h) ta lb0 tc _ HLN.out (by omega) (hT W (hW.mono fun k hk e => by
     rcases e with e | e
     ·exact .inl ⟨e.1, by have := HB1.out.size; omega⟩
     ·exact .inr e))).up (by omega)
   have hll := HLN.out
   rw [hll]
   subst hz
   clear hm hv hR hgd hL' hT hll CT x0 x1 x2 x3 x4 x5
   go_wp2_with fail
   refine bodyPost_ret (v := .tuple #[.iface 93 (.slice ta lb0 tc), .int .i64 0]) ?_ rfl ?_
   ·simp [results, Tryz.results26, go_sem, *]
   ·exact ⟨_, pv', L', rfl, HM.out, HV.out, HR.out, fun _ => ⟨HL'.out, HT.out⟩⟩
  ·have hz2 : (code == 0) = false := by rw [beq_eq_false_iff_ne]; exact hz
   have hz3 : (code != 0) = true := by unfold bne; rw [hz2]; rfl
   have HZ := Lib.hid hz
   clear hm hv hR hgd CT x0 x1 x2 x3 x4 x5 hz
   go_wp2_with fail
   refine bodyPost_ret (v := .tuple #[.nilIface, .int .i64 code]) ?_ rfl ?_
   ·simp [results, Tryz.results26, go_sem, *]
   ·exact ⟨_, pv', L', rfl, HM.out, HV.out, HR.out, fun e => absurd e HZ.out⟩
 have e5 : (ik == 5) = false := by rw [beq_eq_false_iff_ne]; exact h5
 have e6 : (ik == 6) = false := by rw [beq_eq_false_iff_ne]; exact h6
 have e7 : (ik == 7) = false := by rw [beq_eq_false_iff_ne]; exact h7
 have k5 : x.kind ≠ 5 := by rw [← hkk]; exact h5
 have k6 : x.kind ≠ 6 := by rw [← hkk]; exact h6
 have k7 : x.kind ≠ 7 := by rw [← hkk]; exact h7
 rw [pathsV_leaf h x k5 k6 k7] at hP ⊢
 rw [parseV_leaf h x k5 k6 k7, ← hkk] at hcode
 rw [parseV_leaf h x k5 k6 k7, ← hkk, ← hcode]
 have HE := Lib.hid (evF_leaf N C h x k5 k6 k7)
 have HCC := Lib.hid hcode
 have HR := Lib.hid hR
 have HV := Lib.hid hv
 have HB := Lib.hid hb
 have HGE := Lib.hid hg
 have CC : Hid (∀ u, Calls Tryz.prog 49 #[.int .i64 ik] u (IntPost (Order.cls ik) u)) := fun u => class_any ik u
 clear hv hb hR hG hf hW1 hP1 hX1 hb1 hg hL IH hFI hfn hII hln hkk hbW hRW hcode hP h5 h6 h7 k5 k6 k7
 by_cases hz : ik = 0
 ·have HC12 : Hid (code = 12) := by show _ = _; rw [HCC.out, if_pos (by omega)]
  subst hz
  go_enter Tryz.func26, Tryz.ntmps26
  go_upto_region 1 with fail
  rw [← HW1.out, ← HP1.out]
  obtain ⟨x0, x1, x2, x3, x4, x5⟩ := HX1.out.cells
  go_wp2_with fail
  refine bodyPost_ret (v := .tuple #[.nilIface, .int .i64 12]) ?_ rfl ?_
  ·simp [results, Tryz.results26, go_sem, *]
  ·exact ⟨_, pv, L, by rw [HC12.out], RM.of_below HB1.out, Mvd.refl _ _, HR.out.below HB1.out, fun e => by rw [HC12.out] at e; cases e⟩
 have e0 : (ik == 0) = false := by rw [beq_eq_false_iff_ne]; exact hz
 by_cases hbad : ik < 0 ∨ 12 < ik
 ·have HC12 : Hid (code = 12) := by show _ = _; rw [HCC.out, if_pos (by omega)]
  have hcl : Order.cls ik = -1 := if_pos hbad
  rw [hcl] at CC
  clear hcl hbad hz
  go_enter Tryz.func26, Tryz.ntmps26
  go_upto_region 1 with fail
  rw [← HW1.out, ← HP1.out]
  obtain ⟨x0, x1, x2, x3, x4, x5⟩ := HX1.out.cells
  go_wp2_with fail
  refine (CC.out _).mono ?_
  rintro e w3 ⟨rfl, rfl⟩
  go_wp2_with fail
  refine bodyPost_ret (v := .tuple #[.nilIface, .int .i64 12]) ?_ rfl ?_
  ·simp [results, Tryz.results26, go_sem, *]
  ·exact ⟨_, pv, L, by rw [HC12.out], RM.of_below HB1.out, Mvd.refl _ _, HR.out.below HB1.out, fun e => by rw [HC12.out] at e; cases e⟩
 ·have HC0 : Hid (code = 0) := by show _ = _; rw [HCC.out, if_neg (by omega)]
  obtain ⟨cl, hcl⟩ : ∃ z, z = Order.cls ik := ⟨_, rfl⟩
  have hclp : 0 ≤ cl := by
   rw [hcl]; unfold Order.cls
   rw [if_neg hbad]
   split <;> omega
  have hcn : ¬ cl < 0 := by omega
  rw [← hcl] at CC
  clear hcl hbad hz hclp
  go_enter Tryz.func26, Tryz.ntmps26
  go_upto_region 1 with fail
  rw [← HW1.out, ← HP1.out]
  obtain ⟨x0, x1, x2, x3, x4, x5⟩ := HX1.out.cells
  go_wp2_with fail
  refine (CC.out _).mono ?_
  rintro e w3 ⟨rfl, rfl⟩
  go_wp2_with fail
  refine bodyPost_ret (v := .tuple #[.iface 95 (.agg #[.int .i64 ik, .int .i64 im, .string is_, .slice b0 bb0 bc0, .slice f0 fb0 fc0, .slice l0 lb0 lc0]), .int .i64 0]) ?_ rfl ?_
  ·simp [results, Tryz.results26, go_sem, *]
  ·refine ⟨_, pv, L, by rw [HC0.out], RM.of_below HB1.out, Mvd.refl _ _, HR.out.below HB1.out, fun _ => ⟨by simp, fun W hW => ?_⟩⟩
   rw [HE.out]
   have hbW : Below W0.heap.size W0 W := (HB.out.trans (HB1.out.mono HB.out.size)).trans (hW.below (Nat.le_trans HB.out.size HB1.out.size) (fun k e => by rcases e with e | e; exact Nat.le_trans HGE.out e.1; exact Nat.le_trans HGE.out (Nat.le_of_lt (HR.out.block e).1)))
   exact (ev_const W h Q x _ (VIn.keep hbW HV.out)).up (by omega)
theorem rterm_any (N C : Nat) (hN : 16 ≤ N) : ∀ h, 3 * h ≤ C → TermDo N C h
 | 0, _ => fun _ _ _ _ _ _ _ _ _ _ _ _ hv => hv.elim
 | h + 1, hC => rterm_step N C h hN hC (rterm_any N C hN h (by omega))
namespace Expr
def cntAll (c : Val → Nat × Bool → Option (Nat × Bool)) : List Val → Nat × Bool → Option (Nat × Bool)
 | [], s => some s
 | x :: r, s => (c x s).bind (cntAll c r)
def cnt : Nat → Int → Val → Nat × Bool → Option (Nat × Bool)
 | 0, _, _, s => some s
 | h + 1, d, x, s => if 400 < s.1 + 1 ∨ 256 < x.f.length ∨ 256 < x.l.length then none else
  (cntAll (cnt h (d + 1)) (x.f.map (·.2)) (s.1 + 1, s.2 || (decide (32 < d) && (x.kind == 6 || x.kind == 7)))).bind (cntAll (cnt h (d + 1)) x.l)
theorem cntAll_snoc (c : Val → Nat × Bool → Option (Nat × Bool)) : ∀ (l : List Val) (s : Nat × Bool) (k : Nat) (hk : k < l.length), cntAll c (l.take (k + 1)) s = (cntAll c (l.take k) s).bind (c (l[k]'hk))
 | [], _, _, hk => by simp at hk
 | x :: r, s, 0, _ => by
  show (c x s).bind (cntAll c []) = (some s).bind (c x)
  cases e : c x s with
  | none => show none = c x s; rw [e]
  | some v => show some v = c x s; rw [e]
 | x :: r, s, k + 1, hk => by
  have hk2 : k < r.length := by simpa using hk
  show (c x s).bind (cntAll c (r.take (k + 1))) = ((c x s).bind (cntAll c (r.take k))).bind (c (r[k]'hk2))
  cases c x s with
  | none => rfl
  | some s' => exact cntAll_snoc c r s' k hk2
theorem cntAll_none (c : Val → Nat × Bool → Option (Nat × Bool)) : ∀ (l : List Val) (s s' : Nat × Bool) (k : Nat) (hk : k < l.length), cntAll c (l.take k) s = some s' → c l[k] s' = none → cntAll c l s = none
 | [], _, _, _, hk, _, _ => by simp at hk
 | x :: r, s, s', 0, _, h1, h2 => by
  have e : s = s' := Option.some.inj h1
  have h3 : c x s' = none := h2
  show (c x s).bind _ = none
  rw [e, h3]; rfl
 | x :: r, s, s', k + 1, hk, h1, h2 => by
  have h3 : (c x s).bind (cntAll c (r.take k)) = some s' := h1
  show (c x s).bind _ = none
  cases e : c x s with
  | none => rfl
  | some s2 =>
   rw [e] at h3
   exact cntAll_none c r s2 s' k (by simpa using hk) h3 h2
end Expr
def IsM (w : World) (gm n : Nat) (b : Bool) : Prop := w.heap[gm]? = some (.cells #[.int .i64 (n : Int), .bool b] 83 (0, 0))
theorem IsM.lt {w : World} {gm n : Nat} {b : Bool} (h : IsM w gm n b) : gm < w.heap.size := (Array.getElem?_eq_some_iff.1 h).1
theorem IsM.keep {w w' : World} {gm n : Nat} {b : Bool} (h : IsM w gm n b) (hb : Below w.heap.size w w') : IsM w' gm n b := (hb.block gm h.lt).trans h
theorem IsM.put0 {w : World} {gm n m : Nat} {b : Bool} (h : IsM w gm n b) : IsM (w.setCell ⟨gm, 0, none⟩ (.int .i64 (m : Int))) gm m b := heap_setCell_same w gm 0 _ _ _ h
theorem IsM.put1 {w : World} {gm n : Nat} {b : Bool} (h : IsM w gm n b) (b' : Bool) : IsM (w.setCell ⟨gm, 1, none⟩ (.bool b')) gm n b' := heap_setCell_same w gm 1 _ _ _ h
theorem setCell_rm (w : World) (g o : Nat) (v : Value) : RM (fun k => k = g) w (w.setCell ⟨g, o, none⟩ v) := ⟨rfl, rfl, rfl, by show _ ≤ (w.heap.modify _ _).size; rw [Array.size_modify]; exact Nat.le_refl _, fun k _ hn => Below.heap_setCell _ _ _ _ hn⟩
theorem IsBox.rm {w w' : World} {g p : Nat} {c0 c1 c2 c3 c4 c5 : Value} (h : IsBox w p c0 c1 c2 c3 c4 c5) (hm : RM (fun k => k = g) w w') (hp : p ≠ g) : IsBox w' p c0 c1 c2 c3 c4 c5 := (hm.block p h.lt hp).trans h
def CntPost (w : World) (gm : Nat) (r : Option (Nat × Bool)) (n0 : Nat) (e : Ending) (w' : World) : Prop :=
 ∃ n b, e = .returned (.bool r.isSome) ∧ IsM w' gm n b ∧ RM (fun k => k = gm) w w' ∧ (r.isSome = true → r = some (n, b) ∧ n0 < n ∧ n ≤ 400)
def CountDo (h : Nat) : Prop :=
 ∀ (W0 w : World) (gm : Nat) (Q : Nat → Prop) (x : Val) (v : Value) (n : Nat) (b : Bool) (d : Nat), W0.heap.size ≤ gm → Below W0.heap.size W0 w → IsM w gm n b → VIn W0 Q h x v → n ≤ 400 → d ≤ n + 1 →
  Calls Tryz.prog 41 #[.pointer (some ⟨gm, 0, none⟩), v, .int .i64 (d : Int)] w (CntPost w gm (Expr.cnt h (d : Int) x (n, b)) n)
theorem count_step (h : Nat) (IH : CountDo h) : CountDo (h + 1) := by
 intro W0 w gm Q x v n b d hg hb hM hv hn hd
 obtain ⟨ik, im, is_, b0, f0, l0, bb0, bc0, fb0, fc0, lb0, lc0, rfl⟩ := hv.shape
 obtain ⟨hFI, hfn, hII, hln, hkk⟩ := hv.shapes
 obtain ⟨W1, hW1⟩ : ∃ W, W = w.alloc (.cells #[.int .i64 ik, .int .i64 im, .string is_, .slice b0 bb0 bc0, .slice f0 fb0 fc0, .slice l0 lb0 lc0] 26) := ⟨_, rfl⟩
 obtain ⟨P1, hP1⟩ : ∃ P, P = w.heap.size := ⟨_, rfl⟩
 have hb1 : Below w.heap.size w W1 := by rw [hW1]; exact (Below.refl _ _).alloc (Nat.le_refl _) _
 have hX1 : IsBox W1 P1 (.int .i64 ik) (.int .i64 im) (.string is_) (.slice b0 bb0 bc0) (.slice f0 fb0 fc0) (.slice l0 lb0 lc0) := by rw [hW1, hP1]; exact IsBox.new w (.int .i64 ik) (.int .i64 im) (.string is_) (.slice b0 bb0 bc0) (.slice f0 fb0 fc0) (.slice l0 lb0 lc0)
 have hPG : P1 ≠ gm := by have := hM.lt; omega
 have hM1 := hM.keep hb1
 have hnn : ((n : Int) + 1) = ((n + 1 : Nat) : Int) := by omega
 obtain ⟨W2, hW2⟩ : ∃ W, W = W1.setCell ⟨gm, 0, none⟩ (.int .i64 ((n : Int) + 1)) := ⟨_, rfl⟩
 have hM2 : IsM W2 gm (n + 1) b := by rw [hW2, hnn]; exact hM1.put0
 have hR12 : RM (fun k => k = gm) W1 W2 := by rw [hW2]; exact setCell_rm _ _ _ _
 have hX2 := hX1.rm hR12 hPG
 have hR2 : RM (fun k => k = gm) w W2 := (RM.of_below (F := fun k => k = gm) hb1).trans hR12 (fun _ _ e => e)
 have HFI := Lib.hid hFI
 have HLI := Lib.hid hII
 have HFN := Lib.hid hfn
 have HLN := Lib.hid hln
 have HKK := Lib.hid hkk
 have HW1 := Lib.hid hW1
 have HP1 := Lib.hid hP1
 have HW2 := Lib.hid hW2
 have HM1 := Lib.hid hM1
 have HM2 := Lib.hid hM2
 have HX2 := Lib.hid hX2
 have HR2 := Lib.hid hR2
 have HB := Lib.hid hb
 have HD := Lib.hid hd
 have hdb : (d : Int) ≤ 401 := by omega
 have HPG : Hid (P1 ≠ gm) := hPG
 have HGM : Hid (W0.heap.size ≤ gm ∧ W0.heap.size ≤ w.heap.size) := ⟨hg, hb.size⟩
 have HIH : Hid (CountDo h) := IH
 have HN0 := Lib.hid hn
 obtain ⟨r, hr⟩ : ∃ z, z = Expr.cnt (h + 1) (d : Int) x (n, b) := ⟨_, rfl⟩
 rw [← hr]
 rw [Expr.cnt] at hr
 clear hv hFI hfn hII hln hW1 hP1 hb1 hX1 hPG hM1 hnn hW2 hM2 hR12 hX2 hR2 hb hd hg IH hM hkk
 by_cases hA : 400 < n + 1
 ·skip
  have hno : r = none := by rw [hr, if_pos (.inl hA)]
  have HNO := Lib.hid hno
  have hA2 : (400 : Int) < ((n + 1 : Nat) : Int) := by omega
  clear hno hr hA
  go_enter Tryz.func41, Tryz.ntmps41
  go_upto_region 1 with fail
  rw [← HW1.out, ← HP1.out]
  have c0 : W1.cell? ⟨gm, 0, none⟩ = some (.int .i64 (n : Int)) := (cell_of_row W1 gm 0 _ _ _ HM1.out).trans rfl
  have q0 : W1.frozen? ⟨gm, 0, none⟩ = false := frozen_of_row W1 gm 0 _ _ HM1.out
  go_upto_region 2 with fail
  rw [← HW2.out]
  clear c0 q0
  have c0 : W2.cell? ⟨gm, 0, none⟩ = some (.int .i64 ((n + 1 : Nat) : Int)) := (cell_of_row W2 gm 0 _ _ _ HM2.out).trans rfl
  obtain ⟨x0, x1, x2, x3, x4, x5⟩ := HX2.out.cells
  go_wp2_with fail
  refine bodyPost_ret (v := .bool false) ?_ rfl ?_
  ·simp [results, Tryz.results41, go_sem, *]
  ·exact ⟨_, _, by rw [HNO.out]; rfl, HM2.out, HR2.out, fun e => by rw [HNO.out] at e; cases e⟩
 have hA3 : ¬ (400 : Int) < ((n + 1 : Nat) : Int) := by omega
 by_cases hB : 256 < fb0
 ·skip
  have hno : r = none := by rw [hr, if_pos (.inr (.inl (by rw [HFN.out]; exact hB)))]
  have HNO := Lib.hid hno
  have hB2 : (256 : Int) < (fb0 : Int) := by omega
  clear hno hr hB
  go_enter Tryz.func41, Tryz.ntmps41
  go_upto_region 1 with fail
  rw [← HW1.out, ← HP1.out]
  have c0 : W1.cell? ⟨gm, 0, none⟩ = some (.int .i64 (n : Int)) := (cell_of_row W1 gm 0 _ _ _ HM1.out).trans rfl
  have q0 : W1.frozen? ⟨gm, 0, none⟩ = false := frozen_of_row W1 gm 0 _ _ HM1.out
  go_upto_region 2 with fail
  rw [← HW2.out]
  clear c0 q0
  have c0 : W2.cell? ⟨gm, 0, none⟩ = some (.int .i64 ((n + 1 : Nat) : Int)) := (cell_of_row W2 gm 0 _ _ _ HM2.out).trans rfl
  obtain ⟨x0, x1, x2, x3, x4, x5⟩ := HX2.out.cells
  go_wp2_with fail
  refine bodyPost_ret (v := .bool false) ?_ rfl ?_
  ·simp [results, Tryz.results41, go_sem, *]
  ·exact ⟨_, _, by rw [HNO.out]; rfl, HM2.out, HR2.out, fun e => by rw [HNO.out] at e; cases e⟩
 have hB3 : ¬ (256 : Int) < (fb0 : Int) := by omega
 by_cases hC : 256 < lb0
 ·skip
  have hno : r = none := by rw [hr, if_pos (.inr (.inr (by rw [HLN.out]; exact hC)))]
  have HNO := Lib.hid hno
  have hC2 : (256 : Int) < (lb0 : Int) := by omega
  clear hno hr hC
  go_enter Tryz.func41, Tryz.ntmps41
  go_upto_region 1 with fail
  rw [← HW1.out, ← HP1.out]
  have c0 : W1.cell? ⟨gm, 0, none⟩ = some (.int .i64 (n : Int)) := (cell_of_row W1 gm 0 _ _ _ HM1.out).trans rfl
  have q0 : W1.frozen? ⟨gm, 0, none⟩ = false := frozen_of_row W1 gm 0 _ _ HM1.out
  go_upto_region 2 with fail
  rw [← HW2.out]
  clear c0 q0
  have c0 : W2.cell? ⟨gm, 0, none⟩ = some (.int .i64 ((n + 1 : Nat) : Int)) := (cell_of_row W2 gm 0 _ _ _ HM2.out).trans rfl
  obtain ⟨x0, x1, x2, x3, x4, x5⟩ := HX2.out.cells
  go_wp2_with fail
  refine bodyPost_ret (v := .bool false) ?_ rfl ?_
  ·simp [results, Tryz.results41, go_sem, *]
  ·exact ⟨_, _, by rw [HNO.out]; rfl, HM2.out, HR2.out, fun e => by rw [HNO.out] at e; cases e⟩
 have hC3 : ¬ (256 : Int) < (lb0 : Int) := by omega
 rw [if_neg (by rw [HFN.out, HLN.out]; omega)] at hr
 have HLE : Hid (n + 1 ≤ 400) := by show _ ≤ _; omega
 obtain ⟨b3, hb3⟩ : ∃ z, z = (b || (decide (32 < (d : Int)) && (x.kind == 6 || x.kind == 7))) := ⟨_, rfl⟩
 have HRR : Hid (r = (Expr.cntAll (Expr.cnt h ((d : Int) + 1)) (x.f.map (·.2)) (n + 1, b3)).bind (Expr.cntAll (Expr.cnt h ((d : Int) + 1)) x.l)) := by show _ = _; rw [hr, hb3]
 rw [← HKK.out] at hb3
 clear hr hA hB hC
 obtain ⟨dp, hdp⟩ : ∃ z, z = (decide (32 < (d : Int)) && (ik == 6 || ik == 7)) := ⟨_, rfl⟩
 rw [← hdp] at hb3
 have HDP := Lib.hid hdp
 have HB3 := Lib.hid hb3
 clear hdp hb3
 go_enter Tryz.func41, Tryz.ntmps41
 go_upto_region 1 with fail
 rw [← HW1.out, ← HP1.out]
 have c0 : W1.cell? ⟨gm, 0, none⟩ = some (.int .i64 (n : Int)) := (cell_of_row W1 gm 0 _ _ _ HM1.out).trans rfl
 have q0 : W1.frozen? ⟨gm, 0, none⟩ = false := frozen_of_row W1 gm 0 _ _ HM1.out
 go_upto_region 2 with fail
 rw [← HW2.out]
 clear c0 q0
 have c0 : W2.cell? ⟨gm, 0, none⟩ = some (.int .i64 ((n + 1 : Nat) : Int)) := (cell_of_row W2 gm 0 _ _ _ HM2.out).trans rfl
 obtain ⟨x0, x1, x2, x3, x4, x5⟩ := HX2.out.cells
 go_upto_region 4 with fail
 go_cut [46] from 35 to 45 (fun u W => u = .bool dp ∧ W = W2)
 case first =>
  by_cases hd2 : (32 : Int) < (d : Int)
  ·skip
   cases e6 : (ik == 6) with
   | true =>
    have he : dp = true := by rw [HDP.out, decide_eq_true hd2, e6]; rfl
    subst he
    go_wp2_with fail
    go_meet
    exact ⟨rfl, rfl⟩
   | false =>
    cases e7 : (ik == 7) with
    | true =>
     have he : dp = true := by rw [HDP.out, decide_eq_true hd2, e6, e7]; rfl
     subst he
     go_wp2_with fail
     go_meet
     exact ⟨rfl, rfl⟩
    | false =>
     have he : dp = false := by rw [HDP.out, e6, e7]; simp
     subst he
     go_wp2_with fail
     go_meet
     exact ⟨rfl, rfl⟩
  ·skip
   have he : dp = false := by rw [HDP.out, decide_eq_false hd2]; rfl
   subst he
   go_wp2_with fail
   go_meet
   exact ⟨rfl, rfl⟩
 case rest =>
 obtain ⟨rfl, hwc⟩ := hcut
 rw [hwc]
 clear hwc
 clear x0 x1 x2 x3 x4 x5 c0
 go_upto_if 46 with fail
 go_cut [] from 47 to 49 (fun W => Hid (IsM W gm (n + 1) b3 ∧ IsBox W P1 (.int .i64 ik) (.int .i64 im) (.string is_) (.slice b0 bb0 bc0) (.slice f0 fb0 fc0) (.slice l0 lb0 lc0) ∧ RM (fun k => k = gm) w W))
 case first =>
  cases dp with
  | true =>
   have c1 : W2.cell? ⟨gm, 1, none⟩ = some (.bool b) := (cell_of_row W2 gm 1 _ _ _ HM2.out).trans rfl
   have q1 : W2.frozen? ⟨gm, 1, none⟩ = false := frozen_of_row W2 gm 1 _ _ HM2.out
   have hR23 : RM (fun k => k = gm) W2 (W2.setCell ⟨gm, 1, none⟩ (.bool true)) := setCell_rm _ _ _ _
   have HFACT : Hid (IsM (W2.setCell ⟨gm, 1, none⟩ (.bool true)) gm (n + 1) b3 ∧ IsBox (W2.setCell ⟨gm, 1, none⟩ (.bool true)) P1 (.int .i64 ik) (.int .i64 im) (.string is_) (.slice b0 bb0 bc0) (.slice f0 fb0 fc0) (.slice l0 lb0 lc0) ∧ RM (fun k => k = gm) w (W2.setCell ⟨gm, 1, none⟩ (.bool true))) := by
    have e : b3 = true := by rw [HB3.out]; simp
    rw [e]
    exact ⟨HM2.out.put1 true, HX2.out.rm hR23 HPG.out, HR2.out.trans hR23 (fun _ _ e => e)⟩
   clear hR23
   go_wp2_with fail
   go_meet
   exact HFACT
  | false =>
   have HFACT : Hid (IsM W2 gm (n + 1) b3 ∧ IsBox W2 P1 (.int .i64 ik) (.int .i64 im) (.string is_) (.slice b0 bb0 bc0) (.slice f0 fb0 fc0) (.slice l0 lb0 lc0) ∧ RM (fun k => k = gm) w W2) := by
    have e : b3 = b := by rw [HB3.out]; simp
    rw [e]
    exact ⟨HM2.out, HX2.out, HR2.out⟩
   go_wp2_with fail
   go_meet
   exact HFACT
 case rest =>
 obtain ⟨hM3, hX3, hR3⟩ := hcut.out
 have HM3 := Lib.hid hM3
 have HX3 := Lib.hid hX3
 have HR3 := Lib.hid hR3
 clear hcut hM3 hX3 hR3
 obtain ⟨x0, x1, x2, x3, x4, x5⟩ := HX3.out.cells
 go_wp2_with fail
 go_loopw [53] (fun i wr => ∃ (k n2 : Nat) (b2 : Bool), i = .int .i64 k ∧ k ≤ fb0 ∧ Hid (IsM wr gm n2 b2) ∧ Hid (IsBox wr P1 (.int .i64 ik) (.int .i64 im) (.string is_) (.slice b0 bb0 bc0) (.slice f0 fb0 fc0) (.slice l0 lb0 lc0)) ∧ Hid (RM (fun k => k = gm) w wr) ∧ Hid (Expr.cntAll (Expr.cnt h ((d : Int) + 1)) ((x.f.map (·.2)).take k) (n + 1, b3) = some (n2, b2)) ∧ Hid (n < n2 ∧ n2 ≤ 400)) (fun i _ => fb0 - (intOf i).toNat)
 case atStart => exact ⟨0, n + 1, b3, rfl, Nat.zero_le _, HM3.out, HX3.out, HR3.out, rfl, by omega, by have := HLE.out; omega⟩
 case round =>
  obtain ⟨k, n2, b2, rfl, hk, HMr, HXr, HRr, HCr, HNr⟩ := hrel
  by_cases hlt : k < fb0
  ·skip
   have hkl : k < x.f.length := by rw [HFN.out]; exact hlt
   obtain ⟨g0, o0, rfl, hq0, hall⟩ := HFI.out.resolve_left (fun e => by rw [e] at hkl; cases hkl)
   obtain ⟨hnm, hnl, v1, hsix, hV⟩ := hall k hkl
   obtain ⟨jk, jm, js, b1, f1, l1, bb1, bc1, fb1, fc1, lb1, lc1, rfl⟩ := hV.shape
   have hBr : Below W0.heap.size W0 wr := HB.out.trans (HRr.out.below HB.out.size (fun k e => by have := HGM.out; omega))
   obtain ⟨s0, s1, s2, s3, s4, s5⟩ := (hsix.keep hBr).cells
   have sn := cell_keep hBr hnm
   obtain ⟨nm, hnme⟩ : ∃ z, z = x.f[k].1 := ⟨_, rfl⟩
   rw [← hnme] at sn
   obtain ⟨W5, hW5⟩ : ∃ W5, W5 = wr.alloc (.cells #[.string nm, .int .i64 jk, .int .i64 jm, .string js, .slice b1 bb1 bc1, .slice f1 fb1 fc1, .slice l1 lb1 lc1] 40) := ⟨_, rfl⟩
   obtain ⟨PB, hPB⟩ : ∃ P, P = wr.heap.size := ⟨_, rfl⟩
   have hb5 : Below wr.heap.size wr W5 := by rw [hW5]; exact (Below.refl _ _).alloc (Nat.le_refl _) _
   have hX5 : W5.heap[PB]? = some (.cells #[.string nm, .int .i64 jk, .int .i64 jm, .string js, .slice b1 bb1 bc1, .slice f1 fb1 fc1, .slice l1 lb1 lc1] 40 (0, 0)) := by rw [hW5, hPB]; exact heap_alloc_new wr _
   have hdd : ((d + 1 : Nat) : Int) = (d : Int) + 1 := by omega
   have hck := HIH.out W0 W5 gm Q x.f[k].2 _ n2 b2 (d + 1) HGM.out.1 (hBr.trans (hb5.mono hBr.size)) (HMr.out.keep hb5) hV HNr.out.2 (by have := HNr.out.1; have := HD.out; omega)
   rw [hdd] at hck
   have CK := Lib.hid hck
   obtain ⟨rk, hrk⟩ : ∃ z, z = Expr.cnt h ((d : Int) + 1) x.f[k].2 (n2, b2) := ⟨_, rfl⟩
   rw [← hrk] at CK
   have HRK := Lib.hid hrk
   have HW5 := Lib.hid hW5
   have HPB := Lib.hid hPB
   have HX5 := Lib.hid hX5
   have HB5 : Hid (Below wr.heap.size wr W5) := hb5
   have HXB := Lib.hid (HXr.out.keep hb5)
   clear hall hsix hV hnm hnl hnme hBr hb5 hX5 hW5 hPB hck hrk hdd hq0
   go_upto_region 9 with fail
   rw [← HW5.out, ← HPB.out]
   clear s0 s1 s2 s3 s4 s5 sn
   have y1 := (cell_of_row W5 PB 1 _ _ _ HX5.out).trans rfl
   have y2 := (cell_of_row W5 PB 2 _ _ _ HX5.out).trans rfl
   have y3 := (cell_of_row W5 PB 3 _ _ _ HX5.out).trans rfl
   have y4 := (cell_of_row W5 PB 4 _ _ _ HX5.out).trans rfl
   have y5 := (cell_of_row W5 PB 5 _ _ _ HX5.out).trans rfl
   have y6 := (cell_of_row W5 PB 6 _ _ _ HX5.out).trans rfl
   go_wp2_with fail
   refine CK.out.mono ?_
   rintro e w6 ⟨n6, b6, rfl, hM6, hR6, hS6⟩
   have HM6 := Lib.hid hM6
   have HR6 : Hid (RM (fun k => k = gm) w w6) := (HRr.out.trans (RM.of_below (F := fun _ => False) HB5.out) (fun _ _ e => e.elim)).trans hR6 (fun _ _ e => e)
   have HX6 := Lib.hid (HXB.out.rm hR6 HPG.out)
   have HS6 := Lib.hid hS6
   clear hM6 hR6 hS6 CK y1 y2 y3 y4 y5 y6
   cases hrs : rk.isSome with
   | false =>
    have hnone : r = none := by
     have e : rk = none := by cases rk with | none => rfl | some _ => cases hrs
     rw [HRR.out, Expr.cntAll_none _ (x.f.map (·.2)) _ (n2, b2) k (by rw [List.length_map]; exact hkl) HCr.out (by rw [List.getElem_map, ← HRK.out, e])]; rfl
    have HNO := Lib.hid hnone
    clear hnone hrs
    go_wp2_with fail
    refine bodyPost_ret (v := .bool false) ?_ rfl ?_
    ·simp [results, Tryz.results41, go_sem, *]
    ·exact ⟨_, _, by rw [HNO.out]; rfl, HM6.out, HR6.out, fun e => by rw [HNO.out] at e; cases e⟩
   | true =>
    obtain ⟨e1, e2, e3⟩ := HS6.out hrs
    have hc2 : Expr.cntAll (Expr.cnt h ((d : Int) + 1)) ((x.f.map (·.2)).take (k + 1)) (n + 1, b3) = some (n6, b6) := by
     rw [Expr.cntAll_snoc _ _ _ k (by rw [List.length_map]; exact hkl), HCr.out, List.getElem_map]
     show Expr.cnt h ((d : Int) + 1) x.f[k].2 (n2, b2) = _
     rw [← HRK.out]; exact e1
    have HC2 := Lib.hid hc2
    have HN2 : Hid (n < n6 ∧ n6 ≤ 400) := ⟨by have := HNr.out.1; omega, e3⟩
    clear e1 e2 e3 hc2 hrs
    go_wp2_with fail
    go_roundw
    case rel => exact ⟨k + 1, n6, b6, by go_num, by omega, HM6.out, HX6.out, HR6.out, HC2.out, HN2.out⟩
    case measure => simp [intOf]; omega
  ·skip
   obtain rfl : fb0 = k := by omega
   have htk : (x.f.map (·.2)).take fb0 = x.f.map (·.2) := List.take_of_length_le (by rw [List.length_map, HFN.out]; exact Nat.le_refl _)
   have hc1 := HCr.out
   rw [htk] at hc1
   have HC1 := Lib.hid hc1
   clear htk hc1
   obtain ⟨n1, hn1⟩ : ∃ z, z = n2 := ⟨_, rfl⟩
   obtain ⟨bq, hbq⟩ : ∃ z, z = b2 := ⟨_, rfl⟩
   rw [← hn1, ← hbq] at HC1
   have HN1 := Lib.hid hn1
   have HBQ := Lib.hid hbq
   clear hn1 hbq
   obtain ⟨x0, x1, x2, x3, x4, x5⟩ := HXr.out.cells
   go_wp2_with fail
   go_loopw [68] (fun i wr => ∃ (k n2 : Nat) (b2 : Bool), i = .int .i64 k ∧ k ≤ lb0 ∧ Hid (IsM wr gm n2 b2) ∧ Hid (IsBox wr P1 (.int .i64 ik) (.int .i64 im) (.string is_) (.slice b0 bb0 bc0) (.slice f0 fb0 fc0) (.slice l0 lb0 lc0)) ∧ Hid (RM (fun k => k = gm) w wr) ∧ Hid (Expr.cntAll (Expr.cnt h ((d : Int) + 1)) ((x.l).take k) (n1, bq) = some (n2, b2)) ∧ Hid (n < n2 ∧ n2 ≤ 400)) (fun i _ => lb0 - (intOf i).toNat)
   case atStart => exact ⟨0, n2, b2, rfl, Nat.zero_le _, HMr.out, HXr.out, HRr.out, by show some _ = some _; rw [HN1.out, HBQ.out], HNr.out⟩
   case round =>
    clear x0 x1 x2 x3 x4 x5 HMr HXr HRr HCr HNr
    obtain ⟨k, n2, b2, rfl, hk, HMr, HXr, HRr, HCr, HNr⟩ := hrel
    by_cases hlt : k < lb0
    ·skip
     have hkl : k < x.l.length := by rw [HLN.out]; exact hlt
     obtain ⟨g0, o0, rfl, hq0, hall⟩ := HLI.out.resolve_left (fun e => by rw [e] at hkl; cases hkl)
     obtain ⟨v1, hsix, hV⟩ := hall k hkl
     obtain ⟨jk, jm, js, b1, f1, l1, bb1, bc1, fb1, fc1, lb1, lc1, rfl⟩ := hV.shape
     have hBr : Below W0.heap.size W0 wr := HB.out.trans (HRr.out.below HB.out.size (fun k e => by have := HGM.out; omega))
     obtain ⟨s0, s1, s2, s3, s4, s5⟩ := (hsix.keep hBr).cells
     obtain ⟨W5, hW5⟩ : ∃ W5, W5 = wr.alloc (.cells #[.int .i64 jk, .int .i64 jm, .string js, .slice b1 bb1 bc1, .slice f1 fb1 fc1, .slice l1 lb1 lc1] 26) := ⟨_, rfl⟩
     obtain ⟨PB, hPB⟩ : ∃ P, P = wr.heap.size := ⟨_, rfl⟩
     have hb5 : Below wr.heap.size wr W5 := by rw [hW5]; exact (Below.refl _ _).alloc (Nat.le_refl _) _
     have hX5 : IsBox W5 PB (.int .i64 jk) (.int .i64 jm) (.string js) (.slice b1 bb1 bc1) (.slice f1 fb1 fc1) (.slice l1 lb1 lc1) := by rw [hW5, hPB]; exact IsBox.new wr (.int .i64 jk) (.int .i64 jm) (.string js) (.slice b1 bb1 bc1) (.slice f1 fb1 fc1) (.slice l1 lb1 lc1)
     have hdd : ((d + 1 : Nat) : Int) = (d : Int) + 1 := by omega
     have hck := HIH.out W0 W5 gm Q x.l[k] _ n2 b2 (d + 1) HGM.out.1 (hBr.trans (hb5.mono hBr.size)) (HMr.out.keep hb5) hV HNr.out.2 (by have := HNr.out.1; have := HD.out; omega)
     rw [hdd] at hck
     have CK := Lib.hid hck
     obtain ⟨rk, hrk⟩ : ∃ z, z = Expr.cnt h ((d : Int) + 1) x.l[k] (n2, b2) := ⟨_, rfl⟩
     rw [← hrk] at CK
     have HRK := Lib.hid hrk
     have HW5 := Lib.hid hW5
     have HPB := Lib.hid hPB
     have HX5 := Lib.hid hX5
     have HB5 : Hid (Below wr.heap.size wr W5) := hb5
     have HXB := Lib.hid (HXr.out.keep hb5)
     clear hall hsix hV hBr hb5 hX5 hW5 hPB hck hrk hdd hq0
     go_upto_region 15 with fail
     rw [← HW5.out, ← HPB.out]
     clear s0 s1 s2 s3 s4 s5
     obtain ⟨y1, y2, y3, y4, y5, y6⟩ := HX5.out.cells
     go_wp2_with fail
     refine CK.out.mono ?_
     rintro e w6 ⟨n6, b6, rfl, hM6, hR6, hS6⟩
     have HM6 := Lib.hid hM6
     have HR6 : Hid (RM (fun k => k = gm) w w6) := (HRr.out.trans (RM.of_below (F := fun _ => False) HB5.out) (fun _ _ e => e.elim)).trans hR6 (fun _ _ e => e)
     have HX6 := Lib.hid (HXB.out.rm hR6 HPG.out)
     have HS6 := Lib.hid hS6
     clear hM6 hR6 hS6 CK y1 y2 y3 y4 y5 y6
     cases hrs : rk.isSome with
     | false =>
      have hnone : r = none := by
       have e : rk = none := by cases rk with | none => rfl | some _ => cases hrs
       rw [HRR.out, HC1.out]
       exact Expr.cntAll_none _ x.l _ (n2, b2) k hkl HCr.out (by rw [← HRK.out, e])
      have HNO := Lib.hid hnone
      clear hnone hrs
      go_wp2_with fail
      refine bodyPost_ret (v := .bool false) ?_ rfl ?_
      ·simp [results, Tryz.results41, go_sem, *]
      ·exact ⟨_, _, by rw [HNO.out]; rfl, HM6.out, HR6.out, fun e => by rw [HNO.out] at e; cases e⟩
     | true =>
      obtain ⟨e1, e2, e3⟩ := HS6.out hrs
      have hc2 : Expr.cntAll (Expr.cnt h ((d : Int) + 1)) (x.l.take (k + 1)) (n1, bq) = some (n6, b6) := by
       rw [Expr.cntAll_snoc _ _ _ k hkl, HCr.out]
       show Expr.cnt h ((d : Int) + 1) x.l[k] (n2, b2) = _
       rw [← HRK.out]; exact e1
      have HC2 := Lib.hid hc2
      have HN2 : Hid (n < n6 ∧ n6 ≤ 400) := ⟨by have := HNr.out.1; omega, e3⟩
      clear e1 e2 e3 hc2 hrs
      go_wp2_with fail
      go_roundw
      case rel => exact ⟨k + 1, n6, b6, by go_num, by omega, HM6.out, HX6.out, HR6.out, HC2.out, HN2.out⟩
      case measure => simp [intOf]; omega
    ·skip
     obtain rfl : lb0 = k := by omega
     have htk : x.l.take lb0 = x.l := List.take_of_length_le (by rw [HLN.out]; exact Nat.le_refl _)
     have hc2 := HCr.out
     rw [htk] at hc2
     have hr : r = some (n2, b2) := by rw [HRR.out, HC1.out]; exact hc2
     have HRS := Lib.hid hr
     clear htk hc2 hr
     go_wp2_with fail
     refine bodyPost_ret (v := .bool true) ?_ rfl ?_
     ·simp [results, Tryz.results41, go_sem, *]
     ·exact ⟨_, _, by rw [HRS.out]; rfl, HMr.out, HRr.out, fun _ => ⟨HRS.out, HNr.out⟩⟩
theorem cntE_any : ∀ h, CountDo h
 | 0 => fun _ _ _ _ _ _ _ _ _ _ _ _ hv => hv.elim
 | h + 1 => count_step h (cntE_any h)
def Hg : Nat → Val → Prop
 | 0, _ => False
 | h + 1, x => (∀ p ∈ x.f, Hg h p.2) ∧ ∀ y ∈ x.l, Hg h y
theorem VIn.hg {w : World} {Q : Nat → Prop} : ∀ {h : Nat} {x : Val} {v : Value}, VIn w Q h x v → Hg h x
 | 0, _, _, hv => hv.elim
 | h + 1, x, v, hv => by
  obtain ⟨ba, fa, la, bc, fc, lc, -, -, -, -, -, -, hF, hI⟩ := hv
  refine ⟨fun p hp => ?_, fun y hy => ?_⟩
  ·obtain ⟨i, hi, rfl⟩ := List.getElem_of_mem hp
   obtain ⟨g, o, _, _, hall⟩ := hF.resolve_left (fun e => by rw [e] at hi; cases hi)
   obtain ⟨_, _, v', _, h'⟩ := hall i hi
   exact VIn.hg h'
  ·obtain ⟨i, hi, rfl⟩ := List.getElem_of_mem hy
   obtain ⟨g, o, _, _, hall⟩ := hI.resolve_left (fun e => by rw [e] at hi; cases hi)
   obtain ⟨v', _, h'⟩ := hall i hi
   exact VIn.hg h'
theorem Hg.up : ∀ {h : Nat} {x : Val}, Hg h x → Hg (h + 1) x
 | 0, _, hx => hx.elim
 | _ + 1, _, hx => ⟨fun p hp => (hx.1 p hp).up, fun y hy => (hx.2 y hy).up⟩
theorem pathsV_up : ∀ {h : Nat} {x : Val}, Hg h x → pathsV (h + 1) x = pathsV h x
 | 0, _, hx => hx.elim
 | h + 1, x, hx => by
  have hl : ∀ l : List Val, (∀ y ∈ l, Hg h y) → l.map (pathsV (h + 1)) = l.map (pathsV h) := fun l hl => List.map_congr_left fun y hy => pathsV_up (hl y hy)
  rw [pathsV, pathsV]
  by_cases h5 : x.kind = 5
  ·rw [if_pos h5, if_pos h5]
  rw [if_neg h5, if_neg h5]
  by_cases h7 : x.kind = 7
  ·rw [if_pos h7, if_pos h7, hl _ hx.2]
  rw [if_neg h7, if_neg h7]
  by_cases h6 : x.kind = 6
  ·rw [if_pos h6, if_pos h6]
   by_cases hd : (x.f.any fun p => Expr.dollar p.1) = true
   ·rw [if_pos hd, if_pos hd]
    have hx1 := hx.1
    match e : x.f with
    | [] => rfl
    | [(s, a)] =>
     rw [e] at hx1
     have ha := hx1 (s, a) List.mem_cons_self
     show (if s = Expr.literal then [] else _) = (if s = Expr.literal then [] else _)
     by_cases hs : s = Expr.literal
     ·rw [if_pos hs, if_pos hs]
     ·rw [if_neg hs, if_neg hs, hl]
      intro y hy
      unfold Expr.args at hy
      split at hy
      ·cases h with
       | zero => exact ha.elim
       | succ h => exact (ha.2 y hy).up
      ·rw [List.mem_singleton.1 hy]; exact ha
    | p :: q :: r => rfl
   ·rw [if_neg hd, if_neg hd]
    congr 1
    exact List.map_congr_left fun p hp => pathsV_up (hx.1 p hp)
  ·rw [if_neg h6, if_neg h6]
def sumL {α : Type} (g : α → Nat) (l : List α) : Nat := (l.map g).sum
theorem flat_sum {α β : Type} (f : α → List β) : ∀ l : List α, (l.map f).flatten.length = sumL (fun y => (f y).length) l
 | [] => rfl
 | x :: r => by
  have := flat_sum f r
  simp only [List.map_cons, List.flatten_cons, List.length_append, sumL, List.sum_cons] at this ⊢
  rw [this]
theorem args_paths {h : Nat} {y : Val} (hy : Hg h y) : ((Expr.args y).map (pathsV h)).flatten.length ≤ (pathsV h y).length := by
 unfold Expr.args
 split
 ·rename_i hk
  cases h with
  | zero => exact hy.elim
  | succ h =>
   rw [pathsV_row h y hk]
   have e : y.l.map (pathsV (h + 1)) = y.l.map (pathsV h) := List.map_congr_left fun z hz => pathsV_up (hy.2 z hz)
   rw [e]; exact Nat.le_refl _
 ·simp
theorem paths_le {h : Nat} {x : Val} (hx : Hg (h + 1) x) : (pathsV (h + 1) x).length ≤ 1 + sumL (fun p : ByteArray × Val => (pathsV h p.2).length) x.f + sumL (fun y => (pathsV h y).length) x.l := by
 rw [pathsV]
 by_cases h5 : x.kind = 5
 ·rw [if_pos h5]; split <;> simp <;> omega
 rw [if_neg h5]
 by_cases h7 : x.kind = 7
 ·rw [if_pos h7, flat_sum]; omega
 rw [if_neg h7]
 by_cases h6 : x.kind = 6
 ·rw [if_pos h6]
  by_cases hd : (x.f.any fun p => Expr.dollar p.1) = true
  ·rw [if_pos hd]
   have hx1 := hx.1
   match e : x.f with
   | [] => simp
   | [(s, a)] =>
    rw [e] at hx1
    have ha : Hg h a := hx1 (s, a) List.mem_cons_self
    have h1 := args_paths ha
    have h2 : sumL (fun p : ByteArray × Val => (pathsV h p.2).length) [(s, a)] = (pathsV h a).length := by simp [sumL]
    rw [h2]
    show (if s = Expr.literal then [] else _ : List (List ByteArray)).length ≤ _
    split
    ·simp
    ·exact Nat.le_trans h1 (by omega)
   | p :: q :: r => simp
  ·rw [if_neg hd, flat_sum]; omega
 ·rw [if_neg h6]; simp
theorem cntAll_le (c : Val → Nat × Bool → Option (Nat × Bool)) (g : Val → Nat) : ∀ (l : List Val), (∀ y ∈ l, ∀ s s', c y s = some s' → s.1 + g y ≤ s'.1) → ∀ s s', Expr.cntAll c l s = some s' → s.1 + sumL g l ≤ s'.1
 | [], _, s, s', h => by
  have : s = s' := Option.some.inj h
  rw [this]; simp [sumL]
 | x :: r, hc, s, s', h => by
  have h' : (c x s).bind (Expr.cntAll c r) = some s' := h
  cases e : c x s with
  | none => rw [e] at h'; cases h'
  | some s2 =>
   rw [e] at h'
   have h1 := hc x List.mem_cons_self s s2 e
   have h2 := cntAll_le c g r (fun y hy => hc y (List.mem_cons_of_mem _ hy)) s2 s' h'
   simp only [sumL, List.map_cons, List.sum_cons] at h2 ⊢
   omega
theorem cnt_parts {h : Nat} {d : Int} {x : Val} {s s' : Nat × Bool} (hc : Expr.cnt (h + 1) d x s = some s') : s.1 + 1 ≤ 400 ∧ x.f.length ≤ 256 ∧ x.l.length ≤ 256 ∧ ∃ b s1, Expr.cntAll (Expr.cnt h (d + 1)) (x.f.map (·.2)) (s.1 + 1, b) = some s1 ∧ Expr.cntAll (Expr.cnt h (d + 1)) x.l s1 = some s' := by
 rw [Expr.cnt] at hc
 split at hc
 ·cases hc
 ·rename_i hn
  refine ⟨by omega, by omega, by omega, (s.2 || (decide (32 < d) && (x.kind == 6 || x.kind == 7))), ?_⟩
  cases e : Expr.cntAll (Expr.cnt h (d + 1)) (x.f.map (·.2)) (s.1 + 1, (s.2 || (decide (32 < d) && (x.kind == 6 || x.kind == 7)))) with
  | none => rw [e] at hc; cases hc
  | some s1 => rw [e] at hc; exact ⟨s1, rfl, hc⟩
theorem cnt_paths : ∀ {h : Nat} {d : Int} {x : Val} {s s' : Nat × Bool}, Hg h x → Expr.cnt h d x s = some s' → s.1 + (pathsV h x).length ≤ s'.1
 | 0, _, _, _, _, hx, _ => hx.elim
 | h + 1, d, x, s, s', hx, hc => by
  obtain ⟨-, -, -, b, s1, h1, h2⟩ := cnt_parts hc
  have p1 := cntAll_le _ (fun y => (pathsV h y).length) _ (fun y hy t t' ht => by
   obtain ⟨p, hp, rfl⟩ := List.mem_map.1 hy
   exact cnt_paths (hx.1 p hp) ht) _ _ h1
  have p2 := cntAll_le _ (fun y => (pathsV h y).length) _ (fun y hy t t' ht => cnt_paths (hx.2 y hy) ht) _ _ h2
  have p3 := paths_le hx
  have e : sumL (fun y => (pathsV h y).length) (x.f.map (·.2)) = sumL (fun p : ByteArray × Val => (pathsV h p.2).length) x.f := by unfold sumL; rw [List.map_map]; rfl
  rw [e] at p1
  omega
inductive ShortV : Val → Prop
 | mk (x : Val) (hs : x.s.size ≤ 4294967280) (hfs : ∀ p ∈ x.f, ShortV p.2) (hls : ∀ y ∈ x.l, ShortV y) : ShortV x
theorem cntAll_mem (c : Val → Nat × Bool → Option (Nat × Bool)) : ∀ (l : List Val) (s s' : Nat × Bool), Expr.cntAll c l s = some s' → ∀ y ∈ l, ∃ t t', c y t = some t'
 | [], _, _, _, y, hy => by cases hy
 | x :: r, s, s', h, y, hy => by
  have h' : (c x s).bind (Expr.cntAll c r) = some s' := h
  cases e : c x s with
  | none => rw [e] at h'; cases h'
  | some s2 =>
   rw [e] at h'
   rcases List.mem_cons.1 hy with rfl | hy
   ·exact ⟨s, s2, e⟩
   ·exact cntAll_mem c r s2 s' h' y hy
theorem cnt_fit : ∀ {h : Nat} {d : Int} {x : Val} {s s' : Nat × Bool}, Hg h x → ShortV x → Expr.cnt h d x s = some s' → FitV x
 | 0, _, _, _, _, hx, _, _ => hx.elim
 | h + 1, d, x, s, s', hx, ⟨_, hs, hfs, hls⟩, hc => by
  obtain ⟨-, hf, hl, b, s1, h1, h2⟩ := cnt_parts hc
  refine .mk x hs hf hl (fun p hp => ?_) (fun y hy => ?_)
  ·obtain ⟨t, t', ht⟩ := cntAll_mem _ _ _ _ h1 p.2 (List.mem_map.2 ⟨p, hp, rfl⟩)
   exact cnt_fit (hx.1 p hp) (hfs p hp) ht
  ·obtain ⟨t, t', ht⟩ := cntAll_mem _ _ _ _ h2 y hy
   exact cnt_fit (hx.2 y hy) (hls y hy) ht
def measureO : Option (Nat × Bool) → Nat × Int
 | none => (0, 3)
 | some (n, b) => if b = true then (0, 7) else (n, 0)
def measureV (h : Nat) (x : Val) : Nat × Int := measureO (Expr.cnt h 1 x (0, false))
theorem measure_any (h : Nat) (Q : Nat → Prop) (x : Val) (v : Value) (w : World) (hv : VIn w Q h x v) :
  Calls Tryz.prog 24 #[v] w fun e w' => e = .returned (.tuple #[.int .i64 ((measureV h x).1 : Int), .int .i64 (measureV h x).2]) ∧ Below w.heap.size w w' := by
 obtain ⟨ik, im, is_, b0, f0, l0, bb0, bc0, fb0, fc0, lb0, lc0, rfl⟩ := hv.shape
 obtain ⟨W1, hW1⟩ : ∃ W, W = w.alloc (.cells #[.int .i64 ik, .int .i64 im, .string is_, .slice b0 bb0 bc0, .slice f0 fb0 fc0, .slice l0 lb0 lc0] 26) := ⟨_, rfl⟩
 obtain ⟨P1, hP1⟩ : ∃ P, P = w.heap.size := ⟨_, rfl⟩
 have hb1 : Below w.heap.size w W1 := by rw [hW1]; exact (Below.refl _ _).alloc (Nat.le_refl _) _
 have hX1 : IsBox W1 P1 (.int .i64 ik) (.int .i64 im) (.string is_) (.slice b0 bb0 bc0) (.slice f0 fb0 fc0) (.slice l0 lb0 lc0) := by rw [hW1, hP1]; exact IsBox.new w (.int .i64 ik) (.int .i64 im) (.string is_) (.slice b0 bb0 bc0) (.slice f0 fb0 fc0) (.slice l0 lb0 lc0)
 obtain ⟨W2, hW2⟩ : ∃ W, W = W1.alloc (.cells #[.int .i64 0, .bool false] 83) := ⟨_, rfl⟩
 obtain ⟨P2, hP2⟩ : ∃ P, P = W1.heap.size := ⟨_, rfl⟩
 have hb2 : Below W1.heap.size W1 W2 := by rw [hW2]; exact (Below.refl _ _).alloc (Nat.le_refl _) _
 have hM2 : IsM W2 P2 0 false := by rw [hW2, hP2]; exact heap_alloc_new W1 _
 have hbb : Below w.heap.size w W2 := hb1.trans (hb2.mono hb1.size)
 have CC := Lib.hid (cntE_any h w W2 P2 Q x _ 0 false 1 (by rw [hP2]; exact hb1.size) hbb hM2 hv (by omega) (by omega))
 obtain ⟨r, hr⟩ : ∃ z, z = Expr.cnt h ((1 : Nat) : Int) x (0, false) := ⟨_, rfl⟩
 rw [← hr] at CC
 have hmv : measureV h x = measureO r := by rw [hr]; rfl
 obtain ⟨mv, hmv2⟩ : ∃ z, z = measureV h x := ⟨_, rfl⟩
 rw [← hmv2] at hmv ⊢
 have HMV := Lib.hid hmv
 have HW1 := Lib.hid hW1
 have HP1 := Lib.hid hP1
 have HW2 := Lib.hid hW2
 have HP2 := Lib.hid hP2
 have HX2 := Lib.hid (hX1.keep hb2)
 have HBB := Lib.hid hbb
 have HPL : Hid (w.heap.size ≤ P2) := by show _ ≤ _; rw [hP2]; exact hb1.size
 clear hv hW1 hP1 hb1 hX1 hW2 hP2 hb2 hM2 hbb hr hmv hmv2
 go_enter Tryz.func24, Tryz.ntmps24
 go_upto_region 1 with fail
 rw [← HW1.out, ← HP1.out]
 go_upto_region 2 with fail
 rw [← HW2.out, ← HP2.out]
 obtain ⟨x0, x1, x2, x3, x4, x5⟩ := HX2.out.cells
 go_wp2_with fail
 refine CC.out.mono ?_
 rintro e w3 ⟨n, b, rfl, hM3, hR3, hS3⟩
 have HB3 : Hid (Below w.heap.size w w3) := HBB.out.trans (hR3.below HBB.out.size (fun k e => by rw [e]; exact HPL.out))
 have c0 : w3.cell? ⟨P2, 0, none⟩ = some (.int .i64 (n : Int)) := (cell_of_row w3 P2 0 _ _ _ hM3).trans rfl
 have c1 : w3.cell? ⟨P2, 1, none⟩ = some (.bool b) := (cell_of_row w3 P2 1 _ _ _ hM3).trans rfl
 cases hrs : r with
 | none =>
  rw [hrs] at HMV
  have HMV : Hid (mv = (0, 3)) := HMV.out
  clear hM3 hR3 hS3 CC x0 x1 x2 x3 x4 x5 c0 c1
  go_wp2_with fail
  refine bodyPost_ret (v := .tuple #[.int .i64 0, .int .i64 3]) ?_ rfl ?_
  ·simp [results, Tryz.results24, go_sem, *]
  ·exact ⟨by rw [HMV.out]; rfl, HB3.out⟩
 | some s =>
  obtain ⟨e1, -, -⟩ := hS3 (by rw [hrs]; rfl)
  rw [e1] at HMV
  have HMV : Hid (mv = if b = true then (0, 7) else (n, 0)) := HMV.out
  clear hM3 hR3 hS3 CC x0 x1 x2 x3 x4 x5 hrs e1
  cases b with
  | true =>
   go_wp2_with fail
   refine bodyPost_ret (v := .tuple #[.int .i64 0, .int .i64 7]) ?_ rfl ?_
   ·simp [results, Tryz.results24, go_sem, *]
   ·exact ⟨by rw [HMV.out]; rfl, HB3.out⟩
  | false =>
   go_wp2_with fail
   refine bodyPost_ret (v := .tuple #[.int .i64 (n : Int), .int .i64 0]) ?_ rfl ?_
   ·simp [results, Tryz.results24, go_sem, *]
   ·exact ⟨by rw [HMV.out]; rfl, HB3.out⟩
theorem cntAll_bd (c : Val → Nat × Bool → Option (Nat × Bool)) : ∀ (l : List Val), (∀ y ∈ l, ∀ s s', c y s = some s' → s'.1 ≤ 400) → ∀ s s', s.1 ≤ 400 → Expr.cntAll c l s = some s' → s'.1 ≤ 400
 | [], _, s, s', h0, h => by
  have : s = s' := Option.some.inj h
  rw [← this]; exact h0
 | x :: r, hc, s, s', h0, h => by
  have h' : (c x s).bind (Expr.cntAll c r) = some s' := h
  cases e : c x s with
  | none => rw [e] at h'; cases h'
  | some s2 =>
   rw [e] at h'
   exact cntAll_bd c r (fun y hy => hc y (List.mem_cons_of_mem _ hy)) s2 s' (hc x List.mem_cons_self s s2 e) h'
theorem cnt_bd : ∀ {h : Nat} {d : Int} {x : Val} {s s' : Nat × Bool}, Hg h x → Expr.cnt h d x s = some s' → s'.1 ≤ 400
 | 0, _, _, _, _, hx, _ => hx.elim
 | h + 1, d, x, s, s', hx, hc => by
  obtain ⟨h0, -, -, b, s1, h1, h2⟩ := cnt_parts hc
  have p1 := cntAll_bd _ _ (fun y hy t t' ht => by
   obtain ⟨p, hp, rfl⟩ := List.mem_map.1 hy
   exact cnt_bd (hx.1 p hp) ht) _ _ h0 h1
  exact cntAll_bd _ _ (fun y hy t t' ht => cnt_bd (hx.2 y hy) ht) _ _ p1 h2
def PathsAt (w : World) (pv : Value) (L : List (List ByteArray)) : Prop := ∃ b xs, w.ownsRow b 42 1 pv L.length xs ∧ ∀ i (hi : i < L.length), ∃ v, xs[i]? = some v ∧ w.ownsRow 0 9 1 v L[i].length (txtV L[i])
theorem PathsAt.keep {w w' : World} {pv : Value} {L : List (List ByteArray)} (h : PathsAt w pv L) (hb : Below w.heap.size w w') : PathsAt w' pv L := by
 obtain ⟨b, xs, h1, h2⟩ := h
 refine ⟨b, xs, owns_below h1 hb, fun i hi => ?_⟩
 obtain ⟨v, h3, h4⟩ := h2 i hi
 exact ⟨v, h3, owns_below h4 hb⟩
def ExprAt (w : World) (base ge : Nat) (N C h : Nat) (x : Val) : Prop :=
 ∃ (ik im : Int) (s : ByteArray) (b0 f0 l0 : Option Addr) (bb bc fb fc lb lc : Nat) (pa : Option Addr) (pn pc : Nat) (T : TypeId) (rv : Value),
  w.heap[ge]? = some (.cells #[.int .i64 ik, .int .i64 im, .string s, .slice b0 bb bc, .slice f0 fb fc, .slice l0 lb lc, .int .i64 ((measureV h x).1 : Int), .slice pa pn pc, .iface T rv] 65 (0, 0)) ∧
  VIn w (fun k => base ≤ k) h x (.agg #[.int .i64 ik, .int .i64 im, .string s, .slice b0 bb bc, .slice f0 fb fc, .slice l0 lb lc]) ∧ Ev w (.iface T rv) (3 * h) (evF N C h x) ∧ PathsAt w (.slice pa pn pc) (pathsV h x)
theorem ExprAt.keep {w w' : World} {base ge N C h : Nat} {x : Val} (he : ExprAt w base ge N C h x) (hb : Below w.heap.size w w') : ExprAt w' base ge N C h x := by
 obtain ⟨ik, im, s, b0, f0, l0, bb, bc, fb, fc, lb, lc, pa, pn, pc, T, rv, h1, h2, h3, h4⟩ := he
 exact ⟨ik, im, s, b0, f0, l0, bb, bc, fb, fc, lb, lc, pa, pn, pc, T, rv, (hb.block ge (Array.getElem?_eq_some_iff.1 h1).1).trans h1, VIn.keep hb h2, h3.keep hb, h4.keep hb⟩
def exprCode (h : Nat) (x : Val) : Int := if (measureV h x).2 = 0 then Expr.parseV h x else (measureV h x).2
def ParseEnd (w : World) (N C h : Nat) (x : Val) (e : Ending) (w' : World) : Prop :=
 Below w.heap.size w w' ∧ ((exprCode h x = 0 ∧ ∃ ge, e = .returned (.tuple #[.pointer (some ⟨ge, 0, none⟩), .int .i64 0]) ∧ w.heap.size ≤ ge ∧ ExprAt w' w.heap.size ge N C h x) ∨ (exprCode h x ≠ 0 ∧ e = .returned (.tuple #[.pointer none, .int .i64 (exprCode h x)])))
theorem measure_some {h : Nat} {x : Val} (hm : (measureV h x).2 = 0) : ∃ n, Expr.cnt h 1 x (0, false) = some (n, false) ∧ (measureV h x).1 = n := by
 unfold measureV at hm ⊢
 cases e : Expr.cnt h 1 x (0, false) with
 | none => rw [e] at hm; cases hm
 | some s =>
  rw [e] at hm
  obtain ⟨n, b⟩ := s
  cases b with
  | true => cases hm
  | false => exact ⟨n, rfl, rfl⟩
theorem parse_any (N C h : Nat) (hN : 16 ≤ N) (hC : 3 * h ≤ C) (Q : Nat → Prop) (x : Val) (v : Value) (w : World) (hG : Ground w) (hv : VIn w Q h x v) (hs : ShortV x) :
  Calls Tryz.prog 9 #[v] w (ParseEnd w N C h x) := by
 obtain ⟨ik, im, is_, b0, f0, l0, bb0, bc0, fb0, fc0, lb0, lc0, rfl⟩ := hv.shape
 obtain ⟨W1, hW1⟩ : ∃ W, W = w.alloc (.cells #[.int .i64 ik, .int .i64 im, .string is_, .slice b0 bb0 bc0, .slice f0 fb0 fc0, .slice l0 lb0 lc0] 26) := ⟨_, rfl⟩
 obtain ⟨P1, hP1⟩ : ∃ P, P = w.heap.size := ⟨_, rfl⟩
 have hb1 : Below w.heap.size w W1 := by rw [hW1]; exact (Below.refl _ _).alloc (Nat.le_refl _) _
 have hX1 : IsBox W1 P1 (.int .i64 ik) (.int .i64 im) (.string is_) (.slice b0 bb0 bc0) (.slice f0 fb0 fc0) (.slice l0 lb0 lc0) := by rw [hW1, hP1]; exact IsBox.new w (.int .i64 ik) (.int .i64 im) (.string is_) (.slice b0 bb0 bc0) (.slice f0 fb0 fc0) (.slice l0 lb0 lc0)
 have CM := Lib.hid (measure_any h Q x _ W1 (VIn.keep hb1 hv))
 have HV := Lib.hid hv
 have HB1 : Hid (Below w.heap.size w W1) := hb1
 have HG := Lib.hid hG
 have HX1 := Lib.hid hX1
 have HW1 := Lib.hid hW1
 have HP1 := Lib.hid hP1
 have HSH : Hid (ShortV x) := hs
 obtain ⟨me, hme⟩ : ∃ z, z = (measureV h x).2 := ⟨_, rfl⟩
 obtain ⟨mn, hmn⟩ : ∃ z, z = (measureV h x).1 := ⟨_, rfl⟩
 rw [← hme, ← hmn] at CM
 have HME := Lib.hid hme
 have HMN := Lib.hid hmn
 clear hv hb1 hX1 hW1 hP1 hs hme hmn hG
 go_enter Tryz.func9, Tryz.ntmps9
 go_upto_region 1 with fail
 rw [← HW1.out, ← HP1.out]
 obtain ⟨x0, x1, x2, x3, x4, x5⟩ := HX1.out.cells
 go_wp2_with fail
 refine CM.out.mono ?_
 rintro e w2 ⟨rfl, hb2⟩
 have HB2 : Hid (Below w.heap.size w w2) := HB1.out.trans (hb2.mono HB1.out.size)
 have HX2 := Lib.hid (HX1.out.keep hb2)
 clear hb2 CM x0 x1 x2 x3 x4 x5
 by_cases hz : me = 0
 ·have hco : exprCode h x = Expr.parseV h x := by unfold exprCode; rw [← HME.out, if_pos hz]
  have HCO := Lib.hid hco
  have hcnt := measure_some (h := h) (x := x) (by rw [← HME.out]; exact hz)
  have HCNT := Lib.hid hcnt
  have CY := Lib.hid (copy_any Q h x _ w2 (VIn.keep HB2.out HV.out))
  subst hz
  clear hco hcnt
  obtain ⟨x0, x1, x2, x3, x4, x5⟩ := HX2.out.cells
  go_wp2_with fail
  refine CY.out.mono ?_
  rintro e w3 ⟨v3, rfl, hv3, hb3⟩
  obtain ⟨jk, jm, js, b1, f1, l1, bb1, bc1, fb1, fc1, lb1, lc1, rfl⟩ := hv3.shape
  obtain ⟨W4, hW4⟩ : ∃ W, W = w3.alloc (.cells #[.int .i64 jk, .int .i64 jm, .string js, .slice b1 bb1 bc1, .slice f1 fb1 fc1, .slice l1 lb1 lc1] 26) := ⟨_, rfl⟩
  obtain ⟨P4, hP4⟩ : ∃ P, P = w3.heap.size := ⟨_, rfl⟩
  have hb4 : Below w3.heap.size w3 W4 := by rw [hW4]; exact (Below.refl _ _).alloc (Nat.le_refl _) _
  have hX4 : IsBox W4 P4 (.int .i64 jk) (.int .i64 jm) (.string js) (.slice b1 bb1 bc1) (.slice f1 fb1 fc1) (.slice l1 lb1 lc1) := by rw [hW4, hP4]; exact IsBox.new w3 (.int .i64 jk) (.int .i64 jm) (.string js) (.slice b1 bb1 bc1) (.slice f1 fb1 fc1) (.slice l1 lb1 lc1)
  obtain ⟨W5, hW5⟩ : ∃ W, W = W4.alloc (.cells #[.slice none 0 0] 59) := ⟨_, rfl⟩
  obtain ⟨P5, hP5⟩ : ∃ P, P = W4.heap.size := ⟨_, rfl⟩
  have hb5 : Below W4.heap.size W4 W5 := by rw [hW5]; exact (Below.refl _ _).alloc (Nat.le_refl _) _
  have hR5 : Rd W5 P5 (.slice none 0 0) [] := ⟨by rw [hW5, hP5]; exact heap_alloc_new W4 _, [], World.ownsRow_nil _ _ _ _, fun i hi => by cases hi⟩
  have hB4 : Below w.heap.size w W4 := (HB2.out.trans (hb3.mono HB2.out.size)).trans (hb4.mono (Nat.le_trans HB2.out.size hb3.size))
  have hv4 : VIn W4 (fun k => w2.heap.size ≤ k) h x (.agg #[.int .i64 jk, .int .i64 jm, .string js, .slice b1 bb1 bc1, .slice f1 fb1 fc1, .slice l1 lb1 lc1]) := VIn.keep hb4 hv3
  have hlen : ([] : List (List ByteArray)).length + (pathsV h x).length ≤ 1000000 := by
   obtain ⟨n, hc, -⟩ := HCNT.out
   have h1 := cnt_paths HV.out.hg hc
   have h2 := cnt_bd HV.out.hg hc
   simp at h1 h2 ⊢; omega
  have hfit : FitV x := by
   obtain ⟨n, hc, -⟩ := HCNT.out
   exact cnt_fit HV.out.hg HSH.out hc
  have CT := Lib.hid (rterm_any N C hN h hC W4 W5 P5 (.slice none 0 0) [] _ x _ (HG.out.keep hB4) (by rw [hP5]; exact Nat.le_refl _) hb5 hR5 hv4 hfit hlen)
  obtain ⟨code, hcode⟩ : ∃ z, z = Expr.parseV h x := ⟨_, rfl⟩
  rw [← hcode] at CT HCO
  have HB4 := Lib.hid hB4
  have HB5 : Hid (Below W4.heap.size W4 W5) := hb5
  have HV4 := Lib.hid hv4
  have HW4 := Lib.hid hW4
  have HP4 := Lib.hid hP4
  have HW5 := Lib.hid hW5
  have HP5 := Lib.hid hP5
  have HX4 := Lib.hid hX4
  have HX5 := Lib.hid (hX4.keep hb5)
  have HQ2 : Hid (w.heap.size ≤ w2.heap.size) := HB2.out.size
  clear hv3 hb3 hb4 hX4 hb5 hR5 hB4 hv4 hlen hfit hcode hW4 hP4 hW5 hP5 CY x0 x1 x2 x3 x4 x5
  go_upto_region 5 with fail
  rw [← HW4.out, ← HP4.out]
  go_upto_region 6 with fail
  rw [← HW5.out, ← HP5.out]
  obtain ⟨x0, x1, x2, x3, x4, x5⟩ := HX5.out.cells
  go_wp2_with fail
  refine CT.out.mono ?_
  rintro e w6 ⟨t, pv6, L6, rfl, hm6, hv6, hR6, hg6⟩
  have HB6 : Hid (Below W4.heap.size W4 w6) := HB5.out.trans (hm6.below HB5.out.size (fun k e => by
   rcases e with e | e
   ·have := HP5.out; omega
   ·cases e))
  have HB6w : Hid (Below w.heap.size w w6) := HB4.out.trans (HB6.out.mono HB4.out.size)
  have HR6 := Lib.hid hR6
  have HX6 := Lib.hid (HX4.out.keep HB6.out)
  clear CT x0 x1 x2 x3 x4 x5
  by_cases hc0 : code = 0
  ·obtain ⟨hL6, hgood⟩ := hg6 hc0
   have HGO : Hid (EvF (TF P5 W5.heap.size pv6) w6 t (3 * h) (evF N C h x)) := hgood
   obtain ⟨TT, TK, tv, rfl, -⟩ := HGO.out.ev
   obtain ⟨xs, hox, hxs⟩ := HR6.out.own
   obtain ⟨pa, pc, hpv⟩ := owns_shape hox
   obtain ⟨pn, hpn⟩ : ∃ z, z = L6.length := ⟨_, rfl⟩
   rw [← hpn] at hpv
   subst hpv
   have HPA : Hid (PathsAt w6 (.slice pa pn pc) (pathsV h x)) := by
    rw [show pathsV h x = L6 by rw [hL6]; rfl]
    exact ⟨_, xs, hox, hxs⟩
   have c0 : w6.cell? ⟨P5, 0, none⟩ = some (.slice pa pn pc) := HR6.out.cell
   obtain ⟨x0, x1, x2, x3, x4, x5⟩ := HX6.out.cells
   subst hc0
   clear hm6 hv6 hR6 hg6 hL6 hgood hox hxs hpn
   go_wp2_with fail
   refine bodyPost_ret (v := .tuple #[.pointer (some ⟨w6.heap.size, 0, none⟩), .int .i64 0]) ?_ rfl ?_
   ·simp [results, Tryz.results9, go_sem, *]
   ·have hb7 : Below w6.heap.size w6 (w6.alloc (.cells #[.int .i64 jk, .int .i64 jm, .string js, .slice b1 bb1 bc1, .slice f1 fb1 fc1, .slice l1 lb1 lc1, .int .i64 (mn : Int), .slice pa pn pc, .iface TT tv] 65)) := (Below.refl _ _).alloc (Nat.le_refl _) _
    refine ⟨HB6w.out.trans (hb7.mono HB6w.out.size), .inl ⟨HCO.out, w6.heap.size, rfl, HB6w.out.size, jk, jm, js, b1, f1, l1, bb1, bc1, fb1, fc1, lb1, lc1, pa, pn, pc, TT, tv, ?_, ?_, ?_, ?_⟩⟩
    ·rw [← HMN.out]; exact heap_alloc_new w6 _
    ·exact VIn.kept (Q := fun k => w2.heap.size ≤ k) (Kept.of_below hb7) (fun k hk => Nat.le_trans HQ2.out hk) (VIn.keep HB6.out HV4.out)
    ·exact HGO.out _ (RM.of_below hb7)
    ·exact HPA.out.keep hb7
  ·have e0 : (code == 0) = false := by rw [beq_eq_false_iff_ne]; exact hc0
   have e1 : (code != 0) = true := by unfold bne; rw [e0]; rfl
   have HC0 := Lib.hid hc0
   clear hm6 hv6 hR6 hg6 hc0
   go_wp2_with fail
   refine bodyPost_ret (v := .tuple #[.pointer none, .int .i64 code]) ?_ rfl ?_
   ·simp [results, Tryz.results9, go_sem, *]
   ·exact ⟨HB6w.out, .inr ⟨by rw [HCO.out]; exact HC0.out, by rw [HCO.out]⟩⟩
 ·have hco : exprCode h x = me := by unfold exprCode; rw [← HME.out, if_neg hz]
  have HCO := Lib.hid hco
  have e0 : (me == 0) = false := by rw [beq_eq_false_iff_ne]; exact hz
  have e1 : (me != 0) = true := by unfold bne; rw [e0]; rfl
  have HZ := Lib.hid hz
  clear hz hco
  go_wp2_with fail
  refine bodyPost_ret (v := .tuple #[.pointer none, .int .i64 me]) ?_ rfl ?_
  ·simp [results, Tryz.results9, go_sem, *]
  ·exact ⟨HB2.out, .inr ⟨by rw [HCO.out]; exact HZ.out, by rw [HCO.out]⟩⟩
theorem iface_some (T : TypeId) (rv : Value) (u : World) : Sem.run Tryz.prog (binOp .eql 61 (.iface T rv) .nilIface) u = .ok (.bool false) u := by kernel_rfl
theorem eval_any (N C h hd base ge : Nat) (x d : Val) (dv : Value) (Q : Nat → Prop) (w : World) (he : ExprAt w base ge N C h x) (hd0 : VIn w Q (hd + 1) d dv) :
  Calls Tryz.prog 10 #[.pointer (some ⟨ge, 0, none⟩), dv] w (EvPost w (3 * h + hd) (evF N C h x hd d)) := by
 obtain ⟨ik, im, is_, b0, f0, l0, bb0, bc0, fb0, fc0, lb0, lc0, pa, pn, pc, T0, rv0, hblk, -, hev, -⟩ := he
 obtain ⟨T, K, rv, eTr, hm, hme, hcall⟩ := hev
 injection eTr with e1 e2
 subst e1
 subst e2
 obtain ⟨T, hT⟩ : ∃ T, T = T0 := ⟨_, rfl⟩
 obtain ⟨rv, hrv⟩ : ∃ rv, rv = rv0 := ⟨_, rfl⟩
 rw [← hT, ← hrv] at hblk
 rw [← hT, ← hrv] at hm
 rw [← hrv] at hcall
 clear hT hrv
 obtain ⟨dk, dn, ds, da, df, dl, ba, bc, fa, fc, la, lc, rfl⟩ := hd0.shape
 have hcall2 := fun W hW => hcall W hW Q hd d
 obtain ⟨ou, hou⟩ : ∃ z, z = evF N C h x hd d := ⟨_, rfl⟩
 rw [← hou] at hcall2 ⊢
 obtain ⟨W0, hW0⟩ : ∃ W0, W0 = (w.alloc (.cells #[.int .i64 dk, .int .i64 dn, .string ds, .slice da ba bc, .slice df fa fc, .slice dl la lc] 26)).alloc (.cells #[.int .i64 0, .int .i64 0, .string ⟨#[]⟩, .slice none 0 0, .slice none 0 0, .slice none 0 0] 26) := ⟨_, rfl⟩
 obtain ⟨hb0, hsz, hx, hr⟩ := ev_boxes2 w (.int .i64 dk) (.int .i64 dn) (.string ds) (.slice da ba bc) (.slice df fa fc) (.slice dl la lc) W0 hW0
 have hlt : ge < w.heap.size := (Array.getElem?_eq_some_iff.1 hblk).1
 have c8w : w.cell? ⟨ge, 8, none⟩ = some (.iface T rv) := (cell_of_row w ge 8 _ _ _ hblk).trans rfl
 have C8 := Lib.hid c8w
 have c8 := cell_keep hb0 c8w
 have bi := iface_some T rv
 have HB := Lib.hid hb0
 have HSZ := Lib.hid hsz
 have HX := Lib.hid hx
 have HR := Lib.hid hr
 have HW0 := Lib.hid hW0
 have HCALL := Lib.hid hcall2
 have HD := Lib.hid hd0
 have HLT := Lib.hid hlt
 clear hb0 hsz hx hr hW0 hcall hcall2 hou hd0 hblk hlt c8w
 go_enter Tryz.func10, Tryz.ntmps10
 go_upto_region 1 with fail
 rw [← HW0.out]
 go_upto_region 3 with fail
 clear c8 bi
 refine wp_region_inv0 (fun Y => { tmps := #[.pointer (some ⟨ge, 0, none⟩), .agg #[.int .i64 dk, .int .i64 dn, .string ds, .slice da ba bc, .slice df fa fc, .slice dl la lc], undef, .pointer (some ⟨w.heap.size, 0, none⟩), .pointer (some ⟨w.heap.size + 1, 0, none⟩), Y 9, .pointer (some ⟨ge, 0, none⟩), .bool false, .bool false, .pointer (some ⟨ge, 0, none⟩), .pointer (some ⟨ge, 0, none⟩), .pointer (some ⟨ge, 8, none⟩), .iface T rv, .bool false, .bool false, undef, Y 0, Y 1, Y 2, Y 3, Y 4, Y 5, Y 6, Y 7], defers := [] }) (DI w W0 (w.heap.size + 1) [.pointer (some ⟨ge, 0, none⟩), .pointer (some ⟨ge, 0, none⟩), .pointer (some ⟨ge, 8, none⟩), .iface T rv, .agg #[.int .i64 dk, .int .i64 dn, .string ds, .slice da ba bc, .slice df fa fc, .slice dl la lc]] (.int .i64 ou.1) (3 * h + hd) ou.2) (by kernel_rfl) (by kernel_rfl) (by kernel_rfl) (fun V => by kernel_rfl) ?_ (DI.start HB.out) ?_
 ·refine ⟨?_, ?_⟩
  ·refine inv_free rfl (fun D9 Y w7 hDi hpre hI K hK => ?_)
   go_simp
   exact put_is (by kernel_rfl) (hK.out (.pointer (some ⟨ge, 0, none⟩)) w7 (hI.step (by decide) rfl))
  refine ⟨?_, ?_⟩
  ·refine inv_free rfl (fun D9 Y w7 hDi hpre hI K hK => ?_)
   have e0 : Y 0 = .pointer (some ⟨ge, 0, none⟩) := hI.known (by decide) (hpre.out 0 (by kernel_rfl))
   go_simp
   exact put_is (by rw [e0]; kernel_rfl) (hK.out (.pointer (some ⟨ge, 0, none⟩)) w7 (hI.step (by decide) rfl))
  refine ⟨?_, ?_⟩
  ·refine inv_free rfl (fun D9 Y w7 hDi hpre hI K hK => ?_)
   have e1 : Y 1 = .pointer (some ⟨ge, 0, none⟩) := hI.known (by decide) (hpre.out 1 (by kernel_rfl))
   go_simp
   exact put_is (by rw [e1]; kernel_rfl) (hK.out (.pointer (some ⟨ge, 8, none⟩)) w7 (hI.step (by decide) rfl))
  refine ⟨?_, ?_⟩
  ·refine inv_free rfl (fun D9 Y w7 hDi hpre hI K hK => ?_)
   have e2 : Y 2 = .pointer (some ⟨ge, 8, none⟩) := hI.known (by decide) (hpre.out 2 (by kernel_rfl))
   have hct := cell_keep hI.below C8.out
   go_simp
   exact put_is (by rw [e2]; kernel_rfl) (hK.out (.iface T rv) w7 (hI.step (by decide) rfl))
  refine ⟨?_, ?_⟩
  ·refine inv_free rfl (fun D9 Y w7 hDi hpre hI K hK => ?_)
   have hsz5 := HSZ.out
   obtain ⟨x0, x1, x2, x3, x4, x5⟩ := (show IsBox w7 w.heap.size (.int .i64 dk) (.int .i64 dn) (.string ds) (.slice da ba bc) (.slice df fa fc) (.slice dl la lc) from (hI.old (g := w.heap.size) (by omega) (by omega)).trans HX.out).cells
   go_simp
   exact put_is (by kernel_rfl) (hK.out (.agg #[.int .i64 dk, .int .i64 dn, .string ds, .slice da ba bc, .slice df fa fc, .slice dl la lc]) w7 (hI.step (by decide) rfl))
  refine ⟨?_, ?_⟩
  ·refine inv_free rfl (fun D9 Y w7 hDi hpre hI K hK => ?_)
   have d3 := hpre.out 3 (by kernel_rfl)
   have d4 := hpre.out 4 (by kernel_rfl)
   have e3 : Y 3 = .iface T rv := hI.known (by decide) d3
   have e4 : Y 4 = .agg #[.int .i64 dk, .int .i64 dn, .string ds, .slice da ba bc, .slice df fa fc, .slice dl la lc] := hI.known (by decide) d4
   have CK := HCALL.out w7 hI.below _ (VIn.keep hI.below HD.out)
   go_simp
   refine CK.mono ?_
   rintro e w8 ⟨v8, rfl, hv8, hb8⟩
   exact put_is (by rw [e3, e4]; kernel_rfl) (hK.out (.tuple #[v8, .int .i64 ou.1]) w8 (hI.call hDi hb8 hv8))
  refine ⟨?_, ?_⟩
  ·refine inv_free rfl (fun D9 Y w7 hDi hpre hI K hK => ?_)
   obtain ⟨v, e6, h7, -⟩ := hI.got (hpre.out 5 (by kernel_rfl))
   go_simp
   exact put_is (by rw [e6]; kernel_rfl) (hK.out v w7 h7)
  refine ⟨?_, ?_⟩
  ·refine inv_free rfl (fun D9 Y w7 hDi hpre hI K hK => ?_)
   obtain ⟨v, e6, -, h8⟩ := hI.got (hpre.out 5 (by kernel_rfl))
   go_simp
   exact put_is (by rw [e6]; kernel_rfl) (hK.out (.int .i64 ou.1) w7 h8)
  refine ⟨?_, ?_⟩
  ·refine inv_free rfl (fun D9 Y w7 hDi hpre hI K hK => ?_)
   obtain ⟨k9, n9, s9, ba9, fa9, la9, bn9, bc9, fn9, fc9, ln9, lc9, e7, hbx, h10⟩ := hI.kept (by omega) (by have := HSZ.out; omega) (fun W hW => HR.out.keep hW) (hpre.out 6 (by kernel_rfl)) hDi
   obtain ⟨z0, z1, z2, z3, z4, z5⟩ := hbx.cells
   obtain ⟨q0, q1, q2, q3, q4, q5⟩ := hbx.thaw
   go_simp
   exact put_is (by rw [e7]; kernel_rfl) (hK.out undef _ h10)
  refine ⟨?_, ?_⟩
  ·refine inv_free rfl (fun D9 Y w7 hDi hpre hI K hK => ?_)
   obtain ⟨e8, h11⟩ := hI.err (hpre.out 7 (by kernel_rfl))
   go_simp
   exact put_is (by rw [e8]; kernel_rfl) (hK.out (.int .i64 ou.1) w7 h11)
  trivial
 intro D9 Y w8 hD9 hI9
 obtain ⟨k9, n9, s9, ba9, fa9, la9, bn9, bc9, fn9, fc9, ln9, lc9, lo9, hi9, e9, hbx, hv9, hlo9, hb9⟩ := hI9.end hD9
 rw [e9]
 obtain ⟨x0, x1, x2, x3, x4, x5⟩ := hbx.cells
 have HEND : Hid (VIn w8 (fun g => w.heap.size ≤ g) (3 * h + hd) ou.2 (.agg #[.int .i64 k9, .int .i64 n9, .string s9, .slice ba9 bn9 bc9, .slice fa9 fn9 fc9, .slice la9 ln9 lc9]) ∧ Below w.heap.size w w8) :=
  ⟨hv9.kept (Kept.of_below (Below.refl _ _)) (fun g hg => by have := HSZ.out; omega), hb9⟩
 clear hI9 hD9 e9 hv9 hlo9 hb9 hm hme
 go_wp2_with fail
 exact bodyPost_ret (v := .tuple #[.agg #[.int .i64 k9, .int .i64 n9, .string s9, .slice ba9 bn9 bc9, .slice fa9 fn9 fc9, .slice la9 ln9 lc9], .int .i64 ou.1]) (by simp [results, Tryz.results10, go_sem, *]) rfl ⟨_, rfl, HEND.out.1, HEND.out.2⟩
theorem nodes_any (N C h base ge : Nat) (x : Val) (w : World) (he : ExprAt w base ge N C h x) : Calls Tryz.prog 21 #[.pointer (some ⟨ge, 0, none⟩)] w fun e w' => e = .returned (.int .i64 ((measureV h x).1 : Int)) ∧ Below w.heap.size w w' := by
 obtain ⟨ik, im, is_, b0, f0, l0, bb0, bc0, fb0, fc0, lb0, lc0, pa, pn, pc, T0, rv0, hblk, -, hev, -⟩ := he
 have c6 : w.cell? ⟨ge, 6, none⟩ = some (.int .i64 ((measureV h x).1 : Int)) := (cell_of_row w ge 6 _ _ _ hblk).trans rfl
 generalize ((measureV h x).1 : Int) = mn at *
 clear hblk hev
 go_enter Tryz.func21, Tryz.ntmps21
 go_wp2_with fail
 refine bodyPost_ret (v := .int .i64 mn) ?_ rfl ?_
 ·simp [results, Tryz.results21, go_sem, *]
 ·exact ⟨rfl, Below.refl _ _⟩
end Go.Proofs.YtiajjgehnmkokaaGreatDoor
end
