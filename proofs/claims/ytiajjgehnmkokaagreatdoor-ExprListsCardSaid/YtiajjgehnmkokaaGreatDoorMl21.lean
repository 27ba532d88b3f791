/- ExprConcat, ExprCalls, ExprTie, ExprOpOf, ExprPrefix, ExprIsOp, ExprRdr, ExprArgs, ExprRTerms. -/
import Derived.Test.YtiajjgehnmkokaaGreatDoorMl20
import Derived.Test.YtiajjgehnmkokaaGreatDoorMl17
import Derived.Test.YtiajjgehnmkokaaGreatDoorMl16
import Derived.Test.YtiajjgehnmkokaaGreatDoorMl18
import Derived.Test.YtiajjgehnmkokaaGreatDoorMl3
import Derived.Test.YtiajjgehnmkokaaGreatDoorMl15
set_option maxRecDepth 100000
set_option maxHeartbeats 20000000
section
namespace Go.Proofs.YtiajjgehnmkokaaGreatDoor
open Go.RowKit
open Seal
open Bson (Val)
theorem op_concat_any (H hd C : Nat) (a : Option Addr) (n c : Nat) (fs : List (Nat → Val → Expr.Out)) (Q : Nat → Prop) (d : Val) (dv : Value) (w : World) (hn : fs.length = n) (hlim : n ≤ 3000) (hT : TermsIn w a H fs) (hd0 : VIn w Q (hd + 1) d dv) :
  Calls Tryz.prog 104 #[.agg #[.func (.func 104) #[] #[], .slice a n c], dv] w (EvPost w (H + hd + 1) (Expr.apply (C + hd) .concat (outsOf fs hd d))) := by
 obtain ⟨dk, dn, ds, da, df, dl, ba, bc, fa, fc, la, lc, rfl⟩ := hd0.shape
 obtain ⟨W0, hW0⟩ : ∃ W0, W0 = ((w.alloc (.cells #[(.func (.func 104) #[] #[]), .slice a n c] 126)).alloc (.cells #[.int .i64 dk, .int .i64 dn, .string ds, .slice da ba bc, .slice df fa fc, .slice dl la lc] 26)).alloc (.cells #[.int .i64 0, .int .i64 0, .string ⟨#[]⟩, .slice none 0 0, .slice none 0 0, .slice none 0 0] 26) := ⟨_, rfl⟩
 have HB := Lib.hid (CB.new w (.func (.func 104) #[] #[]) a n c (.int .i64 dk) (.int .i64 dn) (.string ds) (.slice da ba bc) (.slice df fa fc) (.slice dl la lc) W0 hW0)
 have HW0 := Lib.hid hW0
 have c0 : W0.cell? ⟨w.heap.size, 0, none⟩ = some (.func (.func 104) #[] #[]) := (cell_of_row W0 _ 0 _ _ _ HB.out.call).trans rfl
 have c1 := HB.out.c1
 obtain ⟨x0, x1, x2, x3, x4, x5⟩ := HB.out.doc.cells
 have CA := Lib.hid (evalAll_any H hd a n c fs Q d _ W0 hn hlim (hT.keep HB.out.below) (VIn.keep HB.out.below hd0))
 obtain ⟨res, hres⟩ : ∃ z, z = Expr.apply (C + hd) .concat (outsOf fs hd d) := ⟨_, rfl⟩
 have hres2 : res = if (Expr.allO (outsOf fs hd d)).1 = 0 then Expr.concatV (Expr.allO (outsOf fs hd d)).2 else Expr.bad (Expr.allO (outsOf fs hd d)).1 := hres
 rw [← hres]
 obtain ⟨r, hr⟩ : ∃ r, r = Expr.allO (outsOf fs hd d) := ⟨_, rfl⟩
 have hrl : r.1 = 0 → r.2.length = n := fun h => by rw [hr] at h ⊢; rw [Expr.allO_len h, outsOf_length, hn]
 rw [← hr] at CA hres2
 have HRL := Lib.hid hrl
 have HRES := Lib.hid hres2
 clear hT hd0 hn hr hrl hres hres2 hW0
 go_enter Tryz.func104, Tryz.ntmps104
 go_upto_region 1 with fail
 rw [← HW0.out]
 go_wp2_with fail
 clear c0 c1 x0 x1 x2 x3 x4 x5
 refine CA.out.mono ?_
 rintro e w2 ⟨v2, rfl, hA, hN, hb2⟩
 have HB2 := Lib.hid (HB.out.keep hb2)
 by_cases hz : r.1 = 0
 ·obtain ⟨xs, hA⟩ := hA hz
  have hl2 := HRL.out hz
  obtain ⟨a', c', rfl, hc', hit⟩ := hA.items (Q' := fun _ => True) (fun _ _ => trivial) (fun _ _ _ => trivial)
  rw [hl2]
  have CN := Lib.hid (nHas_any w2 _ _ a' n c' r.2 hl2 (by omega) hit)
  have HRI : Hid (res = Expr.concatV r.2) := by show _ = _; rw [HRES.out, if_pos hz]
  obtain ⟨nb, hnb⟩ : ∃ b, b = (r.2.any fun x => noneB x.kind) := ⟨_, rfl⟩
  rw [← hnb] at CN
  have HNB := Lib.hid hnb
  have HIT := Lib.hid hit
  have HL := Lib.hid hl2
  rw [hz]
  clear hA hN hb2 hc' hl2 hit hz hnb
  cases nb with
  | true =>
   have hre : res = (0, Expr.leafV 2 0) := by rw [HRI.out]; unfold Expr.concatV; rw [if_pos HNB.out.symm]
   have HRE := Lib.hid hre
   clear hre
   go_wp2_with fail
   refine CN.out.mono ?_
   rintro e w3 ⟨rfl, hb3⟩
   have HB3 := Lib.hid (HB2.out.keep hb3)
   have HEND := Lib.hid (below_six HB3.out.below (by omega : w.heap.size ≤ w.heap.size + 1 + 1) (.int .i64 2) (.int .i64 0) (.string ⟨#[]⟩) (.slice none 0 0) (.slice none 0 0) (.slice none 0 0))
   obtain ⟨r0, r1, r2, r3, r4, r5⟩ := HB3.out.res.cells
   obtain ⟨q0, q1, q2, q3, q4, q5⟩ := HB3.out.res.thaw
   clear hb3 CN
   go_wp2_with fail
   exact bodyPost_ret (v := .tuple #[.agg #[.int .i64 2, .int .i64 0, .string ⟨#[]⟩, .slice none 0 0, .slice none 0 0, .slice none 0 0], .int .i64 0]) (by simp [results, Tryz.results104, go_sem, *]) rfl ⟨_, by rw [HRE.out], by rw [HRE.out]; exact leafV_in _ _ 2 0 (by omega) (by omega) _, HEND.out⟩
  | false =>
   have hre : res = joinR r.2 := by
    rw [HRI.out]; unfold Expr.concatV
    rw [if_neg (by rw [← HNB.out]; exact Bool.false_ne_true)]
    rfl
   have HRE := Lib.hid hre
   clear hre
   go_wp2_with fail
   refine CN.out.mono ?_
   rintro e w3 ⟨rfl, hb3⟩
   have HB3 := Lib.hid (HB2.out.keep hb3)
   have hit3 := HIT.out.kept (Kept.of_below hb3) (fun _ h => h) (fun _ _ h => VIn.kept (Kept.of_below hb3) (fun _ h => h) h)
   have CJ := Lib.hid (exprJoin_any w3 _ _ a' n c' r.2 HL.out (by omega) hit3)
   rw [← HRE.out] at CJ
   have HS3 : Hid (w.heap.size + 3 ≤ w3.heap.size) := HB3.out.size
   clear hb3 CN hit3
   go_wp2_with fail
   refine CJ.out.mono ?_
   rintro e w4 ⟨v4, rfl, hv4, hb4⟩
   obtain ⟨k, m, s, b1, f1, l1, b2, b3, f2, f3, l2, l3, rfl⟩ := hv4.shape
   have HB4 := Lib.hid (HB3.out.keep hb4)
   have HEND : Hid (VIn (puts w4 (w.heap.size + 1 + 1) 0 [.int .i64 k, .int .i64 m, .string s, .slice b1 b2 b3, .slice f1 f2 f3, .slice l1 l2 l3]) (fun g => w.heap.size ≤ g) (H + hd + 1) res.2 (.agg #[.int .i64 k, .int .i64 m, .string s, .slice b1 b2 b3, .slice f1 f2 f3, .slice l1 l2 l3]) ∧ Below w.heap.size w (puts w4 (w.heap.size + 1 + 1) 0 [.int .i64 k, .int .i64 m, .string s, .slice b1 b2 b3, .slice f1 f2 f3, .slice l1 l2 l3])) :=
    ⟨(hv4.kept (puts_kept (fun g => w3.heap.size ≤ g) (by have := HS3.out; omega) _ _) (fun g hg => by have := HS3.out; omega)).up (by omega), puts_below HB4.out.below (by omega) _ _⟩
   obtain ⟨r0, r1, r2, r3, r4, r5⟩ := HB4.out.res.cells
   obtain ⟨q0, q1, q2, q3, q4, q5⟩ := HB4.out.res.thaw
   clear hv4 hb4 CJ
   go_wp2_with fail
   exact bodyPost_ret (v := .tuple #[.agg #[.int .i64 k, .int .i64 m, .string s, .slice b1 b2 b3, .slice f1 f2 f3, .slice l1 l2 l3], .int .i64 res.1]) (by simp [results, Tryz.results104, go_sem, *]) rfl ⟨_, rfl, HEND.out.1, HEND.out.2⟩
 ·have hz2 : (r.1 == 0) = false := by rw [beq_eq_false_iff_ne]; exact hz
  have hre : res = (r.1, Bson.zero) := by rw [HRES.out, if_neg hz]; rfl
  have HRE := Lib.hid hre
  obtain rfl := hN hz
  have HEND := Lib.hid (below_six HB2.out.below (by omega : w.heap.size ≤ w.heap.size + 1 + 1) (.int .i64 0) (.int .i64 0) (.string ⟨#[]⟩) (.slice none 0 0) (.slice none 0 0) (.slice none 0 0))
  obtain ⟨r0, r1, r2, r3, r4, r5⟩ := HB2.out.res.cells
  obtain ⟨q0, q1, q2, q3, q4, q5⟩ := HB2.out.res.thaw
  clear hA hN hb2 hz hre
  go_wp2_with fail
  refine bodyPost_ret (v := .tuple #[.agg #[.int .i64 0, .int .i64 0, .string ⟨#[]⟩, .slice none 0 0, .slice none 0 0, .slice none 0 0], .int .i64 r.1]) ?_ rfl ?_
  ·simp [results, Tryz.results104, go_sem, *]
  ·exact ⟨_, by rw [HRE.out], by rw [HRE.out]; exact (zero_in _ _).up (by omega), HEND.out⟩
def opFn : Expr.Op → FuncId
 | .add => 86
 | .multiply => 87
 | .subtract => 88
 | .divide => 89
 | .mod_ => 90
 | .abs => 91
 | .eq_ => 92
 | .ne_ => 93
 | .gt => 94
 | .gte => 95
 | .lt_ => 96
 | .lte => 97
 | .cmp => 98
 | .and_ => 99
 | .or_ => 100
 | .not_ => 101
 | .cond => 102
 | .ifNull => 103
 | .concat => 104
 | .size_ => 105
 | .arrayElemAt => 106
 | .type_ => 107
theorem ev_op (o : Expr.Op) (w : World) (H C : Nat) (a : Option Addr) (n c : Nat) (fs : List (Nat → Val → Expr.Out)) (hn : fs.length = n) (hlim : n ≤ 3000) (hf : Expr.fits o n = true) (hC : H ≤ C) (hT : TermsIn w a H fs) :
  Ev w (.iface 126 (.agg #[.func (.func (opFn o)) #[] #[], .slice a n c])) (H + 2) (fun hd d => Expr.apply (C + hd) o (outsOf fs hd d)) := by
 refine ev_call w (H + 2) (opFn o) a n c _ (fun args u => ?_) (fun W hW Q hd d dv hv => ?_)
 ·cases o <;> rfl
 ·have hT := hT.keep hW
  cases o with
  | add => exact (op_add_any H hd C a n c fs Q d dv W hn hlim hT hv).mono fun e w' h => h.up (by omega)
  | multiply => exact (op_multiply_any H hd C a n c fs Q d dv W hn hlim hT hv).mono fun e w' h => h.up (by omega)
  | subtract => exact (op_subtract_any H hd C a n c fs Q d dv W hn (show n = 2 by simpa [Expr.fits, Expr.arity] using hf) hT hv).mono fun e w' h => h.up (by omega)
  | divide => exact (op_divide_any H hd C a n c fs Q d dv W hn (show n = 2 by simpa [Expr.fits, Expr.arity] using hf) hT hv).mono fun e w' h => h.up (by omega)
  | mod_ => exact (op_mod_any H hd C a n c fs Q d dv W hn (show n = 2 by simpa [Expr.fits, Expr.arity] using hf) hT hv).mono fun e w' h => h.up (by omega)
  | abs => exact (op_abs_any H hd C a n c fs Q d dv W hn (show n = 1 by simpa [Expr.fits, Expr.arity] using hf) hT hv).mono fun e w' h => h.up (by omega)
  | eq_ => exact (op_eq_any H hd C a n c fs Q d dv W hn (show n = 2 by simpa [Expr.fits, Expr.arity] using hf) hC hT hv).mono fun e w' h => h.up (by omega)
  | ne_ => exact (op_ne_any H hd C a n c fs Q d dv W hn (show n = 2 by simpa [Expr.fits, Expr.arity] using hf) hC hT hv).mono fun e w' h => h.up (by omega)
  | gt => exact (op_gt_any H hd C a n c fs Q d dv W hn (show n = 2 by simpa [Expr.fits, Expr.arity] using hf) hC hT hv).mono fun e w' h => h.up (by omega)
  | gte => exact (op_gte_any H hd C a n c fs Q d dv W hn (show n = 2 by simpa [Expr.fits, Expr.arity] using hf) hC hT hv).mono fun e w' h => h.up (by omega)
  | lt_ => exact (op_lt_any H hd C a n c fs Q d dv W hn (show n = 2 by simpa [Expr.fits, Expr.arity] using hf) hC hT hv).mono fun e w' h => h.up (by omega)
  | lte => exact (op_lte_any H hd C a n c fs Q d dv W hn (show n = 2 by simpa [Expr.fits, Expr.arity] using hf) hC hT hv).mono fun e w' h => h.up (by omega)
  | cmp => exact (op_cmp_any H hd C a n c fs Q d dv W hn (show n = 2 by simpa [Expr.fits, Expr.arity] using hf) hC hT hv).mono fun e w' h => h.up (by omega)
  | and_ => exact (op_and_any H hd C a n c fs Q d dv W hn hlim hT hv).mono fun e w' h => h.up (by omega)
  | or_ => exact (op_or_any H hd C a n c fs Q d dv W hn hlim hT hv).mono fun e w' h => h.up (by omega)
  | not_ => exact (op_not_any H hd C a n c fs Q d dv W hn (show n = 1 by simpa [Expr.fits, Expr.arity] using hf) hT hv).mono fun e w' h => h.up (by omega)
  | cond => exact (op_cond_any H hd C a n c fs Q d dv W hn (show n = 3 by simpa [Expr.fits, Expr.arity] using hf) hT hv).mono fun e w' h => h.up (by omega)
  | ifNull => exact (op_ifNull_any H hd C a n c fs Q d dv W hn (show n = 2 by simpa [Expr.fits, Expr.arity] using hf) hT hv).mono fun e w' h => h.up (by omega)
  | concat => exact (op_concat_any H hd C a n c fs Q d dv W hn hlim hT hv).mono fun e w' h => h.up (by omega)
  | size_ => exact (op_size_any H hd C a n c fs Q d dv W hn (show n = 1 by simpa [Expr.fits, Expr.arity] using hf) hT hv).mono fun e w' h => h.up (by omega)
  | arrayElemAt => exact (op_arrayElemAt_any H hd C a n c fs Q d dv W hn (show n = 2 by simpa [Expr.fits, Expr.arity] using hf) hT hv).mono fun e w' h => h.up (by omega)
  | type_ => exact (op_kind_any H hd C a n c fs Q d dv W hn (show n = 1 by simpa [Expr.fits, Expr.arity] using hf) hT hv).mono fun e w' h => h.up (by omega)
def evF (N C h : Nat) (x : Val) : Nat → Val → Expr.Out := fun hd d => Expr.evalV (N + hd) (C + hd) d h x
theorem outs_evF (N C h : Nat) (l : List Val) (hd : Nat) (d : Val) : outsOf (l.map (evF N C h)) hd d = l.map (Expr.evalV (N + hd) (C + hd) d h) := by
 unfold outsOf
 rw [List.map_map]
 rfl
theorem parts_evF (N C h : Nat) (f : List (ByteArray × Val)) (hd : Nat) (d : Val) : partsOf (f.map fun p => (p.1, evF N C h p.2)) hd d = f.map fun p => (p.1, Expr.evalV (N + hd) (C + hd) d h p.2) := by
 unfold partsOf
 rw [List.map_map]
 rfl
theorem evF_path (N C h : Nat) (x : Val) (hk : x.kind = 5) (hs : Expr.dollar x.s = true) : evF N C (h + 1) x = fun hd d => (0, Bson.reach (N + hd) d ((Expr.pathOf x.s).getD [])) := by
 funext hd d
 unfold evF Expr.evalV
 rw [if_pos hk, if_pos hs]
theorem evF_text (N C h : Nat) (x : Val) (hk : x.kind = 5) (hs : Expr.dollar x.s = false) : evF N C (h + 1) x = fun _ _ => (0, x) := by
 funext hd d
 unfold evF Expr.evalV
 rw [if_pos hk, if_neg (by rw [hs]; exact Bool.false_ne_true)]
theorem evF_leaf (N C h : Nat) (x : Val) (h5 : x.kind ≠ 5) (h6 : x.kind ≠ 6) (h7 : x.kind ≠ 7) : evF N C (h + 1) x = fun _ _ => (0, x) := by
 funext hd d
 unfold evF Expr.evalV
 rw [if_neg h5, if_neg h7, if_neg h6]
theorem evF_row (N C h : Nat) (x : Val) (hk : x.kind = 7) : evF N C (h + 1) x = fun hd d => Expr.rowO (Expr.allO (outsOf (x.l.map (evF N C h)) hd d)) := by
 funext hd d
 rw [outs_evF]
 unfold evF
 rw [Expr.evalV, if_neg (by rw [hk]; decide), if_pos hk]
theorem evF_doc (N C h : Nat) (x : Val) (hk : x.kind = 6) (hs : ∀ p ∈ x.f, Expr.dollar p.1 = false) : evF N C (h + 1) x = fun hd d => Expr.docO (Expr.docFO (partsOf (x.f.map fun p => (p.1, evF N C h p.2)) hd d)) := by
 funext hd d
 rw [parts_evF]
 unfold evF
 rw [Expr.evalV, if_neg (by rw [hk]; decide), if_neg (by rw [hk]; decide), if_pos hk]
 match e : x.f with
 | [] => rfl
 | [(s, a)] =>
  have := hs (s, a) (by rw [e]; exact List.mem_cons_self)
  show (if Expr.dollar s = true then _ else _) = _
  rw [if_neg (by rw [this]; exact Bool.false_ne_true)]
  rfl
 | p :: q :: r => rfl
theorem evF_lit (N C h : Nat) (x a : Val) (hk : x.kind = 6) (hf : x.f = [(Expr.literal, a)]) : evF N C (h + 1) x = fun _ _ => (0, a) := by
 funext hd d
 unfold evF
 rw [Expr.evalV, if_neg (by rw [hk]; decide), if_neg (by rw [hk]; decide), if_pos hk, hf]
 show (if Expr.dollar Expr.literal = true then _ else _) = _
 rw [if_pos (by decide), if_pos rfl]
theorem evF_op (N C h : Nat) (x a : Val) (s : ByteArray) (o : Expr.Op) (hk : x.kind = 6) (hf : x.f = [(s, a)]) (hs : Expr.dollar s = true) (hl : s ≠ Expr.literal) (ho : Expr.opOf s = some o) :
  evF N C (h + 1) x = fun hd d => Expr.apply (C + hd) o (outsOf ((Expr.args a).map (evF N C h)) hd d) := by
 funext hd d
 rw [outs_evF]
 unfold evF
 rw [Expr.evalV, if_neg (by rw [hk]; decide), if_neg (by rw [hk]; decide), if_pos hk, hf]
 show (if Expr.dollar s = true then _ else _) = _
 rw [if_pos hs, if_neg hl, ho]
def opVal : Option Expr.Op → Value
 | some o => .func (.func (opFn o)) #[] #[]
 | none => Value.nilFunc
def opMany : Option Expr.Op → Int
 | some o => (match Expr.arity o with | some k => (k : Int) | none => -1)
 | none => 0
theorem opOf_some {s : ByteArray} {o : Expr.Op} (h : Expr.opOf s = some o) : Expr.opName o = s := by
 have := List.find?_some h
 simpa using this
theorem opOf_none {s : ByteArray} (h : Expr.opOf s = none) (o : Expr.Op) : ¬ s = Expr.opName o := fun e => by
 have := List.find?_eq_none.1 h o (by cases o <;> decide)
 simp [e] at this
theorem operatorOf_any (s : ByteArray) (w : World) : Calls Tryz.prog 79 #[.string s] w fun e w' => e = .returned (.tuple #[opVal (Expr.opOf s), .int .i64 (opMany (Expr.opOf s))]) ∧ Below w.heap.size w w' := by
 cases h : Expr.opOf s with
 | none =>
  have n0 := str_ne (opOf_none h .add)
  have m0 : (s.toList == [36, 97, 100, 100]) = false := by have := n0; rw [ByteArray.toList_eq (Expr.opName _)] at this; exact this
  have n1 := str_ne (opOf_none h .multiply)
  have m1 : (s.toList == [36, 109, 117, 108, 116, 105, 112, 108, 121]) = false := by have := n1; rw [ByteArray.toList_eq (Expr.opName _)] at this; exact this
  have n2 := str_ne (opOf_none h .subtract)
  have m2 : (s.toList == [36, 115, 117, 98, 116, 114, 97, 99, 116]) = false := by have := n2; rw [ByteArray.toList_eq (Expr.opName _)] at this; exact this
  have n3 := str_ne (opOf_none h .divide)
  have m3 : (s.toList == [36, 100, 105, 118, 105, 100, 101]) = false := by have := n3; rw [ByteArray.toList_eq (Expr.opName _)] at this; exact this
  have n4 := str_ne (opOf_none h .mod_)
  have m4 : (s.toList == [36, 109, 111, 100]) = false := by have := n4; rw [ByteArray.toList_eq (Expr.opName _)] at this; exact this
  have n5 := str_ne (opOf_none h .abs)
  have m5 : (s.toList == [36, 97, 98, 115]) = false := by have := n5; rw [ByteArray.toList_eq (Expr.opName _)] at this; exact this
  have n6 := str_ne (opOf_none h .eq_)
  have m6 : (s.toList == [36, 101, 113]) = false := by have := n6; rw [ByteArray.toList_eq (Expr.opName _)] at this; exact this
  have n7 := str_ne (opOf_none h .ne_)
  have m7 : (s.toList == [36, 110, 101]) = false := by have := n7; rw [ByteArray.toList_eq (Expr.opName _)] at this; exact this
  have n8 := str_ne (opOf_none h .gt)
  have m8 : (s.toList == [36, 103, 116]) = false := by have := n8; rw [ByteArray.toList_eq (Expr.opName _)] at this; exact this
  have n9 := str_ne (opOf_none h .gte)
  have m9 : (s.toList == [36, 103, 116, 101]) = false := by have := n9; rw [ByteArray.toList_eq (Expr.opName _)] at this; exact this
  have n10 := str_ne (opOf_none h .lt_)
  have m10 : (s.toList == [36, 108, 116]) = false := by have := n10; rw [ByteArray.toList_eq (Expr.opName _)] at this; exact this
  have n11 := str_ne (opOf_none h .lte)
  have m11 : (s.toList == [36, 108, 116, 101]) = false := by have := n11; rw [ByteArray.toList_eq (Expr.opName _)] at this; exact this
  have n12 := str_ne (opOf_none h .cmp)
  have m12 : (s.toList == [36, 99, 109, 112]) = false := by have := n12; rw [ByteArray.toList_eq (Expr.opName _)] at this; exact this
  have n13 := str_ne (opOf_none h .and_)
  have m13 : (s.toList == [36, 97, 110, 100]) = false := by have := n13; rw [ByteArray.toList_eq (Expr.opName _)] at this; exact this
  have n14 := str_ne (opOf_none h .or_)
  have m14 : (s.toList == [36, 111, 114]) = false := by have := n14; rw [ByteArray.toList_eq (Expr.opName _)] at this; exact this
  have n15 := str_ne (opOf_none h .not_)
  have m15 : (s.toList == [36, 110, 111, 116]) = false := by have := n15; rw [ByteArray.toList_eq (Expr.opName _)] at this; exact this
  have n16 := str_ne (opOf_none h .cond)
  have m16 : (s.toList == [36, 99, 111, 110, 100]) = false := by have := n16; rw [ByteArray.toList_eq (Expr.opName _)] at this; exact this
  have n17 := str_ne (opOf_none h .ifNull)
  have m17 : (s.toList == [36, 105, 102, 78, 117, 108, 108]) = false := by have := n17; rw [ByteArray.toList_eq (Expr.opName _)] at this; exact this
  have n18 := str_ne (opOf_none h .concat)
  have m18 : (s.toList == [36, 99, 111, 110, 99, 97, 116]) = false := by have := n18; rw [ByteArray.toList_eq (Expr.opName _)] at this; exact this
  have n19 := str_ne (opOf_none h .size_)
  have m19 : (s.toList == [36, 115, 105, 122, 101]) = false := by have := n19; rw [ByteArray.toList_eq (Expr.opName _)] at this; exact this
  have n20 := str_ne (opOf_none h .arrayElemAt)
  have m20 : (s.toList == [36, 97, 114, 114, 97, 121, 69, 108, 101, 109, 65, 116]) = false := by have := n20; rw [ByteArray.toList_eq (Expr.opName _)] at this; exact this
  have n21 := str_ne (opOf_none h .type_)
  have m21 : (s.toList == [36, 116, 121, 112, 101]) = false := by have := n21; rw [ByteArray.toList_eq (Expr.opName _)] at this; exact this
  unfold Expr.opName at n0 n1 n2 n3 n4 n5 n6 n7 n8 n9 n10 n11 n12 n13 n14 n15 n16 n17 n18 n19 n20 n21
  go_enter Tryz.func79, Tryz.ntmps79
  go_wp2_with fail
  go_ret2
  exact ⟨rfl, Below.refl _ _⟩
 | some o =>
  have e := opOf_some h
  clear h
  subst e
  cases o with
  | add =>
   go_enter Tryz.func79, Tryz.ntmps79
   unfold Expr.opName
   go_wp2_with fail
   go_ret2
   exact ⟨rfl, Below.refl _ _⟩
  | multiply =>
   go_enter Tryz.func79, Tryz.ntmps79
   unfold Expr.opName
   go_wp2_with fail
   go_ret2
   exact ⟨rfl, Below.refl _ _⟩
  | subtract =>
   go_enter Tryz.func79, Tryz.ntmps79
   unfold Expr.opName
   go_wp2_with fail
   go_ret2
   exact ⟨rfl, Below.refl _ _⟩
  | divide =>
   go_enter Tryz.func79, Tryz.ntmps79
   unfold Expr.opName
   go_wp2_with fail
   go_ret2
   exact ⟨rfl, Below.refl _ _⟩
  | mod_ =>
   go_enter Tryz.func79, Tryz.ntmps79
   unfold Expr.opName
   go_wp2_with fail
   go_ret2
   exact ⟨rfl, Below.refl _ _⟩
  | abs =>
   go_enter Tryz.func79, Tryz.ntmps79
   unfold Expr.opName
   go_wp2_with fail
   go_ret2
   exact ⟨rfl, Below.refl _ _⟩
  | eq_ =>
   go_enter Tryz.func79, Tryz.ntmps79
   unfold Expr.opName
   go_wp2_with fail
   go_ret2
   exact ⟨rfl, Below.refl _ _⟩
  | ne_ =>
   go_enter Tryz.func79, Tryz.ntmps79
   unfold Expr.opName
   go_wp2_with fail
   go_ret2
   exact ⟨rfl, Below.refl _ _⟩
  | gt =>
   go_enter Tryz.func79, Tryz.ntmps79
   unfold Expr.opName
   go_wp2_with fail
   go_ret2
   exact ⟨rfl, Below.refl _ _⟩
  | gte =>
   go_enter Tryz.func79, Tryz.ntmps79
   unfold Expr.opName
   go_wp2_with fail
   go_ret2
   exact ⟨rfl, Below.refl _ _⟩
  | lt_ =>
   go_enter Tryz.func79, Tryz.ntmps79
   unfold Expr.opName
   go_wp2_with fail
   go_ret2
   exact ⟨rfl, Below.refl _ _⟩
  | lte =>
   go_enter Tryz.func79, Tryz.ntmps79
   unfold Expr.opName
   go_wp2_with fail
   go_ret2
   exact ⟨rfl, Below.refl _ _⟩
  | cmp =>
   go_enter Tryz.func79, Tryz.ntmps79
   unfold Expr.opName
   go_wp2_with fail
   go_ret2
   exact ⟨rfl, Below.refl _ _⟩
  | and_ =>
   go_enter Tryz.func79, Tryz.ntmps79
   unfold Expr.opName
   go_wp2_with fail
   go_ret2
   exact ⟨rfl, Below.refl _ _⟩
  | or_ =>
   go_enter Tryz.func79, Tryz.ntmps79
   unfold Expr.opName
   go_wp2_with fail
   go_ret2
   exact ⟨rfl, Below.refl _ _⟩
  | not_ =>
   go_enter Tryz.func79, Tryz.ntmps79
   unfold Expr.opName
   go_wp2_with fail
   go_ret2
   exact ⟨rfl, Below.refl _ _⟩
  | cond =>
   go_enter Tryz.func79, Tryz.ntmps79
   unfold Expr.opName
   go_wp2_with fail
   go_ret2
   exact ⟨rfl, Below.refl _ _⟩
  | ifNull =>
   go_enter Tryz.func79, Tryz.ntmps79
   unfold Expr.opName
   go_wp2_with fail
   go_ret2
   exact ⟨rfl, Below.refl _ _⟩
  | concat =>
   go_enter Tryz.func79, Tryz.ntmps79
   unfold Expr.opName
   go_wp2_with fail
   go_ret2
   exact ⟨rfl, Below.refl _ _⟩
  | size_ =>
   go_enter Tryz.func79, Tryz.ntmps79
   unfold Expr.opName
   go_wp2_with fail
   go_ret2
   exact ⟨rfl, Below.refl _ _⟩
  | arrayElemAt =>
   go_enter Tryz.func79, Tryz.ntmps79
   unfold Expr.opName
   go_wp2_with fail
   go_ret2
   exact ⟨rfl, Below.refl _ _⟩
  | type_ =>
   go_enter Tryz.func79, Tryz.ntmps79
   unfold Expr.opName
   go_wp2_with fail
   go_ret2
   exact ⟨rfl, Below.refl _ _⟩
theorem dollar_cut (s : ByteArray) : Expr.dollar s = true ↔ 1 ≤ s.size ∧ s.extract 0 1 = ⟨#[36]⟩ := by
 obtain ⟨⟨l⟩⟩ := s
 unfold Expr.dollar
 match l with
 | [] => simp [ByteArray.size]
 | b :: r =>
  constructor
  ·intro h
   have hb : b = 36 := by simpa using h
   subst hb
   exact ⟨by simp [ByteArray.size], by apply ByteArray.ext; simp⟩
  ·rintro ⟨-, h⟩
   have h2 := congrArg ByteArray.data h
   simp at h2
   simp [h2]
theorem hasDollar0_any (s : ByteArray) (w : World) : Calls Tryz.prog 82 #[.string s, .string ⟨#[36]⟩] w fun e w' => e = .returned (.bool (Expr.dollar s)) ∧ Below w.heap.size w w' := by
 have hd := dollar_cut s
 by_cases h1 : 1 ≤ s.size
 ·have hge : decide ((s.size : Int) ≥ 1) = true := decide_eq_true (by omega)
  by_cases he : s.extract 0 1 = ⟨#[36]⟩
  ·have HD : Hid (Expr.dollar s = true) := hd.2 ⟨h1, he⟩
   have hb : ((s.extract 0 1).toList == [36]) = true := by rw [he, ByteArray.toList_eq]; rfl
   clear hd he
   go_enter Tryz.func82, Tryz.ntmps82
   go_wp2_with fail
   go_ret
   exact ⟨ret_eq (by rw [HD.out]; rfl), Below.refl _ _⟩
  ·have HD : Hid (Expr.dollar s = false) := by
    show _ = _
    cases h : Expr.dollar s with
    | false => rfl
    | true => exact absurd (hd.1 h).2 he
   have hb : ((s.extract 0 1).toList == [36]) = false := by
    have := str_ne he
    rw [ByteArray.toList_eq ⟨#[36]⟩] at this
    exact this
   clear hd he
   go_enter Tryz.func82, Tryz.ntmps82
   go_wp2_with fail
   go_ret
   exact ⟨ret_eq (by rw [HD.out]; rfl), Below.refl _ _⟩
 ·have HD : Hid (Expr.dollar s = false) := by
   show _ = _
   cases h : Expr.dollar s with
   | false => rfl
   | true => exact absurd (hd.1 h).1 h1
  have hlt : ¬ ((s.size : Int) ≥ 1) := by omega
  clear hd
  go_enter Tryz.func82, Tryz.ntmps82
  go_wp2_with fail
  go_ret
  exact ⟨ret_eq (by rw [HD.out]; rfl), Below.refl _ _⟩
theorem hasDollar_any (s : ByteArray) (w : World) : Calls Tryz.prog 78 #[.string s, .string ⟨#[36]⟩] w fun e w' => e = .returned (.bool (Expr.dollar s)) ∧ Below w.heap.size w w' := by
 have CH := Lib.hid (hasDollar0_any s w)
 go_enter Tryz.func78, Tryz.ntmps78
 go_wp2_with fail
 refine CH.out.mono ?_
 rintro e w2 ⟨rfl, hb2⟩
 have HB2 := Lib.hid hb2
 clear hb2 CH
 go_wp2_with fail
 go_ret
 exact ⟨rfl, HB2.out⟩
theorem isOp_any (nm : ByteArray) (c0 c1 c2 c3 c4 c5 : Value) (w : World) : Calls Tryz.prog 64 #[.agg #[.string nm, c0, c1, c2, c3, c4, c5]] w fun e w' => e = .returned (.bool (Expr.dollar nm)) ∧ Below w.heap.size w w' := by
 obtain ⟨W0, hW0⟩ : ∃ W0, W0 = w.alloc (.cells #[.string nm, c0, c1, c2, c3, c4, c5] 40) := ⟨_, rfl⟩
 have hb0 : Below w.heap.size w W0 := by rw [hW0]; exact (Below.refl _ _).alloc (Nat.le_refl _) _
 have hh : W0.heap[w.heap.size]? = some (.cells #[.string nm, c0, c1, c2, c3, c4, c5] 40 (0, 0)) := by rw [hW0]; exact heap_alloc_new w _
 have k0 : W0.cell? ⟨w.heap.size, 0, none⟩ = some (.string nm) := (cell_of_row W0 _ 0 _ _ _ hh).trans rfl
 have CH := Lib.hid (hasDollar_any nm W0)
 have HB := Lib.hid hb0
 have HW0 := Lib.hid hW0
 clear hh hW0 hb0
 go_enter Tryz.func64, Tryz.ntmps64
 go_upto_region 1 with fail
 rw [← HW0.out]
 go_wp2_with fail
 refine CH.out.mono ?_
 rintro e w2 ⟨rfl, hb2⟩
 have HB2 := Lib.hid (HB.out.trans (hb2.mono HB.out.size))
 clear hb2 CH
 go_wp2_with fail
 go_ret
 exact ⟨rfl, HB2.out⟩
def opAt : List (ByteArray × Val) → Nat → Int
 | [], _ => -1
 | x :: r, i => if Expr.dollar x.1 = true then (i : Int) else opAt r (i + 1)
theorem opAt_ge : ∀ (l : List (ByteArray × Val)) (i : Nat), (0 ≤ opAt l i ↔ (l.any fun x => Expr.dollar x.1) = true)
 | [], i => by simp [opAt]
 | x :: r, i => by
  have ih := opAt_ge r (i + 1)
  rw [opAt, List.any_cons]
  by_cases h : Expr.dollar x.1 = true
  ·rw [if_pos h, h]; simp
  ·rw [if_neg h, ih]; simp [h]
theorem opIndex_any (w : World) (Q : Nat → Prop) (B : Nat) (a : Option Addr) (n c : Nat) (l : List (ByteArray × Val)) (hn : l.length = n) (hm : n ≤ 1172812402961) (hit : FieldsIn w Q (VIn w Q B) a l) :
  Calls Tryz.prog 77 #[.slice a n c, .func (.func 64) #[] #[]] w fun e w' => e = .returned (.int .i64 (opAt l 0)) ∧ Below w.heap.size w w' := by
 have HN := Lib.hid hn
 have HIT := Lib.hid hit
 obtain ⟨res, hres⟩ : ∃ z, z = opAt l 0 := ⟨_, rfl⟩
 rw [← hres]
 have HRES := Lib.hid hres
 clear hn hit hres
 go_enter Tryz.func77, Tryz.ntmps77
 go_wp2_with fail
 go_loopw [8] (fun i wr => ∃ k : Nat, i = .int .i64 k ∧ k ≤ n ∧ Hid (res = opAt (l.drop k) k) ∧ Hid (Below w.heap.size w wr)) (fun i _ => n - (intOf i).toNat)
 case atStart => exact ⟨0, rfl, Nat.zero_le _, HRES.out, Below.refl _ _⟩
 case round =>
  obtain ⟨k, rfl, hk, HP, HBr⟩ := hrel
  by_cases hlt : k < n
  ·have hkr : k < l.length := by rw [HN.out]; exact hlt
   obtain ⟨g, o, rfl, -, hall⟩ := HIT.out.resolve_left (fun e => by rw [e] at hkr; cases hkr)
   obtain ⟨hnm, -, v', hsix, hV⟩ := hall k hkr
   obtain ⟨ik, im, is_, b0, f0, l0, bb0, bc0, fb0, fc0, lb0, lc0, rfl⟩ := hV.shape
   have hnm := cell_keep HBr.out hnm
   obtain ⟨nm, hnme⟩ : ∃ z, z = l[k].1 := ⟨_, rfl⟩
   rw [← hnme] at hnm
   obtain ⟨s0, s1, s2, s3, s4, s5⟩ := (hsix.keep HBr.out).cells
   have hdrop : l.drop k = l[k] :: l.drop (k + 1) := List.drop_eq_getElem_cons hkr
   have hstep : res = if Expr.dollar nm = true then (k : Int) else opAt (l.drop (k + 1)) (k + 1) := by
    rw [HP.out, hdrop, opAt, ← hnme]
   have CN := Lib.hid (isOp_any nm (.int .i64 ik) (.int .i64 im) (.string is_) (.slice b0 bb0 bc0) (.slice f0 fb0 fc0) (.slice l0 lb0 lc0) wr)
   have HST := Lib.hid hstep
   clear hall hsix hV hdrop hstep hnme
   by_cases he : Expr.dollar nm = true
   ·rw [he] at CN
    have hre : res = (k : Int) := by have := HST.out; rw [if_pos he] at this; exact this
    have HRE := Lib.hid hre
    clear he hre
    go_wp2_with fail
    refine CN.out.mono ?_
    rintro e w2 ⟨rfl, hb2⟩
    have HB2 := Lib.hid (HBr.out.trans (hb2.mono HBr.out.size))
    clear hb2 CN
    go_wp2_with fail
    go_ret
    exact ⟨ret_eq (by rw [HRE.out]; rfl), HB2.out⟩
   ·have hf : Expr.dollar nm = false := Bool.not_eq_true _ ▸ he
    rw [hf] at CN
    have hre : Hid (res = opAt (l.drop (k + 1)) (k + 1)) := by have := HST.out; rw [if_neg he] at this; exact this
    clear he hf
    go_wp2_with fail
    refine CN.out.mono ?_
    rintro e w2 ⟨rfl, hb2⟩
    have HB2 := Lib.hid (HBr.out.trans (hb2.mono HBr.out.size))
    clear hb2 CN
    go_wp2_with fail
    go_roundw
    case rel => exact ⟨k + 1, by go_num, by omega, hre.out, HB2.out⟩
    case measure => simp [intOf]; omega
  ·obtain rfl : k = n := by omega
   have hre : res = -1 := by rw [HP.out, List.drop_eq_nil_of_le (by rw [HN.out]; exact Nat.le_refl _)]; rfl
   have HRE := Lib.hid hre
   clear hre
   go_wp2_with fail
   go_ret
   exact ⟨ret_eq (by rw [HRE.out]; rfl), HBr.out⟩
theorem hasOp_any (w : World) (Q : Nat → Prop) (B : Nat) (a : Option Addr) (n c : Nat) (l : List (ByteArray × Val)) (hn : l.length = n) (hm : n ≤ 1172812402961) (hit : FieldsIn w Q (VIn w Q B) a l) :
  Calls Tryz.prog 63 #[.slice a n c, .func (.func 64) #[] #[]] w fun e w' => e = .returned (.bool (l.any fun x => Expr.dollar x.1)) ∧ Below w.heap.size w w' := by
 have CN := Lib.hid (opIndex_any w Q B a n c l hn hm hit)
 have hge := opAt_ge l 0
 obtain ⟨z, hz⟩ : ∃ z, z = opAt l 0 := ⟨_, rfl⟩
 rw [← hz] at CN hge
 obtain ⟨b, hb⟩ : ∃ b, b = (l.any fun x => Expr.dollar x.1) := ⟨_, rfl⟩
 rw [← hb] at hge ⊢
 have HD : Hid (decide (z ≥ 0) = b) := by
  show _ = _
  by_cases h : 0 ≤ z
  ·rw [hge.1 h, decide_eq_true h]
  ·rw [decide_eq_false h]
   cases b with
   | false => rfl
   | true => exact absurd (hge.2 rfl) h
 clear hn hm hit hge hz hb
 go_enter Tryz.func63, Tryz.ntmps63
 go_wp2_with fail
 refine CN.out.mono ?_
 rintro e w2 ⟨rfl, hb2⟩
 have HB2 := Lib.hid hb2
 clear hb2 CN
 go_wp2_with fail
 go_ret
 exact ⟨ret_eq (by rw [← HD.out]; rfl), HB2.out⟩
theorem cutDollar0_any (s : ByteArray) (w : World) : Calls Tryz.prog 74 #[.string s, .string ⟨#[36]⟩] w fun e w' => e = .returned (.tuple #[.string (if Expr.dollar s = true then s.extract 1 s.size else s), .bool (Expr.dollar s)]) ∧ Below w.heap.size w w' := by
 have CH := Lib.hid (hasDollar0_any s w)
 cases h : Expr.dollar s with
 | true =>
  have hs : 1 ≤ s.size := ((dollar_cut s).1 h).1
  rw [h] at CH
  have hsi : (1 : Int) ≤ (s.size : Int) := by omega
  go_enter Tryz.func74, Tryz.ntmps74
  go_wp2_with fail
  refine CH.out.mono ?_
  rintro e w2 ⟨rfl, hb2⟩
  have HB2 := Lib.hid hb2
  clear hb2 CH
  go_wp2_with fail
  go_ret2
  exact ⟨rfl, HB2.out⟩
 | false =>
  rw [h] at CH
  go_enter Tryz.func74, Tryz.ntmps74
  go_wp2_with fail
  refine CH.out.mono ?_
  rintro e w2 ⟨rfl, hb2⟩
  have HB2 := Lib.hid hb2
  clear hb2 CH
  go_wp2_with fail
  go_ret2
  exact ⟨rfl, HB2.out⟩
theorem cutDollar_any (s : ByteArray) (w : World) : Calls Tryz.prog 61 #[.string s, .string ⟨#[36]⟩] w fun e w' => e = .returned (.tuple #[.string (if Expr.dollar s = true then s.extract 1 s.size else s), .bool (Expr.dollar s)]) ∧ Below w.heap.size w w' := by
 have CH := Lib.hid (cutDollar0_any s w)
 obtain ⟨x, hx⟩ : ∃ x, x = (if Expr.dollar s = true then s.extract 1 s.size else s) := ⟨_, rfl⟩
 rw [← hx] at CH ⊢
 clear hx
 go_enter Tryz.func61, Tryz.ntmps61
 go_wp2_with fail
 refine CH.out.mono ?_
 rintro e w2 ⟨rfl, hb2⟩
 have HB2 := Lib.hid hb2
 clear hb2 CH
 go_wp2_with fail
 go_ret2
 exact ⟨rfl, HB2.out⟩
end Go.Proofs.YtiajjgehnmkokaaGreatDoor
end
section
namespace Go.Proofs.YtiajjgehnmkokaaGreatDoor
open Go.RowKit
open Seal
open Bson (Val)
structure RM (F : Nat → Prop) (w w' : World) : Prop where
 os : w'.os = w.os
 tape : w'.tape = w.tape
 output : w'.output = w.output
 size : w.heap.size ≤ w'.heap.size
 block : ∀ k, k < w.heap.size → ¬ F k → w'.heap[k]? = w.heap[k]?
section
variable {F G F' : Nat → Prop} {w w' w2 : World}
theorem RM.refl (F : Nat → Prop) (w : World) : RM F w w := ⟨rfl, rfl, rfl, Nat.le_refl _, fun _ _ _ => rfl⟩
theorem RM.trans (h : RM F w w') (h2 : RM G w' w2) (hG : ∀ k, k < w.heap.size → G k → F k) : RM F w w2 :=
 ⟨h2.os.trans h.os, h2.tape.trans h.tape, h2.output.trans h.output, Nat.le_trans h.size h2.size, fun k hk hn => (h2.block k (Nat.lt_of_lt_of_le hk h.size) (fun e => hn (hG k hk e))).trans (h.block k hk hn)⟩
theorem RM.of_below (hb : Below w.heap.size w w') : RM F w w' := ⟨hb.os, hb.tape, hb.output, hb.size, fun k hk _ => hb.block k hk⟩
theorem RM.of_grown {row : Option Nat} (h : w.grownBy w' row) : RM (fun k => row = some k) w w' := ⟨h.os, h.tape, h.output, h.size, fun k hk hn => h.block k hk (fun e => hn e.symm)⟩
theorem RM.below {B : Nat} (h : RM F w w') (hB : B ≤ w.heap.size) (hF : ∀ k, F k → B ≤ k) : Below B w w' := ⟨h.os, h.tape, h.output, h.size, fun k hk => h.block k (by omega) (fun e => by have := hF k e; omega)⟩
theorem RM.cell {b o : Nat} {v : Value} (h : RM F w w') (hc : w.cell? ⟨b, o, none⟩ = some v) (hn : ¬ F b) : w'.cell? ⟨b, o, none⟩ = some v :=
 (World.cell?_of_block (a := ⟨b, o, none⟩) (h.block b (World.block_lt_of_cell? w _ hc) hn)).trans hc
theorem RM.mono (h : RM F w w') (hF : ∀ k, k < w.heap.size → F k → G k) : RM G w w' := ⟨h.os, h.tape, h.output, h.size, fun k hk hn => h.block k hk (fun e => hn (hF k hk e))⟩
end
def RF (g : Nat) (pv : Value) (k : Nat) : Prop := k = g ∨ pv.ownBlock = some k
def TF (g B : Nat) (pv : Value) (k : Nat) : Prop := (g ≤ k ∧ k < B) ∨ pv.ownBlock = some k
def Mvd (w : World) (pv pv' : Value) : Prop := pv'.ownBlock = pv.ownBlock ∨ ∃ b, pv'.ownBlock = some b ∧ w.heap.size ≤ b
theorem Mvd.refl (w : World) (pv : Value) : Mvd w pv pv := .inl rfl
theorem Mvd.trans {w w' : World} {pv pv' pv2 : Value} (h : Mvd w pv pv') (h2 : Mvd w' pv' pv2) (hs : w.heap.size ≤ w'.heap.size) : Mvd w pv pv2 := by
 rcases h2 with h2 | ⟨b, h2, h3⟩
 ·rcases h with h | ⟨b, h, h3⟩
  ·exact .inl (h2.trans h)
  ·exact .inr ⟨b, h2.trans h, h3⟩
 ·exact .inr ⟨b, h2, by omega⟩
theorem Mvd.old {w : World} {pv pv' : Value} (h : Mvd w pv pv') {k : Nat} (hk : k < w.heap.size) (e : pv'.ownBlock = some k) : pv.ownBlock = some k := by
 rcases h with h | ⟨b, h, h3⟩
 ·exact h.symm.trans e
 ·have := Option.some.inj (h.symm.trans e); omega
theorem Mvd.rf {w : World} {g : Nat} {pv pv' : Value} (h : Mvd w pv pv') {k : Nat} (hk : k < w.heap.size) (e : RF g pv' k) : RF g pv k := e.imp id (h.old hk)
theorem RM.next {w w' w2 : World} {g : Nat} {pv pv' : Value} (h : RM (RF g pv) w w') (hm : Mvd w pv pv') (h2 : RM (RF g pv') w' w2) : RM (RF g pv) w w2 := h.trans h2 fun _ hk e => hm.rf hk e
def EvF (F : Nat → Prop) (w : World) (t : Value) (H : Nat) (f : Nat → Val → Expr.Out) : Prop := ∀ W, RM F w W → Ev W t H f
theorem EvF.ev {F : Nat → Prop} {w : World} {t : Value} {H : Nat} {f : Nat → Val → Expr.Out} (h : EvF F w t H f) : Ev w t H f := h w (RM.refl _ _)
theorem EvF.up {F : Nat → Prop} {w : World} {t : Value} {H H' : Nat} {f : Nat → Val → Expr.Out} (h : EvF F w t H f) (hH : H ≤ H') : EvF F w t H' f := fun W hW => (h W hW).up hH
theorem EvF.keep {F F' G : Nat → Prop} {w w' : World} {t : Value} {H : Nat} {f : Nat → Val → Expr.Out} (h : EvF F w t H f) (hm : RM G w w') (hG : ∀ k, k < w.heap.size → G k → F k) (hF : ∀ k, k < w.heap.size → F' k → F k) : EvF F' w' t H f :=
 fun W hW => h W ((hm.mono hG).trans hW hF)
def NotStr (w : World) (k : Nat) : Prop := ∀ c, w.heap[k]? ≠ some (.cells c 9 (0, 0))
def txtV (p : List ByteArray) : List Value := p.map .string
structure Rd (w : World) (g : Nat) (pv : Value) (L : List (List ByteArray)) : Prop where
 blk : w.heap[g]? = some (.cells #[pv] 59 (0, 0))
 own : ∃ xs, w.ownsRow (g + 1) 42 1 pv L.length xs ∧ ∀ i (hi : i < L.length), ∃ v, xs[i]? = some v ∧ w.ownsRow 0 9 1 v L[i].length (txtV L[i])
section
variable {w w' : World} {g : Nat} {pv : Value} {L : List (List ByteArray)}
theorem Rd.lt (h : Rd w g pv L) : g < w.heap.size := (Array.getElem?_eq_some_iff.1 h.blk).1
theorem Rd.block (h : Rd w g pv L) {k : Nat} (hk : pv.ownBlock = some k) : g < k ∧ k < w.heap.size := by
 obtain ⟨xs, h1, -⟩ := h.own
 have := owns_block h1 hk
 omega
theorem Rd.ge (h : Rd w g pv L) {k : Nat} (hk : RF g pv k) : g ≤ k ∧ k < w.heap.size := by
 rcases hk with rfl | hk
 ·exact ⟨Nat.le_refl _, h.lt⟩
 ·have := h.block hk; omega
theorem Rd.cell (h : Rd w g pv L) : w.cell? ⟨g, 0, none⟩ = some pv := (cell_of_row w g 0 _ _ _ h.blk).trans rfl
theorem owns_type {e : TypeId} {base size n : Nat} {v : Value} {xs : List Value} (h : w.ownsRow base e size v n xs) {k : Nat} (hk : v.ownBlock = some k) : ∃ c, w.heap[k]? = some (.cells c e (0, 0)) := by
 obtain ⟨_, ⟨rfl, _⟩ | ⟨b, cap, cur, rfl, hb, hrow, _⟩⟩ := h
 ·cases hk
 ·obtain rfl : b = k := Option.some.inj hk
  exact ⟨cur, hrow⟩
theorem notStr_of {e : TypeId} {c : Array Value} {k : Nat} (h : w.heap[k]? = some (.cells c e (0, 0))) (he : e ≠ 9) : NotStr w k := by
 intro c' e'
 rw [h] at e'
 injection e' with e1
 injection e1 with _ e2 _
 exact he e2
theorem Rd.notStr (h : Rd w g pv L) {k : Nat} (hk : RF g pv k) : NotStr w k := by
 rcases hk with rfl | hk
 ·exact notStr_of h.blk (by decide)
 ·obtain ⟨xs, h1, -⟩ := h.own
  obtain ⟨c, hc⟩ := owns_type h1 hk
  exact notStr_of hc (by decide)
theorem strs_keep {G : Nat → Prop} (hm : RM G w w') (hS : ∀ k, k < w.heap.size → G k → NotStr w k) {base n : Nat} {v : Value} {xs : List Value} (h : w.ownsRow base 9 1 v n xs) : w'.ownsRow base 9 1 v n xs :=
 owns_same h fun k hk => by
  obtain ⟨c, hc⟩ := owns_type h hk
  exact hm.block k (owns_block h hk).2 fun e => hS k (owns_block h hk).2 e c hc
theorem Rd.keep {G : Nat → Prop} (h : Rd w g pv L) (hm : RM G w w') (hG : ∀ k, k < w.heap.size → G k → ¬ RF g pv k) (hS : ∀ k, k < w.heap.size → G k → NotStr w k) : Rd w' g pv L := by
 obtain ⟨xs, h1, h2⟩ := h.own
 refine ⟨(hm.block g h.lt (fun e => hG g h.lt e (.inl rfl))).trans h.blk, xs, owns_same h1 (fun k hk => hm.block k (h.block hk).2 (fun e => hG k (h.block hk).2 e (.inr hk))), fun i hi => ?_⟩
 obtain ⟨v, h3, h4⟩ := h2 i hi
 exact ⟨v, h3, strs_keep hm hS h4⟩
theorem Rd.below (h : Rd w g pv L) (hb : Below w.heap.size w w') : Rd w' g pv L := h.keep (G := fun _ => False) (RM.of_below hb) (fun _ _ e => e.elim) (fun _ _ e => e.elim)
end
def RdrPost (w : World) (g : Nat) (pv : Value) (L P : List (List ByteArray)) (code : Int) (Good : World → Value → Value → Prop) (e : Ending) (w' : World) : Prop :=
 ∃ t pv' L', e = .returned (.tuple #[t, .int .i64 code]) ∧ RM (RF g pv) w w' ∧ Mvd w pv pv' ∧ Rd w' g pv' L' ∧ (code = 0 → L' = L ++ P ∧ Good w' pv' t)
def TermGood (g B : Nat) (H : Nat) (f : Nat → Val → Expr.Out) (w' : World) (pv' t : Value) : Prop := EvF (TF g B pv') w' t H f
def RowGood (g B : Nat) (H : Nat) (fs : List (Nat → Val → Expr.Out)) (w' : World) (pv' t : Value) : Prop :=
 ∃ a c, t = .slice a fs.length c ∧ fs.length ≤ c ∧ c ≤ 9223372036854775807 ∧ ∀ W, RM (TF g B pv') w' W → TermsIn W a H fs
def LF (g B : Nat) (pv rv : Value) (k : Nat) : Prop := TF g B pv k ∨ rv.ownBlock = some k
section
variable {w wr w2 w3 w5 : World} {g B size k n : Nat} {e : TypeId} {pv pvk pv2 rv v5 : Value} {xs xs5 : List Value} {L L2 : List (List ByteArray)}
theorem Rd.apart (hR : Rd w g pv L) (hB : g < B) (he2 : e ≠ 42) (ho : w.ownsRow B e size rv k xs) {b : Nat} (hb : rv.ownBlock = some b) : ¬ RF g pv b := by
 have h1 := owns_block ho hb
 rintro (rfl | h2)
 ·omega
 ·obtain ⟨ys, h3, -⟩ := hR.own
  obtain ⟨c1, h4⟩ := owns_type h3 h2
  obtain ⟨c2, h5⟩ := owns_type ho hb
  rw [h4] at h5
  injection h5 with h6
  injection h6 with _ h7 _
  exact he2 h7.symm
theorem loop_rm (hm0 : RM (RF g pv) w wr) (hv0 : Mvd w pv pvk) (hm : RM (RF g pvk) wr w2) (hb3 : Below w2.heap.size w2 w3) (ho3 : w3.ownsRow w.heap.size e size rv k xs) (hl : Lies w3 w5 rv v5) : RM (RF g pv) w w5 := by
 have h1 := (hm0.next hv0 hm).trans (RM.of_below (F := fun _ => False) hb3) (fun _ _ e => e.elim)
 exact h1.trans (RM.of_grown (Wrote.of_lies hl).1) (fun b hb e => by have := (owns_block ho3 e).1; omega)
theorem loop_rd (hR2 : Rd w2 g pv2 L2) (hB : g < B) (he1 : e ≠ 9) (he2 : e ≠ 42) (hb3 : Below w2.heap.size w2 w3) (ho3 : w3.ownsRow B e size rv k xs) (hl : Lies w3 w5 rv v5) : Rd w5 g pv2 L2 :=
 have hR3 := hR2.below hb3
 hR3.keep (RM.of_grown (Wrote.of_lies hl).1) (fun _ _ e => hR3.apart hB he2 ho3 e) (fun _ _ e => by obtain ⟨c, hc⟩ := owns_type ho3 e; exact notStr_of hc he1)
theorem lies_mvd (hl : Lies w3 w5 rv v5) : Mvd w3 rv v5 := (Wrote.of_lies hl).2
theorem loop_old (hB : g < B) (hR : Rd wr g pvk L) (hm : RM (RF g pvk) wr w2) (hv : Mvd wr pvk pv2) (hb3 : Below w2.heap.size w2 w3) (hl : Lies w3 w5 rv v5) {t : Value} {H : Nat} {f : Nat → Val → Expr.Out} (h : EvF (LF g B pvk rv) wr t H f) : EvF (LF g B pv2 v5) w5 t H f := by
 have hs := hm.size
 have hs3 := hb3.size
 refine h.keep (G := LF g B pvk rv) (((hm.mono (G := LF g B pvk rv) ?_).trans (RM.of_below (F := fun _ => False) hb3) (fun _ _ e => e.elim)).trans (RM.of_grown (Wrote.of_lies hl).1) (fun b hb e => .inr e)) (fun _ _ e => e) ?_
 ·rintro b hb (rfl | e)
  ·exact .inl (.inl ⟨Nat.le_refl _, hB⟩)
  ·exact .inl (.inr e)
 ·rintro b hb ((e | e) | e)
  ·exact .inl (.inl e)
  ·exact .inl (.inr (hv.old hb e))
  ·exact .inr ((lies_mvd hl).old (by omega) e)
theorem loop_new (hB : g < B) (hBr : B ≤ wr.heap.size) {B1 : Nat} (hB1 : wr.heap.size ≤ B1) (_ : wr.heap.size ≤ w2.heap.size) (hb3 : Below w2.heap.size w2 w3) (ho : wr.ownsRow B e size rv k xs) (hl : Lies w3 w5 rv v5) {t : Value} {H : Nat} {f : Nat → Val → Expr.Out} (h : EvF (TF g B1 pv2) w2 t H f) : EvF (LF g B pv2 v5) w5 t H f := by
 have hs3 := hb3.size
 have own : ∀ b, rv.ownBlock = some b → TF g B1 pv2 b := fun b e => .inl (by have := owns_block ho e; omega)
 refine h.keep (G := TF g B1 pv2) (((RM.of_below (F := TF g B1 pv2) hb3)).trans (RM.of_grown (Wrote.of_lies hl).1) (fun b hb e => own b e)) (fun _ _ e => e) ?_
 rintro b hb ((e | e) | e)
 ·exact .inl ⟨e.1, by omega⟩
 ·exact .inr e
 ·exact own b ((lies_mvd hl).old (by omega) e)
end
def TRow (w : World) (g B H : Nat) (pv rv : Value) (k : Nat) (fs : List (Nat → Val → Expr.Out)) (xs : List Value) : Prop :=
 w.ownsRow B 61 1 rv k xs ∧ ∀ i (hi : i < k) (hi2 : i < fs.length), ∃ t, xs[i]? = some t ∧ EvF (LF g B pv rv) w t H fs[i]
theorem TRow.good {w : World} {g B H : Nat} {pv rv : Value} {k : Nat} {fs : List (Nat → Val → Expr.Out)} {xs : List Value} {L : List (List ByteArray)} (h : TRow w g B H pv rv k fs xs) (hR : Rd w g pv L) (hB : g < B) (hk : fs.length = k) : RowGood g B H fs w pv rv := by
 subst hk
 obtain ⟨ho, hall⟩ := h
 rcases id ho with ⟨hxl, ⟨rfl, hn⟩ | ⟨b, cap, cur, rfl, hb, hrow, hc, hm, hsz, htake⟩⟩
 ·have := List.eq_nil_of_length_eq_zero hn
  subst this
  exact ⟨none, 0, rfl, Nat.le_refl _, by omega, fun _ _ => .inl rfl⟩
 ·have hap : ¬ RF g pv b := hR.apart hB (by decide) ho rfl
  refine ⟨_, cap, rfl, hc, by unfold maxLen at hm; omega, fun W hW => .inr ⟨b, 0, rfl, fun i hi => ?_⟩⟩
  obtain ⟨t, h1, h2⟩ := hall i hi hi
  refine ⟨t, ?_, h2 W (hW.mono fun _ _ e => .inl e)⟩
  have e : w.cell? ⟨b, 0 + i, none⟩ = some t := by
   rw [Nat.zero_add, cell_of_row w b i _ _ _ hrow, ← Array.getElem?_toList]
   have e2 : cur.toList[i]? = xs[i]? := by rw [← htake, List.getElem?_take_of_lt (by omega)]
   rw [e2, h1]
  refine hW.cell e ?_
  rintro (⟨_, e3⟩ | e3)
  ·omega
  ·exact hap (.inr e3)
inductive FitV : Val → Prop
 | mk (x : Val) (hs : x.s.size ≤ 4294967280) (hf : x.f.length ≤ 256) (hl : x.l.length ≤ 256) (hfs : ∀ p ∈ x.f, FitV p.2) (hls : ∀ y ∈ x.l, FitV y) : FitV x
theorem FitV.s {x : Val} (h : FitV x) : x.s.size ≤ 4294967280 := by cases h; assumption
theorem FitV.f {x : Val} (h : FitV x) : x.f.length ≤ 256 := by cases h; assumption
theorem FitV.l {x : Val} (h : FitV x) : x.l.length ≤ 256 := by cases h; assumption
theorem FitV.fs {x : Val} (h : FitV x) : ∀ p ∈ x.f, FitV p.2 := by cases h; assumption
theorem FitV.ls {x : Val} (h : FitV x) : ∀ y ∈ x.l, FitV y := by cases h; assumption
theorem FitV.args {x : Val} (h : FitV x) : (Expr.args x).length ≤ 256 ∧ ∀ y ∈ Expr.args x, FitV y := by
 unfold Expr.args
 split
 ·exact ⟨h.l, h.ls⟩
 ·exact ⟨by simp, fun y hy => by rw [List.mem_singleton.1 hy]; exact h⟩
def pathsV : Nat → Val → List (List ByteArray)
 | 0, _ => []
 | h + 1, x =>
  if x.kind = 5 then (if Expr.dollar x.s = true then [(Expr.pathOf x.s).getD []] else [])
  else if x.kind = 7 then (x.l.map (pathsV h)).flatten
  else if x.kind = 6 then
   (if (x.f.any fun p => Expr.dollar p.1) = true then
    (match x.f with
    | [(s, a)] => if s = Expr.literal then [] else ((Expr.args a).map (pathsV h)).flatten
    | _ => [])
   else (x.f.map fun p => pathsV h p.2).flatten)
  else []
def TermDo (N C h : Nat) : Prop :=
 ∀ (W0 w : World) (g : Nat) (pv : Value) (L : List (List ByteArray)) (Q : Nat → Prop) (x : Val) (v : Value), Ground W0 → W0.heap.size ≤ g → Below W0.heap.size W0 w → Rd w g pv L → VIn W0 Q h x v → FitV x → L.length + (pathsV h x).length ≤ 1000000 →
  Calls Tryz.prog 26 #[.pointer (some ⟨g, 0, none⟩), v] w (RdrPost w g pv L (pathsV h x) (Expr.parseV h x) (TermGood g w.heap.size (3 * h) (evF N C h x)))
end Go.Proofs.YtiajjgehnmkokaaGreatDoor
end
section
namespace Go.Proofs.YtiajjgehnmkokaaGreatDoor
open Go.RowKit
open Seal
open Bson (Val)
theorem items_old {W0 w : World} {Q : Nat → Prop} {V : Val → Value → Prop} {a : Option Addr} {l : List Val} (h : ItemsIn W0 Q V a l) (hb : Below W0.heap.size W0 w) : ItemsIn w (fun k => k < W0.heap.size) V a l := by
 rcases h with h | ⟨g, o, e, _, h⟩
 ·exact .inl h
 ·cases l with
  | nil => exact .inl rfl
  | cons x r =>
   have hg : g < W0.heap.size := by
    obtain ⟨v, ⟨c0, c1, c2, c3, c4, c5, _, h0, _⟩, _⟩ := h 0 (by simp)
    exact World.block_lt_of_cell? W0 _ h0
   refine .inr ⟨g, o, e, hg, fun i hi => ?_⟩
   obtain ⟨v, h1, h2⟩ := h i hi
   exact ⟨v, h1.keep hb, h2⟩
theorem items_keep {w w' : World} {Q Q' : Nat → Prop} {V : Val → Value → Prop} {a : Option Addr} {l : List Val} (h : ItemsIn w Q V a l) (hb : Below w.heap.size w w') (hQ : ∀ k, Q k → Q' k) : ItemsIn w' Q' V a l := by
 rcases h with h | ⟨g, o, e, hq, h⟩
 ·exact .inl h
 ·refine .inr ⟨g, o, e, hQ g hq, fun i hi => ?_⟩
  obtain ⟨v, h1, h2⟩ := h i hi
  exact ⟨v, h1.keep hb, h2⟩
theorem one_row {w : World} {Q : Nat → Prop} {V : Val → Value → Prop} {g : Nat} {x : Val} {a0 a1 a2 a3 a4 a5 : Value} {t : TypeId} (hr : w.heap[g]? = some (.cells #[a0, a1, a2, a3, a4, a5] t (0, 0))) (hq : Q g) (hx : V x (.agg #[a0, a1, a2, a3, a4, a5])) : ItemsIn w Q V (some ⟨g, 0, none⟩) [x] := by
 have e : ∀ j c, (#[a0, a1, a2, a3, a4, a5] : Array Value)[j]? = some c → w.cell? ⟨g, j, none⟩ = some c := fun j c hc => (cell_of_row _ _ j _ _ _ hr).trans hc
 refine .inr ⟨g, 0, rfl, hq, fun i hi => ?_⟩
 have : i = 0 := by simp at hi; omega
 subst this
 exact ⟨_, ⟨a0, a1, a2, a3, a4, a5, rfl, e 0 _ rfl, e 1 _ rfl, e 2 _ rfl, e 3 _ rfl, e 4 _ rfl, e 5 _ rfl⟩, hx⟩
theorem args_any (W0 w : World) (Q : Nat → Prop) (B : Nat) (x : Val) (v : Value) (hb : Below W0.heap.size W0 w) (hv : VIn W0 Q (B + 1) x v) :
  Calls Tryz.prog 80 #[v] w fun e w' => ∃ a c, e = .returned (.slice a (Expr.args x).length c) ∧ ((Expr.args x).length ≤ c ∧ c ≤ 9223372036854775807) ∧ ItemsIn w' (fun k => k < W0.heap.size ∨ w.heap.size ≤ k) (VIn W0 Q (B + 1)) a (Expr.args x) ∧ Below w.heap.size w w' := by
 obtain ⟨ik, im, is_, b0, f0, l0, bb0, bc0, fb0, fc0, lb0, lc0, rfl⟩ := hv.shape
 obtain ⟨W1, hW1⟩ : ∃ W1, W1 = w.alloc (.cells #[.int .i64 ik, .int .i64 im, .string is_, .slice b0 bb0 bc0, .slice f0 fb0 fc0, .slice l0 lb0 lc0] 26) := ⟨_, rfl⟩
 have hb0 : Below w.heap.size w W1 := by rw [hW1]; exact (Below.refl _ _).alloc (Nat.le_refl _) _
 have hx0 : IsBox W1 w.heap.size (.int .i64 ik) (.int .i64 im) (.string is_) (.slice b0 bb0 bc0) (.slice f0 fb0 fc0) (.slice l0 lb0 lc0) := by rw [hW1]; exact IsBox.new w (.int .i64 ik) (.int .i64 im) (.string is_) (.slice b0 bb0 bc0) (.slice f0 fb0 fc0) (.slice l0 lb0 lc0)
 have HB := Lib.hid hb0
 have HV := Lib.hid hv
 have HW1 := Lib.hid hW1
 obtain ⟨e1, -, -, e4, -⟩ := hv.top
 obtain ⟨x0, x1, x2, x3, x4, x5⟩ := hx0.cells
 have HX := Lib.hid hx0
 by_cases h7 : ik = 7
 ·have ha : Expr.args x = x.l := by unfold Expr.args; rw [if_pos (by rw [← e1]; exact h7)]
  have hcap : lb0 ≤ lc0 ∧ lc0 ≤ 9223372036854775807 := by
   obtain ⟨ba, fa, la, bc, fc, lc, e, -, -, -, h3, -⟩ := hv
   unfold agg at e
   simp only [Value.agg.injEq, Array.mk.injEq, List.cons.injEq, Value.slice.injEq, and_true] at e
   obtain ⟨-, -, -, -, -, -, e6, e7⟩ := e
   omega
  have hit := hv.items.2
  have hit2 : ItemsIn W1 (fun k => k < W0.heap.size ∨ w.heap.size ≤ k) (VIn W0 Q (B + 1)) l0 x.l :=
   (items_keep (items_old hit hb) hb0 (fun _ h => .inl h)).kept (Kept.of_below (Below.refl _ _)) (fun _ h => h) (fun _ _ h => h.up (Nat.le_succ _))
  have HE : Hid (ItemsIn W1 (fun k => k < W0.heap.size ∨ w.heap.size ≤ k) (VIn W0 Q (B + 1)) l0 x.l ∧ lb0 = x.l.length ∧ (lb0 ≤ lc0 ∧ lc0 ≤ 9223372036854775807)) := ⟨hit2, e4, hcap⟩
  rw [ha]
  subst h7
  clear hv e1 e4 ha hcap hit hit2 hW1 hx0 hb0 hb
  go_enter Tryz.func80, Tryz.ntmps80
  go_upto_region 1 with fail
  rw [← HW1.out]
  go_wp2_with fail
  go_ret
  exact ⟨l0, lc0, by rw [HE.out.2.1]; rfl, by rw [← HE.out.2.1]; exact HE.out.2.2, HE.out.1, HB.out⟩
 ·have h7b : (ik == 7) = false := by rw [beq_eq_false_iff_ne]; exact h7
  have ha : Expr.args x = [x] := by unfold Expr.args; rw [if_neg (by rw [← e1]; exact h7)]
  have hb1 : Below W1.heap.size W1 (W1.alloc (.cells #[.int .i64 ik, .int .i64 im, .string is_, .slice b0 bb0 bc0, .slice f0 fb0 fc0, .slice l0 lb0 lc0] 26)) := (Below.refl _ _).alloc (Nat.le_refl _) _
  have HE : Hid (ItemsIn (W1.alloc (.cells #[.int .i64 ik, .int .i64 im, .string is_, .slice b0 bb0 bc0, .slice f0 fb0 fc0, .slice l0 lb0 lc0] 26)) (fun k => k < W0.heap.size ∨ w.heap.size ≤ k) (VIn W0 Q (B + 1)) (some ⟨W1.heap.size, 0, none⟩) [x]) := one_row (heap_alloc_new W1 _) (.inr hb0.size) hv
  have HB1 := Lib.hid (hb0.trans (hb1.mono hb0.size))
  rw [ha]
  clear hv e1 e4 ha h7 hW1 hx0 hb0 hb1 hb
  go_enter Tryz.func80, Tryz.ntmps80
  go_upto_region 1 with fail
  rw [← HW1.out]
  go_wp2_with fail
  go_ret
  exact ⟨_, 1, rfl, ⟨Nat.le_refl _, by omega⟩, HE.out, HB1.out⟩
theorem infoTerm : (Tryz.prog.info? 61).map (fun i => (i.zero, i.size, i.bytes)) = some (some .nilIface, 1, 16) := by kernel_rfl
namespace Expr
theorem parseAll_ok {ps : Val → Int} : ∀ {l : List Val}, (∀ y ∈ l, ps y = 0) → parseAll ps l = 0
 | [], _ => rfl
 | x :: r, h => by
  rw [parseAll, if_pos (h x List.mem_cons_self)]
  exact parseAll_ok fun y hy => h y (List.mem_cons_of_mem _ hy)
theorem parseAll_bad {ps : Val → Int} : ∀ {l : List Val} {k : Nat} (hk : k < l.length), (∀ i (hi : i < k), ps (l[i]'(by omega)) = 0) → ps l[k] ≠ 0 → parseAll ps l = ps l[k]
 | [], _, hk, _, _ => by simp at hk
 | x :: r, 0, _, _, h => by
  have h' : ¬ ps x = 0 := h
  rw [parseAll, if_neg h']; rfl
 | x :: r, k + 1, hk, hb, h => by
  have h1 : ps x = 0 := hb 0 (by omega)
  rw [parseAll, if_pos h1]
  exact parseAll_bad (l := r) (k := k) (by simpa using hk) (fun i hi => hb (i + 1) (by omega)) h
end Expr
theorem flatP_snoc {α β : Type} (f : α → List β) (l : List α) (k : Nat) (hk : k < l.length) : ((l.take (k + 1)).map f).flatten = ((l.take k).map f).flatten ++ f l[k] := by
 rw [List.take_succ_eq_append_getElem hk, List.map_append, List.flatten_append]
 simp
theorem flatP_le {α β : Type} (f : α → List β) (l : List α) (k : Nat) : ((l.take k).map f).flatten.length ≤ (l.map f).flatten.length := by
 conv => rhs; rw [← List.take_append_drop k l]
 rw [List.map_append, List.flatten_append, List.length_append]
 omega
theorem rterms_any (N C h : Nat) (IH : TermDo N C h) (W0 w : World) (g : Nat) (pv : Value) (L : List (List ByteArray)) (Q Qr : Nat → Prop) (a : Option Addr) (n c : Nat) (l : List Val) (hG : Ground W0) (hg : W0.heap.size ≤ g) (hb : Below W0.heap.size W0 w) (hR : Rd w g pv L) (hn : l.length = n) (hlim : n ≤ 256) (hF : ∀ y ∈ l, FitV y)
  (hI : ItemsIn w Qr (VIn W0 Q h) a l) (hQr : ∀ k, Qr k → ¬ RF g pv k) (hL : L.length + (l.map (pathsV h)).flatten.length ≤ 1000000) :
  Calls Tryz.prog 48 #[.pointer (some ⟨g, 0, none⟩), .slice a n c] w (RdrPost w g pv L (l.map (pathsV h)).flatten (Expr.parseAll (Expr.parseV h) l) (RowGood g w.heap.size (3 * h) (l.map (evF N C h)))) := by
 obtain ⟨i0, hi, hz0, hz1, hz2⟩ := info_parts infoTerm
 have HR := Lib.hid hR
 have HI := Lib.hid hI
 have HB := Lib.hid hb
 have HN := Lib.hid hn
 have HQ : Hid (∀ k, Qr k → ¬ RF g pv k) := hQr
 have HF := Lib.hid hF
 have HL := Lib.hid hL
 have HG := Lib.hid hG
 have HGE := Lib.hid hg
 have HGW : Hid (g < w.heap.size) := hR.lt
 have HIH : Hid (TermDo N C h) := IH
 obtain ⟨code, hcode⟩ : ∃ z, z = Expr.parseAll (Expr.parseV h) l := ⟨_, rfl⟩
 obtain ⟨P, hP⟩ : ∃ z, z = (l.map (pathsV h)).flatten := ⟨_, rfl⟩
 rw [← hcode, ← hP]
 have HC := Lib.hid hcode
 have HP := Lib.hid hP
 clear hR hI hb hn hQr hF hL hG hg IH hcode hP
 go_enter Tryz.func48, Tryz.ntmps48
 go_wp2_with fail
 go_loopw [6, 13] (fun rv i wr => ∃ (k : Nat) (pvk : Value) (xs : List Value), k ≤ n ∧ i = .int .i64 k ∧ Hid (∀ i (hi : i < k) (hi2 : i < l.length), Expr.parseV h l[i] = 0) ∧ Hid (Rd wr g pvk (L ++ ((l.take k).map (pathsV h)).flatten)) ∧ Hid (RM (RF g pv) w wr) ∧ Hid (Mvd w pv pvk) ∧ Hid (TRow wr g w.heap.size (3 * h) pvk rv k (l.map (evF N C h)) xs)) (fun _ i _ => n - (intOf i).toNat)
 case atStart => exact ⟨0, pv, [], Nat.zero_le _, rfl, fun _ h => absurd h (Nat.not_lt_zero _), by show Rd _ _ _ _; have := HR.out; simpa using this, RM.refl _ _, Mvd.refl _ _, World.ownsRow_nil _ _ _ _, fun i hi => absurd hi (Nat.not_lt_zero _)⟩
 case round =>
  obtain ⟨k, pvk, xs, hk, rfl, HOK, HRK, HM, HV, HT⟩ := hrel
  by_cases hlt : k < n
  ·have hkl : k < l.length := by rw [HN.out]; exact hlt
   obtain ⟨g0, o0, rfl, hq0, hall⟩ := HI.out.resolve_left (fun e => by rw [e] at hkl; cases hkl)
   obtain ⟨v1, hsix, hV⟩ := hall k hkl
   obtain ⟨ik, im, is_, b0, f0, l0, bb0, bc0, fb0, fc0, lb0, lc0, rfl⟩ := hV.shape
   obtain ⟨s0, s1, s2, s3, s4, s5⟩ := hsix.cells
   have hnq := HQ.out g0 hq0
   have s0 := HM.out.cell s0 hnq
   have s1 := HM.out.cell s1 hnq
   have s2 := HM.out.cell s2 hnq
   have s3 := HM.out.cell s3 hnq
   have s4 := HM.out.cell s4 hnq
   have s5 := HM.out.cell s5 hnq
   obtain ⟨W5, hW5⟩ : ∃ W5, W5 = wr.alloc (.cells #[.int .i64 ik, .int .i64 im, .string is_, .slice b0 bb0 bc0, .slice f0 fb0 fc0, .slice l0 lb0 lc0] 26) := ⟨_, rfl⟩
   obtain ⟨PB, hPB⟩ : ∃ P, P = wr.heap.size := ⟨_, rfl⟩
   have hb5 : Below wr.heap.size wr W5 := by rw [hW5]; exact (Below.refl _ _).alloc (Nat.le_refl _) _
   have hX5 : IsBox W5 PB (.int .i64 ik) (.int .i64 im) (.string is_) (.slice b0 bb0 bc0) (.slice f0 fb0 fc0) (.slice l0 lb0 lc0) := by rw [hW5, hPB]; exact IsBox.new wr (.int .i64 ik) (.int .i64 im) (.string is_) (.slice b0 bb0 bc0) (.slice f0 fb0 fc0) (.slice l0 lb0 lc0)
   have hBW : Below W0.heap.size W0 W5 := by
    have h1 := HB.out.trans (HM.out.below HB.out.size (fun b e => Nat.le_trans HGE.out (HR.out.ge e).1))
    exact h1.trans (hb5.mono h1.size)
   have hlen : (L ++ ((l.take k).map (pathsV h)).flatten).length + (pathsV h l[k]).length ≤ 1000000 := by
    have h1 := flatP_le (pathsV h) l (k + 1)
    rw [flatP_snoc (pathsV h) l k hkl, List.length_append] at h1
    have := HL.out
    rw [List.length_append]; omega
   have CK := Lib.hid (HIH.out W0 W5 g pvk _ Q l[k] _ HG.out HGE.out hBW (HRK.out.below hb5) hV (HF.out _ (List.getElem_mem hkl)) hlen)
   obtain ⟨ck, hck⟩ : ∃ z, z = Expr.parseV h l[k] := ⟨_, rfl⟩
   rw [← hck] at CK
   have HCK := Lib.hid hck
   have HW5 := Lib.hid hW5
   have HPB := Lib.hid hPB
   have HX5 := Lib.hid hX5
   have HB5 : Hid (Below wr.heap.size wr W5) := hb5
   have HR5 := Lib.hid (HRK.out.below hb5)
   clear hall hsix hV hnq hq0 hb5 hX5 hW5 hPB hck hlen hBW
   go_upto_region 5 with fail
   rw [← HW5.out, ← HPB.out]
   clear s0 s1 s2 s3 s4 s5
   obtain ⟨y0, y1, y2, y3, y4, y5⟩ := HX5.out.cells
   go_wp2_with fail
   refine CK.out.mono ?_
   rintro e w2 ⟨t, pv2, L2, rfl, hm2, hv2, hR2, hgood⟩
   have HM2 : Hid (RM (RF g pvk) wr w2) := (RM.of_below (F := RF g pvk) HB5.out).trans hm2 (fun _ _ e => e)
   have HV2 : Hid (Mvd wr pvk pv2) := by
    rcases hv2 with e | ⟨b, e, h1⟩
    ·exact .inl e
    ·exact .inr ⟨b, e, Nat.le_trans HB5.out.size h1⟩
   have HR2 := Lib.hid hR2
   have HGD : Hid (ck = 0 → L2 = L ++ ((l.take k).map (pathsV h)).flatten ++ pathsV h l[k] ∧ TermGood g W5.heap.size (3 * h) (evF N C h l[k]) w2 pv2 t) := hgood
   clear hm2 hv2 hR2 hgood CK y0 y1 y2 y3 y4 y5
   by_cases hz : ck = 0
   ·subst hz
    obtain ⟨hL2, htg⟩ := HGD.out rfl
    obtain ⟨TT, TK, tv, rfl, -⟩ := htg.ev
    obtain ⟨t, ht⟩ : ∃ t, t = Value.iface TT tv := ⟨_, rfl⟩
    rw [← ht] at htg
    have HTT := Lib.hid ht
    have HTG : Hid (EvF (TF g W5.heap.size pv2) w2 t (3 * h) (evF N C h l[k])) := htg
    have HL2 : Hid (L2 = L ++ ((l.take (k + 1)).map (pathsV h)).flatten) := by show _ = _; rw [hL2, flatP_snoc (pathsV h) l k hkl, List.append_assoc]
    have HOK2 : Hid (∀ i (hi : i < k + 1) (hi2 : i < l.length), Expr.parseV h l[i] = 0) := fun i hi hi2 => by
     by_cases e : i = k
     ·subst e; exact HCK.out.symm
     ·exact HOK.out i (by omega) hi2
    have hb6 : Below w2.heap.size w2 (w2.alloc (.cells #[.iface TT tv] 61)) := (Below.refl _ _).alloc (Nat.le_refl _) _
    have hap := fun b e => HRK.out.apart HGW.out (by decide) HT.out.1 (b := b) e
    have hO2 : w2.ownsRow w.heap.size 61 1 u6 k xs := owns_same HT.out.1 (fun b e => HM2.out.block b (owns_block HT.out.1 e).2 (hap b e))
    have HO6 := Lib.hid (owns_below hO2 hb6)
    have HB6 := Lib.hid hb6
    have HS6 : Hid (w.heap.size ≤ (w2.alloc (.cells #[.iface TT tv] 61)).heap.size) := Nat.le_trans HM.out.size (Nat.le_trans HM2.out.size hb6.size)
    have HNW := Lib.hid (one_new w2 (.iface TT tv) 61)
    clear hL2 htg hb6 hap hO2 ht HGD
    go_wp2_with (at_builtin; refine wpList_append_sz _ rfl (.tmp 26) (.tmp 28) 90 rfl w.heap.size 61 i0 .nilIface 1 16 Tryz.underlying90 hi hz0 hz1 hz2 rfl u6 k xs rfl HO6.out ⟨w2.heap.size, 0, none⟩ 1 1 [.iface TT tv] rfl rfl (by decide) (by decide) HNW.out (by intro u hu; rw [List.mem_singleton.1 hu]; exact rfl) (by unfold maxLen; omega) (by omega) HS6.out ?_)
    intro v9 w9 hown9 hlies9
    have HM9 : Hid (RM (RF g pv) w w9) := loop_rm HM.out HV.out HM2.out HB6.out HO6.out hlies9
    have HR9 : Hid (Rd w9 g pv2 L2) := loop_rd HR2.out HGW.out (by decide) (by decide) HB6.out HO6.out hlies9
    have HV9 : Hid (Mvd w pv pv2) := HV.out.trans HV2.out HM.out.size
    have HT9 : Hid (TRow w9 g w.heap.size (3 * h) pv2 v9 (k + 1) (l.map (evF N C h)) (xs ++ [t])) := by
     refine ⟨by rw [HTT.out]; exact hown9, fun i hi hi2 => ?_⟩
     by_cases e : i = k
     ·subst e
      refine ⟨t, ?_, ?_⟩
      ·have hx : xs.length = i := by have := HT.out.1.1; omega
       rw [List.getElem?_append_right (by omega), hx, Nat.sub_self]; rfl
      ·rw [List.getElem_map]
       exact loop_new HGW.out HM.out.size HB5.out.size HM2.out.size HB6.out HT.out.1 hlies9 HTG.out
     ·obtain ⟨t', h1, h2⟩ := HT.out.2 i (by omega) hi2
      refine ⟨t', ?_, loop_old HGW.out HRK.out HM2.out HV2.out HB6.out hlies9 h2⟩
      have hx : xs.length = k := by have := HT.out.1.1; omega
      rw [List.getElem?_append_left (by omega)]; exact h1
    have HR9' : Hid (Rd w9 g pv2 (L ++ ((l.take (k + 1)).map (pathsV h)).flatten)) := by have := HR9.out; rw [HL2.out] at this; exact this
    clear hown9 hlies9
    go_wp2_with fail
    go_roundw
    case rel => exact ⟨k + 1, pv2, _, by omega, by go_num, HOK2.out, HR9'.out, HM9.out, HV9.out, HT9.out⟩
    case measure => simp [intOf]; omega
   ·have hz2 : (ck == 0) = false := by rw [beq_eq_false_iff_ne]; exact hz
    have hz3 : (ck != 0) = true := by unfold bne; rw [hz2]; rfl
    have hres : code = ck := by
     rw [HC.out, Expr.parseAll_bad hkl (fun i hi => HOK.out i hi (by omega)) (by rw [← HCK.out]; exact hz), ← HCK.out]
    have HRES := Lib.hid hres
    have HZ := Lib.hid hz
    clear hz hres
    go_wp2_with fail
    refine bodyPost_ret (v := .tuple #[.slice none 0 0, .int .i64 ck]) ?_ rfl ?_
    ·simp [results, Tryz.results48, go_sem, *]
    ·exact ⟨_, pv2, L2, by rw [HRES.out], HM.out.next HV.out HM2.out, HV.out.trans HV2.out HM.out.size, HR2.out, fun e => absurd (HRES.out ▸ e) HZ.out⟩
  ·obtain rfl : k = n := by omega
   have htk : l.take k = l := List.take_of_length_le (by rw [HN.out]; exact Nat.le_refl _)
   have hres : code = 0 := by
    rw [HC.out]
    exact Expr.parseAll_ok fun y hy => by
     obtain ⟨i, hi, rfl⟩ := List.getElem_of_mem hy
     exact HOK.out i (by rw [← HN.out]; exact hi) hi
   have hR := HRK.out
   rw [htk, ← HP.out] at hR
   have HRF := Lib.hid hR
   have HGOOD : Hid (RowGood g w.heap.size (3 * h) (l.map (evF N C h)) wr pvk u6) := TRow.good HT.out HRK.out HGW.out (by rw [List.length_map]; exact HN.out)
   have HRES := Lib.hid hres
   clear htk hres hR
   go_wp2_with fail
   refine bodyPost_ret (v := .tuple #[u6, .int .i64 0]) ?_ rfl ?_
   ·simp [results, Tryz.results48, go_sem, *]
   ·exact ⟨u6, pvk, _, by rw [HRES.out], HM.out, HV.out, HRF.out, fun _ => ⟨rfl, HGOOD.out⟩⟩
end Go.Proofs.YtiajjgehnmkokaaGreatDoor
end
