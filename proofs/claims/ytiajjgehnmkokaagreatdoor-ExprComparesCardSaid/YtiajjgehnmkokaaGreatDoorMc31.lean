/- ExprParse, ExprEval, ExprPaths, ExprLawOp, ExprAwake, ExprCmpMath. -/
import Derived.Test.YtiajjgehnmkokaaGreatDoorMc30
import Derived.Test.YtiajjgehnmkokaaGreatDoorMc8
import Derived.Test.YtiajjgehnmkokaaGreatDoorMc21
import Derived.Test.YtiajjgehnmkokaaGreatDoorMc0
import Derived.Test.YtiajjgehnmkokaaGreatDoorMc3
import Derived.Test.YtiajjgehnmkokaaGreatDoorMc4
set_option maxRecDepth 100000
set_option maxHeartbeats 20000000
section
namespace Go.Proofs.YtiajjgehnmkokaaGreatDoor
open Go.RowKit
open Seal
open Bson (Val)
theorem cntAll_bd (c : Val → Nat × Bool → Option (Nat × Bool)) : ∀ (l : List Val), (∀ y ∈ l, ∀ s s', c y s = some s' → s'.1 ≤ 400) → ∀ s s', s.1 ≤ 400 → Expr.cntAll c l s = some s' → s'.1 ≤ 400
 | [], _, s, s', h0, h => by
  have : s = s' := Option.some.inj h
  rw [← this]; exact h0
 | x :: r, hc, s, s', h0, h => by
  have h' : (c x s).bind (Expr.cntAll c r) = some s' := h
  cases e : c x s with
  | none => rw [e] at h'; cases h'
  | some s2 =>
   rw [e] at h'
   exact cntAll_bd c r (fun y hy => hc y (List.mem_cons_of_mem _ hy)) s2 s' (hc x List.mem_cons_self s s2 e) h'
theorem cnt_bd : ∀ {h : Nat} {d : Int} {x : Val} {s s' : Nat × Bool}, Hg h x → Expr.cnt h d x s = some s' → s'.1 ≤ 400
 | 0, _, _, _, _, hx, _ => hx.elim
 | h + 1, d, x, s, s', hx, hc => by
  obtain ⟨h0, -, -, b, s1, h1, h2⟩ := cnt_parts hc
  have p1 := cntAll_bd _ _ (fun y hy t t' ht => by
   obtain ⟨p, hp, rfl⟩ := List.mem_map.1 hy
   exact cnt_bd (hx.1 p hp) ht) _ _ h0 h1
  exact cntAll_bd _ _ (fun y hy t t' ht => cnt_bd (hx.2 y hy) ht) _ _ p1 h2
def PathsAt (w : World) (pv : Value) (L : List (List ByteArray)) : Prop := ∃ b xs, w.ownsRow b 42 1 pv L.length xs ∧ ∀ i (hi : i < L.length), ∃ v, xs[i]? = some v ∧ w.ownsRow 0 9 1 v L[i].length (txtV L[i])
theorem PathsAt.keep {w w' : World} {pv : Value} {L : List (List ByteArray)} (h : PathsAt w pv L) (hb : Below w.heap.size w w') : PathsAt w' pv L := by
 obtain ⟨b, xs, h1, h2⟩ := h
 refine ⟨b, xs, owns_below h1 hb, fun i hi => ?_⟩
 obtain ⟨v, h3, h4⟩ := h2 i hi
 exact ⟨v, h3, owns_below h4 hb⟩
def ExprAt (w : World) (base ge : Nat) (N C h : Nat) (x : Val) : Prop :=
 ∃ (ik im : Int) (s : ByteArray) (b0 f0 l0 : Option Addr) (bb bc fb fc lb lc : Nat) (pa : Option Addr) (pn pc : Nat) (T : TypeId) (rv : Value),
  w.heap[ge]? = some (.cells #[.int .i64 ik, .int .i64 im, .string s, .slice b0 bb bc, .slice f0 fb fc, .slice l0 lb lc, .int .i64 ((measureV h x).1 : Int), .slice pa pn pc, .iface T rv] 65 (0, 0)) ∧
  VIn w (fun k => base ≤ k) h x (.agg #[.int .i64 ik, .int .i64 im, .string s, .slice b0 bb bc, .slice f0 fb fc, .slice l0 lb lc]) ∧ Ev w (.iface T rv) (3 * h) (evF N C h x) ∧ PathsAt w (.slice pa pn pc) (pathsV h x)
theorem ExprAt.keep {w w' : World} {base ge N C h : Nat} {x : Val} (he : ExprAt w base ge N C h x) (hb : Below w.heap.size w w') : ExprAt w' base ge N C h x := by
 obtain ⟨ik, im, s, b0, f0, l0, bb, bc, fb, fc, lb, lc, pa, pn, pc, T, rv, h1, h2, h3, h4⟩ := he
 exact ⟨ik, im, s, b0, f0, l0, bb, bc, fb, fc, lb, lc, pa, pn, pc, T, rv, (hb.block ge (Array.getElem?_eq_some_iff.1 h1).1).trans h1, VIn.keep hb h2, h3.keep hb, h4.keep hb⟩
def exprCode (h : Nat) (x : Val) : Int := if (measureV h x).2 = 0 then Expr.parseV h x else (measureV h x).2
def ParseEnd (w : World) (N C h : Nat) (x : Val) (e : Ending) (w' : World) : Prop :=
 Below w.heap.size w w' ∧ ((exprCode h x = 0 ∧ ∃ ge, e = .returned (.tuple #[.pointer (some ⟨ge, 0, none⟩), .int .i64 0]) ∧ w.heap.size ≤ ge ∧ ExprAt w' w.heap.size ge N C h x) ∨ (exprCode h x ≠ 0 ∧ e = .returned (.tuple #[.pointer none, .int .i64 (exprCode h x)])))
theorem measure_some {h : Nat} {x : Val} (hm : (measureV h x).2 = 0) : ∃ n, Expr.cnt h 1 x (0, false) = some (n, false) ∧ (measureV h x).1 = n := by
 unfold measureV at hm ⊢
 cases e : Expr.cnt h 1 x (0, false) with
 | none => rw [e] at hm; cases hm
 | some s =>
  rw [e] at hm
  obtain ⟨n, b⟩ := s
  cases b with
  | true => cases hm
  | false => exact ⟨n, rfl, rfl⟩
theorem parse_any (N C h : Nat) (hN : 16 ≤ N) (hC : 3 * h ≤ C) (Q : Nat → Prop) (x : Val) (v : Value) (w : World) (hG : Ground w) (hv : VIn w Q h x v) (hs : ShortV x) :
  Calls Tryz.prog 9 #[v] w (ParseEnd w N C h x) := by
 obtain ⟨ik, im, is_, b0, f0, l0, bb0, bc0, fb0, fc0, lb0, lc0, rfl⟩ := hv.shape
 obtain ⟨W1, hW1⟩ : ∃ W, W = w.alloc (.cells #[.int .i64 ik, .int .i64 im, .string is_, .slice b0 bb0 bc0, .slice f0 fb0 fc0, .slice l0 lb0 lc0] 26) := ⟨_, rfl⟩
 obtain ⟨P1, hP1⟩ : ∃ P, P = w.heap.size := ⟨_, rfl⟩
 have hb1 : Below w.heap.size w W1 := by rw [hW1]; exact (Below.refl _ _).alloc (Nat.le_refl _) _
 have hX1 : IsBox W1 P1 (.int .i64 ik) (.int .i64 im) (.string is_) (.slice b0 bb0 bc0) (.slice f0 fb0 fc0) (.slice l0 lb0 lc0) := by rw [hW1, hP1]; exact IsBox.new w (.int .i64 ik) (.int .i64 im) (.string is_) (.slice b0 bb0 bc0) (.slice f0 fb0 fc0) (.slice l0 lb0 lc0)
 have CM := Lib.hid (measure_any h Q x _ W1 (VIn.keep hb1 hv))
 have HV := Lib.hid hv
 have HB1 : Hid (Below w.heap.size w W1) := hb1
 have HG := Lib.hid hG
 have HX1 := Lib.hid hX1
 have HW1 := Lib.hid hW1
 have HP1 := Lib.hid hP1
 have HSH : Hid (ShortV x) := hs
 obtain ⟨me, hme⟩ : ∃ z, z = (measureV h x).2 := ⟨_, rfl⟩
 obtain ⟨mn, hmn⟩ : ∃ z, z = (measureV h x).1 := ⟨_, rfl⟩
 rw [← hme, ← hmn] at CM
 have HME := Lib.hid hme
 have HMN := Lib.hid hmn
 clear hv hb1 hX1 hW1 hP1 hs hme hmn hG
 go_enter Tryz.func9, Tryz.ntmps9
 go_upto_region 1 with fail
 rw [← HW1.out, ← HP1.out]
 obtain ⟨x0, x1, x2, x3, x4, x5⟩ := HX1.out.cells
 go_wp2_with fail
 refine CM.out.mono ?_
 rintro e w2 ⟨rfl, hb2⟩
 have HB2 : Hid (Below w.heap.size w w2) := HB1.out.trans (hb2.mono HB1.out.size)
 have HX2 := Lib.hid (HX1.out.keep hb2)
 clear hb2 CM x0 x1 x2 x3 x4 x5
 by_cases hz : me = 0
 ·have hco : exprCode h x = Expr.parseV h x := by unfold exprCode; rw [← HME.out, if_pos hz]
  have HCO := Lib.hid hco
  have hcnt := measure_some (h := h) (x := x) (by rw [← HME.out]; exact hz)
  have HCNT := Lib.hid hcnt
  have CY := Lib.hid (copy_any Q h x _ w2 (VIn.keep HB2.out HV.out))
  subst hz
  clear hco hcnt
  obtain ⟨x0, x1, x2, x3, x4, x5⟩ := HX2.out.cells
  go_wp2_with fail
  refine CY.out.mono ?_
  rintro e w3 ⟨v3, rfl, hv3, hb3⟩
  obtain ⟨jk, jm, js, b1, f1, l1, bb1, bc1, fb1, fc1, lb1, lc1, rfl⟩ := hv3.shape
  obtain ⟨W4, hW4⟩ : ∃ W, W = w3.alloc (.cells #[.int .i64 jk, .int .i64 jm, .string js, .slice b1 bb1 bc1, .slice f1 fb1 fc1, .slice l1 lb1 lc1] 26) := ⟨_, rfl⟩
  obtain ⟨P4, hP4⟩ : ∃ P, P = w3.heap.size := ⟨_, rfl⟩
  have hb4 : Below w3.heap.size w3 W4 := by rw [hW4]; exact (Below.refl _ _).alloc (Nat.le_refl _) _
  have hX4 : IsBox W4 P4 (.int .i64 jk) (.int .i64 jm) (.string js) (.slice b1 bb1 bc1) (.slice f1 fb1 fc1) (.slice l1 lb1 lc1) := by rw [hW4, hP4]; exact IsBox.new w3 (.int .i64 jk) (.int .i64 jm) (.string js) (.slice b1 bb1 bc1) (.slice f1 fb1 fc1) (.slice l1 lb1 lc1)
  obtain ⟨W5, hW5⟩ : ∃ W, W = W4.alloc (.cells #[.slice none 0 0] 59) := ⟨_, rfl⟩
  obtain ⟨P5, hP5⟩ : ∃ P, P = W4.heap.size := ⟨_, rfl⟩
  have hb5 : Below W4.heap.size W4 W5 := by rw [hW5]; exact (Below.refl _ _).alloc (Nat.le_refl _) _
  have hR5 : Rd W5 P5 (.slice none 0 0) [] := ⟨by rw [hW5, hP5]; exact heap_alloc_new W4 _, [], World.ownsRow_nil _ _ _ _, fun i hi => by cases hi⟩
  have hB4 : Below w.heap.size w W4 := (HB2.out.trans (hb3.mono HB2.out.size)).trans (hb4.mono (Nat.le_trans HB2.out.size hb3.size))
  have hv4 : VIn W4 (fun k => w2.heap.size ≤ k) h x (.agg #[.int .i64 jk, .int .i64 jm, .string js, .slice b1 bb1 bc1, .slice f1 fb1 fc1, .slice l1 lb1 lc1]) := VIn.keep hb4 hv3
  have hlen : ([] : List (List ByteArray)).length + (pathsV h x).length ≤ 1000000 := by
   obtain ⟨n, hc, -⟩ := HCNT.out
   have h1 := cnt_paths HV.out.hg hc
   have h2 := cnt_bd HV.out.hg hc
   simp at h1 h2 ⊢; omega
  have hfit : FitV x := by
   obtain ⟨n, hc, -⟩ := HCNT.out
   exact cnt_fit HV.out.hg HSH.out hc
  have CT := Lib.hid (rterm_any N C hN h hC W4 W5 P5 (.slice none 0 0) [] _ x _ (HG.out.keep hB4) (by rw [hP5]; exact Nat.le_refl _) hb5 hR5 hv4 hfit hlen)
  obtain ⟨code, hcode⟩ : ∃ z, z = Expr.parseV h x := ⟨_, rfl⟩
  rw [← hcode] at CT HCO
  have HB4 := Lib.hid hB4
  have HB5 : Hid (Below W4.heap.size W4 W5) := hb5
  have HV4 := Lib.hid hv4
  have HW4 := Lib.hid hW4
  have HP4 := Lib.hid hP4
  have HW5 := Lib.hid hW5
  have HP5 := Lib.hid hP5
  have HX4 := Lib.hid hX4
  have HX5 := Lib.hid (hX4.keep hb5)
  have HQ2 : Hid (w.heap.size ≤ w2.heap.size) := HB2.out.size
  clear hv3 hb3 hb4 hX4 hb5 hR5 hB4 hv4 hlen hfit hcode hW4 hP4 hW5 hP5 CY x0 x1 x2 x3 x4 x5
  go_upto_region 5 with fail
  rw [← HW4.out, ← HP4.out]
  go_upto_region 6 with fail
  rw [← HW5.out, ← HP5.out]
  obtain ⟨x0, x1, x2, x3, x4, x5⟩ := HX5.out.cells
  go_wp2_with fail
  refine CT.out.mono ?_
  rintro e w6 ⟨t, pv6, L6, rfl, hm6, hv6, hR6, hg6⟩
  have HB6 : Hid (Below W4.heap.size W4 w6) := HB5.out.trans (hm6.below HB5.out.size (fun k e => by
   rcases e with e | e
   ·have := HP5.out; omega
   ·cases e))
  have HB6w : Hid (Below w.heap.size w w6) := HB4.out.trans (HB6.out.mono HB4.out.size)
  have HR6 := Lib.hid hR6
  have HX6 := Lib.hid (HX4.out.keep HB6.out)
  clear CT x0 x1 x2 x3 x4 x5
  by_cases hc0 : code = 0
  ·obtain ⟨hL6, hgood⟩ := hg6 hc0
   have HGO : Hid (EvF (TF P5 W5.heap.size pv6) w6 t (3 * h) (evF N C h x)) := hgood
   obtain ⟨TT, TK, tv, rfl, -⟩ := HGO.out.ev
   obtain ⟨xs, hox, hxs⟩ := HR6.out.own
   obtain ⟨pa, pc, hpv⟩ := owns_shape hox
   obtain ⟨pn, hpn⟩ : ∃ z, z = L6.length := ⟨_, rfl⟩
   rw [← hpn] at hpv
   subst hpv
   have HPA : Hid (PathsAt w6 (.slice pa pn pc) (pathsV h x)) := by
    rw [show pathsV h x = L6 by rw [hL6]; rfl]
    exact ⟨_, xs, hox, hxs⟩
   have c0 : w6.cell? ⟨P5, 0, none⟩ = some (.slice pa pn pc) := HR6.out.cell
   obtain ⟨x0, x1, x2, x3, x4, x5⟩ := HX6.out.cells
   subst hc0
   clear hm6 hv6 hR6 hg6 hL6 hgood hox hxs hpn
   go_wp2_with fail
   refine bodyPost_ret (v := .tuple #[.pointer (some ⟨w6.heap.size, 0, none⟩), .int .i64 0]) ?_ rfl ?_
   ·simp [results, Tryz.results9, go_sem, *]
   ·have hb7 : Below w6.heap.size w6 (w6.alloc (.cells #[.int .i64 jk, .int .i64 jm, .string js, .slice b1 bb1 bc1, .slice f1 fb1 fc1, .slice l1 lb1 lc1, .int .i64 (mn : Int), .slice pa pn pc, .iface TT tv] 65)) := (Below.refl _ _).alloc (Nat.le_refl _) _
    refine ⟨HB6w.out.trans (hb7.mono HB6w.out.size), .inl ⟨HCO.out, w6.heap.size, rfl, HB6w.out.size, jk, jm, js, b1, f1, l1, bb1, bc1, fb1, fc1, lb1, lc1, pa, pn, pc, TT, tv, ?_, ?_, ?_, ?_⟩⟩
    ·rw [← HMN.out]; exact heap_alloc_new w6 _
    ·exact VIn.kept (Q := fun k => w2.heap.size ≤ k) (Kept.of_below hb7) (fun k hk => Nat.le_trans HQ2.out hk) (VIn.keep HB6.out HV4.out)
    ·exact HGO.out _ (RM.of_below hb7)
    ·exact HPA.out.keep hb7
  ·have e0 : (code == 0) = false := by rw [beq_eq_false_iff_ne]; exact hc0
   have e1 : (code != 0) = true := by unfold bne; rw [e0]; rfl
   have HC0 := Lib.hid hc0
   clear hm6 hv6 hR6 hg6 hc0
   go_wp2_with fail
   refine bodyPost_ret (v := .tuple #[.pointer none, .int .i64 code]) ?_ rfl ?_
   ·simp [results, Tryz.results9, go_sem, *]
   ·exact ⟨HB6w.out, .inr ⟨by rw [HCO.out]; exact HC0.out, by rw [HCO.out]⟩⟩
 ·have hco : exprCode h x = me := by unfold exprCode; rw [← HME.out, if_neg hz]
  have HCO := Lib.hid hco
  have e0 : (me == 0) = false := by rw [beq_eq_false_iff_ne]; exact hz
  have e1 : (me != 0) = true := by unfold bne; rw [e0]; rfl
  have HZ := Lib.hid hz
  clear hz hco
  go_wp2_with fail
  refine bodyPost_ret (v := .tuple #[.pointer none, .int .i64 me]) ?_ rfl ?_
  ·simp [results, Tryz.results9, go_sem, *]
  ·exact ⟨HB2.out, .inr ⟨by rw [HCO.out]; exact HZ.out, by rw [HCO.out]⟩⟩
end Go.Proofs.YtiajjgehnmkokaaGreatDoor
end
section
namespace Go.Proofs.YtiajjgehnmkokaaGreatDoor
open Go.RowKit
open Seal
open Bson (Val)
theorem iface_some (T : TypeId) (rv : Value) (u : World) : Sem.run Tryz.prog (binOp .eql 61 (.iface T rv) .nilIface) u = .ok (.bool false) u := by kernel_rfl
theorem eval_any (N C h hd base ge : Nat) (x d : Val) (dv : Value) (Q : Nat → Prop) (w : World) (he : ExprAt w base ge N C h x) (hd0 : VIn w Q (hd + 1) d dv) :
  Calls Tryz.prog 10 #[.pointer (some ⟨ge, 0, none⟩), dv] w (EvPost w (3 * h + hd) (evF N C h x hd d)) := by
 obtain ⟨ik, im, is_, b0, f0, l0, bb0, bc0, fb0, fc0, lb0, lc0, pa, pn, pc, T0, rv0, hblk, -, hev, -⟩ := he
 obtain ⟨T, K, rv, eTr, hm, hme, hcall⟩ := hev
 injection eTr with e1 e2
 subst e1
 subst e2
 obtain ⟨T, hT⟩ : ∃ T, T = T0 := ⟨_, rfl⟩
 obtain ⟨rv, hrv⟩ : ∃ rv, rv = rv0 := ⟨_, rfl⟩
 rw [← hT, ← hrv] at hblk
 rw [← hT, ← hrv] at hm
 rw [← hrv] at hcall
 clear hT hrv
 obtain ⟨dk, dn, ds, da, df, dl, ba, bc, fa, fc, la, lc, rfl⟩ := hd0.shape
 have hcall2 := fun W hW => hcall W hW Q hd d
 obtain ⟨ou, hou⟩ : ∃ z, z = evF N C h x hd d := ⟨_, rfl⟩
 rw [← hou] at hcall2 ⊢
 obtain ⟨W0, hW0⟩ : ∃ W0, W0 = (w.alloc (.cells #[.int .i64 dk, .int .i64 dn, .string ds, .slice da ba bc, .slice df fa fc, .slice dl la lc] 26)).alloc (.cells #[.int .i64 0, .int .i64 0, .string { data := #[] }, .slice none 0 0, .slice none 0 0, .slice none 0 0] 26) := ⟨_, rfl⟩
 obtain ⟨hb0, hsz, hx, hr⟩ := ev_boxes2 w (.int .i64 dk) (.int .i64 dn) (.string ds) (.slice da ba bc) (.slice df fa fc) (.slice dl la lc) W0 hW0
 have hlt : ge < w.heap.size := (Array.getElem?_eq_some_iff.1 hblk).1
 have c8w : w.cell? ⟨ge, 8, none⟩ = some (.iface T rv) := (cell_of_row w ge 8 _ _ _ hblk).trans rfl
 have C8 := Lib.hid c8w
 have c8 := cell_keep hb0 c8w
 have bi := iface_some T rv
 have HB := Lib.hid hb0
 have HSZ := Lib.hid hsz
 have HX := Lib.hid hx
 have HR := Lib.hid hr
 have HW0 := Lib.hid hW0
 have HCALL := Lib.hid hcall2
 have HD := Lib.hid hd0
 have HLT := Lib.hid hlt
 clear hb0 hsz hx hr hW0 hcall hcall2 hou hd0 hblk hlt c8w
 go_enter Tryz.func10, Tryz.ntmps10
 go_upto_region 1 with fail
 rw [← HW0.out]
 go_upto_region 3 with fail
 clear c8 bi
 refine wp_region_inv0 (fun Y => { tmps := #[.pointer (some ⟨ge, 0, none⟩), .agg #[.int .i64 dk, .int .i64 dn, .string ds, .slice da ba bc, .slice df fa fc, .slice dl la lc], undef, .pointer (some ⟨w.heap.size, 0, none⟩), .pointer (some ⟨w.heap.size + 1, 0, none⟩), Y 9, .pointer (some ⟨ge, 0, none⟩), .bool false, .bool false, .pointer (some ⟨ge, 0, none⟩), .pointer (some ⟨ge, 0, none⟩), .pointer (some ⟨ge, 8, none⟩), .iface T rv, .bool false, .bool false, undef, Y 0, Y 1, Y 2, Y 3, Y 4, Y 5, Y 6, Y 7], defers := [] }) (DI w W0 (w.heap.size + 1) [.pointer (some ⟨ge, 0, none⟩), .pointer (some ⟨ge, 0, none⟩), .pointer (some ⟨ge, 8, none⟩), .iface T rv, .agg #[.int .i64 dk, .int .i64 dn, .string ds, .slice da ba bc, .slice df fa fc, .slice dl la lc]] (.int .i64 ou.1) (3 * h + hd) ou.2) (by kernel_rfl) (by kernel_rfl) (by kernel_rfl) (fun V => by kernel_rfl) ?_ (DI.start HB.out) ?_
 ·refine ⟨?_, ?_⟩
  ·refine inv_free rfl (fun D9 Y w7 hDi hpre hI K hK => ?_)
   go_simp
   exact put_is (by kernel_rfl) (hK.out (.pointer (some ⟨ge, 0, none⟩)) w7 (hI.step (by decide) rfl))
  refine ⟨?_, ?_⟩
  ·refine inv_free rfl (fun D9 Y w7 hDi hpre hI K hK => ?_)
   have e0 : Y 0 = .pointer (some ⟨ge, 0, none⟩) := hI.known (by decide) (hpre.out 0 (by kernel_rfl))
   go_simp
   exact put_is (by rw [e0]; kernel_rfl) (hK.out (.pointer (some ⟨ge, 0, none⟩)) w7 (hI.step (by decide) rfl))
  refine ⟨?_, ?_⟩
  ·refine inv_free rfl (fun D9 Y w7 hDi hpre hI K hK => ?_)
   have e1 : Y 1 = .pointer (some ⟨ge, 0, none⟩) := hI.known (by decide) (hpre.out 1 (by kernel_rfl))
   go_simp
   exact put_is (by rw [e1]; kernel_rfl) (hK.out (.pointer (some ⟨ge, 8, none⟩)) w7 (hI.step (by decide) rfl))
  refine ⟨?_, ?_⟩
  ·refine inv_free rfl (fun D9 Y w7 hDi hpre hI K hK => ?_)
   have e2 : Y 2 = .pointer (some ⟨ge, 8, none⟩) := hI.known (by decide) (hpre.out 2 (by kernel_rfl))
   have hct := cell_keep hI.below C8.out
   go_simp
   exact put_is (by rw [e2]; kernel_rfl) (hK.out (.iface T rv) w7 (hI.step (by decide) rfl))
  refine ⟨?_, ?_⟩
  ·refine inv_free rfl (fun D9 Y w7 hDi hpre hI K hK => ?_)
   have hsz5 := HSZ.out
   obtain ⟨x0, x1, x2, x3, x4, x5⟩ := (show IsBox w7 w.heap.size (.int .i64 dk) (.int .i64 dn) (.string ds) (.slice da ba bc) (.slice df fa fc) (.slice dl la lc) from (hI.old (g := w.heap.size) (by omega) (by omega)).trans HX.out).cells
   go_simp
   exact put_is (by kernel_rfl) (hK.out (.agg #[.int .i64 dk, .int .i64 dn, .string ds, .slice da ba bc, .slice df fa fc, .slice dl la lc]) w7 (hI.step (by decide) rfl))
  refine ⟨?_, ?_⟩
  ·refine inv_free rfl (fun D9 Y w7 hDi hpre hI K hK => ?_)
   have d3 := hpre.out 3 (by kernel_rfl)
   have d4 := hpre.out 4 (by kernel_rfl)
   have e3 : Y 3 = .iface T rv := hI.known (by decide) d3
   have e4 : Y 4 = .agg #[.int .i64 dk, .int .i64 dn, .string ds, .slice da ba bc, .slice df fa fc, .slice dl la lc] := hI.known (by decide) d4
   have CK := HCALL.out w7 hI.below _ (VIn.keep hI.below HD.out)
   go_simp
   refine CK.mono ?_
   rintro e w8 ⟨v8, rfl, hv8, hb8⟩
   exact put_is (by rw [e3, e4]; kernel_rfl) (hK.out (.tuple #[v8, .int .i64 ou.1]) w8 (hI.call hDi hb8 hv8))
  refine ⟨?_, ?_⟩
  ·refine inv_free rfl (fun D9 Y w7 hDi hpre hI K hK => ?_)
   obtain ⟨v, e6, h7, -⟩ := hI.got (hpre.out 5 (by kernel_rfl))
   go_simp
   exact put_is (by rw [e6]; kernel_rfl) (hK.out v w7 h7)
  refine ⟨?_, ?_⟩
  ·refine inv_free rfl (fun D9 Y w7 hDi hpre hI K hK => ?_)
   obtain ⟨v, e6, -, h8⟩ := hI.got (hpre.out 5 (by kernel_rfl))
   go_simp
   exact put_is (by rw [e6]; kernel_rfl) (hK.out (.int .i64 ou.1) w7 h8)
  refine ⟨?_, ?_⟩
  ·refine inv_free rfl (fun D9 Y w7 hDi hpre hI K hK => ?_)
   obtain ⟨k9, n9, s9, ba9, fa9, la9, bn9, bc9, fn9, fc9, ln9, lc9, e7, hbx, h10⟩ := hI.kept (by omega) (by have := HSZ.out; omega) (fun W hW => HR.out.keep hW) (hpre.out 6 (by kernel_rfl)) hDi
   obtain ⟨z0, z1, z2, z3, z4, z5⟩ := hbx.cells
   obtain ⟨q0, q1, q2, q3, q4, q5⟩ := hbx.thaw
   go_simp
   exact put_is (by rw [e7]; kernel_rfl) (hK.out undef _ h10)
  refine ⟨?_, ?_⟩
  ·refine inv_free rfl (fun D9 Y w7 hDi hpre hI K hK => ?_)
   obtain ⟨e8, h11⟩ := hI.err (hpre.out 7 (by kernel_rfl))
   go_simp
   exact put_is (by rw [e8]; kernel_rfl) (hK.out (.int .i64 ou.1) w7 h11)
  trivial
 intro D9 Y w8 hD9 hI9
 obtain ⟨k9, n9, s9, ba9, fa9, la9, bn9, bc9, fn9, fc9, ln9, lc9, lo9, hi9, e9, hbx, hv9, hlo9, hb9⟩ := hI9.end hD9
 rw [e9]
 obtain ⟨x0, x1, x2, x3, x4, x5⟩ := hbx.cells
 have HEND : Hid (VIn w8 (fun g => w.heap.size ≤ g) (3 * h + hd) ou.2 (.agg #[.int .i64 k9, .int .i64 n9, .string s9, .slice ba9 bn9 bc9, .slice fa9 fn9 fc9, .slice la9 ln9 lc9]) ∧ Below w.heap.size w w8) :=
  ⟨hv9.kept (Kept.of_below (Below.refl _ _)) (fun g hg => by have := HSZ.out; omega), hb9⟩
 clear hI9 hD9 e9 hv9 hlo9 hb9 hm hme
 go_wp2_with fail
 exact bodyPost_ret (v := .tuple #[.agg #[.int .i64 k9, .int .i64 n9, .string s9, .slice ba9 bn9 bc9, .slice fa9 fn9 fc9, .slice la9 ln9 lc9], .int .i64 ou.1]) (by simp [results, Tryz.results10, go_sem, *]) rfl ⟨_, rfl, HEND.out.1, HEND.out.2⟩
theorem nodes_any (N C h base ge : Nat) (x : Val) (w : World) (he : ExprAt w base ge N C h x) : Calls Tryz.prog 21 #[.pointer (some ⟨ge, 0, none⟩)] w fun e w' => e = .returned (.int .i64 ((measureV h x).1 : Int)) ∧ Below w.heap.size w w' := by
 obtain ⟨ik, im, is_, b0, f0, l0, bb0, bc0, fb0, fc0, lb0, lc0, pa, pn, pc, T0, rv0, hblk, -, hev, -⟩ := he
 have c6 : w.cell? ⟨ge, 6, none⟩ = some (.int .i64 ((measureV h x).1 : Int)) := (cell_of_row w ge 6 _ _ _ hblk).trans rfl
 generalize ((measureV h x).1 : Int) = mn at *
 clear hblk hev
 go_enter Tryz.func21, Tryz.ntmps21
 go_wp2_with fail
 refine bodyPost_ret (v := .int .i64 mn) ?_ rfl ?_
 ·simp [results, Tryz.results21, go_sem, *]
 ·exact ⟨rfl, Below.refl _ _⟩
end Go.Proofs.YtiajjgehnmkokaaGreatDoor
end
section
namespace Go.Proofs.YtiajjgehnmkokaaGreatDoor
open Go.RowKit
open Seal
open Bson (Val)
theorem pathsV_short : ∀ {h : Nat} {x : Val}, ∀ p ∈ pathsV h x, p.length ≤ 16
 | 0, _, p, hp => by cases hp
 | h + 1, x, p, hp => by
  have hl : ∀ l : List Val, p ∈ (l.map (pathsV h)).flatten → p.length ≤ 16 := fun l hp => by
   obtain ⟨q, hq, hpq⟩ := List.mem_flatten.1 hp
   obtain ⟨y, -, rfl⟩ := List.mem_map.1 hq
   exact pathsV_short p hpq
  rw [pathsV] at hp
  split at hp
  ·split at hp
   ·rw [List.mem_singleton.1 hp]
    unfold Expr.pathOf
    cases e : Path.parse (x.s.data.toList.drop 1) with
    | none => simp
    | some q => show (Path.names q).length ≤ 16; rw [Path.names_length]; exact parse_len e
   ·cases hp
  ·split at hp
   ·exact hl _ hp
   ·split at hp
    ·split at hp
     ·split at hp
      ·split at hp
       ·cases hp
       ·exact hl _ hp
      ·cases hp
     ·obtain ⟨q, hq, hpq⟩ := List.mem_flatten.1 hp
      obtain ⟨y, -, rfl⟩ := List.mem_map.1 hq
      exact pathsV_short p hpq
    ·cases hp
theorem cloneS_any (p : List ByteArray) (v : Value) (w : World) (hl : p.length ≤ 16) (h : w.ownsRow 0 9 1 v p.length (txtV p)) :
  Calls Tryz.prog 37 #[v] w fun e w' => ∃ a n c, e = .returned (.slice a n c) ∧ Below w.heap.size w w' := by
 rcases id h with ⟨hx, ⟨rfl, hn⟩ | ⟨g, cap, cur, rfl, hg, hrow, hc, hm, hsz, htake⟩⟩
 ·refine (Tryz.slices_Clone_string_nil 0 0 w).mono ?_
  rintro e w' ⟨rfl, rfl⟩
  exact ⟨none, 0, 0, rfl, Below.refl _ _⟩
 ·refine (Tryz.slices_Clone_string g 0 p.length cap p w (Nat.le_refl _) (by omega) (fun j hj => ?_)).mono ?_
  ·rw [Nat.zero_add, cell_of_row w g j _ _ _ hrow, ← Array.getElem?_toList]
   have e2 : cur.toList[j]? = (txtV p)[j]? := by rw [← htake, List.getElem?_take_of_lt (by omega)]
   rw [e2]
   unfold txtV
   rw [List.getElem?_map, List.getElem?_eq_getElem hj, List.getD_eq_getElem?_getD, List.getElem?_eq_getElem hj]; rfl
  ·rintro e w' ⟨v', rfl, hown, -, hb⟩
   obtain ⟨a, c, e⟩ := owns_shape hown
   exact ⟨a, _, c, by rw [e], hb⟩
theorem paths_any (N C h base ge : Nat) (x : Val) (w : World) (he : ExprAt w base ge N C h x) (hm : (pathsV h x).length ≤ 1000000) :
  Calls Tryz.prog 20 #[.pointer (some ⟨ge, 0, none⟩)] w fun e w' => ∃ a c, e = .returned (.slice a (pathsV h x).length c) ∧ Below w.heap.size w w' := by
 obtain ⟨i0, hi, hz0, hz1, hz2⟩ := info_parts infoNames
 obtain ⟨ik, im, is_, b0, f0, l0, bb0, bc0, fb0, fc0, lb0, lc0, pa, pn, pc, T0, rv0, hblk, -, -, hp⟩ := he
 have c7 : w.cell? ⟨ge, 7, none⟩ = some (.slice pa pn pc) := (cell_of_row w ge 7 _ _ _ hblk).trans rfl
 obtain ⟨pb, xs, hown, hall⟩ := hp
 have hsh : ∀ i (hi : i < (pathsV h x).length), ((pathsV h x)[i]).length ≤ 16 := fun i hi => pathsV_short _ (List.getElem_mem hi)
 generalize pathsV h x = L at *
 obtain ⟨n, hn⟩ : ∃ z, z = L.length := ⟨_, rfl⟩
 have hpn : pn = n := by
  obtain ⟨a', c', e⟩ := owns_shape hown
  injection e with _ e2 _
  rw [e2, hn]
 subst hpn
 rw [← hn] at hm ⊢
 have HOWN := Lib.hid hown
 have HALL : Hid (∀ i (hi : i < L.length), ∃ v, xs[i]? = some v ∧ w.ownsRow 0 9 1 v L[i].length (txtV L[i])) := hall
 have HSH : Hid (∀ i (hi : i < L.length), L[i].length ≤ 16) := hsh
 have HN := Lib.hid hn
 clear hblk hown hall hsh hn
 go_enter Tryz.func20, Tryz.ntmps20
 go_wp2_with fail
 go_loopw [3, 13] (fun rv i wr => ∃ (k : Nat) (ys : List Value), k ≤ pn ∧ i = .int .i64 k ∧ Hid (wr.ownsRow w.heap.size 42 1 rv k ys) ∧ Hid (Below w.heap.size w wr)) (fun _ i _ => pn - (intOf i).toNat)
 case atStart => exact ⟨0, [], Nat.zero_le _, rfl, World.ownsRow_nil _ _ _ _, Below.refl _ _⟩
 case round =>
  obtain ⟨k, ys, hk, rfl, HO, HB⟩ := hrel
  by_cases hlt : k < pn
  ·have hkl : k < L.length := by rw [← HN.out]; exact hlt
   obtain ⟨v, hxv, hrowv⟩ := HALL.out k hkl
   rcases id HOWN.out with ⟨hx, ⟨e, hn0⟩ | ⟨g, cap, cur, e, hg, hrow, hc, hmm, hsz, htake⟩⟩
   ·omega
   injection e with e1 e2 e3
   subst e1
   clear e2 e3
   have hcell : w.cell? ⟨g, k, none⟩ = some v := by
    rw [cell_of_row w g k _ _ _ hrow, ← Array.getElem?_toList]
    have e2 : cur.toList[k]? = xs[k]? := by rw [← htake, List.getElem?_take_of_lt (by omega)]
    rw [e2, hxv]
   have hcr := cell_keep HB.out hcell
   obtain ⟨va, vc, hv⟩ := owns_shape hrowv
   obtain ⟨vn, hvn⟩ : ∃ z, z = L[k].length := ⟨_, rfl⟩
   rw [← hvn] at hv
   subst hv
   have CC := Lib.hid (cloneS_any L[k] _ wr (HSH.out k hkl) (owns_below hrowv HB.out))
   clear hxv hrowv hx hrow hc hmm hsz htake hcell hvn
   go_wp2_with fail
   refine CC.out.mono ?_
   rintro e w2 ⟨a2, n2, c2, rfl, hb2⟩
   have hB2 : Below w.heap.size w w2 := HB.out.trans (hb2.mono HB.out.size)
   have hb3 : Below w2.heap.size w2 (w2.alloc (.cells #[.slice a2 n2 c2] 42)) := (Below.refl _ _).alloc (Nat.le_refl _) _
   have HO3 := Lib.hid (owns_below (owns_below HO.out hb2) hb3)
   have HB3 := Lib.hid (hB2.trans (hb3.mono hB2.size))
   have HNW := Lib.hid (one_new w2 (.slice a2 n2 c2) 42)
   have HS3 : Hid (w.heap.size ≤ (w2.alloc (.cells #[.slice a2 n2 c2] 42)).heap.size) := Nat.le_trans hB2.size hb3.size
   clear hb2 hB2 hb3 CC hcr
   go_wp2_with (at_builtin; refine wpList_append_sz _ rfl (.tmp 17) (.tmp 20) 52 rfl w.heap.size 42 i0 (.slice none 0 0) 1 24 Tryz.underlying52 hi hz0 hz1 hz2 rfl u3 k ys rfl HO3.out ⟨w2.heap.size, 0, none⟩ 1 1 [.slice a2 n2 c2] rfl rfl (by decide) (by decide) HNW.out (by intro u hu; rw [List.mem_singleton.1 hu]; rfl) (by unfold maxLen; omega) (by omega) HS3.out ?_)
   intro v5 w5 hown5 hlies5
   have HB5 : Hid (Below w.heap.size w w5) := HB3.out.grown (Wrote.of_lies hlies5).1 HS3.out (fun j hj => (owns_block HO3.out hj).1)
   have HO5 := Lib.hid hown5
   clear hown5 hlies5
   go_wp2_with fail
   go_roundw
   case rel => exact ⟨k + 1, _, by omega, by go_num, HO5.out, HB5.out⟩
   case measure => simp [intOf]; omega
  ·obtain rfl : pn = k := by omega
   obtain ⟨a, c, hsl⟩ := owns_shape HO.out
   have HSL := Lib.hid hsl
   clear hsl
   go_wp2_with fail
   refine bodyPost_ret (v := u3) ?_ rfl ?_
   ·simp [results, Tryz.results20, go_sem, *]
   ·exact ⟨a, c, by rw [HSL.out], HB.out⟩
end Go.Proofs.YtiajjgehnmkokaaGreatDoor
end
section
namespace Go.Proofs.YtiajjgehnmkokaaGreatDoor
open Go.RowKit
open Seal
open Bson (Val)
def opVl (name : ByteArray) (l : List Val) : Val := .mk 6 0 ⟨#[]⟩ [] [(name, .mk 7 0 ⟨#[]⟩ [] [] l)] []
def shortB : Nat → Val → Bool
 | 0, _ => false
 | n + 1, x => decide (x.s.size ≤ 4294967280) && x.f.all (fun p => shortB n p.2) && x.l.all (shortB n)
theorem short_of : ∀ {n : Nat} {x : Val}, shortB n x = true → ShortV x
 | 0, _, h => by cases h
 | n + 1, x, h => by
  rw [shortB, Bool.and_eq_true, Bool.and_eq_true] at h
  exact .mk x (by simpa using h.1.1) (fun p hp => short_of (List.all_eq_true.1 h.1.2 p hp)) (fun y hy => short_of (List.all_eq_true.1 h.2 y hy))
theorem parse_ok (N C h : Nat) (hN : 16 ≤ N) (hC : 3 * h ≤ C) (Q : Nat → Prop) (x : Val) (v : Value) (w : World) (hG : Ground w) (hv : VIn w Q h x v) (hs : ShortV x) (hz : exprCode h x = 0) :
  Calls Tryz.prog 9 #[v] w fun e w' => ∃ ge, e = .returned (.tuple #[.pointer (some ⟨ge, 0, none⟩), .int .i64 0]) ∧ ExprAt w' w.heap.size ge N C h x ∧ Below w.heap.size w w' :=
 (parse_any N C h hN hC Q x v w hG hv hs).mono fun e w' hp => by
  obtain ⟨hb, ⟨-, ge, he, -, hx⟩ | ⟨hne, -⟩⟩ := hp
  ·exact ⟨ge, he, hx, hb⟩
  ·exact absurd hz hne
theorem num10_any (n : Int) (w : World) : Calls Tryz.prog 17 #[.int .i64 n] w fun e w' => e = .returned (.agg #[.int .i64 3, .int .i64 n, .string ⟨#[]⟩, .slice none 0 0, .slice none 0 0, .slice none 0 0]) ∧ Below w.heap.size w w' := by
 have hb : Below w.heap.size w (w.alloc (.cells #[.int .i64 3, .int .i64 n, .string ⟨#[]⟩, .slice none 0 0, .slice none 0 0, .slice none 0 0] 26)) := (Below.refl _ _).alloc (Nat.le_refl _) _
 have HB := Lib.hid hb
 clear hb
 go_enter Tryz.func17, Tryz.ntmps17
 go_wp2_with fail
 refine bodyPost_ret (v := .agg #[.int .i64 3, .int .i64 n, .string ⟨#[]⟩, .slice none 0 0, .slice none 0 0, .slice none 0 0]) ?_ rfl ?_
 ·simp [results, Tryz.results17, go_sem, *]
 ·exact ⟨rfl, HB.out⟩
theorem listL_in {w : World} {Q : Nat → Prop} {H n c : Nat} {a : Option Addr} {l : List Val} (hn : l.length = n) (hm : n ≤ 3000) (hc : n ≤ c ∧ c ≤ 9223372036854775807) (hI : ItemsIn w Q (VIn w Q H) a l) :
  VIn w Q (H + 1) (.mk 7 0 ⟨#[]⟩ [] [] l) (.agg #[.int .i64 7, .int .i64 0, .string ⟨#[]⟩, .slice none 0 0, .slice none 0 0, .slice a n c]) := by
 subst hn
 exact ⟨none, none, a, 0, 0, c, rfl, plain_lim 7 0 [] l (by omega) (by omega) (by simp) (by omega), ⟨Nat.le_refl _, by omega⟩, ⟨Nat.le_refl _, by omega⟩, hc, .inl rfl, .inl rfl, hI⟩
theorem op10_any (nm : ByteArray) (hnm : nm.size ≤ 140737488355328) (Q : Nat → Prop) (H : Nat) (a : Option Addr) (n c : Nat) (l : List Val) (w : World) (hn : l.length = n) (hm : n ≤ 3000) (hc : n ≤ c ∧ c ≤ 9223372036854775807) (hI : ItemsIn w Q (VIn w Q H) a l) :
  Calls Tryz.prog 15 #[.string nm, .slice a n c] w fun e w' => ∃ g, e = .returned (.agg #[.int .i64 6, .int .i64 0, .string ⟨#[]⟩, .slice none 0 0, .slice (some ⟨g, 0, none⟩) 1 1, .slice none 0 0]) ∧ VIn w' (fun k => Q k ∨ w.heap.size ≤ k) (H + 2) (opVl nm l) (.agg #[.int .i64 6, .int .i64 0, .string ⟨#[]⟩, .slice none 0 0, .slice (some ⟨g, 0, none⟩) 1 1, .slice none 0 0]) ∧ Below w.heap.size w w' := by
 have HI := Lib.hid hI
 have HN := Lib.hid hn
 clear hI hn
 go_enter Tryz.func15, Tryz.ntmps15
 go_wp2_with fail
 refine bodyPost_ret (v := .agg #[.int .i64 6, .int .i64 0, .string ⟨#[]⟩, .slice none 0 0, .slice (some ⟨w.heap.size + 1, 0, none⟩) 1 1, .slice none 0 0]) ?_ rfl ?_
 ·simp [results, Tryz.results15, go_sem, *]
 ·have b1 : Below w.heap.size w (w.alloc (.cells #[.int .i64 6, .int .i64 0, .string ⟨#[]⟩, .slice none 0 0, .slice (some ⟨w.heap.size + 1, 0, none⟩) 1 1, .slice none 0 0] 26)) := (Below.refl _ _).alloc (Nat.le_refl _) _
  have hs : (w.alloc (.cells #[.int .i64 6, .int .i64 0, .string ⟨#[]⟩, .slice none 0 0, .slice (some ⟨w.heap.size + 1, 0, none⟩) 1 1, .slice none 0 0] 26)).heap.size = w.heap.size + 1 := by simp
  generalize (w.alloc (.cells #[.int .i64 6, .int .i64 0, .string ⟨#[]⟩, .slice none 0 0, .slice (some ⟨w.heap.size + 1, 0, none⟩) 1 1, .slice none 0 0] 26)) = w1 at *
  have b2 : Below w1.heap.size w1 (w1.alloc (.cells #[.string nm, .int .i64 7, .int .i64 0, .string ⟨#[]⟩, .slice none 0 0, .slice none 0 0, .slice a n c] 40)) := (Below.refl _ _).alloc (Nat.le_refl _) _
  have hr := heap_alloc_new w1 (.cells #[.string nm, .int .i64 7, .int .i64 0, .string ⟨#[]⟩, .slice none 0 0, .slice none 0 0, .slice a n c] 40)
  rw [hs] at hr
  have hb := b1.trans (b2.mono b1.size)
  refine ⟨w.heap.size + 1, rfl, ?_, hb⟩
  refine doc_in hr (.inr (by omega)) hnm ?_
  exact listL_in HN.out hm hc (HI.out.kept (Kept.of_below hb) (fun _ h => .inl h) (fun _ _ h => VIn.kept (Kept.of_below hb) (fun _ h => .inl h) h))
end Go.Proofs.YtiajjgehnmkokaaGreatDoor
end
section
namespace Go.Proofs.YtiajjgehnmkokaaGreatDoor
open Go.RowKit
open Seal
open Bson (Val)
def awX : Val := opVl ⟨#[36, 97, 100, 100]⟩ [.mk 5 0 ⟨#[36, 97]⟩ [] [] [], .mk 3 3 ⟨#[]⟩ [] [] []]
def awD : Val := .mk 6 0 ⟨#[]⟩ [] [(⟨#[97]⟩, .mk 3 2 ⟨#[]⟩ [] [] [])] []
theorem awX_code : exprCode 3 awX = 0 := by kernel_rfl
theorem awX_nodes : (measureV 3 awX).1 = 4 := by kernel_rfl
theorem awX_paths : (pathsV 3 awX).length = 1 := by kernel_rfl
theorem awX_eval : evF 16 9 3 awX 1 awD = (0, .mk 3 5 ⟨#[]⟩ [] [] []) := by kernel_rfl
theorem awX_short : ShortV awX := short_of (n := 4) (by kernel_rfl)
theorem textL_in (w : World) (Q : Nat → Prop) (s : ByteArray) (hs : s.size ≤ 140737488355328) (h : Nat) : VIn w Q (h + 1) (.mk 5 0 s [] [] []) (.agg #[.int .i64 5, .int .i64 0, .string s, .slice none 0 0, .slice none 0 0, .slice none 0 0]) :=
 ⟨none, none, none, 0, 0, 0, rfl, ⟨by show (-9223372036854775808 : Int) ≤ 5; omega, by show (5 : Int) ≤ _; omega, by show (-9223372036854775808 : Int) ≤ 0; omega, by show (0 : Int) ≤ _; omega, hs, by show (0 : Nat) ≤ _; omega, by show (0 : Nat) ≤ _; omega, by show (0 : Nat) ≤ _; omega, (fun _ h => by cases h)⟩, ⟨Nat.le_refl _, by omega⟩, ⟨Nat.le_refl _, by omega⟩, ⟨Nat.le_refl _, by omega⟩, .inl rfl, .inl rfl, .inl rfl⟩
theorem VIn.leaf {w : World} {Q : Nat → Prop} {H : Nat} {k m k' m' : Int} {s s' : ByteArray} {ba fa la : Option Addr} {bn bc fn fc ln lc : Nat} (hv : VIn w Q H (.mk k m s [] [] []) (.agg #[.int .i64 k', .int .i64 m', .string s', .slice ba bn bc, .slice fa fn fc, .slice la ln lc])) : k' = k ∧ m' = m ∧ s' = s := by
 obtain ⟨e1, e2, e3, -, -⟩ := hv.top
 exact ⟨e1, e2, e3⟩
theorem awake10_any (w : World) (hG : Ground w) : Calls Tryz.prog 7 #[] w fun e w' => e = .returned (.bool true) ∧ Below w.heap.size w w' := by
 have HG := Lib.hid hG
 have CN3 := Lib.hid (num10_any 3 w)
 clear hG
 go_enter Tryz.func7, Tryz.ntmps7
 go_wp2_with fail
 refine CN3.out.mono ?_
 rintro e w1 ⟨rfl, hb1⟩
 obtain ⟨W2, hW2⟩ : ∃ W, W = w1.alloc (.cells #[.int .i64 5, .int .i64 0, .string ⟨#[36, 97]⟩, .slice none 0 0, .slice none 0 0, .slice none 0 0, .int .i64 3, .int .i64 3, .string ⟨#[]⟩, .slice none 0 0, .slice none 0 0, .slice none 0 0] 26) := ⟨_, rfl⟩
 obtain ⟨P2, hP2⟩ : ∃ P, P = w1.heap.size := ⟨_, rfl⟩
 have hb2 : Below w1.heap.size w1 W2 := by rw [hW2]; exact (Below.refl _ _).alloc (Nat.le_refl _) _
 have hr2 : W2.heap[P2]? = some (.cells #[.int .i64 5, .int .i64 0, .string ⟨#[36, 97]⟩, .slice none 0 0, .slice none 0 0, .slice none 0 0, .int .i64 3, .int .i64 3, .string ⟨#[]⟩, .slice none 0 0, .slice none 0 0, .slice none 0 0] 26 (0, 0)) := by rw [hW2, hP2]; exact heap_alloc_new w1 _
 have hit := two_items (Q := fun _ => True) hr2 trivial (textL_in W2 (fun _ => True) ⟨#[36, 97]⟩ (by decide) 0) (leaf_in W2 (fun _ => True) 3 3 (by omega) (by omega) 0)
 have HB2 : Hid (Below w.heap.size w W2) := hb1.trans (hb2.mono hb1.size)
 have CO := Lib.hid (op10_any ⟨#[36, 97, 100, 100]⟩ (by decide) (fun _ => True) 1 _ 2 2 _ W2 rfl (by omega) ⟨by omega, by omega⟩ hit)
 have HW2 := Lib.hid hW2
 have HP2 := Lib.hid hP2
 clear hb1 hb2 hr2 hit hW2 hP2 CN3
 go_wp2_with fail
 rw [← HW2.out, ← HP2.out]
 refine CO.out.mono ?_
 rintro e w3 ⟨g3, rfl, hv3, hb3⟩
 have HB3 : Hid (Below w.heap.size w w3) := HB2.out.trans (hb3.mono HB2.out.size)
 have CP := Lib.hid (parse_ok 16 9 3 (by omega) (by omega) _ awX _ w3 (HG.out.keep HB3.out) hv3 awX_short awX_code)
 clear hv3 hb3 CO
 go_wp2_with fail
 refine CP.out.mono ?_
 rintro e w4 ⟨ge, rfl, hx4, hb4⟩
 have HB4 : Hid (Below w.heap.size w w4) := HB3.out.trans (hb4.mono HB3.out.size)
 have HX4 := Lib.hid hx4
 have CN2 := Lib.hid (num10_any 2 w4)
 clear hx4 hb4 CP
 go_wp2_with fail
 refine CN2.out.mono ?_
 rintro e w5 ⟨rfl, hb5⟩
 obtain ⟨W6, hW6⟩ : ∃ W, W = w5.alloc (.cells #[.string ⟨#[97]⟩, .int .i64 3, .int .i64 2, .string ⟨#[]⟩, .slice none 0 0, .slice none 0 0, .slice none 0 0] 40) := ⟨_, rfl⟩
 obtain ⟨P6, hP6⟩ : ∃ P, P = w5.heap.size := ⟨_, rfl⟩
 have hb6 : Below w5.heap.size w5 W6 := by rw [hW6]; exact (Below.refl _ _).alloc (Nat.le_refl _) _
 have hr6 : W6.heap[P6]? = some (.cells #[.string ⟨#[97]⟩, .int .i64 3, .int .i64 2, .string ⟨#[]⟩, .slice none 0 0, .slice none 0 0, .slice none 0 0] 40 (0, 0)) := by rw [hW6, hP6]; exact heap_alloc_new w5 _
 have hd6 := doc_in (Q := fun _ => True) hr6 trivial (by decide) (leaf_in W6 (fun _ => True) 3 2 (by omega) (by omega) 0)
 have hb46 : Below w4.heap.size w4 W6 := hb5.trans (hb6.mono hb5.size)
 have HX6 := Lib.hid (HX4.out.keep hb46)
 have HB6 : Hid (Below w.heap.size w W6) := HB4.out.trans (hb46.mono HB4.out.size)
 have CE0 := eval_any 16 9 3 1 w3.heap.size ge awX awD _ (fun _ => True) W6 HX6.out hd6
 rw [awX_eval] at CE0
 have CE := Lib.hid CE0
 have HW6 := Lib.hid hW6
 have HP6 := Lib.hid hP6
 clear hb5 hb6 hr6 hd6 hb46 hW6 hP6 CN2 CE0 HX4
 go_wp2_with fail
 rw [← HW6.out, ← HP6.out]
 refine CE.out.mono ?_
 rintro e w7 ⟨v7, rfl, hv7, hb7⟩
 obtain ⟨rk, rn, rs, ra, rf, rl, rab, rac, rfb, rfc, rlb, rlc, rfl⟩ := hv7.shape
 obtain ⟨rfl, rfl, -⟩ := hv7.leaf
 obtain ⟨W8, hW8⟩ : ∃ W, W = w7.alloc (.cells #[.int .i64 3, .int .i64 5, .string rs, .slice ra rab rac, .slice rf rfb rfc, .slice rl rlb rlc] 26) := ⟨_, rfl⟩
 obtain ⟨P8, hP8⟩ : ∃ P, P = w7.heap.size := ⟨_, rfl⟩
 have hb8 : Below w7.heap.size w7 W8 := by rw [hW8]; exact (Below.refl _ _).alloc (Nat.le_refl _) _
 have hX8 : IsBox W8 P8 (.int .i64 3) (.int .i64 5) (.string rs) (.slice ra rab rac) (.slice rf rfb rfc) (.slice rl rlb rlc) := by rw [hW8, hP8]; exact IsBox.new w7 (.int .i64 3) (.int .i64 5) (.string rs) (.slice ra rab rac) (.slice rf rfb rfc) (.slice rl rlb rlc)
 have hb68 := hb7.trans (hb8.mono hb7.size)
 have HX8 := Lib.hid (HX6.out.keep hb68)
 have HB8 : Hid (Below w.heap.size w W8) := HB6.out.trans (hb68.mono HB6.out.size)
 have CPA0 := paths_any 16 9 3 w3.heap.size ge awX W8 HX8.out (by rw [awX_paths]; omega)
 rw [awX_paths] at CPA0
 have CPA := Lib.hid CPA0
 have HBX := Lib.hid hX8
 have HW8 := Lib.hid hW8
 have HP8 := Lib.hid hP8
 clear hv7 hb7 hb8 hX8 hb68 CPA0 hW8 hP8 CE HX6
 go_upto_region 5 with fail
 rw [← HW8.out, ← HP8.out]
 obtain ⟨x0, x1, x2, x3, x4, x5⟩ := HBX.out.cells
 go_wp2_with fail
 refine CPA.out.mono ?_
 rintro e w9 ⟨a9, c9, rfl, hb9⟩
 have CNO0 := nodes_any 16 9 3 w3.heap.size ge awX w9 (HX8.out.keep hb9)
 rw [awX_nodes] at CNO0
 have CNO := Lib.hid CNO0
 have HB9 : Hid (Below w.heap.size w w9) := HB8.out.trans (hb9.mono HB8.out.size)
 clear hb9 CPA CNO0 x0 x1 x2 x3 x4 x5
 go_wp2_with fail
 refine CNO.out.mono ?_
 rintro e w10 ⟨rfl, hb10⟩
 have HB10 : Hid (Below w.heap.size w w10) := HB9.out.trans (hb10.mono HB9.out.size)
 clear hb10 CNO
 go_wp2_with fail
 refine bodyPost_ret (v := .bool true) ?_ rfl ?_
 ·simp [results, Tryz.results7, go_sem, *]
 ·exact ⟨rfl, HB10.out⟩
end Go.Proofs.YtiajjgehnmkokaaGreatDoor
end
section
namespace Go.Proofs.YtiajjgehnmkokaaGreatDoor
open Go.RowKit
open Seal
open Bson (Val)
def cmpOp (k : Nat) : Expr.Op := [Expr.Op.eq_, .ne_, .gt, .gte, .lt_, .lte].getD k .cmp
def cmpNm (k : Nat) : ByteArray := Expr.opName (cmpOp k)
def cmpX (nm : ByteArray) : Val := opVl nm [.mk 5 0 ⟨#[36, 97]⟩ [] [] [], .mk 5 0 ⟨#[36, 98]⟩ [] [] []]
def cmpD (A B : Val) : Val := .mk 6 0 ⟨#[]⟩ [] [(⟨#[97]⟩, A), (⟨#[98]⟩, B)] []
def cmpB (k : Nat) (c : Int) : Bool := match k with
 | 0 => decide (c = 0)
 | 1 => decide (c ≠ 0)
 | 2 => decide (c > 0)
 | 3 => decide (c ≥ 0)
 | 4 => decide (c < 0)
 | _ => decide (c ≤ 0)
theorem cmpX_code : ∀ k, k < 7 → exprCode 3 (cmpX (cmpNm k)) = 0
 | 0, _ => by kernel_rfl
 | 1, _ => by kernel_rfl
 | 2, _ => by kernel_rfl
 | 3, _ => by kernel_rfl
 | 4, _ => by kernel_rfl
 | 5, _ => by kernel_rfl
 | 6, _ => by kernel_rfl
 | k + 7, h => by omega
theorem cmpX_short : ∀ k, k < 7 → ShortV (cmpX (cmpNm k))
 | 0, _ => short_of (n := 4) (by kernel_rfl)
 | 1, _ => short_of (n := 4) (by kernel_rfl)
 | 2, _ => short_of (n := 4) (by kernel_rfl)
 | 3, _ => short_of (n := 4) (by kernel_rfl)
 | 4, _ => short_of (n := 4) (by kernel_rfl)
 | 5, _ => short_of (n := 4) (by kernel_rfl)
 | 6, _ => short_of (n := 4) (by kernel_rfl)
 | k + 7, h => by omega
theorem cmpNm_size : ∀ k, k < 7 → (cmpNm k).size ≤ 140737488355328
 | 0, _ => by decide
 | 1, _ => by decide
 | 2, _ => by decide
 | 3, _ => by decide
 | 4, _ => by decide
 | 5, _ => by decide
 | 6, _ => by decide
 | k + 7, h => by omega
theorem reach_a (n : Nat) (A B : Val) : Bson.reach (16 + n) (cmpD A B) [⟨#[97]⟩] = A := by
 rw [show 16 + n = 15 + n + 1 by omega, Bson.reach_doc _ _ _ _ rfl, Bson.reach_nil]
 rfl
theorem reach_b (n : Nat) (A B : Val) : Bson.reach (16 + n) (cmpD A B) [⟨#[98]⟩] = B := by
 rw [show 16 + n = 15 + n + 1 by omega, Bson.reach_doc _ _ _ _ rfl, Bson.reach_nil]
 rfl
theorem cmpX_args (hd : Nat) (d : Val) : ∀ k, k < 7 → evF 16 9 3 (cmpX (cmpNm k)) hd d = Expr.apply (9 + hd) (cmpOp k) [(0, Bson.reach (16 + hd) d [⟨#[97]⟩]), (0, Bson.reach (16 + hd) d [⟨#[98]⟩])]
 | 0, _ => by kernel_rfl
 | 1, _ => by kernel_rfl
 | 2, _ => by kernel_rfl
 | 3, _ => by kernel_rfl
 | 4, _ => by kernel_rfl
 | 5, _ => by kernel_rfl
 | 6, _ => by kernel_rfl
 | k + 7, h => by omega
theorem cmpX_eval (hd : Nat) (A B : Val) : ∀ k, k < 6 → evF 16 9 3 (cmpX (cmpNm k)) hd (cmpD A B) = (0, Expr.boolV (cmpB k (Order.cmp (9 + hd) A B)))
 | 0, _ => by rw [cmpX_args hd _ 0 (by omega), reach_a, reach_b]; rfl
 | 1, _ => by rw [cmpX_args hd _ 1 (by omega), reach_a, reach_b]; rfl
 | 2, _ => by rw [cmpX_args hd _ 2 (by omega), reach_a, reach_b]; rfl
 | 3, _ => by rw [cmpX_args hd _ 3 (by omega), reach_a, reach_b]; rfl
 | 4, _ => by rw [cmpX_args hd _ 4 (by omega), reach_a, reach_b]; rfl
 | 5, _ => by rw [cmpX_args hd _ 5 (by omega), reach_a, reach_b]; rfl
 | k + 6, h => by omega
theorem cmpX_cmp (hd : Nat) (A B : Val) : evF 16 9 3 (cmpX (cmpNm 6)) hd (cmpD A B) = (0, Expr.leafV 3 (Order.cmp (9 + hd) A B)) := by
 rw [cmpX_args hd _ 6 (by omega), reach_a, reach_b]; rfl
theorem ExprAt.low {w : World} {base ge N C h : Nat} {x : Val} (he : ExprAt w base ge N C h x) : ExprAt w 0 ge N C h x := by
 obtain ⟨ik, im, s, b0, f0, l0, bb, bc, fb, fc, lb, lc, pa, pn, pc, T, rv, h1, h2, h3, h4⟩ := he
 exact ⟨ik, im, s, b0, f0, l0, bb, bc, fb, fc, lb, lc, pa, pn, pc, T, rv, h1, VIn.kept (Kept.of_below (Below.refl _ _)) (fun _ _ => Nat.zero_le _) h2, h3, h4⟩
theorem two_fields {w : World} {Q : Nat → Prop} {h g : Nat} {nm nm2 : ByteArray} {x y : Val} {c0 c1 c2 c3 c4 c5 d0 d1 d2 d3 d4 d5 : Value} {t : TypeId} (hr : w.heap[g]? = some (.cells #[.string nm, c0, c1, c2, c3, c4, c5, .string nm2, d0, d1, d2, d3, d4, d5] t (0, 0))) (hq : Q g) (hnm : nm.size ≤ 140737488355328) (hnm2 : nm2.size ≤ 140737488355328) (hx : VIn w Q h x (.agg #[c0, c1, c2, c3, c4, c5])) (hy : VIn w Q h y (.agg #[d0, d1, d2, d3, d4, d5])) :
  VIn w Q (h + 1) (.mk 6 0 ⟨#[]⟩ [] [(nm, x), (nm2, y)] []) (.agg #[.int .i64 6, .int .i64 0, .string ⟨#[]⟩, .slice none 0 0, .slice (some ⟨g, 0, none⟩) 2 2, .slice none 0 0]) := by
 have e : ∀ j c, (#[.string nm, c0, c1, c2, c3, c4, c5, .string nm2, d0, d1, d2, d3, d4, d5] : Array Value)[j]? = some c → w.cell? ⟨g, j, none⟩ = some c := fun j c hc => (cell_of_row _ _ j _ _ _ hr).trans hc
 refine ⟨none, some ⟨g, 0, none⟩, none, 0, 2, 0, rfl, plain_lim 6 0 _ [] (by omega) (by omega) (by simp) (by simp), ⟨Nat.le_refl _, by omega⟩, ⟨Nat.le_refl _, by omega⟩, ⟨Nat.le_refl _, by omega⟩, .inl rfl, .inr ⟨g, 0, rfl, hq, fun i hi => ?_⟩, .inl rfl⟩
 match i, hi with
 | 0, _ => exact ⟨e _ _ rfl, hnm, _, ⟨c0, c1, c2, c3, c4, c5, rfl, e _ _ rfl, e _ _ rfl, e _ _ rfl, e _ _ rfl, e _ _ rfl, e _ _ rfl⟩, hx⟩
 | 1, _ => exact ⟨e _ _ rfl, hnm2, _, ⟨d0, d1, d2, d3, d4, d5, rfl, e _ _ rfl, e _ _ rfl, e _ _ rfl, e _ _ rfl, e _ _ rfl, e _ _ rfl⟩, hy⟩
end Go.Proofs.YtiajjgehnmkokaaGreatDoor
end
