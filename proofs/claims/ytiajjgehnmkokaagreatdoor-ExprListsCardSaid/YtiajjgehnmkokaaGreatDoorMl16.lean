/- RegCall2, RegStore, ExprBox, PathBackWalk, ExprOpAbs, ExprOpCond, ExprOpIfNull. -/
import Derived.Lib.IndexBytes
import Derived.Test.YtiajjgehnmkokaaGreatDoorMl15
import Derived.Test.YtiajjgehnmkokaaGreatDoorMl4
import Derived.Test.YtiajjgehnmkokaaGreatDoorMl3
import Derived.Test.YtiajjgehnmkokaaGreatDoorMl11
set_option maxRecDepth 100000
set_option maxHeartbeats 20000000
section
namespace Go.Proofs.YtiajjgehnmkokaaGreatDoor
open Go.RowKit
open Seal
open Bson (Val)
structure DS (w w0 : World) (r : Nat) (cs : List Value) (er : Value) (B : Nat) (x : Val) (D : Nat → Bool) (V : Nat → Value) (W : World) (v : Value) (lo hi : Nat) : Prop where
 pure : ∀ i, i < 5 → D i = true → V i = cs.getD i undef
 bel : Below w.heap.size w W
 b0 : D 8 = false → Below w0.heap.size w0 W
 old : w0.heap.size ≤ W.heap.size ∧ ∀ g, g < w0.heap.size → g ≠ r → W.heap[g]? = w0.heap[g]?
 call : D 5 = true → V 5 = .tuple #[v, er] ∧ VIn W (fun g => lo ≤ g ∧ g < hi) B x v ∧ w0.heap.size ≤ lo
 c6 : D 6 = true → V 6 = v ∧ D 5 = true
 c7 : D 7 = true → V 7 = er ∧ D 5 = true
 st : D 8 = true → D 6 = true ∧ ∃ cs, W.heap[r]? = some (.cells cs 26 (0, 0)) ∧ v = .agg cs
 c9 : D 9 = true → V 9 = er ∧ D 7 = true
def DI (w w0 : World) (r : Nat) (cs : List Value) (er : Value) (B : Nat) (x : Val) (D : Nat → Bool) (V : Nat → Value) (W : World) : Prop := ∃ v lo hi, DS w w0 r cs er B x D V W v lo hi
section
variable {w w0 W W' : World} {r : Nat} {cs : List Value} {er : Value} {B : Nat} {x : Val} {D : Nat → Bool} {V : Nat → Value}
theorem DI.start {V : Nat → Value} (hb : Below w.heap.size w w0) : DI w w0 r cs er B x (fun _ => false) V { w0 with drawn := w0.drawn + 1 } :=
 ⟨undef, 0, 0, fun _ _ h => (by cases h), ⟨hb.os, hb.tape, hb.output, hb.size, hb.block⟩, fun _ => ⟨rfl, rfl, rfl, Nat.le_refl _, fun _ _ => rfl⟩, ⟨Nat.le_refl _, fun _ _ _ => rfl⟩, fun h => (by cases h), fun h => (by cases h), fun h => (by cases h), fun h => (by cases h), fun h => (by cases h)⟩
theorem DI.old (h : DI w w0 r cs er B x D V W) {g : Nat} (hg : g < w0.heap.size) (hne : g ≠ r) : W.heap[g]? = w0.heap[g]? := by obtain ⟨_, _, _, h⟩ := h; exact h.old.2 g hg hne
theorem DI.known (h : DI w w0 r cs er B x D V W) {i : Nat} (hi : i < 5) (hd : D i = true) : V i = cs.getD i undef := by obtain ⟨_, _, _, h⟩ := h; exact h.pure i hi hd
theorem DI.early (h : DI w w0 r cs er B x D V W) (h5 : D 5 = false) : Below w0.heap.size w0 W := by
 obtain ⟨_, _, _, h⟩ := h
 refine h.b0 ?_
 cases e : D 8 with
 | false => rfl
 | true => rw [(h.c6 (h.st e).1).2] at h5; cases h5
theorem DI.below (h : DI w w0 r cs er B x D V W) : Below w.heap.size w W := by obtain ⟨_, _, _, h⟩ := h; exact h.bel
theorem DI.step (h : DI w w0 r cs er B x D V W) {i : Nat} (hi : i < 5) {c : Value} (hc : c = cs.getD i undef) : DI w w0 r cs er B x (setD D i) (upd V i c) W := by
 obtain ⟨v, lo, hi', h⟩ := h
 have e : ∀ j, 5 ≤ j → setD D i j = D j := fun j hj => setD_ne (by omega)
 have u : ∀ j, 5 ≤ j → upd V i c j = V j := fun j hj => upd_ne (by omega)
 refine ⟨v, lo, hi', fun j hj hd => ?_, h.bel, ?_, h.old, ?_, ?_, ?_, ?_, ?_⟩
 ·by_cases ej : j = i
  ·subst ej; unfold upd; rw [if_pos rfl]; exact hc
  ·rw [setD_ne ej] at hd; rw [upd_ne ej]; exact h.pure j hj hd
 ·rw [e 8 (by omega)]; exact h.b0
 ·rw [e 5 (by omega), u 5 (by omega)]; exact h.call
 ·rw [e 6 (by omega), e 5 (by omega), u 6 (by omega)]; exact h.c6
 ·rw [e 7 (by omega), e 5 (by omega), u 7 (by omega)]; exact h.c7
 ·rw [e 8 (by omega), e 6 (by omega)]; exact h.st
 ·rw [e 9 (by omega), e 7 (by omega), u 9 (by omega)]; exact h.c9
theorem DI.call (h : DI w w0 r cs er B x D V W) (h5 : D 5 = false) {v : Value} (hb : Below W.heap.size W W') (hv : VIn W' (fun g => W.heap.size ≤ g) B x v) : DI w w0 r cs er B x (setD D 5) (upd V 5 (.tuple #[v, er])) W' := by
 have hb0 := h.early h5
 obtain ⟨v0, lo, hi', h⟩ := h
 have e : ∀ j, j ≠ 5 → setD D 5 j = D j := fun j hj => setD_ne hj
 have u : ∀ j, j ≠ 5 → upd V 5 (.tuple #[v, er]) j = V j := fun j hj => upd_ne hj
 have n6 : D 6 = false := by cases e6 : D 6 with | false => rfl | true => rw [(h.c6 e6).2] at h5; cases h5
 have n7 : D 7 = false := by cases e7 : D 7 with | false => rfl | true => rw [(h.c7 e7).2] at h5; cases h5
 have n8 : D 8 = false := by cases e8 : D 8 with | false => rfl | true => rw [(h.st e8).1] at n6; cases n6
 have n9 : D 9 = false := by cases e9 : D 9 with | false => rfl | true => rw [(h.c9 e9).2] at n7; cases n7
 refine ⟨v, W.heap.size, W'.heap.size, fun j hj hd => ?_, h.bel.trans (hb.mono h.bel.size), fun _ => hb0.trans (hb.mono hb0.size), ⟨Nat.le_trans h.old.1 hb.size, fun g hg hne => (hb.block g (by have := h.old.1; omega)).trans (h.old.2 g hg hne)⟩, fun _ => ⟨rfl, hv.lt, hb0.size⟩, ?_, ?_, ?_, ?_⟩
 ·rw [e j (by omega)] at hd; rw [u j (by omega)]; exact h.pure j hj hd
 ·rw [e 6 (by omega), n6]; exact fun h => (by cases h)
 ·rw [e 7 (by omega), n7]; exact fun h => (by cases h)
 ·rw [e 8 (by omega), n8]; exact fun h => (by cases h)
 ·rw [e 9 (by omega), n9]; exact fun h => (by cases h)
theorem DI.got (h : DI w w0 r cs er B x D V W) (h5 : D 5 = true) : ∃ v, V 5 = .tuple #[v, er] ∧ DI w w0 r cs er B x (setD D 6) (upd V 6 v) W ∧ DI w w0 r cs er B x (setD D 7) (upd V 7 er) W := by
 obtain ⟨v, lo, hi', h⟩ := h
 refine ⟨v, (h.call h5).1, ⟨v, lo, hi', fun j hj hd => ?_, h.bel, ?_, h.old, ?_, ?_, ?_, ?_, ?_⟩, ⟨v, lo, hi', fun j hj hd => ?_, h.bel, ?_, h.old, ?_, ?_, ?_, ?_, ?_⟩⟩
 ·rw [setD_ne (show j ≠ 6 by omega)] at hd; rw [upd_ne (show j ≠ 6 by omega)]; exact h.pure j hj hd
 ·rw [setD_ne (show 8 ≠ 6 by omega)]; exact h.b0
 ·rw [setD_ne (show 5 ≠ 6 by omega), upd_ne (show 5 ≠ 6 by omega)]; exact h.call
 ·rw [setD_ne (show 5 ≠ 6 by omega)]; exact fun _ => ⟨rfl, h5⟩
 ·rw [setD_ne (show 7 ≠ 6 by omega), setD_ne (show 5 ≠ 6 by omega), upd_ne (show 7 ≠ 6 by omega)]; exact h.c7
 ·rw [setD_ne (show 8 ≠ 6 by omega)]; exact fun e => ⟨rfl, (h.st e).2⟩
 ·rw [setD_ne (show 9 ≠ 6 by omega), setD_ne (show 7 ≠ 6 by omega), upd_ne (show 9 ≠ 6 by omega)]; exact h.c9
 ·rw [setD_ne (show j ≠ 7 by omega)] at hd; rw [upd_ne (show j ≠ 7 by omega)]; exact h.pure j hj hd
 ·rw [setD_ne (show 8 ≠ 7 by omega)]; exact h.b0
 ·rw [setD_ne (show 5 ≠ 7 by omega), upd_ne (show 5 ≠ 7 by omega)]; exact h.call
 ·rw [setD_ne (show 6 ≠ 7 by omega), setD_ne (show 5 ≠ 7 by omega), upd_ne (show 6 ≠ 7 by omega)]; exact h.c6
 ·rw [setD_ne (show 5 ≠ 7 by omega)]; exact fun _ => ⟨rfl, h5⟩
 ·rw [setD_ne (show 8 ≠ 7 by omega), setD_ne (show 6 ≠ 7 by omega)]; exact h.st
 ·rw [setD_ne (show 9 ≠ 7 by omega), upd_ne (show 9 ≠ 7 by omega)]; exact fun e => ⟨(h.c9 e).1, rfl⟩
theorem DI.err (h : DI w w0 r cs er B x D V W) (h7 : D 7 = true) : V 7 = er ∧ DI w w0 r cs er B x (setD D 9) (upd V 9 er) W := by
 obtain ⟨v, lo, hi', h⟩ := h
 refine ⟨(h.c7 h7).1, v, lo, hi', fun j hj hd => ?_, h.bel, ?_, h.old, ?_, ?_, ?_, ?_, ?_⟩
 ·rw [setD_ne (show j ≠ 9 by omega)] at hd; rw [upd_ne (show j ≠ 9 by omega)]; exact h.pure j hj hd
 ·rw [setD_ne (show 8 ≠ 9 by omega)]; exact h.b0
 ·rw [setD_ne (show 5 ≠ 9 by omega), upd_ne (show 5 ≠ 9 by omega)]; exact h.call
 ·rw [setD_ne (show 6 ≠ 9 by omega), setD_ne (show 5 ≠ 9 by omega), upd_ne (show 6 ≠ 9 by omega)]; exact h.c6
 ·rw [setD_ne (show 7 ≠ 9 by omega), setD_ne (show 5 ≠ 9 by omega), upd_ne (show 7 ≠ 9 by omega)]; exact h.c7
 ·rw [setD_ne (show 8 ≠ 9 by omega), setD_ne (show 6 ≠ 9 by omega)]; exact h.st
 ·rw [setD_ne (show 7 ≠ 9 by omega)]; exact fun _ => ⟨rfl, h7⟩
theorem DI.kept (h : DI w w0 r cs er B x D V W) (hr : w.heap.size ≤ r) (hr0 : r < w0.heap.size) (hbx : ∀ W, Below w0.heap.size w0 W → IsBox W r (.int .i64 0) (.int .i64 0) (.string ⟨#[]⟩) (.slice none 0 0) (.slice none 0 0) (.slice none 0 0)) (h6 : D 6 = true) (h8 : D 8 = false) : ∃ k n s ba fa la bn bc fn fc ln lc, V 6 = .agg #[.int .i64 k, .int .i64 n, .string s, .slice ba bn bc, .slice fa fn fc, .slice la ln lc] ∧ IsBox W r (.int .i64 0) (.int .i64 0) (.string ⟨#[]⟩) (.slice none 0 0) (.slice none 0 0) (.slice none 0 0) ∧
  DI w w0 r cs er B x (setD D 8) (upd V 8 undef) (puts W r 0 [.int .i64 k, .int .i64 n, .string s, .slice ba bn bc, .slice fa fn fc, .slice la ln lc]) := by
 obtain ⟨v, lo, hi', h⟩ := h
 obtain ⟨k1, k2⟩ := h.c6 h6
 obtain ⟨l1, l2, l3⟩ := h.call k2
 obtain ⟨k, n, s, ba, fa, la, bn, bc, fn, fc, ln, lc, rfl⟩ := l2.shape
 have hb := hbx W (h.b0 h8)
 refine ⟨k, n, s, ba, fa, la, bn, bc, fn, fc, ln, lc, k1, hb, .agg #[.int .i64 k, .int .i64 n, .string s, .slice ba bn bc, .slice fa fn fc, .slice la ln lc], lo, hi', fun j hj hd => ?_, puts_below h.bel hr _ _, ?_, ⟨by rw [puts_size]; exact h.old.1, fun g hg hne => (puts_other _ _ hne _ _ _).trans (h.old.2 g hg hne)⟩, ?_, ?_, ?_, ?_, ?_⟩
 ·rw [setD_ne (show j ≠ 8 by omega)] at hd; rw [upd_ne (show j ≠ 8 by omega)]; exact h.pure j hj hd
 ·exact fun e => (by cases e)
 ·rw [setD_ne (show 5 ≠ 8 by omega), upd_ne (show 5 ≠ 8 by omega)]
  exact fun _ => ⟨l1, l2.kept (puts_kept (fun g => lo ≤ g ∧ g < hi') (by omega) _ _) (fun _ z => z), l3⟩
 ·rw [setD_ne (show 6 ≠ 8 by omega), setD_ne (show 5 ≠ 8 by omega), upd_ne (show 6 ≠ 8 by omega)]; exact h.c6
 ·rw [setD_ne (show 7 ≠ 8 by omega), setD_ne (show 5 ≠ 8 by omega), upd_ne (show 7 ≠ 8 by omega)]; exact h.c7
 ·rw [setD_ne (show 6 ≠ 8 by omega)]
  exact fun _ => ⟨h6, _, hb.put _ _ _ _ _ _, rfl⟩
 ·rw [setD_ne (show 9 ≠ 8 by omega), setD_ne (show 7 ≠ 8 by omega), upd_ne (show 9 ≠ 8 by omega)]; exact h.c9
theorem DI.end (h : DI w w0 r cs er B x D V W) (hD : ∀ i, i < 10 → D i = true) : ∃ k n s ba fa la bn bc fn fc ln lc lo hi, V 9 = er ∧ IsBox W r (.int .i64 k) (.int .i64 n) (.string s) (.slice ba bn bc) (.slice fa fn fc) (.slice la ln lc) ∧
  VIn W (fun g => lo ≤ g ∧ g < hi) B x (.agg #[.int .i64 k, .int .i64 n, .string s, .slice ba bn bc, .slice fa fn fc, .slice la ln lc]) ∧ w0.heap.size ≤ lo ∧ Below w.heap.size w W := by
 obtain ⟨v, lo, hi', h⟩ := h
 obtain ⟨l1, l2, l3⟩ := h.call (hD 5 (by omega))
 obtain ⟨-, c, h4, hc⟩ := h.st (hD 8 (by omega))
 obtain ⟨k, n, s, ba, fa, la, bn, bc, fn, fc, ln, lc, rfl⟩ := l2.shape
 injection hc with hc
 subst hc
 exact ⟨k, n, s, ba, fa, la, bn, bc, fn, fc, ln, lc, lo, hi', (h.c9 (hD 9 (by omega))).1, h4, l2, l3, h.bel⟩
end
end Go.Proofs.YtiajjgehnmkokaaGreatDoor
end
section
namespace Go.Proofs.YtiajjgehnmkokaaGreatDoor
open Go.RowKit
def RJ (w w2 : World) (cs : List Value) (r : Nat) (six : Array Value) (s : Nat) (D : Nat → Bool) (V : Nat → Value) (W : World) : Prop :=
 (∀ i, D i = true → V i = cs.getD i undef) ∧ Below w.heap.size w W ∧ (D s = false → Below w2.heap.size w2 W) ∧ (D s = true → W.heap[r]? = some (.cells six 26 (0, 0))) ∧ (w2.heap.size ≤ W.heap.size ∧ ∀ g, g < w2.heap.size → g ≠ r → W.heap[g]? = w2.heap[g]?)
section
variable {w w2 W W' : World} {cs : List Value} {r s : Nat} {six : Array Value} {D : Nat → Bool} {V : Nat → Value}
theorem RJ.start (hb : Below w.heap.size w w2) : RJ w w2 cs r six s (fun _ => false) V { w2 with drawn := w2.drawn + 1 } :=
 ⟨fun _ h => (by cases h), ⟨hb.os, hb.tape, hb.output, hb.size, hb.block⟩, fun _ => ⟨rfl, rfl, rfl, Nat.le_refl _, fun _ _ => rfl⟩, fun h => (by cases h), Nat.le_refl _, fun _ _ _ => rfl⟩
theorem RJ.val {i : Nat} {c : Value} (h : RJ w w2 cs r six s D V W) (hc : c = cs.getD i undef) : ∀ j, setD D i j = true → upd V i c j = cs.getD j undef := fun j hj => by
 by_cases e : j = i
 ·subst e; unfold upd; rw [if_pos rfl]; exact hc
 ·rw [setD_ne e] at hj; rw [upd_ne e]; exact h.1 j hj
theorem RJ.step {i : Nat} {c : Value} (h : RJ w w2 cs r six s D V W) (hi : i ≠ s) (hr : r < w2.heap.size) (hb : Below W.heap.size W W') (hc : c = cs.getD i undef) : RJ w w2 cs r six s (setD D i) (upd V i c) W' := by
 refine ⟨h.val hc, h.2.1.trans (hb.mono h.2.1.size), ?_, ?_, Nat.le_trans h.2.2.2.2.1 hb.size, fun g hg hne => (hb.block g (by have := h.2.2.2.2.1; omega)).trans (h.2.2.2.2.2 g hg hne)⟩
 ·rw [setD_ne (fun e => hi e.symm)]
  exact fun e => (h.2.2.1 e).trans (hb.mono (h.2.2.1 e).size)
 ·rw [setD_ne (fun e => hi e.symm)]
  exact fun e => (hb.block r (by have := h.2.2.2.2.1; omega)).trans (h.2.2.2.1 e)
theorem RJ.pure {i : Nat} {c : Value} (h : RJ w w2 cs r six s D V W) (hi : i ≠ s) (hr : r < w2.heap.size) (hc : c = cs.getD i undef) : RJ w w2 cs r six s (setD D i) (upd V i c) W := h.step hi hr (Below.refl _ _) hc
theorem RJ.store {c0 c1 c2 c3 c4 c5 : Value} (h : RJ w w2 cs r #[c0, c1, c2, c3, c4, c5] s D V W) (hs : D s = false) (_ : r < w2.heap.size) (hw : w.heap.size ≤ r) {z0 z1 z2 z3 z4 z5 : Value} (hbx : ∀ W, Below w2.heap.size w2 W → IsBox W r z0 z1 z2 z3 z4 z5) (hc : undef = cs.getD s undef) :
  IsBox W r z0 z1 z2 z3 z4 z5 ∧ RJ w w2 cs r #[c0, c1, c2, c3, c4, c5] s (setD D s) (upd V s undef) (puts W r 0 [c0, c1, c2, c3, c4, c5]) := by
 have hb := hbx W (h.2.2.1 hs)
 refine ⟨hb, h.val hc, puts_below h.2.1 hw _ _, fun e => (by unfold setD at e; rw [if_pos rfl] at e; cases e), fun _ => hb.put _ _ _ _ _ _, by rw [puts_size]; exact h.2.2.2.2.1, fun g hg hne => (puts_other _ _ hne _ _ _).trans (h.2.2.2.2.2 g hg hne)⟩
end
end Go.Proofs.YtiajjgehnmkokaaGreatDoor
end
section
namespace Go.Proofs.YtiajjgehnmkokaaGreatDoor
open Go.RowKit
open Seal
open Bson (Val)
structure CB (w W : World) (fv : Value) (a : Option Addr) (n c : Nat) (d0 d1 d2 d3 d4 d5 : Value) : Prop where
 below : Below w.heap.size w W
 size : w.heap.size + 3 ≤ W.heap.size
 call : W.heap[w.heap.size]? = some (.cells #[fv, .slice a n c] 126 (0, 0))
 doc : IsBox W (w.heap.size + 1) d0 d1 d2 d3 d4 d5
 res : IsBox W (w.heap.size + 1 + 1) (.int .i64 0) (.int .i64 0) (.string ⟨#[]⟩) (.slice none 0 0) (.slice none 0 0) (.slice none 0 0)
section
variable {w W W' : World} {fv : Value} {a : Option Addr} {n c : Nat} {d0 d1 d2 d3 d4 d5 : Value}
theorem CB.keep (h : CB w W fv a n c d0 d1 d2 d3 d4 d5) (hb : Below W.heap.size W W') : CB w W' fv a n c d0 d1 d2 d3 d4 d5 :=
 ⟨h.below.trans (hb.mono h.below.size), Nat.le_trans h.size hb.size, (hb.block _ (by have := h.size; omega)).trans h.call, h.doc.keep hb, h.res.keep hb⟩
theorem CB.c1 (h : CB w W fv a n c d0 d1 d2 d3 d4 d5) : W.cell? ⟨w.heap.size, 1, none⟩ = some (.slice a n c) := (cell_of_row W _ 1 _ _ _ h.call).trans rfl
theorem CB.new (w : World) (fv : Value) (a : Option Addr) (n c : Nat) (d0 d1 d2 d3 d4 d5 : Value) (W : World) (hW : W = ((w.alloc (.cells #[fv, .slice a n c] 126)).alloc (.cells #[d0, d1, d2, d3, d4, d5] 26)).alloc (.cells #[.int .i64 0, .int .i64 0, .string ⟨#[]⟩, .slice none 0 0, .slice none 0 0, .slice none 0 0] 26)) : CB w W fv a n c d0 d1 d2 d3 d4 d5 := by
 have b1 := (Below.refl w.heap.size w).alloc (Nat.le_refl _) (.cells #[fv, .slice a n c] 126)
 have b2 := b1.alloc b1.size (.cells #[d0, d1, d2, d3, d4, d5] 26)
 have b3 := b2.alloc b2.size (.cells #[.int .i64 0, .int .i64 0, .string ⟨#[]⟩, .slice none 0 0, .slice none 0 0, .slice none 0 0] 26)
 subst hW
 refine ⟨b3, by simp, ?_, ?_, ?_⟩
 ·exact (Below.heap_alloc _ _ _ (by simp; omega)).trans ((Below.heap_alloc _ _ _ (by simp)).trans (heap_alloc_new w _))
 ·exact (IsBox.new2 w (.cells #[fv, .slice a n c] 126) d0 d1 d2 d3 d4 d5).keep ((Below.refl _ _).alloc (Nat.le_refl _) _)
 ·have := IsBox.new ((w.alloc (.cells #[fv, .slice a n c] 126)).alloc (.cells #[d0, d1, d2, d3, d4, d5] 26)) (.int .i64 0) (.int .i64 0) (.string ⟨#[]⟩) (.slice none 0 0) (.slice none 0 0) (.slice none 0 0)
  simpa using this
end
theorem TermsIn.at {w : World} {a : Option Addr} {H : Nat} {fs : List (Nat → Val → Expr.Out)} (h : TermsIn w a H fs) (i : Nat) (hi : i < fs.length) : ∃ g o t, a = some ⟨g, o, none⟩ ∧ w.cell? ⟨g, o + i, none⟩ = some t ∧ Ev w t H fs[i] := by
 obtain ⟨g, o, e, hall⟩ := h.resolve_left (fun e => by rw [e] at hi; cases hi)
 obtain ⟨t, h1, h2⟩ := hall i hi
 exact ⟨g, o, t, e, h1, h2⟩
theorem TermsIn.more {w : World} {g o : Nat} {H : Nat} {fs : List (Nat → Val → Expr.Out)} (h : TermsIn w (some ⟨g, o, none⟩) H fs) (i : Nat) (hi : i < fs.length) : ∃ t, w.cell? ⟨g, o + i, none⟩ = some t ∧ Ev w t H fs[i] := by
 obtain ⟨g', o', t, e, h1, h2⟩ := h.at i hi
 have e2 := Option.some.inj e
 injection e2 with e3 e4
 rw [e3, e4]
 exact ⟨t, h1, h2⟩
theorem outAt_get (fs : List (Nat → Val → Expr.Out)) (hd : Nat) (d : Val) (i : Nat) (hi : i < fs.length) : Expr.outAt (outsOf fs hd d) i = fs[i] hd d := by
 unfold Expr.outAt
 rw [List.getD_eq_getElem?_getD, List.getElem?_eq_getElem (by rw [outsOf_length]; exact hi), outsOf_get fs hd d i hi]; rfl
theorem VIn.top {w : World} {Q : Nat → Prop} {B : Nat} {x : Val} {k n : Int} {s : ByteArray} {b1 f1 l1 : Option Addr} {b2 b3 f2 f3 l2 l3 : Nat} (hv : VIn w Q B x (.agg #[.int .i64 k, .int .i64 n, .string s, .slice b1 b2 b3, .slice f1 f2 f3, .slice l1 l2 l3])) :
  k = x.kind ∧ n = x.n ∧ s = x.s ∧ l2 = x.l.length ∧ Lim x := by
 cases B with
 | zero => exact hv.elim
 | succ B =>
  obtain ⟨ba, fa, la, bc, fc, lc, e, hL, -⟩ := hv
  unfold agg at e
  simp only [Value.agg.injEq, Array.mk.injEq, List.cons.injEq, Value.int.injEq, Value.string.injEq, Value.slice.injEq, and_true, true_and] at e
  exact ⟨e.1, e.2.1, e.2.2.1, e.2.2.2.2.2.2.1, hL⟩
theorem reck_in (o : Int × Int) (a b : Int) (h : o.2 = 0 → Num.In o.1) : Num.In (Num.reck o a b).1 ∧ Num.In (Num.reck o a b).2.1 := by
 have k0 : Num.In 0 := by unfold Num.In; omega
 have k2 : Num.In 2 := by unfold Num.In; omega
 have k3 : Num.In 3 := by unfold Num.In; omega
 have k4 : Num.In 4 := by unfold Num.In; omega
 unfold Num.reck
 repeat' split
 all_goals first | exact ⟨k2, k0⟩ | exact ⟨k0, k0⟩ | skip
 ·rename_i h5 _; exact ⟨k4, h (Classical.not_not.1 h5)⟩
 ·rename_i h5 _ _; exact ⟨k4, h (Classical.not_not.1 h5)⟩
 ·rename_i h5 _ _
  refine ⟨?_, h (Classical.not_not.1 h5)⟩
  show Num.In (Num.ofK o.1)
  unfold Num.ofK
  split <;> assumption
theorem absR_in {n : Int} (h : Num.In n) : (Num.absR n).2 = 0 → Num.In (Num.absR n).1 := by
 unfold Num.absR Num.difR
 split
 ·split
  ·intro _; assumption
  ·intro e; cases e
 ·intro _; exact h
theorem leafV_in (w : World) (Q : Nat → Prop) (k n : Int) (hk : -9223372036854775808 ≤ k ∧ k ≤ 9223372036854775807) (hn : -9223372036854775808 ≤ n ∧ n ≤ 9223372036854775807) (h : Nat) : VIn w Q (h + 1) (Expr.leafV k n) (.agg #[.int .i64 k, .int .i64 n, .string ⟨#[]⟩, .slice none 0 0, .slice none 0 0, .slice none 0 0]) :=
 ⟨none, none, none, 0, 0, 0, rfl, ⟨hk.1, hk.2, hn.1, hn.2, by show (0 : Nat) ≤ _; omega, by show (0 : Nat) ≤ _; omega, by show (0 : Nat) ≤ _; omega, by show (0 : Nat) ≤ _; omega, (fun _ h => by cases h)⟩, ⟨Nat.le_refl _, by omega⟩, ⟨Nat.le_refl _, by omega⟩, ⟨Nat.le_refl _, by omega⟩, .inl rfl, .inl rfl, .inl rfl⟩
end Go.Proofs.YtiajjgehnmkokaaGreatDoor
end
section
namespace Go.Proofs.YtiajjgehnmkokaaGreatDoor
open Go.RowKit
open Seal
open Path
namespace Path
end Path
def Short (p : List ByteArray) : Prop := ∀ i (hi : i < p.length), p[i].size ≤ 140737488355328
end Go.Proofs.YtiajjgehnmkokaaGreatDoor
end
section
namespace Go.Proofs.YtiajjgehnmkokaaGreatDoor
open Go.RowKit
open Seal
open Bson (Val)
theorem op_abs_any (H hd C : Nat) (a : Option Addr) (n c : Nat) (fs : List (Nat → Val → Expr.Out)) (Q : Nat → Prop) (d : Val) (dv : Value) (w : World) (hn : fs.length = n) (h1 : n = 1) (hT : TermsIn w a H fs) (hd0 : VIn w Q (hd + 1) d dv) :
  Calls Tryz.prog 91 #[.agg #[.func (.func 91) #[] #[], .slice a n c], dv] w (EvPost w (H + hd + 1) (Expr.apply (C + hd) .abs (outsOf fs hd d))) := by
 obtain ⟨dk, dn, ds, da, df, dl, ba, bc, fa, fc, la, lc, rfl⟩ := hd0.shape
 have h0f : 0 < fs.length := by omega
 obtain ⟨g, o, t, rfl, hct, T, K, rv, rfl, hm, hme, hcall⟩ := hT.at 0 h0f
 rw [Nat.add_zero] at hct
 obtain ⟨ou, hou⟩ : ∃ z, z = Expr.outAt (outsOf fs hd d) 0 := ⟨_, rfl⟩
 have hou2 : fs[0] hd d = ou := by rw [hou, outAt_get fs hd d 0 h0f]
 have hcall2 := fun W hW => hcall W hW Q hd d
 rw [hou2] at hcall2
 obtain ⟨W0, hW0⟩ : ∃ W0, W0 = ((w.alloc (.cells #[(.func (.func 91) #[] #[]), .slice (some ⟨g, o, none⟩) n c] 126)).alloc (.cells #[.int .i64 dk, .int .i64 dn, .string ds, .slice da ba bc, .slice df fa fc, .slice dl la lc] 26)).alloc (.cells #[.int .i64 0, .int .i64 0, .string ⟨#[]⟩, .slice none 0 0, .slice none 0 0, .slice none 0 0] 26) := ⟨_, rfl⟩
 have HB := Lib.hid (CB.new w (.func (.func 91) #[] #[]) (some ⟨g, o, none⟩) n c (.int .i64 dk) (.int .i64 dn) (.string ds) (.slice da ba bc) (.slice df fa fc) (.slice dl la lc) W0 hW0)
 have HW0 := Lib.hid hW0
 have HT := Lib.hid hT
 have HD := Lib.hid hd0
 have HOU := Lib.hid hou
 have HCT := Lib.hid hct
 have HCALL := Lib.hid hcall2
 obtain ⟨res, hres⟩ : ∃ z, z = Expr.apply (C + hd) .abs (outsOf fs hd d) := ⟨_, rfl⟩
 rw [← hres]
 have HRES := Lib.hid hres
 have HN := Lib.hid hn
 have hn0 : 0 < n := by omega
 have HN1 := Lib.hid h1
 clear hT hd0 hcall hcall2 hou hou2 hct hW0 hres hn h0f h1
 go_enter Tryz.func91, Tryz.ntmps91
 go_upto_region 1 with fail
 rw [← HW0.out]
 refine wp_region_inv0 (fun V => { tmps := #[.agg #[.func (.func 91) #[] #[], .slice (some ⟨g, o, none⟩) n c], .agg #[.int .i64 dk, .int .i64 dn, .string ds, .slice da ba bc, .slice df fa fc, .slice dl la lc], .pointer (some ⟨w.heap.size, 0, none⟩), .pointer (some ⟨w.heap.size + 1, 0, none⟩), .pointer (some ⟨w.heap.size + 1 + 1, 0, none⟩), .int .i64 0, V 9, V 11, V 6, V 0, V 1, V 2, V 3, V 4, V 5, V 7, V 8, undef, undef, undef, undef, undef, undef, undef, undef], defers := [] }) (CI W0 [.pointer (some ⟨w.heap.size, 1, none⟩), .slice (some ⟨g, o, none⟩) n c, .pointer (some ⟨g, o, none⟩), .iface T rv, .agg #[.int .i64 dk, .int .i64 dn, .string ds, .slice da ba bc, .slice df fa fc, .slice dl la lc]] (.int .i64 ou.1) (H + hd) ou.2) (by kernel_rfl) (by kernel_rfl) (by kernel_rfl) (fun V => by kernel_rfl) ?_ CI.start ?_
 ·refine ⟨?_, ?_⟩
  ·refine inv_free rfl (fun D9 V w5 hDi hpre hI K hK => ?_)
   go_simp
   exact put_is (by kernel_rfl) (hK.out (.pointer (some ⟨w.heap.size, 1, none⟩)) w5 (hI.step (by decide) rfl))
  refine ⟨?_, ?_⟩
  ·refine inv_free rfl (fun D9 V w5 hDi hpre hI K hK => ?_)
   have e0 : V 0 = .pointer (some ⟨w.heap.size, 1, none⟩) := hI.known (by decide) (hpre.out 0 (by kernel_rfl))
   have hc1 := (HB.out.keep hI.below).c1
   go_simp
   exact put_is (by rw [e0]; kernel_rfl) (hK.out (.slice (some ⟨g, o, none⟩) n c) w5 (hI.step (by decide) rfl))
  refine ⟨?_, ?_⟩
  ·refine inv_free rfl (fun D9 V w5 hDi hpre hI K hK => ?_)
   have e1 : V 1 = .slice (some ⟨g, o, none⟩) n c := hI.known (by decide) (hpre.out 1 (by kernel_rfl))
   go_simp
   exact put_is (by rw [e1]; kernel_rfl) (hK.out (.pointer (some ⟨g, o, none⟩)) w5 (hI.step (by decide) rfl))
  refine ⟨?_, ?_⟩
  ·refine inv_free rfl (fun D9 V w5 hDi hpre hI K hK => ?_)
   have e2 : V 2 = .pointer (some ⟨g, o, none⟩) := hI.known (by decide) (hpre.out 2 (by kernel_rfl))
   have hct := cell_keep (HB.out.keep hI.below).below HCT.out
   go_simp
   exact put_is (by rw [e2]; kernel_rfl) (hK.out (.iface T rv) w5 (hI.step (by decide) rfl))
  refine ⟨?_, ?_⟩
  ·refine inv_free rfl (fun D9 V w5 hDi hpre hI K hK => ?_)
   obtain ⟨x0, x1, x2, x3, x4, x5⟩ := (HB.out.keep hI.below).doc.cells
   go_simp
   exact put_is (by kernel_rfl) (hK.out (.agg #[.int .i64 dk, .int .i64 dn, .string ds, .slice da ba bc, .slice df fa fc, .slice dl la lc]) w5 (hI.step (by decide) rfl))
  refine ⟨?_, ?_⟩
  ·refine inv_free rfl (fun D9 V w5 hDi hpre hI K hK => ?_)
   have e3 : V 3 = .iface T rv := hI.known (by decide) (hpre.out 3 (by kernel_rfl))
   have e4 : V 4 = .agg #[.int .i64 dk, .int .i64 dn, .string ds, .slice da ba bc, .slice df fa fc, .slice dl la lc] := hI.known (by decide) (hpre.out 4 (by kernel_rfl))
   have hbw := (HB.out.keep hI.below).below
   have CK := HCALL.out w5 hbw _ (VIn.keep hbw HD.out)
   go_simp
   refine CK.mono ?_
   rintro e w6 ⟨v6, rfl, hv6, hb6⟩
   exact put_is (by rw [e3, e4]; kernel_rfl) (hK.out (.tuple #[v6, .int .i64 ou.1]) w6 (hI.call hDi hb6 hv6))
  refine ⟨?_, ?_⟩
  ·refine inv_free rfl (fun D9 V w5 hDi hpre hI K hK => ?_)
   have h5 := hpre.out 5 (by kernel_rfl)
   go_simp
   exact put_is (by kernel_rfl) (hK.out (V 5) w5 (hI.moved h5))
  refine ⟨?_, ?_⟩
  ·refine inv_free rfl (fun D9 V w5 hDi hpre hI K hK => ?_)
   obtain ⟨v, e6, h7, -⟩ := hI.got (hpre.out 6 (by kernel_rfl))
   go_simp
   exact put_is (by rw [e6]; kernel_rfl) (hK.out v w5 h7)
  refine ⟨?_, ?_⟩
  ·refine inv_free rfl (fun D9 V w5 hDi hpre hI K hK => ?_)
   obtain ⟨v, e6, -, h8⟩ := hI.got (hpre.out 6 (by kernel_rfl))
   go_simp
   exact put_is (by rw [e6]; kernel_rfl) (hK.out (.int .i64 ou.1) w5 h8)
  refine ⟨?_, ?_⟩
  ·refine inv_free rfl (fun D9 V w5 hDi hpre hI K hK => ?_)
   go_simp
   exact put_is (by kernel_rfl) (hK.out (.pointer (some ⟨w5.heap.size, 0, none⟩)) _ (hI.made hDi))
  refine ⟨?_, ?_⟩
  ·refine inv_free rfl (fun D9 V w5 hDi hpre hI K hK => ?_)
   obtain ⟨p, k9, n9, s9, ba9, fa9, la9, bn9, bc9, fn9, fc9, ln9, lc9, e9, e7, hbx, h10⟩ := hI.kept (hpre.out 9 (by kernel_rfl)) (hpre.out 7 (by kernel_rfl)) hDi
   obtain ⟨z0, z1, z2, z3, z4, z5⟩ := hbx.cells
   obtain ⟨q0, q1, q2, q3, q4, q5⟩ := hbx.thaw
   go_simp
   exact put_is (by rw [e9, e7]; kernel_rfl) (hK.out undef _ h10)
  refine ⟨?_, ?_⟩
  ·refine inv_free rfl (fun D9 V w5 hDi hpre hI K hK => ?_)
   obtain ⟨e8, h11⟩ := hI.err (hpre.out 8 (by kernel_rfl))
   go_simp
   exact put_is (by rw [e8]; kernel_rfl) (hK.out (.int .i64 ou.1) w5 h11)
  trivial
 intro D9 V w9 hD9 hI9
 obtain ⟨p, k, m, s, b1, f1, l1, b2, b3, f2, f3, l2, l3, lo, hi, e9, e11, hbx, hv9, hlo, hhi, hp, hb9⟩ := hI9.end hD9
 rw [e9, e11]
 have HB9 := Lib.hid (HB.out.keep hb9)
 have HX9 := Lib.hid hbx
 have HV9 := Lib.hid hv9
 have HLO := Lib.hid (And.intro hlo (And.intro hhi hp))
 obtain ⟨r0, r1, r2, r3, r4, r5⟩ := HB9.out.res.cells
 obtain ⟨q0, q1, q2, q3, q4, q5⟩ := HB9.out.res.thaw
 obtain ⟨z0, z1, z2, z3, z4, z5⟩ := HX9.out.cells
 clear hI9 hD9 e9 e11 hbx hv9 hlo hhi hp hb9
 by_cases hz : ou.1 = 0
 ·rw [hz]
  obtain ⟨e1, e2, -, -, hL⟩ := HV9.out.top
  have hin : Num.In m := by rw [e2]; exact ⟨hL.n0, hL.n1⟩
  obtain ⟨rr, hrr⟩ : ∃ z, z = Num.reck (Num.absR m) k k := ⟨_, rfl⟩
  have hri := reck_in (Num.absR m) k k (absR_in hin)
  rw [← hrr] at hri
  have CA := Lib.hid (numAbs_any k m (.string s) (.slice b1 b2 b3) (.slice f1 f2 f3) (.slice l1 l2 l3) w9 hin)
  rw [← hrr] at CA
  have hre : res = (rr.2.2, Expr.leafV rr.1 rr.2.1) := by
   rw [HRES.out]
   rw [Expr.apply_abs]
   unfold Expr.one
   rw [← HOU.out, if_pos hz]
   rw [hrr, e1, e2]; rfl
  have HRE := Lib.hid hre
  have HRI := Lib.hid hri
  obtain ⟨rk, rn, re⟩ := rr
  clear hre hri e1 e2 hL hin hrr hz
  go_wp2_with fail
  clear r0 r1 r2 r3 r4 r5 q0 q1 q2 q3 q4 q5 z0 z1 z2 z3 z4 z5
  refine CA.out.mono ?_
  rintro e w6 ⟨rfl, hb6⟩
  have HEND := Lib.hid (below_six (HB9.out.below.trans (hb6.mono HB9.out.below.size)) (by omega : w.heap.size ≤ w.heap.size + 1 + 1) (.int .i64 rk) (.int .i64 rn) (.string ⟨#[]⟩) (.slice none 0 0) (.slice none 0 0) (.slice none 0 0))
  have HK6 := Lib.hid (HB9.out.keep hb6)
  obtain ⟨r0, r1, r2, r3, r4, r5⟩ := HK6.out.res.cells
  obtain ⟨q0, q1, q2, q3, q4, q5⟩ := HK6.out.res.thaw
  clear hb6
  go_wp2_with fail
  exact bodyPost_ret (v := .tuple #[.agg #[.int .i64 rk, .int .i64 rn, .string ⟨#[]⟩, .slice none 0 0, .slice none 0 0, .slice none 0 0], .int .i64 re]) (by simp [results, Tryz.results91, go_sem, *]) rfl ⟨_, by rw [HRE.out], by rw [HRE.out]; exact leafV_in _ _ rk rn HRI.out.1 HRI.out.2 _, HEND.out⟩
 ·have hz2 : (ou.1 == 0) = false := by rw [beq_eq_false_iff_ne]; exact hz
  have hre : res = (ou.1, Bson.zero) := by
   rw [HRES.out]
   rw [Expr.apply_abs]
   unfold Expr.one
   rw [← HOU.out, if_neg hz]; rfl
  have HRE := Lib.hid hre
  have HEND := Lib.hid (below_six HB9.out.below (by omega : w.heap.size ≤ w.heap.size + 1 + 1) (.int .i64 0) (.int .i64 0) (.string ⟨#[]⟩) (.slice none 0 0) (.slice none 0 0) (.slice none 0 0))
  clear hz hre
  go_wp2_with fail
  exact bodyPost_ret (v := .tuple #[.agg #[.int .i64 0, .int .i64 0, .string ⟨#[]⟩, .slice none 0 0, .slice none 0 0, .slice none 0 0], .int .i64 ou.1]) (by simp [results, Tryz.results91, go_sem, *]) rfl ⟨_, by rw [HRE.out], by rw [HRE.out]; exact (zero_in _ _).up (by omega), HEND.out⟩
theorem op_cond_any (H hd C : Nat) (a : Option Addr) (n c : Nat) (fs : List (Nat → Val → Expr.Out)) (Q : Nat → Prop) (d : Val) (dv : Value) (w : World) (hn : fs.length = n) (h1 : n = 3) (hT : TermsIn w a H fs) (hd0 : VIn w Q (hd + 1) d dv) :
  Calls Tryz.prog 102 #[.agg #[.func (.func 102) #[] #[], .slice a n c], dv] w (EvPost w (H + hd + 1) (Expr.apply (C + hd) .cond (outsOf fs hd d))) := by
 obtain ⟨dk, dn, ds, da, df, dl, ba, bc, fa, fc, la, lc, rfl⟩ := hd0.shape
 have h0f : 0 < fs.length := by omega
 obtain ⟨g, o, t, rfl, hct, T, K, rv, rfl, hm, hme, hcall⟩ := hT.at 0 h0f
 rw [Nat.add_zero] at hct
 obtain ⟨ou, hou⟩ : ∃ z, z = Expr.outAt (outsOf fs hd d) 0 := ⟨_, rfl⟩
 have hou2 : fs[0] hd d = ou := by rw [hou, outAt_get fs hd d 0 h0f]
 have hcall2 := fun W hW => hcall W hW Q hd d
 rw [hou2] at hcall2
 obtain ⟨W0, hW0⟩ : ∃ W0, W0 = ((w.alloc (.cells #[(.func (.func 102) #[] #[]), .slice (some ⟨g, o, none⟩) n c] 126)).alloc (.cells #[.int .i64 dk, .int .i64 dn, .string ds, .slice da ba bc, .slice df fa fc, .slice dl la lc] 26)).alloc (.cells #[.int .i64 0, .int .i64 0, .string ⟨#[]⟩, .slice none 0 0, .slice none 0 0, .slice none 0 0] 26) := ⟨_, rfl⟩
 have HB := Lib.hid (CB.new w (.func (.func 102) #[] #[]) (some ⟨g, o, none⟩) n c (.int .i64 dk) (.int .i64 dn) (.string ds) (.slice da ba bc) (.slice df fa fc) (.slice dl la lc) W0 hW0)
 have HW0 := Lib.hid hW0
 have HT := Lib.hid hT
 have HD := Lib.hid hd0
 have HOU := Lib.hid hou
 have HCT := Lib.hid hct
 have HCALL := Lib.hid hcall2
 obtain ⟨res, hres⟩ : ∃ z, z = Expr.apply (C + hd) .cond (outsOf fs hd d) := ⟨_, rfl⟩
 rw [← hres]
 have HRES := Lib.hid hres
 have HN := Lib.hid hn
 have hn0 : 0 < n := by omega
 have HN1 := Lib.hid h1
 clear hT hd0 hcall hcall2 hou hou2 hct hW0 hres hn h0f h1
 go_enter Tryz.func102, Tryz.ntmps102
 go_upto_region 1 with fail
 rw [← HW0.out]
 refine wp_region_inv0 (fun V => { tmps := #[.agg #[.func (.func 102) #[] #[], .slice (some ⟨g, o, none⟩) n c], .agg #[.int .i64 dk, .int .i64 dn, .string ds, .slice da ba bc, .slice df fa fc, .slice dl la lc], .pointer (some ⟨w.heap.size, 0, none⟩), .pointer (some ⟨w.heap.size + 1, 0, none⟩), .pointer (some ⟨w.heap.size + 1 + 1, 0, none⟩), .int .i64 0, V 9, V 11, V 6, V 0, V 1, V 2, V 3, V 4, V 5, V 7, V 8, undef, undef, undef, undef, undef, undef, undef, undef, undef, undef, undef, undef, undef, undef, undef, undef, undef, undef, undef, undef, undef, undef], defers := [] }) (CI W0 [.pointer (some ⟨w.heap.size, 1, none⟩), .slice (some ⟨g, o, none⟩) n c, .pointer (some ⟨g, o, none⟩), .iface T rv, .agg #[.int .i64 dk, .int .i64 dn, .string ds, .slice da ba bc, .slice df fa fc, .slice dl la lc]] (.int .i64 ou.1) (H + hd) ou.2) (by kernel_rfl) (by kernel_rfl) (by kernel_rfl) (fun V => by kernel_rfl) ?_ CI.start ?_
 ·refine ⟨?_, ?_⟩
  ·refine inv_free rfl (fun D9 V w5 hDi hpre hI K hK => ?_)
   go_simp
   exact put_is (by kernel_rfl) (hK.out (.pointer (some ⟨w.heap.size, 1, none⟩)) w5 (hI.step (by decide) rfl))
  refine ⟨?_, ?_⟩
  ·refine inv_free rfl (fun D9 V w5 hDi hpre hI K hK => ?_)
   have e0 : V 0 = .pointer (some ⟨w.heap.size, 1, none⟩) := hI.known (by decide) (hpre.out 0 (by kernel_rfl))
   have hc1 := (HB.out.keep hI.below).c1
   go_simp
   exact put_is (by rw [e0]; kernel_rfl) (hK.out (.slice (some ⟨g, o, none⟩) n c) w5 (hI.step (by decide) rfl))
  refine ⟨?_, ?_⟩
  ·refine inv_free rfl (fun D9 V w5 hDi hpre hI K hK => ?_)
   have e1 : V 1 = .slice (some ⟨g, o, none⟩) n c := hI.known (by decide) (hpre.out 1 (by kernel_rfl))
   go_simp
   exact put_is (by rw [e1]; kernel_rfl) (hK.out (.pointer (some ⟨g, o, none⟩)) w5 (hI.step (by decide) rfl))
  refine ⟨?_, ?_⟩
  ·refine inv_free rfl (fun D9 V w5 hDi hpre hI K hK => ?_)
   have e2 : V 2 = .pointer (some ⟨g, o, none⟩) := hI.known (by decide) (hpre.out 2 (by kernel_rfl))
   have hct := cell_keep (HB.out.keep hI.below).below HCT.out
   go_simp
   exact put_is (by rw [e2]; kernel_rfl) (hK.out (.iface T rv) w5 (hI.step (by decide) rfl))
  refine ⟨?_, ?_⟩
  ·refine inv_free rfl (fun D9 V w5 hDi hpre hI K hK => ?_)
   obtain ⟨x0, x1, x2, x3, x4, x5⟩ := (HB.out.keep hI.below).doc.cells
   go_simp
   exact put_is (by kernel_rfl) (hK.out (.agg #[.int .i64 dk, .int .i64 dn, .string ds, .slice da ba bc, .slice df fa fc, .slice dl la lc]) w5 (hI.step (by decide) rfl))
  refine ⟨?_, ?_⟩
  ·refine inv_free rfl (fun D9 V w5 hDi hpre hI K hK => ?_)
   have e3 : V 3 = .iface T rv := hI.known (by decide) (hpre.out 3 (by kernel_rfl))
   have e4 : V 4 = .agg #[.int .i64 dk, .int .i64 dn, .string ds, .slice da ba bc, .slice df fa fc, .slice dl la lc] := hI.known (by decide) (hpre.out 4 (by kernel_rfl))
   have hbw := (HB.out.keep hI.below).below
   have CK := HCALL.out w5 hbw _ (VIn.keep hbw HD.out)
   go_simp
   refine CK.mono ?_
   rintro e w6 ⟨v6, rfl, hv6, hb6⟩
   exact put_is (by rw [e3, e4]; kernel_rfl) (hK.out (.tuple #[v6, .int .i64 ou.1]) w6 (hI.call hDi hb6 hv6))
  refine ⟨?_, ?_⟩
  ·refine inv_free rfl (fun D9 V w5 hDi hpre hI K hK => ?_)
   have h5 := hpre.out 5 (by kernel_rfl)
   go_simp
   exact put_is (by kernel_rfl) (hK.out (V 5) w5 (hI.moved h5))
  refine ⟨?_, ?_⟩
  ·refine inv_free rfl (fun D9 V w5 hDi hpre hI K hK => ?_)
   obtain ⟨v, e6, h7, -⟩ := hI.got (hpre.out 6 (by kernel_rfl))
   go_simp
   exact put_is (by rw [e6]; kernel_rfl) (hK.out v w5 h7)
  refine ⟨?_, ?_⟩
  ·refine inv_free rfl (fun D9 V w5 hDi hpre hI K hK => ?_)
   obtain ⟨v, e6, -, h8⟩ := hI.got (hpre.out 6 (by kernel_rfl))
   go_simp
   exact put_is (by rw [e6]; kernel_rfl) (hK.out (.int .i64 ou.1) w5 h8)
  refine ⟨?_, ?_⟩
  ·refine inv_free rfl (fun D9 V w5 hDi hpre hI K hK => ?_)
   go_simp
   exact put_is (by kernel_rfl) (hK.out (.pointer (some ⟨w5.heap.size, 0, none⟩)) _ (hI.made hDi))
  refine ⟨?_, ?_⟩
  ·refine inv_free rfl (fun D9 V w5 hDi hpre hI K hK => ?_)
   obtain ⟨p, k9, n9, s9, ba9, fa9, la9, bn9, bc9, fn9, fc9, ln9, lc9, e9, e7, hbx, h10⟩ := hI.kept (hpre.out 9 (by kernel_rfl)) (hpre.out 7 (by kernel_rfl)) hDi
   obtain ⟨z0, z1, z2, z3, z4, z5⟩ := hbx.cells
   obtain ⟨q0, q1, q2, q3, q4, q5⟩ := hbx.thaw
   go_simp
   exact put_is (by rw [e9, e7]; kernel_rfl) (hK.out undef _ h10)
  refine ⟨?_, ?_⟩
  ·refine inv_free rfl (fun D9 V w5 hDi hpre hI K hK => ?_)
   obtain ⟨e8, h11⟩ := hI.err (hpre.out 8 (by kernel_rfl))
   go_simp
   exact put_is (by rw [e8]; kernel_rfl) (hK.out (.int .i64 ou.1) w5 h11)
  trivial
 intro D9 V w9 hD9 hI9
 obtain ⟨p, k, m, s, b1, f1, l1, b2, b3, f2, f3, l2, l3, lo, hi, e9, e11, hbx, hv9, hlo, hhi, hp, hb9⟩ := hI9.end hD9
 rw [e9, e11]
 have HB9 := Lib.hid (HB.out.keep hb9)
 have HX9 := Lib.hid hbx
 have HV9 := Lib.hid hv9
 have HLO := Lib.hid (And.intro hlo (And.intro hhi hp))
 obtain ⟨r0, r1, r2, r3, r4, r5⟩ := HB9.out.res.cells
 obtain ⟨q0, q1, q2, q3, q4, q5⟩ := HB9.out.res.thaw
 obtain ⟨z0, z1, z2, z3, z4, z5⟩ := HX9.out.cells
 clear hI9 hD9 e9 e11 hbx hv9 hlo hhi hp hb9
 by_cases hz : ou.1 = 0
 ·rw [hz]
  have HZ := Lib.hid hz
  obtain ⟨e1, e2, -, -, -⟩ := HV9.out.top
  have CT := Lib.hid (true_any k m (.string s) (.slice b1 b2 b3) (.slice f1 f2 f3) (.slice l1 l2 l3) w9)
  obtain ⟨tb, htb⟩ : ∃ z, z = truthK k m := ⟨_, rfl⟩
  rw [← htb] at CT
  have HTB : Hid (tb = Expr.truth ou.2) := by show _ = _; rw [htb, e1, e2]; rfl
  clear e1 e2 htb hz
  go_wp2_with fail
  clear r0 r1 r2 r3 r4 r5 q0 q1 q2 q3 q4 q5 z0 z1 z2 z3 z4 z5
  refine CT.out.mono ?_
  rintro e w5 ⟨rfl, hb5⟩
  have HB5 := Lib.hid (HB9.out.keep hb5)
  clear hb5 CT HX9
  cases tb with
  | true =>
   go_upto_region 5 with fail
   have h1f : 1 < fs.length := by rw [HN.out, HN1.out]; omega
   obtain ⟨t1, hct1, T1, K1, rv1, rfl, hm1, hme1, hcall1⟩ := HT.out.more 1 h1f
   obtain ⟨ou1, hou1⟩ : ∃ z, z = Expr.outAt (outsOf fs hd d) 1 := ⟨_, rfl⟩
   have hcall2 := fun W hW => hcall1 W hW Q hd d
   rw [show fs[1] hd d = ou1 by rw [hou1, outAt_get fs hd d 1 h1f]] at hcall2
   have hn1 : 1 < n := by rw [HN1.out]; omega
   have hn1i : (1 : Int) < (n : Int) := by omega
   have HCT1 := Lib.hid hct1
   have HCALL1 := Lib.hid hcall2
   have hre : res = ou1 := by
    rw [HRES.out, Expr.apply_cond]
    unfold Expr.one
    rw [← HOU.out, if_pos HZ.out]
    dsimp only
    rw [if_pos HTB.out.symm]; exact hou1.symm
   have HRE := Lib.hid hre
   clear hcall1 hcall2 hou1 hct1 hre h1f
   refine wp_region_inv0 (fun Y => { tmps := #[.agg #[.func (.func 102) #[] #[], .slice (some ⟨g, o, none⟩) n c], .agg #[.int .i64 dk, .int .i64 dn, .string ds, .slice da ba bc, .slice df fa fc, .slice dl la lc], .pointer (some ⟨w.heap.size, 0, none⟩), .pointer (some ⟨w.heap.size + 1, 0, none⟩), .pointer (some ⟨w.heap.size + 1 + 1, 0, none⟩), Y 9, .pointer (some ⟨p, 0, none⟩), .int .i64 0, V 6, V 0, V 1, V 2, V 3, V 4, V 5, V 7, V 8, .int .i64 0, .bool false, undef, undef, .agg #[.int .i64 k, .int .i64 m, .string s, .slice b1 b2 b3, .slice f1 f2 f3, .slice l1 l2 l3], .bool true, Y 0, Y 1, Y 2, Y 3, Y 4, Y 5, Y 6, Y 7, undef, undef, undef, undef, undef, undef, undef, undef], defers := [] }) (DI w w5 (w.heap.size + 1 + 1) [.pointer (some ⟨w.heap.size, 1, none⟩), .slice (some ⟨g, o, none⟩) n c, .pointer (some ⟨g, o + 1, none⟩), .iface T1 rv1, .agg #[.int .i64 dk, .int .i64 dn, .string ds, .slice da ba bc, .slice df fa fc, .slice dl la lc]] (.int .i64 ou1.1) (H + hd) ou1.2) (by kernel_rfl) (by kernel_rfl) (by kernel_rfl) (fun V => by kernel_rfl) ?_ (DI.start HB5.out.below) ?_
   ·refine ⟨?_, ?_⟩
    ·refine inv_free rfl (fun D9 Y w7 hDi hpre hI K hK => ?_)
     go_simp
     exact put_is (by kernel_rfl) (hK.out (.pointer (some ⟨w.heap.size, 1, none⟩)) w7 (hI.step (by decide) rfl))
    refine ⟨?_, ?_⟩
    ·refine inv_free rfl (fun D9 Y w7 hDi hpre hI K hK => ?_)
     have e0 : Y 0 = .pointer (some ⟨w.heap.size, 1, none⟩) := hI.known (by decide) (hpre.out 0 (by kernel_rfl))
     have hsz5 := HB5.out.size
     have hc1 := (World.cell?_of_block (a := ⟨w.heap.size, 1, none⟩) (hI.old (g := w.heap.size) (by omega) (by omega))).trans HB5.out.c1
     go_simp
     exact put_is (by rw [e0]; kernel_rfl) (hK.out (.slice (some ⟨g, o, none⟩) n c) w7 (hI.step (by decide) rfl))
    refine ⟨?_, ?_⟩
    ·refine inv_free rfl (fun D9 Y w7 hDi hpre hI K hK => ?_)
     have e1 : Y 1 = .slice (some ⟨g, o, none⟩) n c := hI.known (by decide) (hpre.out 1 (by kernel_rfl))
     go_simp
     exact put_is (by rw [e1]; kernel_rfl) (hK.out (.pointer (some ⟨g, o + 1, none⟩)) w7 (hI.step (by decide) rfl))
    refine ⟨?_, ?_⟩
    ·refine inv_free rfl (fun D9 Y w7 hDi hpre hI K hK => ?_)
     have e2 : Y 2 = .pointer (some ⟨g, o + 1, none⟩) := hI.known (by decide) (hpre.out 2 (by kernel_rfl))
     have hct := cell_keep hI.below HCT1.out
     go_simp
     exact put_is (by rw [e2]; kernel_rfl) (hK.out (.iface T1 rv1) w7 (hI.step (by decide) rfl))
    refine ⟨?_, ?_⟩
    ·refine inv_free rfl (fun D9 Y w7 hDi hpre hI K hK => ?_)
     have hsz5 := HB5.out.size
     obtain ⟨x0, x1, x2, x3, x4, x5⟩ := (show IsBox w7 (w.heap.size + 1) (.int .i64 dk) (.int .i64 dn) (.string ds) (.slice da ba bc) (.slice df fa fc) (.slice dl la lc) from (hI.old (g := w.heap.size + 1) (by omega) (by omega)).trans HB5.out.doc).cells
     go_simp
     exact put_is (by kernel_rfl) (hK.out (.agg #[.int .i64 dk, .int .i64 dn, .string ds, .slice da ba bc, .slice df fa fc, .slice dl la lc]) w7 (hI.step (by decide) rfl))
    refine ⟨?_, ?_⟩
    ·refine inv_free rfl (fun D9 Y w7 hDi hpre hI K hK => ?_)
     have d3 := hpre.out 3 (by kernel_rfl)
     have d4 := hpre.out 4 (by kernel_rfl)
     have e3 : Y 3 = .iface T1 rv1 := hI.known (by decide) d3
     have e4 : Y 4 = .agg #[.int .i64 dk, .int .i64 dn, .string ds, .slice da ba bc, .slice df fa fc, .slice dl la lc] := hI.known (by decide) d4
     have CK := HCALL1.out w7 hI.below _ (VIn.keep hI.below HD.out)
     go_simp
     refine CK.mono ?_
     rintro e w8 ⟨v8, rfl, hv8, hb8⟩
     exact put_is (by rw [e3, e4]; kernel_rfl) (hK.out (.tuple #[v8, .int .i64 ou1.1]) w8 (hI.call hDi hb8 hv8))
    refine ⟨?_, ?_⟩
    ·refine inv_free rfl (fun D9 Y w7 hDi hpre hI K hK => ?_)
     obtain ⟨v, e6, h7, -⟩ := hI.got (hpre.out 5 (by kernel_rfl))
     go_simp
     exact put_is (by rw [e6]; kernel_rfl) (hK.out v w7 h7)
    refine ⟨?_, ?_⟩
    ·refine inv_free rfl (fun D9 Y w7 hDi hpre hI K hK => ?_)
     obtain ⟨v, e6, -, h8⟩ := hI.got (hpre.out 5 (by kernel_rfl))
     go_simp
     exact put_is (by rw [e6]; kernel_rfl) (hK.out (.int .i64 ou1.1) w7 h8)
    refine ⟨?_, ?_⟩
    ·refine inv_free rfl (fun D9 Y w7 hDi hpre hI K hK => ?_)
     obtain ⟨k9, n9, s9, ba9, fa9, la9, bn9, bc9, fn9, fc9, ln9, lc9, e7, hbx, h10⟩ := hI.kept (by omega) (by have := HB5.out.size; omega) (fun W hW => (HB5.out.keep hW).res) (hpre.out 6 (by kernel_rfl)) hDi
     obtain ⟨z0, z1, z2, z3, z4, z5⟩ := hbx.cells
     obtain ⟨q0, q1, q2, q3, q4, q5⟩ := hbx.thaw
     go_simp
     exact put_is (by rw [e7]; kernel_rfl) (hK.out undef _ h10)
    refine ⟨?_, ?_⟩
    ·refine inv_free rfl (fun D9 Y w7 hDi hpre hI K hK => ?_)
     obtain ⟨e8, h11⟩ := hI.err (hpre.out 7 (by kernel_rfl))
     go_simp
     exact put_is (by rw [e8]; kernel_rfl) (hK.out (.int .i64 ou1.1) w7 h11)
    trivial
   intro D9 Y w8 hD9 hI9
   obtain ⟨k9, n9, s9, ba9, fa9, la9, bn9, bc9, fn9, fc9, ln9, lc9, lo9, hi9, e9, hbx, hv9, hlo9, hb9⟩ := hI9.end hD9
   rw [e9]
   obtain ⟨x0, x1, x2, x3, x4, x5⟩ := hbx.cells
   have HEND : Hid (VIn w8 (fun g => w.heap.size ≤ g) (H + hd + 1) ou1.2 (.agg #[.int .i64 k9, .int .i64 n9, .string s9, .slice ba9 bn9 bc9, .slice fa9 fn9 fc9, .slice la9 ln9 lc9]) ∧ Below w.heap.size w w8) :=
    ⟨(hv9.kept (Kept.of_below (Below.refl _ _)) (fun g hg => by have := HB5.out.below.size; omega)).up (Nat.le_succ _), hb9⟩
   clear hI9 hD9 e9 hv9 hlo9 hb9 hm1 hme1
   go_wp2_with fail
   exact bodyPost_ret (v := .tuple #[.agg #[.int .i64 k9, .int .i64 n9, .string s9, .slice ba9 bn9 bc9, .slice fa9 fn9 fc9, .slice la9 ln9 lc9], .int .i64 ou1.1]) (by simp [results, Tryz.results102, go_sem, *]) rfl ⟨_, by rw [HRE.out], by rw [HRE.out]; exact HEND.out.1, HEND.out.2⟩
  | false =>
   go_upto_region 6 with fail
   have h1f : 2 < fs.length := by rw [HN.out, HN1.out]; omega
   obtain ⟨t1, hct1, T1, K1, rv1, rfl, hm1, hme1, hcall1⟩ := HT.out.more 2 h1f
   obtain ⟨ou1, hou1⟩ : ∃ z, z = Expr.outAt (outsOf fs hd d) 2 := ⟨_, rfl⟩
   have hcall2 := fun W hW => hcall1 W hW Q hd d
   rw [show fs[2] hd d = ou1 by rw [hou1, outAt_get fs hd d 2 h1f]] at hcall2
   have hn1 : 2 < n := by rw [HN1.out]; omega
   have hn1i : (2 : Int) < (n : Int) := by omega
   have HCT1 := Lib.hid hct1
   have HCALL1 := Lib.hid hcall2
   have hre : res = ou1 := by
    rw [HRES.out, Expr.apply_cond]
    unfold Expr.one
    rw [← HOU.out, if_pos HZ.out]
    dsimp only
    rw [if_neg (by rw [← HTB.out]; decide)]; exact hou1.symm
   have HRE := Lib.hid hre
   clear hcall1 hcall2 hou1 hct1 hre h1f
   refine wp_region_inv0 (fun Y => { tmps := #[.agg #[.func (.func 102) #[] #[], .slice (some ⟨g, o, none⟩) n c], .agg #[.int .i64 dk, .int .i64 dn, .string ds, .slice da ba bc, .slice df fa fc, .slice dl la lc], .pointer (some ⟨w.heap.size, 0, none⟩), .pointer (some ⟨w.heap.size + 1, 0, none⟩), .pointer (some ⟨w.heap.size + 1 + 1, 0, none⟩), Y 9, .pointer (some ⟨p, 0, none⟩), .int .i64 0, V 6, V 0, V 1, V 2, V 3, V 4, V 5, V 7, V 8, .int .i64 0, .bool false, undef, undef, .agg #[.int .i64 k, .int .i64 m, .string s, .slice b1 b2 b3, .slice f1 f2 f3, .slice l1 l2 l3], .bool false, undef, undef, undef, undef, undef, undef, undef, undef, Y 0, Y 1, Y 2, Y 3, Y 4, Y 5, Y 6, Y 7], defers := [] }) (DI w w5 (w.heap.size + 1 + 1) [.pointer (some ⟨w.heap.size, 1, none⟩), .slice (some ⟨g, o, none⟩) n c, .pointer (some ⟨g, o + 2, none⟩), .iface T1 rv1, .agg #[.int .i64 dk, .int .i64 dn, .string ds, .slice da ba bc, .slice df fa fc, .slice dl la lc]] (.int .i64 ou1.1) (H + hd) ou1.2) (by kernel_rfl) (by kernel_rfl) (by kernel_rfl) (fun V => by kernel_rfl) ?_ (DI.start HB5.out.below) ?_
   ·refine ⟨?_, ?_⟩
    ·refine inv_free rfl (fun D9 Y w7 hDi hpre hI K hK => ?_)
     go_simp
     exact put_is (by kernel_rfl) (hK.out (.pointer (some ⟨w.heap.size, 1, none⟩)) w7 (hI.step (by decide) rfl))
    refine ⟨?_, ?_⟩
    ·refine inv_free rfl (fun D9 Y w7 hDi hpre hI K hK => ?_)
     have e0 : Y 0 = .pointer (some ⟨w.heap.size, 1, none⟩) := hI.known (by decide) (hpre.out 0 (by kernel_rfl))
     have hsz5 := HB5.out.size
     have hc1 := (World.cell?_of_block (a := ⟨w.heap.size, 1, none⟩) (hI.old (g := w.heap.size) (by omega) (by omega))).trans HB5.out.c1
     go_simp
     exact put_is (by rw [e0]; kernel_rfl) (hK.out (.slice (some ⟨g, o, none⟩) n c) w7 (hI.step (by decide) rfl))
    refine ⟨?_, ?_⟩
    ·refine inv_free rfl (fun D9 Y w7 hDi hpre hI K hK => ?_)
     have e1 : Y 1 = .slice (some ⟨g, o, none⟩) n c := hI.known (by decide) (hpre.out 1 (by kernel_rfl))
     go_simp
     exact put_is (by rw [e1]; kernel_rfl) (hK.out (.pointer (some ⟨g, o + 2, none⟩)) w7 (hI.step (by decide) rfl))
    refine ⟨?_, ?_⟩
    ·refine inv_free rfl (fun D9 Y w7 hDi hpre hI K hK => ?_)
     have e2 : Y 2 = .pointer (some ⟨g, o + 2, none⟩) := hI.known (by decide) (hpre.out 2 (by kernel_rfl))
     have hct := cell_keep hI.below HCT1.out
     go_simp
     exact put_is (by rw [e2]; kernel_rfl) (hK.out (.iface T1 rv1) w7 (hI.step (by decide) rfl))
    refine ⟨?_, ?_⟩
    ·refine inv_free rfl (fun D9 Y w7 hDi hpre hI K hK => ?_)
     have hsz5 := HB5.out.size
     obtain ⟨x0, x1, x2, x3, x4, x5⟩ := (show IsBox w7 (w.heap.size + 1) (.int .i64 dk) (.int .i64 dn) (.string ds) (.slice da ba bc) (.slice df fa fc) (.slice dl la lc) from (hI.old (g := w.heap.size + 1) (by omega) (by omega)).trans HB5.out.doc).cells
     go_simp
     exact put_is (by kernel_rfl) (hK.out (.agg #[.int .i64 dk, .int .i64 dn, .string ds, .slice da ba bc, .slice df fa fc, .slice dl la lc]) w7 (hI.step (by decide) rfl))
    refine ⟨?_, ?_⟩
    ·refine inv_free rfl (fun D9 Y w7 hDi hpre hI K hK => ?_)
     have d3 := hpre.out 3 (by kernel_rfl)
     have d4 := hpre.out 4 (by kernel_rfl)
     have e3 : Y 3 = .iface T1 rv1 := hI.known (by decide) d3
     have e4 : Y 4 = .agg #[.int .i64 dk, .int .i64 dn, .string ds, .slice da ba bc, .slice df fa fc, .slice dl la lc] := hI.known (by decide) d4
     have CK := HCALL1.out w7 hI.below _ (VIn.keep hI.below HD.out)
     go_simp
     refine CK.mono ?_
     rintro e w8 ⟨v8, rfl, hv8, hb8⟩
     exact put_is (by rw [e3, e4]; kernel_rfl) (hK.out (.tuple #[v8, .int .i64 ou1.1]) w8 (hI.call hDi hb8 hv8))
    refine ⟨?_, ?_⟩
    ·refine inv_free rfl (fun D9 Y w7 hDi hpre hI K hK => ?_)
     obtain ⟨v, e6, h7, -⟩ := hI.got (hpre.out 5 (by kernel_rfl))
     go_simp
     exact put_is (by rw [e6]; kernel_rfl) (hK.out v w7 h7)
    refine ⟨?_, ?_⟩
    ·refine inv_free rfl (fun D9 Y w7 hDi hpre hI K hK => ?_)
     obtain ⟨v, e6, -, h8⟩ := hI.got (hpre.out 5 (by kernel_rfl))
     go_simp
     exact put_is (by rw [e6]; kernel_rfl) (hK.out (.int .i64 ou1.1) w7 h8)
    refine ⟨?_, ?_⟩
    ·refine inv_free rfl (fun D9 Y w7 hDi hpre hI K hK => ?_)
     obtain ⟨k9, n9, s9, ba9, fa9, la9, bn9, bc9, fn9, fc9, ln9, lc9, e7, hbx, h10⟩ := hI.kept (by omega) (by have := HB5.out.size; omega) (fun W hW => (HB5.out.keep hW).res) (hpre.out 6 (by kernel_rfl)) hDi
     obtain ⟨z0, z1, z2, z3, z4, z5⟩ := hbx.cells
     obtain ⟨q0, q1, q2, q3, q4, q5⟩ := hbx.thaw
     go_simp
     exact put_is (by rw [e7]; kernel_rfl) (hK.out undef _ h10)
    refine ⟨?_, ?_⟩
    ·refine inv_free rfl (fun D9 Y w7 hDi hpre hI K hK => ?_)
     obtain ⟨e8, h11⟩ := hI.err (hpre.out 7 (by kernel_rfl))
     go_simp
     exact put_is (by rw [e8]; kernel_rfl) (hK.out (.int .i64 ou1.1) w7 h11)
    trivial
   intro D9 Y w8 hD9 hI9
   obtain ⟨k9, n9, s9, ba9, fa9, la9, bn9, bc9, fn9, fc9, ln9, lc9, lo9, hi9, e9, hbx, hv9, hlo9, hb9⟩ := hI9.end hD9
   rw [e9]
   obtain ⟨x0, x1, x2, x3, x4, x5⟩ := hbx.cells
   have HEND : Hid (VIn w8 (fun g => w.heap.size ≤ g) (H + hd + 1) ou1.2 (.agg #[.int .i64 k9, .int .i64 n9, .string s9, .slice ba9 bn9 bc9, .slice fa9 fn9 fc9, .slice la9 ln9 lc9]) ∧ Below w.heap.size w w8) :=
    ⟨(hv9.kept (Kept.of_below (Below.refl _ _)) (fun g hg => by have := HB5.out.below.size; omega)).up (Nat.le_succ _), hb9⟩
   clear hI9 hD9 e9 hv9 hlo9 hb9 hm1 hme1
   go_wp2_with fail
   exact bodyPost_ret (v := .tuple #[.agg #[.int .i64 k9, .int .i64 n9, .string s9, .slice ba9 bn9 bc9, .slice fa9 fn9 fc9, .slice la9 ln9 lc9], .int .i64 ou1.1]) (by simp [results, Tryz.results102, go_sem, *]) rfl ⟨_, by rw [HRE.out], by rw [HRE.out]; exact HEND.out.1, HEND.out.2⟩
 ·have hz2 : (ou.1 == 0) = false := by rw [beq_eq_false_iff_ne]; exact hz
  have hre : res = (ou.1, Bson.zero) := by
   rw [HRES.out]
   rw [Expr.apply_cond]
   unfold Expr.one
   rw [← HOU.out, if_neg hz]; rfl
  have HRE := Lib.hid hre
  have HEND := Lib.hid (below_six HB9.out.below (by omega : w.heap.size ≤ w.heap.size + 1 + 1) (.int .i64 0) (.int .i64 0) (.string ⟨#[]⟩) (.slice none 0 0) (.slice none 0 0) (.slice none 0 0))
  clear hz hre
  go_wp2_with fail
  exact bodyPost_ret (v := .tuple #[.agg #[.int .i64 0, .int .i64 0, .string ⟨#[]⟩, .slice none 0 0, .slice none 0 0, .slice none 0 0], .int .i64 ou.1]) (by simp [results, Tryz.results102, go_sem, *]) rfl ⟨_, by rw [HRE.out], by rw [HRE.out]; exact (zero_in _ _).up (by omega), HEND.out⟩
theorem op_ifNull_any (H hd C : Nat) (a : Option Addr) (n c : Nat) (fs : List (Nat → Val → Expr.Out)) (Q : Nat → Prop) (d : Val) (dv : Value) (w : World) (hn : fs.length = n) (h1 : n = 2) (hT : TermsIn w a H fs) (hd0 : VIn w Q (hd + 1) d dv) :
  Calls Tryz.prog 103 #[.agg #[.func (.func 103) #[] #[], .slice a n c], dv] w (EvPost w (H + hd + 1) (Expr.apply (C + hd) .ifNull (outsOf fs hd d))) := by
 obtain ⟨dk, dn, ds, da, df, dl, ba, bc, fa, fc, la, lc, rfl⟩ := hd0.shape
 have h0f : 0 < fs.length := by omega
 obtain ⟨g, o, t, rfl, hct, T, K, rv, rfl, hm, hme, hcall⟩ := hT.at 0 h0f
 rw [Nat.add_zero] at hct
 obtain ⟨ou, hou⟩ : ∃ z, z = Expr.outAt (outsOf fs hd d) 0 := ⟨_, rfl⟩
 have hou2 : fs[0] hd d = ou := by rw [hou, outAt_get fs hd d 0 h0f]
 have hcall2 := fun W hW => hcall W hW Q hd d
 rw [hou2] at hcall2
 obtain ⟨W0, hW0⟩ : ∃ W0, W0 = ((w.alloc (.cells #[(.func (.func 103) #[] #[]), .slice (some ⟨g, o, none⟩) n c] 126)).alloc (.cells #[.int .i64 dk, .int .i64 dn, .string ds, .slice da ba bc, .slice df fa fc, .slice dl la lc] 26)).alloc (.cells #[.int .i64 0, .int .i64 0, .string ⟨#[]⟩, .slice none 0 0, .slice none 0 0, .slice none 0 0] 26) := ⟨_, rfl⟩
 have HB := Lib.hid (CB.new w (.func (.func 103) #[] #[]) (some ⟨g, o, none⟩) n c (.int .i64 dk) (.int .i64 dn) (.string ds) (.slice da ba bc) (.slice df fa fc) (.slice dl la lc) W0 hW0)
 have HW0 := Lib.hid hW0
 have HT := Lib.hid hT
 have HD := Lib.hid hd0
 have HOU := Lib.hid hou
 have HCT := Lib.hid hct
 have HCALL := Lib.hid hcall2
 obtain ⟨res, hres⟩ : ∃ z, z = Expr.apply (C + hd) .ifNull (outsOf fs hd d) := ⟨_, rfl⟩
 rw [← hres]
 have HRES := Lib.hid hres
 have HN := Lib.hid hn
 have hn0 : 0 < n := by omega
 have HN1 := Lib.hid h1
 clear hT hd0 hcall hcall2 hou hou2 hct hW0 hres hn h0f h1
 go_enter Tryz.func103, Tryz.ntmps103
 go_upto_region 1 with fail
 rw [← HW0.out]
 refine wp_region_inv0 (fun V => { tmps := #[.agg #[.func (.func 103) #[] #[], .slice (some ⟨g, o, none⟩) n c], .agg #[.int .i64 dk, .int .i64 dn, .string ds, .slice da ba bc, .slice df fa fc, .slice dl la lc], .pointer (some ⟨w.heap.size, 0, none⟩), .pointer (some ⟨w.heap.size + 1, 0, none⟩), .pointer (some ⟨w.heap.size + 1 + 1, 0, none⟩), .int .i64 0, V 9, V 11, V 6, V 0, V 1, V 2, V 3, V 4, V 5, V 7, V 8, undef, undef, undef, undef, undef, undef, undef, undef, undef, undef, undef, undef, undef, undef, undef], defers := [] }) (CI W0 [.pointer (some ⟨w.heap.size, 1, none⟩), .slice (some ⟨g, o, none⟩) n c, .pointer (some ⟨g, o, none⟩), .iface T rv, .agg #[.int .i64 dk, .int .i64 dn, .string ds, .slice da ba bc, .slice df fa fc, .slice dl la lc]] (.int .i64 ou.1) (H + hd) ou.2) (by kernel_rfl) (by kernel_rfl) (by kernel_rfl) (fun V => by kernel_rfl) ?_ CI.start ?_
 ·refine ⟨?_, ?_⟩
  ·refine inv_free rfl (fun D9 V w5 hDi hpre hI K hK => ?_)
   go_simp
   exact put_is (by kernel_rfl) (hK.out (.pointer (some ⟨w.heap.size, 1, none⟩)) w5 (hI.step (by decide) rfl))
  refine ⟨?_, ?_⟩
  ·refine inv_free rfl (fun D9 V w5 hDi hpre hI K hK => ?_)
   have e0 : V 0 = .pointer (some ⟨w.heap.size, 1, none⟩) := hI.known (by decide) (hpre.out 0 (by kernel_rfl))
   have hc1 := (HB.out.keep hI.below).c1
   go_simp
   exact put_is (by rw [e0]; kernel_rfl) (hK.out (.slice (some ⟨g, o, none⟩) n c) w5 (hI.step (by decide) rfl))
  refine ⟨?_, ?_⟩
  ·refine inv_free rfl (fun D9 V w5 hDi hpre hI K hK => ?_)
   have e1 : V 1 = .slice (some ⟨g, o, none⟩) n c := hI.known (by decide) (hpre.out 1 (by kernel_rfl))
   go_simp
   exact put_is (by rw [e1]; kernel_rfl) (hK.out (.pointer (some ⟨g, o, none⟩)) w5 (hI.step (by decide) rfl))
  refine ⟨?_, ?_⟩
  ·refine inv_free rfl (fun D9 V w5 hDi hpre hI K hK => ?_)
   have e2 : V 2 = .pointer (some ⟨g, o, none⟩) := hI.known (by decide) (hpre.out 2 (by kernel_rfl))
   have hct := cell_keep (HB.out.keep hI.below).below HCT.out
   go_simp
   exact put_is (by rw [e2]; kernel_rfl) (hK.out (.iface T rv) w5 (hI.step (by decide) rfl))
  refine ⟨?_, ?_⟩
  ·refine inv_free rfl (fun D9 V w5 hDi hpre hI K hK => ?_)
   obtain ⟨x0, x1, x2, x3, x4, x5⟩ := (HB.out.keep hI.below).doc.cells
   go_simp
   exact put_is (by kernel_rfl) (hK.out (.agg #[.int .i64 dk, .int .i64 dn, .string ds, .slice da ba bc, .slice df fa fc, .slice dl la lc]) w5 (hI.step (by decide) rfl))
  refine ⟨?_, ?_⟩
  ·refine inv_free rfl (fun D9 V w5 hDi hpre hI K hK => ?_)
   have e3 : V 3 = .iface T rv := hI.known (by decide) (hpre.out 3 (by kernel_rfl))
   have e4 : V 4 = .agg #[.int .i64 dk, .int .i64 dn, .string ds, .slice da ba bc, .slice df fa fc, .slice dl la lc] := hI.known (by decide) (hpre.out 4 (by kernel_rfl))
   have hbw := (HB.out.keep hI.below).below
   have CK := HCALL.out w5 hbw _ (VIn.keep hbw HD.out)
   go_simp
   refine CK.mono ?_
   rintro e w6 ⟨v6, rfl, hv6, hb6⟩
   exact put_is (by rw [e3, e4]; kernel_rfl) (hK.out (.tuple #[v6, .int .i64 ou.1]) w6 (hI.call hDi hb6 hv6))
  refine ⟨?_, ?_⟩
  ·refine inv_free rfl (fun D9 V w5 hDi hpre hI K hK => ?_)
   have h5 := hpre.out 5 (by kernel_rfl)
   go_simp
   exact put_is (by kernel_rfl) (hK.out (V 5) w5 (hI.moved h5))
  refine ⟨?_, ?_⟩
  ·refine inv_free rfl (fun D9 V w5 hDi hpre hI K hK => ?_)
   obtain ⟨v, e6, h7, -⟩ := hI.got (hpre.out 6 (by kernel_rfl))
   go_simp
   exact put_is (by rw [e6]; kernel_rfl) (hK.out v w5 h7)
  refine ⟨?_, ?_⟩
  ·refine inv_free rfl (fun D9 V w5 hDi hpre hI K hK => ?_)
   obtain ⟨v, e6, -, h8⟩ := hI.got (hpre.out 6 (by kernel_rfl))
   go_simp
   exact put_is (by rw [e6]; kernel_rfl) (hK.out (.int .i64 ou.1) w5 h8)
  refine ⟨?_, ?_⟩
  ·refine inv_free rfl (fun D9 V w5 hDi hpre hI K hK => ?_)
   go_simp
   exact put_is (by kernel_rfl) (hK.out (.pointer (some ⟨w5.heap.size, 0, none⟩)) _ (hI.made hDi))
  refine ⟨?_, ?_⟩
  ·refine inv_free rfl (fun D9 V w5 hDi hpre hI K hK => ?_)
   obtain ⟨p, k9, n9, s9, ba9, fa9, la9, bn9, bc9, fn9, fc9, ln9, lc9, e9, e7, hbx, h10⟩ := hI.kept (hpre.out 9 (by kernel_rfl)) (hpre.out 7 (by kernel_rfl)) hDi
   obtain ⟨z0, z1, z2, z3, z4, z5⟩ := hbx.cells
   obtain ⟨q0, q1, q2, q3, q4, q5⟩ := hbx.thaw
   go_simp
   exact put_is (by rw [e9, e7]; kernel_rfl) (hK.out undef _ h10)
  refine ⟨?_, ?_⟩
  ·refine inv_free rfl (fun D9 V w5 hDi hpre hI K hK => ?_)
   obtain ⟨e8, h11⟩ := hI.err (hpre.out 8 (by kernel_rfl))
   go_simp
   exact put_is (by rw [e8]; kernel_rfl) (hK.out (.int .i64 ou.1) w5 h11)
  trivial
 intro D9 V w9 hD9 hI9
 obtain ⟨p, k, m, s, b1, f1, l1, b2, b3, f2, f3, l2, l3, lo, hi, e9, e11, hbx, hv9, hlo, hhi, hp, hb9⟩ := hI9.end hD9
 rw [e9, e11]
 have HB9 := Lib.hid (HB.out.keep hb9)
 have HX9 := Lib.hid hbx
 have HV9 := Lib.hid hv9
 have HLO := Lib.hid (And.intro hlo (And.intro hhi hp))
 obtain ⟨r0, r1, r2, r3, r4, r5⟩ := HB9.out.res.cells
 obtain ⟨q0, q1, q2, q3, q4, q5⟩ := HB9.out.res.thaw
 obtain ⟨z0, z1, z2, z3, z4, z5⟩ := HX9.out.cells
 clear hI9 hD9 e9 e11 hbx hv9 hlo hhi hp hb9
 by_cases hz : ou.1 = 0
 ·rw [hz]
  have HZ := Lib.hid hz
  obtain ⟨e1, -, -, -, -⟩ := HV9.out.top
  have CT := Lib.hid (isNothing_any k m (.string s) (.slice b1 b2 b3) (.slice f1 f2 f3) (.slice l1 l2 l3) w9)
  obtain ⟨tb, htb⟩ : ∃ z, z = noneB k := ⟨_, rfl⟩
  rw [← htb] at CT
  have HTB : Hid (tb = noneB ou.2.kind) := by show _ = _; rw [htb, e1]
  clear e1 htb hz
  go_wp2_with fail
  clear r0 r1 r2 r3 r4 r5 q0 q1 q2 q3 q4 q5 z0 z1 z2 z3 z4 z5
  refine CT.out.mono ?_
  rintro e w5 ⟨rfl, hb5⟩
  have HB5 := Lib.hid (HB9.out.keep hb5)
  have HX5 := Lib.hid (HX9.out.keep hb5)
  have HV5 := Lib.hid (HV9.out.keep hb5)
  clear hb5 CT HX9
  cases tb with
  | true =>
   go_upto_region 5 with fail
   have h1f : 1 < fs.length := by rw [HN.out, HN1.out]; omega
   obtain ⟨t1, hct1, T1, K1, rv1, rfl, hm1, hme1, hcall1⟩ := HT.out.more 1 h1f
   obtain ⟨ou1, hou1⟩ : ∃ z, z = Expr.outAt (outsOf fs hd d) 1 := ⟨_, rfl⟩
   have hcall2 := fun W hW => hcall1 W hW Q hd d
   rw [show fs[1] hd d = ou1 by rw [hou1, outAt_get fs hd d 1 h1f]] at hcall2
   have hn1 : 1 < n := by rw [HN1.out]; omega
   have hn1i : (1 : Int) < (n : Int) := by omega
   have HCT1 := Lib.hid hct1
   have HCALL1 := Lib.hid hcall2
   have hre : res = ou1 := by
    rw [HRES.out, Expr.apply_ifNull]
    unfold Expr.one
    rw [← HOU.out, if_pos HZ.out]
    dsimp only
    rw [if_pos HTB.out.symm]; exact hou1.symm
   have HRE := Lib.hid hre
   clear hcall1 hcall2 hou1 hct1 hre h1f
   refine wp_region_inv0 (fun Y => { tmps := #[.agg #[.func (.func 103) #[] #[], .slice (some ⟨g, o, none⟩) n c], .agg #[.int .i64 dk, .int .i64 dn, .string ds, .slice da ba bc, .slice df fa fc, .slice dl la lc], .pointer (some ⟨w.heap.size, 0, none⟩), .pointer (some ⟨w.heap.size + 1, 0, none⟩), .pointer (some ⟨w.heap.size + 1 + 1, 0, none⟩), Y 9, .pointer (some ⟨p, 0, none⟩), .int .i64 0, V 6, V 0, V 1, V 2, V 3, V 4, V 5, V 7, V 8, .int .i64 0, .bool false, undef, undef, .agg #[.int .i64 k, .int .i64 m, .string s, .slice b1 b2 b3, .slice f1 f2 f3, .slice l1 l2 l3], .bool true, Y 0, Y 1, Y 2, Y 3, Y 4, Y 5, Y 6, Y 7, undef], defers := [] }) (DI w w5 (w.heap.size + 1 + 1) [.pointer (some ⟨w.heap.size, 1, none⟩), .slice (some ⟨g, o, none⟩) n c, .pointer (some ⟨g, o + 1, none⟩), .iface T1 rv1, .agg #[.int .i64 dk, .int .i64 dn, .string ds, .slice da ba bc, .slice df fa fc, .slice dl la lc]] (.int .i64 ou1.1) (H + hd) ou1.2) (by kernel_rfl) (by kernel_rfl) (by kernel_rfl) (fun V => by kernel_rfl) ?_ (DI.start HB5.out.below) ?_
   ·refine ⟨?_, ?_⟩
    ·refine inv_free rfl (fun D9 Y w7 hDi hpre hI K hK => ?_)
     go_simp
     exact put_is (by kernel_rfl) (hK.out (.pointer (some ⟨w.heap.size, 1, none⟩)) w7 (hI.step (by decide) rfl))
    refine ⟨?_, ?_⟩
    ·refine inv_free rfl (fun D9 Y w7 hDi hpre hI K hK => ?_)
     have e0 : Y 0 = .pointer (some ⟨w.heap.size, 1, none⟩) := hI.known (by decide) (hpre.out 0 (by kernel_rfl))
     have hsz5 := HB5.out.size
     have hc1 := (World.cell?_of_block (a := ⟨w.heap.size, 1, none⟩) (hI.old (g := w.heap.size) (by omega) (by omega))).trans HB5.out.c1
     go_simp
     exact put_is (by rw [e0]; kernel_rfl) (hK.out (.slice (some ⟨g, o, none⟩) n c) w7 (hI.step (by decide) rfl))
    refine ⟨?_, ?_⟩
    ·refine inv_free rfl (fun D9 Y w7 hDi hpre hI K hK => ?_)
     have e1 : Y 1 = .slice (some ⟨g, o, none⟩) n c := hI.known (by decide) (hpre.out 1 (by kernel_rfl))
     go_simp
     exact put_is (by rw [e1]; kernel_rfl) (hK.out (.pointer (some ⟨g, o + 1, none⟩)) w7 (hI.step (by decide) rfl))
    refine ⟨?_, ?_⟩
    ·refine inv_free rfl (fun D9 Y w7 hDi hpre hI K hK => ?_)
     have e2 : Y 2 = .pointer (some ⟨g, o + 1, none⟩) := hI.known (by decide) (hpre.out 2 (by kernel_rfl))
     have hct := cell_keep hI.below HCT1.out
     go_simp
     exact put_is (by rw [e2]; kernel_rfl) (hK.out (.iface T1 rv1) w7 (hI.step (by decide) rfl))
    refine ⟨?_, ?_⟩
    ·refine inv_free rfl (fun D9 Y w7 hDi hpre hI K hK => ?_)
     have hsz5 := HB5.out.size
     obtain ⟨x0, x1, x2, x3, x4, x5⟩ := (show IsBox w7 (w.heap.size + 1) (.int .i64 dk) (.int .i64 dn) (.string ds) (.slice da ba bc) (.slice df fa fc) (.slice dl la lc) from (hI.old (g := w.heap.size + 1) (by omega) (by omega)).trans HB5.out.doc).cells
     go_simp
     exact put_is (by kernel_rfl) (hK.out (.agg #[.int .i64 dk, .int .i64 dn, .string ds, .slice da ba bc, .slice df fa fc, .slice dl la lc]) w7 (hI.step (by decide) rfl))
    refine ⟨?_, ?_⟩
    ·refine inv_free rfl (fun D9 Y w7 hDi hpre hI K hK => ?_)
     have d3 := hpre.out 3 (by kernel_rfl)
     have d4 := hpre.out 4 (by kernel_rfl)
     have e3 : Y 3 = .iface T1 rv1 := hI.known (by decide) d3
     have e4 : Y 4 = .agg #[.int .i64 dk, .int .i64 dn, .string ds, .slice da ba bc, .slice df fa fc, .slice dl la lc] := hI.known (by decide) d4
     have CK := HCALL1.out w7 hI.below _ (VIn.keep hI.below HD.out)
     go_simp
     refine CK.mono ?_
     rintro e w8 ⟨v8, rfl, hv8, hb8⟩
     exact put_is (by rw [e3, e4]; kernel_rfl) (hK.out (.tuple #[v8, .int .i64 ou1.1]) w8 (hI.call hDi hb8 hv8))
    refine ⟨?_, ?_⟩
    ·refine inv_free rfl (fun D9 Y w7 hDi hpre hI K hK => ?_)
     obtain ⟨v, e6, h7, -⟩ := hI.got (hpre.out 5 (by kernel_rfl))
     go_simp
     exact put_is (by rw [e6]; kernel_rfl) (hK.out v w7 h7)
    refine ⟨?_, ?_⟩
    ·refine inv_free rfl (fun D9 Y w7 hDi hpre hI K hK => ?_)
     obtain ⟨v, e6, -, h8⟩ := hI.got (hpre.out 5 (by kernel_rfl))
     go_simp
     exact put_is (by rw [e6]; kernel_rfl) (hK.out (.int .i64 ou1.1) w7 h8)
    refine ⟨?_, ?_⟩
    ·refine inv_free rfl (fun D9 Y w7 hDi hpre hI K hK => ?_)
     obtain ⟨k9, n9, s9, ba9, fa9, la9, bn9, bc9, fn9, fc9, ln9, lc9, e7, hbx, h10⟩ := hI.kept (by omega) (by have := HB5.out.size; omega) (fun W hW => (HB5.out.keep hW).res) (hpre.out 6 (by kernel_rfl)) hDi
     obtain ⟨z0, z1, z2, z3, z4, z5⟩ := hbx.cells
     obtain ⟨q0, q1, q2, q3, q4, q5⟩ := hbx.thaw
     go_simp
     exact put_is (by rw [e7]; kernel_rfl) (hK.out undef _ h10)
    refine ⟨?_, ?_⟩
    ·refine inv_free rfl (fun D9 Y w7 hDi hpre hI K hK => ?_)
     obtain ⟨e8, h11⟩ := hI.err (hpre.out 7 (by kernel_rfl))
     go_simp
     exact put_is (by rw [e8]; kernel_rfl) (hK.out (.int .i64 ou1.1) w7 h11)
    trivial
   intro D9 Y w8 hD9 hI9
   obtain ⟨k9, n9, s9, ba9, fa9, la9, bn9, bc9, fn9, fc9, ln9, lc9, lo9, hi9, e9, hbx, hv9, hlo9, hb9⟩ := hI9.end hD9
   rw [e9]
   obtain ⟨x0, x1, x2, x3, x4, x5⟩ := hbx.cells
   have HEND : Hid (VIn w8 (fun g => w.heap.size ≤ g) (H + hd + 1) ou1.2 (.agg #[.int .i64 k9, .int .i64 n9, .string s9, .slice ba9 bn9 bc9, .slice fa9 fn9 fc9, .slice la9 ln9 lc9]) ∧ Below w.heap.size w w8) :=
    ⟨(hv9.kept (Kept.of_below (Below.refl _ _)) (fun g hg => by have := HB5.out.below.size; omega)).up (Nat.le_succ _), hb9⟩
   clear hI9 hD9 e9 hv9 hlo9 hb9 hm1 hme1
   go_wp2_with fail
   exact bodyPost_ret (v := .tuple #[.agg #[.int .i64 k9, .int .i64 n9, .string s9, .slice ba9 bn9 bc9, .slice fa9 fn9 fc9, .slice la9 ln9 lc9], .int .i64 ou1.1]) (by simp [results, Tryz.results103, go_sem, *]) rfl ⟨_, by rw [HRE.out], by rw [HRE.out]; exact HEND.out.1, HEND.out.2⟩
  | false =>
   obtain ⟨z0, z1, z2, z3, z4, z5⟩ := HX5.out.cells
   obtain ⟨r0, r1, r2, r3, r4, r5⟩ := HB5.out.res.cells
   obtain ⟨q0, q1, q2, q3, q4, q5⟩ := HB5.out.res.thaw
   have hre : res = (0, ou.2) := by
    rw [HRES.out, Expr.apply_ifNull]
    unfold Expr.one
    rw [← HOU.out, if_pos HZ.out]
    dsimp only
    rw [if_neg (by rw [← HTB.out]; decide)]
   have HRE := Lib.hid hre
   have HEND : Hid (VIn (puts w5 (w.heap.size + 1 + 1) 0 [.int .i64 k, .int .i64 m, .string s, .slice b1 b2 b3, .slice f1 f2 f3, .slice l1 l2 l3]) (fun g => w.heap.size ≤ g) (H + hd + 1) ou.2 (.agg #[.int .i64 k, .int .i64 m, .string s, .slice b1 b2 b3, .slice f1 f2 f3, .slice l1 l2 l3]) ∧ Below w.heap.size w (puts w5 (w.heap.size + 1 + 1) 0 [.int .i64 k, .int .i64 m, .string s, .slice b1 b2 b3, .slice f1 f2 f3, .slice l1 l2 l3])) :=
    ⟨(HV5.out.kept (puts_kept (fun g => lo ≤ g ∧ g < hi) (by have := HLO.out.1; have := HB.out.size; omega) _ _) (fun g hg => by have := HLO.out.1; have := HB.out.size; omega)).up (Nat.le_succ _), puts_below HB5.out.below (by omega) _ _⟩
   clear hre
   go_wp2_with fail
   exact bodyPost_ret (v := .tuple #[.agg #[.int .i64 k, .int .i64 m, .string s, .slice b1 b2 b3, .slice f1 f2 f3, .slice l1 l2 l3], .int .i64 0]) (by simp [results, Tryz.results103, go_sem, *]) rfl ⟨_, by rw [HRE.out], by rw [HRE.out]; exact HEND.out.1, HEND.out.2⟩
 ·have hz2 : (ou.1 == 0) = false := by rw [beq_eq_false_iff_ne]; exact hz
  have hre : res = (ou.1, Bson.zero) := by
   rw [HRES.out]
   rw [Expr.apply_ifNull]
   unfold Expr.one
   rw [← HOU.out, if_neg hz]; rfl
  have HRE := Lib.hid hre
  have HEND := Lib.hid (below_six HB9.out.below (by omega : w.heap.size ≤ w.heap.size + 1 + 1) (.int .i64 0) (.int .i64 0) (.string ⟨#[]⟩) (.slice none 0 0) (.slice none 0 0) (.slice none 0 0))
  clear hz hre
  go_wp2_with fail
  exact bodyPost_ret (v := .tuple #[.agg #[.int .i64 0, .int .i64 0, .string ⟨#[]⟩, .slice none 0 0, .slice none 0 0, .slice none 0 0], .int .i64 ou.1]) (by simp [results, Tryz.results103, go_sem, *]) rfl ⟨_, by rw [HRE.out], by rw [HRE.out]; exact (zero_in _ _).up (by omega), HEND.out⟩
end Go.Proofs.YtiajjgehnmkokaaGreatDoor
end
