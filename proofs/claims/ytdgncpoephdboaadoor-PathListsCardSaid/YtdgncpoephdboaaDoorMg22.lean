/- PathADoc. -/
import Derived.Test.YtdgncpoephdboaaDoorMg20
set_option maxRecDepth 100000
section
namespace Go.Proofs.YtdgncpoephdboaaDoor
open Go.RowKit
open Seal
open Bson (Val)
theorem after_put {W : World} {c0 c1 c2 c3 c4 c5 u : Value} {b0 g o : Nat} (hf : W.cell? ⟨b0, 0, none⟩ = some c0 ∧ W.cell? ⟨b0, 1, none⟩ = some c1 ∧ W.cell? ⟨b0, 2, none⟩ = some c2 ∧ W.cell? ⟨b0, 3, none⟩ = some c3 ∧ W.cell? ⟨b0, 4, none⟩ = some c4 ∧ W.cell? ⟨b0, 5, none⟩ = some c5 ∧ W.cell? ⟨g, o, none⟩ = some u) (G : Nat) (h0 : b0 ≠ G) (hg : g ≠ G) (vs : List Value) :
    (puts W G 0 vs).cell? ⟨b0, 0, none⟩ = some c0 ∧ (puts W G 0 vs).cell? ⟨b0, 1, none⟩ = some c1 ∧ (puts W G 0 vs).cell? ⟨b0, 2, none⟩ = some c2 ∧ (puts W G 0 vs).cell? ⟨b0, 3, none⟩ = some c3 ∧ (puts W G 0 vs).cell? ⟨b0, 4, none⟩ = some c4 ∧ (puts W G 0 vs).cell? ⟨b0, 5, none⟩ = some c5 ∧ (puts W G 0 vs).cell? ⟨g, o, none⟩ = some u := by
  have k : ∀ b j, b ≠ G → (puts W G 0 vs).cell? ⟨b, j, none⟩ = W.cell? ⟨b, j, none⟩ := fun b j hb => World.cell?_of_block (a := ⟨b, j, none⟩) (puts_other G b hb vs W 0)
  obtain ⟨e0, e1, e2, e3, e4, e5, e6⟩ := hf
  exact ⟨(k _ _ h0).trans e0, (k _ _ h0).trans e1, (k _ _ h0).trans e2, (k _ _ h0).trans e3, (k _ _ h0).trans e4, (k _ _ h0).trans e5, (k _ _ hg).trans e6⟩
theorem after_keep {W W' : World} {c0 c1 c2 c3 c4 c5 u : Value} {b0 g o : Nat} (hf : W.cell? ⟨b0, 0, none⟩ = some c0 ∧ W.cell? ⟨b0, 1, none⟩ = some c1 ∧ W.cell? ⟨b0, 2, none⟩ = some c2 ∧ W.cell? ⟨b0, 3, none⟩ = some c3 ∧ W.cell? ⟨b0, 4, none⟩ = some c4 ∧ W.cell? ⟨b0, 5, none⟩ = some c5 ∧ W.cell? ⟨g, o, none⟩ = some u) (hb : Below W.heap.size W W') :
    W'.cell? ⟨b0, 0, none⟩ = some c0 ∧ W'.cell? ⟨b0, 1, none⟩ = some c1 ∧ W'.cell? ⟨b0, 2, none⟩ = some c2 ∧ W'.cell? ⟨b0, 3, none⟩ = some c3 ∧ W'.cell? ⟨b0, 4, none⟩ = some c4 ∧ W'.cell? ⟨b0, 5, none⟩ = some c5 ∧ W'.cell? ⟨g, o, none⟩ = some u := by
  obtain ⟨e0, e1, e2, e3, e4, e5, e6⟩ := hf
  exact ⟨cell_keep hb e0, cell_keep hb e1, cell_keep hb e2, cell_keep hb e3, cell_keep hb e4, cell_keep hb e5, cell_keep hb e6⟩
theorem box_wrote {W W' : World} {v v' c0 c1 c2 c3 c4 c5 : Value} {G : Nat} (hw : Wrote W W' v v') (hb : W.cell? ⟨G, 0, none⟩ = some c0 ∧ W.cell? ⟨G, 1, none⟩ = some c1 ∧ W.cell? ⟨G, 2, none⟩ = some c2 ∧ W.cell? ⟨G, 3, none⟩ = some c3 ∧ W.cell? ⟨G, 4, none⟩ = some c4 ∧ W.cell? ⟨G, 5, none⟩ = some c5) (hg : v.ownBlock ≠ some G) :
    W'.cell? ⟨G, 0, none⟩ = some c0 ∧ W'.cell? ⟨G, 1, none⟩ = some c1 ∧ W'.cell? ⟨G, 2, none⟩ = some c2 ∧ W'.cell? ⟨G, 3, none⟩ = some c3 ∧ W'.cell? ⟨G, 4, none⟩ = some c4 ∧ W'.cell? ⟨G, 5, none⟩ = some c5 := by
  have k : ∀ j c, W.cell? ⟨G, j, none⟩ = some c → W'.cell? ⟨G, j, none⟩ = some c := fun j c hc =>
    (World.cell?_of_block (a := ⟨G, j, none⟩) (hw.1.block G (World.block_lt_of_cell? W _ hc) (fun e => hg e.symm))).trans hc
  obtain ⟨h0, h1, h2, h3, h4, h5⟩ := hb
  exact ⟨k _ _ h0, k _ _ h1, k _ _ h2, k _ _ h3, k _ _ h4, k _ _ h5⟩
set_option maxRecDepth 100000 in
set_option maxHeartbeats 600000 in
theorem aall_doc (H h : Nat) (hH : h + 1 ≤ H) (a : ByteArray) (r : List ByteArray) (g o : Nat) (pn pc : Nat) (m : Nat) (IH0 : AllAt H (h + 1) r (some ⟨g, o + 1, none⟩) (pn - 1) (pc - 1) (fun y => Bson.all m y r)) (base : Nat) (v : Value) (QA : Nat → Prop) (ys : List Val) (xs : List Value) (x : Val) (u : Value) (w : World) (hpn : (a :: r).length = pn) (hpc : pn ≤ pc) (hc1 : ¬ pc = 1) (h6 : x.kind = 6)
    (ha : Acc w base v QA H ys xs) (hbase : base ≤ w.heap.size) (hv : VIn w (fun g => QA g ∧ v.ownBlock ≠ some g) (h + 1) x u) (hog : v.ownBlock ≠ some g) (hp : ∀ i (hi : i < (a :: r).length), w.cell? ⟨g, o + i, none⟩ = some (.string (a :: r)[i])) (hN : ys.length + (Bson.all (m + 1) x (a :: r)).length ≤ 1353245080339) :
    Calls Tryd.prog 20 #[v, u, .slice (some ⟨g, o, none⟩) pn pc] w (AllPost w base v QA H (ys ++ Bson.all (m + 1) x (a :: r))) := by
  obtain ⟨i0, hi, hz0, hz1, hz2⟩ := info_parts infoV6
  obtain ⟨xk, xn, xs0, ba, fa, la, bn, bc, fn, fc, ln, lc, rfl, hxk, hrest⟩ := hv.letters
  clear hrest
  have hpos : 0 < pn := by rw [← hpn]; simp
  have hpe : ((pn : Int) == 0) = false := by simp; omega
  obtain rfl : xk = 6 := by rw [hxk, h6]
  obtain ⟨yn, hyn⟩ : ∃ n, n = ys.length := ⟨_, rfl⟩
  have HA : Hid (Acc (w.alloc (.cells #[.int .i64 6, .int .i64 xn, .string xs0, .slice ba bn bc, .slice fa fn fc, .slice la ln lc] 27)) base v QA H ys xs) := ha.keep ((Below.refl _ w).alloc (Nat.le_refl _) _)
  have HV : Hid (VIn (w.alloc (.cells #[.int .i64 6, .int .i64 xn, .string xs0, .slice ba bn bc, .slice fa fn fc, .slice la ln lc] 27)) (fun g => (QA g ∧ v.ownBlock ≠ some g) ∧ g < w.heap.size) (h + 1) x (.agg #[.int .i64 6, .int .i64 xn, .string xs0, .slice ba bn bc, .slice fa fn fc, .slice la ln lc])) := VIn.keep ((Below.refl _ w).alloc (Nat.le_refl _) _) hv.lt
  have HB1 : Hid (Below w.heap.size w (w.alloc (.cells #[.int .i64 6, .int .i64 xn, .string xs0, .slice ba bn bc, .slice fa fn fc, .slice la ln lc] 27))) := (Below.refl _ w).alloc (Nat.le_refl _) _
  have HSZ : Hid (base ≤ (w.alloc (.cells #[.int .i64 6, .int .i64 xn, .string xs0, .slice ba bn bc, .slice fa fn fc, .slice la ln lc] 27)).heap.size) := by show _ ≤ _; simp; omega
  have hp0 : w.cell? ⟨g, o, none⟩ = some (.string a) := by have := hp 0 (by simp); rw [Nat.add_zero] at this; exact this
  have HPR : Hid (StrsBy w v (some ⟨g, o + 1, none⟩) r) := .inr ⟨g, o + 1, rfl, hog, fun i hi => by have := hp (i + 1) (by simpa using hi); rw [show o + (i + 1) = o + 1 + i by omega] at this; exact this⟩
  have HMISS : Hid ((Bson.fieldIn x.f a).kind = 0 → Bson.all (m + 1) x (a :: r) = [Bson.zero]) := fun e => Bson.all_missing m x a r h6 e
  have HTHERE : Hid ((Bson.fieldIn x.f a).kind ≠ 0 → Bson.all (m + 1) x (a :: r) = Bson.all m (Bson.fieldIn x.f a) r) := fun e => Bson.all_doc m x a r h6 e
  have hyb : yn + 1 ≤ 1353245080339 := by have := List.length_pos_iff.2 (Bson.all_ne (m + 1) x (a :: r)); omega
  have HNB := Lib.hid hN
  have HYN := Lib.hid hyn
  have hf : (w.alloc (.cells #[.int .i64 6, .int .i64 xn, .string xs0, .slice ba bn bc, .slice fa fn fc, .slice la ln lc] 27)).cell? ⟨w.heap.size, 0, none⟩ = some (.int .i64 6) ∧ (w.alloc (.cells #[.int .i64 6, .int .i64 xn, .string xs0, .slice ba bn bc, .slice fa fn fc, .slice la ln lc] 27)).cell? ⟨w.heap.size, 1, none⟩ = some (.int .i64 xn) ∧ (w.alloc (.cells #[.int .i64 6, .int .i64 xn, .string xs0, .slice ba bn bc, .slice fa fn fc, .slice la ln lc] 27)).cell? ⟨w.heap.size, 2, none⟩ = some (.string xs0) ∧ (w.alloc (.cells #[.int .i64 6, .int .i64 xn, .string xs0, .slice ba bn bc, .slice fa fn fc, .slice la ln lc] 27)).cell? ⟨w.heap.size, 3, none⟩ = some (.slice ba bn bc) ∧ (w.alloc (.cells #[.int .i64 6, .int .i64 xn, .string xs0, .slice ba bn bc, .slice fa fn fc, .slice la ln lc] 27)).cell? ⟨w.heap.size, 4, none⟩ = some (.slice fa fn fc) ∧ (w.alloc (.cells #[.int .i64 6, .int .i64 xn, .string xs0, .slice ba bn bc, .slice fa fn fc, .slice la ln lc] 27)).cell? ⟨w.heap.size, 5, none⟩ = some (.slice la ln lc) ∧ (w.alloc (.cells #[.int .i64 6, .int .i64 xn, .string xs0, .slice ba bn bc, .slice fa fn fc, .slice la ln lc] 27)).cell? ⟨g, o, none⟩ = some (.string a) := by
    have e := heap_alloc_new w (.cells #[.int .i64 6, .int .i64 xn, .string xs0, .slice ba bn bc, .slice fa fn fc, .slice la ln lc] 27)
    exact ⟨(cell_of_row _ _ 0 _ _ _ e).trans rfl, (cell_of_row _ _ 1 _ _ _ e).trans rfl, (cell_of_row _ _ 2 _ _ _ e).trans rfl, (cell_of_row _ _ 3 _ _ _ e).trans rfl, (cell_of_row _ _ 4 _ _ _ e).trans rfl, (cell_of_row _ _ 5 _ _ _ e).trans rfl, cell_keep HB1.out hp0⟩
  have HF0 := Lib.hid hf
  have HSZ0 : Hid (w.heap.size < (w.alloc (.cells #[.int .i64 6, .int .i64 xn, .string xs0, .slice ba bn bc, .slice fa fn fc, .slice la ln lc] 27)).heap.size) := by show _ < _; simp
  have HG0 : Hid (g < (w.alloc (.cells #[.int .i64 6, .int .i64 xn, .string xs0, .slice ba bn bc, .slice fa fn fc, .slice la ln lc] 27)).heap.size) := by have := World.block_lt_of_cell? w _ hp0; show _ < _; simp at this ⊢; omega
  have IH := Lib.hid IH0
  have hpl : r.length + 1 = pn := by simpa using hpn
  have b1 : (1 : Int) ≤ (pn : Int) := by omega
  have b2 : (pn : Int) ≤ (pc : Int) := by omega
  clear ha hv hp hp0 hN hxk hyn h6 hpn hog IH0
  generalize hW0 : w.alloc (.cells #[.int .i64 6, .int .i64 xn, .string xs0, .slice ba bn bc, .slice fa fn fc, .slice la ln lc] 27) = W0 at *
  go_enter Tryd.func20, Tryd.ntmps20
  go_wp2_with fail
  clear hW0
  go_region_held3 (fun W => W.cell? ⟨w.heap.size, 0, none⟩ = some (.int .i64 6) ∧ W.cell? ⟨w.heap.size, 1, none⟩ = some (.int .i64 xn) ∧ W.cell? ⟨w.heap.size, 2, none⟩ = some (.string xs0) ∧ W.cell? ⟨w.heap.size, 3, none⟩ = some (.slice ba bn bc) ∧ W.cell? ⟨w.heap.size, 4, none⟩ = some (.slice fa fn fc) ∧ W.cell? ⟨w.heap.size, 5, none⟩ = some (.slice la ln lc) ∧ W.cell? ⟨g, o, none⟩ = some (.string a))
    (first | with_reducible exact hf | with_reducible exact hf2 | with_reducible exact hf3 | with_reducible exact hf4 | go_keep)
    ((first
      | (go_at_call 36; refine (field_any _ h x _ a W0.drew (VIn.keep ((Below.refl _ W0).drew) HV.out)).mono ?_; rintro e w1 ⟨v1, rfl, hv1, hb1⟩; have HB2 : Hid (Below W0.heap.size W0 w1) := (Below.refl _ W0).drew.trans hb1; obtain ⟨kd, nd, sd, bd, fd, ld, bm, bz, fm, fz, lm, lz, rfl⟩ := hv1.shape; have HV1 := Lib.hid hv1; have hf2 : w1.cell? ⟨w.heap.size, 0, none⟩ = some (.int .i64 6) ∧ w1.cell? ⟨w.heap.size, 1, none⟩ = some (.int .i64 xn) ∧ w1.cell? ⟨w.heap.size, 2, none⟩ = some (.string xs0) ∧ w1.cell? ⟨w.heap.size, 3, none⟩ = some (.slice ba bn bc) ∧ w1.cell? ⟨w.heap.size, 4, none⟩ = some (.slice fa fn fc) ∧ w1.cell? ⟨w.heap.size, 5, none⟩ = some (.slice la ln lc) ∧ w1.cell? ⟨g, o, none⟩ = some (.string a) := ⟨cell_keep HB2.out HF0.out.1, cell_keep HB2.out HF0.out.2.1, cell_keep HB2.out HF0.out.2.2.1, cell_keep HB2.out HF0.out.2.2.2.1, cell_keep HB2.out HF0.out.2.2.2.2.1, cell_keep HB2.out HF0.out.2.2.2.2.2.1, cell_keep HB2.out HF0.out.2.2.2.2.2.2⟩; clear hv1 hb1)
      | (go_at_call 36; refine (field_any _ h x _ a (W0.alloc (.cells #[.int .i64 0, .int .i64 0, .string ⟨#[]⟩, .slice none 0 0, .slice none 0 0, .slice none 0 0] 27)).drew (VIn.keep (((Below.refl _ W0).alloc (Nat.le_refl _) (.cells #[.int .i64 0, .int .i64 0, .string ⟨#[]⟩, .slice none 0 0, .slice none 0 0, .slice none 0 0] 27)).drew) HV.out)).mono ?_; rintro e w1 ⟨v1, rfl, hv1, hb1⟩; have HB2 : Hid (Below W0.heap.size W0 w1) := (((Below.refl _ W0).alloc (Nat.le_refl _) (.cells #[.int .i64 0, .int .i64 0, .string ⟨#[]⟩, .slice none 0 0, .slice none 0 0, .slice none 0 0] 27)).drew).trans (hb1.mono (by simp)); have hrow : w1.heap[W0.heap.size]? = some (.cells #[.int .i64 0, .int .i64 0, .string ⟨#[]⟩, .slice none 0 0, .slice none 0 0, .slice none 0 0] 27 (0, 0)) := (hb1.block _ (by simp)).trans (heap_alloc_new W0 _); have HROW := Lib.hid hrow; have z0 : w1.cell? ⟨W0.heap.size, 0, none⟩ = some (.int .i64 0) := (cell_of_row _ _ 0 _ _ _ hrow).trans rfl; have z1 : w1.cell? ⟨W0.heap.size, 1, none⟩ = some (.int .i64 0) := (cell_of_row _ _ 1 _ _ _ hrow).trans rfl; have z2 : w1.cell? ⟨W0.heap.size, 2, none⟩ = some (.string { data := #[] }) := (cell_of_row _ _ 2 _ _ _ hrow).trans rfl; have z3 : w1.cell? ⟨W0.heap.size, 3, none⟩ = some (.slice none 0 0) := (cell_of_row _ _ 3 _ _ _ hrow).trans rfl; have z4 : w1.cell? ⟨W0.heap.size, 4, none⟩ = some (.slice none 0 0) := (cell_of_row _ _ 4 _ _ _ hrow).trans rfl; have z5 : w1.cell? ⟨W0.heap.size, 5, none⟩ = some (.slice none 0 0) := (cell_of_row _ _ 5 _ _ _ hrow).trans rfl; have g0 : w1.frozen? ⟨W0.heap.size, 0, none⟩ = false := frozen_of_row _ _ 0 _ _ hrow; have g1 : w1.frozen? ⟨W0.heap.size, 1, none⟩ = false := frozen_of_row _ _ 1 _ _ hrow; have g2 : w1.frozen? ⟨W0.heap.size, 2, none⟩ = false := frozen_of_row _ _ 2 _ _ hrow; have g3 : w1.frozen? ⟨W0.heap.size, 3, none⟩ = false := frozen_of_row _ _ 3 _ _ hrow; have g4 : w1.frozen? ⟨W0.heap.size, 4, none⟩ = false := frozen_of_row _ _ 4 _ _ hrow; have g5 : w1.frozen? ⟨W0.heap.size, 5, none⟩ = false := frozen_of_row _ _ 5 _ _ hrow; clear hrow; obtain ⟨kd, nd, sd, bd, fd, ld, bm, bz, fm, fz, lm, lz, rfl⟩ := hv1.shape; have HV1 := Lib.hid hv1; have hf2 : w1.cell? ⟨w.heap.size, 0, none⟩ = some (.int .i64 6) ∧ w1.cell? ⟨w.heap.size, 1, none⟩ = some (.int .i64 xn) ∧ w1.cell? ⟨w.heap.size, 2, none⟩ = some (.string xs0) ∧ w1.cell? ⟨w.heap.size, 3, none⟩ = some (.slice ba bn bc) ∧ w1.cell? ⟨w.heap.size, 4, none⟩ = some (.slice fa fn fc) ∧ w1.cell? ⟨w.heap.size, 5, none⟩ = some (.slice la ln lc) ∧ w1.cell? ⟨g, o, none⟩ = some (.string a) := ⟨cell_keep HB2.out HF0.out.1, cell_keep HB2.out HF0.out.2.1, cell_keep HB2.out HF0.out.2.2.1, cell_keep HB2.out HF0.out.2.2.2.1, cell_keep HB2.out HF0.out.2.2.2.2.1, cell_keep HB2.out HF0.out.2.2.2.2.2.1, cell_keep HB2.out HF0.out.2.2.2.2.2.2⟩; clear hv1 hb1; have hf3 : ((((((w1.setCell ⟨W0.heap.size, 0, none⟩ (.int .i64 kd)).setCell ⟨W0.heap.size, 1, none⟩ (.int .i64 nd)).setCell ⟨W0.heap.size, 2, none⟩ (.string sd)).setCell ⟨W0.heap.size, 3, none⟩ (.slice bd bm bz)).setCell ⟨W0.heap.size, 4, none⟩ (.slice fd fm fz)).setCell ⟨W0.heap.size, 5, none⟩ (.slice ld lm lz)).cell? ⟨w.heap.size, 0, none⟩ = some (.int .i64 6) ∧ ((((((w1.setCell ⟨W0.heap.size, 0, none⟩ (.int .i64 kd)).setCell ⟨W0.heap.size, 1, none⟩ (.int .i64 nd)).setCell ⟨W0.heap.size, 2, none⟩ (.string sd)).setCell ⟨W0.heap.size, 3, none⟩ (.slice bd bm bz)).setCell ⟨W0.heap.size, 4, none⟩ (.slice fd fm fz)).setCell ⟨W0.heap.size, 5, none⟩ (.slice ld lm lz)).cell? ⟨w.heap.size, 1, none⟩ = some (.int .i64 xn) ∧ ((((((w1.setCell ⟨W0.heap.size, 0, none⟩ (.int .i64 kd)).setCell ⟨W0.heap.size, 1, none⟩ (.int .i64 nd)).setCell ⟨W0.heap.size, 2, none⟩ (.string sd)).setCell ⟨W0.heap.size, 3, none⟩ (.slice bd bm bz)).setCell ⟨W0.heap.size, 4, none⟩ (.slice fd fm fz)).setCell ⟨W0.heap.size, 5, none⟩ (.slice ld lm lz)).cell? ⟨w.heap.size, 2, none⟩ = some (.string xs0) ∧ ((((((w1.setCell ⟨W0.heap.size, 0, none⟩ (.int .i64 kd)).setCell ⟨W0.heap.size, 1, none⟩ (.int .i64 nd)).setCell ⟨W0.heap.size, 2, none⟩ (.string sd)).setCell ⟨W0.heap.size, 3, none⟩ (.slice bd bm bz)).setCell ⟨W0.heap.size, 4, none⟩ (.slice fd fm fz)).setCell ⟨W0.heap.size, 5, none⟩ (.slice ld lm lz)).cell? ⟨w.heap.size, 3, none⟩ = some (.slice ba bn bc) ∧ ((((((w1.setCell ⟨W0.heap.size, 0, none⟩ (.int .i64 kd)).setCell ⟨W0.heap.size, 1, none⟩ (.int .i64 nd)).setCell ⟨W0.heap.size, 2, none⟩ (.string sd)).setCell ⟨W0.heap.size, 3, none⟩ (.slice bd bm bz)).setCell ⟨W0.heap.size, 4, none⟩ (.slice fd fm fz)).setCell ⟨W0.heap.size, 5, none⟩ (.slice ld lm lz)).cell? ⟨w.heap.size, 4, none⟩ = some (.slice fa fn fc) ∧ ((((((w1.setCell ⟨W0.heap.size, 0, none⟩ (.int .i64 kd)).setCell ⟨W0.heap.size, 1, none⟩ (.int .i64 nd)).setCell ⟨W0.heap.size, 2, none⟩ (.string sd)).setCell ⟨W0.heap.size, 3, none⟩ (.slice bd bm bz)).setCell ⟨W0.heap.size, 4, none⟩ (.slice fd fm fz)).setCell ⟨W0.heap.size, 5, none⟩ (.slice ld lm lz)).cell? ⟨w.heap.size, 5, none⟩ = some (.slice la ln lc) ∧ ((((((w1.setCell ⟨W0.heap.size, 0, none⟩ (.int .i64 kd)).setCell ⟨W0.heap.size, 1, none⟩ (.int .i64 nd)).setCell ⟨W0.heap.size, 2, none⟩ (.string sd)).setCell ⟨W0.heap.size, 3, none⟩ (.slice bd bm bz)).setCell ⟨W0.heap.size, 4, none⟩ (.slice fd fm fz)).setCell ⟨W0.heap.size, 5, none⟩ (.slice ld lm lz)).cell? ⟨g, o, none⟩ = some (.string a) := after_put hf2 W0.heap.size (by have := HSZ0.out; omega) (by have := HG0.out; omega) [.int .i64 kd, .int .i64 nd, .string sd, .slice bd bm bz, .slice fd fm fz, .slice ld lm lz])))
  · clear hf hf2
    have HB3 : Hid (Below W0.heap.size W0 (w1.alloc (.cells #[.int .i64 kd, .int .i64 nd, .string sd, .slice bd bm bz, .slice fd fm fz, .slice ld lm lz] 27))) := HB2.out.alloc HB2.out.size _
    have hrow2 := heap_alloc_new w1 (.cells #[.int .i64 kd, .int .i64 nd, .string sd, .slice bd bm bz, .slice fd fm fz, .slice ld lm lz] 27)
    have HBX : Hid ((w1.alloc (.cells #[.int .i64 kd, .int .i64 nd, .string sd, .slice bd bm bz, .slice fd fm fz, .slice ld lm lz] 27)).cell? ⟨w1.heap.size, 0, none⟩ = some (.int .i64 kd) ∧ (w1.alloc (.cells #[.int .i64 kd, .int .i64 nd, .string sd, .slice bd bm bz, .slice fd fm fz, .slice ld lm lz] 27)).cell? ⟨w1.heap.size, 1, none⟩ = some (.int .i64 nd) ∧ (w1.alloc (.cells #[.int .i64 kd, .int .i64 nd, .string sd, .slice bd bm bz, .slice fd fm fz, .slice ld lm lz] 27)).cell? ⟨w1.heap.size, 2, none⟩ = some (.string sd) ∧ (w1.alloc (.cells #[.int .i64 kd, .int .i64 nd, .string sd, .slice bd bm bz, .slice fd fm fz, .slice ld lm lz] 27)).cell? ⟨w1.heap.size, 3, none⟩ = some (.slice bd bm bz) ∧ (w1.alloc (.cells #[.int .i64 kd, .int .i64 nd, .string sd, .slice bd bm bz, .slice fd fm fz, .slice ld lm lz] 27)).cell? ⟨w1.heap.size, 4, none⟩ = some (.slice fd fm fz) ∧ (w1.alloc (.cells #[.int .i64 kd, .int .i64 nd, .string sd, .slice bd bm bz, .slice fd fm fz, .slice ld lm lz] 27)).cell? ⟨w1.heap.size, 5, none⟩ = some (.slice ld lm lz)) := ⟨(cell_of_row _ _ 0 _ _ _ hrow2).trans rfl, (cell_of_row _ _ 1 _ _ _ hrow2).trans rfl, (cell_of_row _ _ 2 _ _ _ hrow2).trans rfl, (cell_of_row _ _ 3 _ _ _ hrow2).trans rfl, (cell_of_row _ _ 4 _ _ _ hrow2).trans rfl, (cell_of_row _ _ 5 _ _ _ hrow2).trans rfl⟩
    have HV3 : Hid (VIn (w1.alloc (.cells #[.int .i64 kd, .int .i64 nd, .string sd, .slice bd bm bz, .slice fd fm fz, .slice ld lm lz] 27)) (fun g => QA g ∧ v.ownBlock ≠ some g) (h + 1) (Bson.fieldIn x.f a) (.agg #[.int .i64 kd, .int .i64 nd, .string sd, .slice bd bm bz, .slice fd fm fz, .slice ld lm lz])) := (HV1.out.kept (Kept.of_below (Below.refl _ _)) (fun g hg => hg.1)).keep ((Below.refl _ w1).alloc (Nat.le_refl _) _)
    clear hrow2 HV1 HF0
    generalize hW2 : w1.alloc (.cells #[.int .i64 kd, .int .i64 nd, .string sd, .slice bd bm bz, .slice fd fm fz, .slice ld lm lz] 27) = W2 at *
    generalize hGG : w1.heap.size = G at *
    have HA3 : Hid (Acc W2 base v QA H ys xs) := HA.out.keep HB3.out
    have HBW : Hid (Below w.heap.size w W2) := HB1.out.trans (HB3.out.mono (by have := HSZ0.out; omega))
    have HP3 := Lib.hid (HPR.out.keep HBW.out)
    have HSZ3 : Hid (base ≤ W2.heap.size) := Nat.le_trans HSZ.out HB3.out.size
    have HVG : Hid (v.ownBlock ≠ some G) := fun e => by have := (owns_block HA.out.own e).2; have h9 := HB2.out.size; rw [hGG] at h9; omega
    obtain ⟨e0, e1, e2, e3, e4, e5⟩ := HBX.out
    have hkd : kd = (Bson.fieldIn x.f a).kind := HV3.out.kind
    have HKD := Lib.hid hkd
    clear hkd hW2 HA HV HB1 HSZ HPR HB2 HB3
    by_cases h0 : kd = 0
    · subst h0
      have hres := HMISS.out HKD.out.symm
      have HRES := Lib.hid hres
      have HA4 : Hid (Acc (W2.alloc (.cells #[.int .i64 0, .int .i64 0, .string ⟨#[]⟩, .slice none 0 0, .slice none 0 0, .slice none 0 0] 27)) base v QA H ys xs) := HA3.out.keep ((Below.refl _ _).alloc (Nat.le_refl _) _)
      have HOWN : Hid ((W2.alloc (.cells #[.int .i64 0, .int .i64 0, .string ⟨#[]⟩, .slice none 0 0, .slice none 0 0, .slice none 0 0] 27)).ownsRow base 27 6 v yn xs) := by have := HA4.out.own; rw [← HYN.out] at this; exact this
      have HNW : Hid (∀ j u, ([.int .i64 0, .int .i64 0, .string ⟨#[]⟩, .slice none 0 0, .slice none 0 0, .slice none 0 0] : List Value)[j]? = some u → (W2.alloc (.cells #[.int .i64 0, .int .i64 0, .string ⟨#[]⟩, .slice none 0 0, .slice none 0 0, .slice none 0 0] 27)).cell? (Addr.add ⟨W2.heap.size, 0, none⟩ j) = some u) := six_new W2 _ _ _ _ _ _ _
      have HB5 : Hid (Below w.heap.size w (W2.alloc (.cells #[.int .i64 0, .int .i64 0, .string ⟨#[]⟩, .slice none 0 0, .slice none 0 0, .slice none 0 0] 27))) := HBW.out.alloc HBW.out.size _
      have HSZ5 : Hid (base ≤ (W2.alloc (.cells #[.int .i64 0, .int .i64 0, .string ⟨#[]⟩, .slice none 0 0, .slice none 0 0, .slice none 0 0] 27)).heap.size) := by have := HSZ3.out; show _ ≤ _; simp; omega
      clear hres HA3 HBW HP3 HSZ3 HV3 HNB HMISS HTHERE
      go_wp2_with (at_builtin; refine wpList_append_sz _ rfl (.tmp 38) (.tmp 40) 25 rfl base 27 i0 (.agg #[.int .i64 0, .int .i64 0, .string ⟨#[]⟩, .slice none 0 0, .slice none 0 0, .slice none 0 0]) 6 104 Tryd.underlying25 hi hz0 hz1 hz2 rfl v yn xs rfl HOWN.out ⟨W2.heap.size, 0, none⟩ 1 1 [.int .i64 0, .int .i64 0, .string ⟨#[]⟩, .slice none 0 0, .slice none 0 0, .slice none 0 0] rfl rfl (by decide) (by decide) HNW.out (six_one _ _ _ _ _ _ _ _ _ _ _ _) (by unfold maxLen; omega) (by omega) HSZ5.out ?_)
      intro v5 w5 hown5 hlies5
      have hw5 := Wrote.of_lies hlies5
      have hA5 : ∃ xs5, Acc w5 base v5 QA H (ys ++ [Bson.zero]) xs5 := ⟨_, HA4.out.push hw5 (by rw [← HYN.out]; exact hown5) ((zero_in _ _).up (by omega))⟩
      obtain ⟨xs5, hA5⟩ := hA5
      have HA5 := Lib.hid hA5
      have HW5 : Hid (Wrote w w5 v v5) := Wrote.of_below HB5.out hw5
      clear hown5 hlies5 hw5 hA5 HA4 HOWN HNW HB5 HSZ5
      go_wp2_with fail
      go_ret
      exact ⟨v5, xs5, rfl, by rw [HRES.out]; exact HA5.out, HW5.out⟩
    · have hkb : (kd == 0) = false := by simpa using h0
      have hres := HTHERE.out (by rw [← HKD.out]; exact h0)
      have HRES := Lib.hid hres
      have HN2 : Hid (ys.length + (Bson.all m (Bson.fieldIn x.f a) r).length ≤ 1353245080339) := by have := HNB.out; rw [hres] at this; exact this
      have hbx : W2.cell? ⟨G, 0, none⟩ = some (.int .i64 kd) ∧ W2.cell? ⟨G, 1, none⟩ = some (.int .i64 nd) ∧ W2.cell? ⟨G, 2, none⟩ = some (.string sd) ∧ W2.cell? ⟨G, 3, none⟩ = some (.slice bd bm bz) ∧ W2.cell? ⟨G, 4, none⟩ = some (.slice fd fm fz) ∧ W2.cell? ⟨G, 5, none⟩ = some (.slice ld lm lz) := HBX.out
      clear hres h0 HNB HMISS HTHERE HYN HKD e0 e1 e2 e3 e4 e5
      obtain ⟨e0, e1, e2, e3, e4, e5⟩ := HBX.out
      go_wp2_with fail
      go_region_held3 (fun W => W.cell? ⟨G, 0, none⟩ = some (.int .i64 kd) ∧ W.cell? ⟨G, 1, none⟩ = some (.int .i64 nd) ∧ W.cell? ⟨G, 2, none⟩ = some (.string sd) ∧ W.cell? ⟨G, 3, none⟩ = some (.slice bd bm bz) ∧ W.cell? ⟨G, 4, none⟩ = some (.slice fd fm fz) ∧ W.cell? ⟨G, 5, none⟩ = some (.slice ld lm lz))
        (first | with_reducible exact hbx | with_reducible exact hbx2 | go_keep)
        ((go_at_call 20; refine (IH.out base v QA ys xs _ _ W2.drew (HA3.out.keep ((Below.refl _ W2).drew)) HSZ3.out (VIn.keep ((Below.refl _ W2).drew) HV3.out) (HP3.out.keep ((Below.refl _ W2).drew)) HN2.out).mono ?_; rintro e w5 ⟨v5, xs5, rfl, hA5, hW5⟩; have HA5 := Lib.hid hA5; have HW5 : Hid (Wrote w w5 v v5) := Wrote.of_below HBW.out (Wrote.of_below ((Below.refl _ W2).drew) hW5); have hbx2 := box_wrote (Wrote.of_below ((Below.refl _ W2).drew) hW5) HBX.out HVG.out; clear hA5 hW5))
      go_wp2_with fail
      go_ret
      exact ⟨v5, xs5, rfl, by rw [HRES.out]; exact HA5.out, HW5.out⟩
  · clear hf hf2 hf3 z0 z1 z2 z3 z4 z5 g0 g1 g2 g3 g4 g5
    have HB3 : Hid (Below W0.heap.size W0 (puts w1 W0.heap.size 0 [.int .i64 kd, .int .i64 nd, .string sd, .slice bd bm bz, .slice fd fm fz, .slice ld lm lz])) := puts_below HB2.out (Nat.le_refl _) _ 0
    have HBX : Hid ((puts w1 W0.heap.size 0 [.int .i64 kd, .int .i64 nd, .string sd, .slice bd bm bz, .slice fd fm fz, .slice ld lm lz]).cell? ⟨W0.heap.size, 0, none⟩ = some (.int .i64 kd) ∧ (puts w1 W0.heap.size 0 [.int .i64 kd, .int .i64 nd, .string sd, .slice bd bm bz, .slice fd fm fz, .slice ld lm lz]).cell? ⟨W0.heap.size, 1, none⟩ = some (.int .i64 nd) ∧ (puts w1 W0.heap.size 0 [.int .i64 kd, .int .i64 nd, .string sd, .slice bd bm bz, .slice fd fm fz, .slice ld lm lz]).cell? ⟨W0.heap.size, 2, none⟩ = some (.string sd) ∧ (puts w1 W0.heap.size 0 [.int .i64 kd, .int .i64 nd, .string sd, .slice bd bm bz, .slice fd fm fz, .slice ld lm lz]).cell? ⟨W0.heap.size, 3, none⟩ = some (.slice bd bm bz) ∧ (puts w1 W0.heap.size 0 [.int .i64 kd, .int .i64 nd, .string sd, .slice bd bm bz, .slice fd fm fz, .slice ld lm lz]).cell? ⟨W0.heap.size, 4, none⟩ = some (.slice fd fm fz) ∧ (puts w1 W0.heap.size 0 [.int .i64 kd, .int .i64 nd, .string sd, .slice bd bm bz, .slice fd fm fz, .slice ld lm lz]).cell? ⟨W0.heap.size, 5, none⟩ = some (.slice ld lm lz)) := by
      have hr : Row6 w1 W0.heap.size 27 6 := ⟨_, HROW.out, rfl⟩
      obtain ⟨_, _, h7⟩ := hr.puts 0 [.int .i64 kd, .int .i64 nd, .string sd, .slice bd bm bz, .slice fd fm fz, .slice ld lm lz] (by show 0 + 6 ≤ 6; omega)
      exact ⟨(h7 0 (by show 0 < 6; omega)).trans rfl, (h7 1 (by show 1 < 6; omega)).trans rfl, (h7 2 (by show 2 < 6; omega)).trans rfl, (h7 3 (by show 3 < 6; omega)).trans rfl, (h7 4 (by show 4 < 6; omega)).trans rfl, (h7 5 (by show 5 < 6; omega)).trans rfl⟩
    have HV3 : Hid (VIn (puts w1 W0.heap.size 0 [.int .i64 kd, .int .i64 nd, .string sd, .slice bd bm bz, .slice fd fm fz, .slice ld lm lz]) (fun g => QA g ∧ v.ownBlock ≠ some g) (h + 1) (Bson.fieldIn x.f a) (.agg #[.int .i64 kd, .int .i64 nd, .string sd, .slice bd bm bz, .slice fd fm fz, .slice ld lm lz])) := HV1.out.kept (puts_kept (fun g => (QA g ∧ v.ownBlock ≠ some g) ∧ g < w.heap.size) (by have := HSZ0.out; omega) 0 _) (fun g hg => hg.1)
    clear HROW HV1 HF0
    generalize hW2 : ((((((w1.setCell ⟨W0.heap.size, 0, none⟩ (.int .i64 kd)).setCell ⟨W0.heap.size, 1, none⟩ (.int .i64 nd)).setCell ⟨W0.heap.size, 2, none⟩ (.string sd)).setCell ⟨W0.heap.size, 3, none⟩ (.slice bd bm bz)).setCell ⟨W0.heap.size, 4, none⟩ (.slice fd fm fz)).setCell ⟨W0.heap.size, 5, none⟩ (.slice ld lm lz)) = W2 at *
    have hW3 : puts w1 W0.heap.size 0 [.int .i64 kd, .int .i64 nd, .string sd, .slice bd bm bz, .slice fd fm fz, .slice ld lm lz] = W2 := hW2
    rw [hW3] at HB3 HBX HV3
    clear hW3
    generalize hGG : W0.heap.size = G at *
    subst hGG; have HA3 : Hid (Acc W2 base v QA H ys xs) := HA.out.keep HB3.out
    have HBW : Hid (Below w.heap.size w W2) := HB1.out.trans (HB3.out.mono (by have := HSZ0.out; omega))
    have HP3 := Lib.hid (HPR.out.keep HBW.out)
    have HSZ3 : Hid (base ≤ W2.heap.size) := Nat.le_trans HSZ.out HB3.out.size
    have HVG : Hid (v.ownBlock ≠ some W0.heap.size) := fun e => by have := (owns_block HA.out.own e).2; omega
    obtain ⟨e0, e1, e2, e3, e4, e5⟩ := HBX.out
    have hkd : kd = (Bson.fieldIn x.f a).kind := HV3.out.kind
    have HKD := Lib.hid hkd
    clear hkd hW2 HA HV HB1 HSZ HPR HB2 HB3
    by_cases h0 : kd = 0
    · subst h0
      have hres := HMISS.out HKD.out.symm
      have HRES := Lib.hid hres
      have HA4 : Hid (Acc (W2.alloc (.cells #[.int .i64 0, .int .i64 0, .string ⟨#[]⟩, .slice none 0 0, .slice none 0 0, .slice none 0 0] 27)) base v QA H ys xs) := HA3.out.keep ((Below.refl _ _).alloc (Nat.le_refl _) _)
      have HOWN : Hid ((W2.alloc (.cells #[.int .i64 0, .int .i64 0, .string ⟨#[]⟩, .slice none 0 0, .slice none 0 0, .slice none 0 0] 27)).ownsRow base 27 6 v yn xs) := by have := HA4.out.own; rw [← HYN.out] at this; exact this
      have HNW : Hid (∀ j u, ([.int .i64 0, .int .i64 0, .string ⟨#[]⟩, .slice none 0 0, .slice none 0 0, .slice none 0 0] : List Value)[j]? = some u → (W2.alloc (.cells #[.int .i64 0, .int .i64 0, .string ⟨#[]⟩, .slice none 0 0, .slice none 0 0, .slice none 0 0] 27)).cell? (Addr.add ⟨W2.heap.size, 0, none⟩ j) = some u) := six_new W2 _ _ _ _ _ _ _
      have HB5 : Hid (Below w.heap.size w (W2.alloc (.cells #[.int .i64 0, .int .i64 0, .string ⟨#[]⟩, .slice none 0 0, .slice none 0 0, .slice none 0 0] 27))) := HBW.out.alloc HBW.out.size _
      have HSZ5 : Hid (base ≤ (W2.alloc (.cells #[.int .i64 0, .int .i64 0, .string ⟨#[]⟩, .slice none 0 0, .slice none 0 0, .slice none 0 0] 27)).heap.size) := by have := HSZ3.out; show _ ≤ _; simp; omega
      clear hres HA3 HBW HP3 HSZ3 HV3 HNB HMISS HTHERE
      go_wp2_with (at_builtin; refine wpList_append_sz _ rfl (.tmp 38) (.tmp 40) 25 rfl base 27 i0 (.agg #[.int .i64 0, .int .i64 0, .string ⟨#[]⟩, .slice none 0 0, .slice none 0 0, .slice none 0 0]) 6 104 Tryd.underlying25 hi hz0 hz1 hz2 rfl v yn xs rfl HOWN.out ⟨W2.heap.size, 0, none⟩ 1 1 [.int .i64 0, .int .i64 0, .string ⟨#[]⟩, .slice none 0 0, .slice none 0 0, .slice none 0 0] rfl rfl (by decide) (by decide) HNW.out (six_one _ _ _ _ _ _ _ _ _ _ _ _) (by unfold maxLen; omega) (by omega) HSZ5.out ?_)
      intro v5 w5 hown5 hlies5
      have hw5 := Wrote.of_lies hlies5
      have hA5 : ∃ xs5, Acc w5 base v5 QA H (ys ++ [Bson.zero]) xs5 := ⟨_, HA4.out.push hw5 (by rw [← HYN.out]; exact hown5) ((zero_in _ _).up (by omega))⟩
      obtain ⟨xs5, hA5⟩ := hA5
      have HA5 := Lib.hid hA5
      have HW5 : Hid (Wrote w w5 v v5) := Wrote.of_below HB5.out hw5
      clear hown5 hlies5 hw5 hA5 HA4 HOWN HNW HB5 HSZ5
      go_wp2_with fail
      go_ret
      exact ⟨v5, xs5, rfl, by rw [HRES.out]; exact HA5.out, HW5.out⟩
    · have hkb : (kd == 0) = false := by simpa using h0
      have hres := HTHERE.out (by rw [← HKD.out]; exact h0)
      have HRES := Lib.hid hres
      have HN2 : Hid (ys.length + (Bson.all m (Bson.fieldIn x.f a) r).length ≤ 1353245080339) := by have := HNB.out; rw [hres] at this; exact this
      have hbx : W2.cell? ⟨W0.heap.size, 0, none⟩ = some (.int .i64 kd) ∧ W2.cell? ⟨W0.heap.size, 1, none⟩ = some (.int .i64 nd) ∧ W2.cell? ⟨W0.heap.size, 2, none⟩ = some (.string sd) ∧ W2.cell? ⟨W0.heap.size, 3, none⟩ = some (.slice bd bm bz) ∧ W2.cell? ⟨W0.heap.size, 4, none⟩ = some (.slice fd fm fz) ∧ W2.cell? ⟨W0.heap.size, 5, none⟩ = some (.slice ld lm lz) := HBX.out
      clear hres h0 HNB HMISS HTHERE HYN HKD e0 e1 e2 e3 e4 e5
      obtain ⟨e0, e1, e2, e3, e4, e5⟩ := HBX.out
      go_wp2_with fail
      go_region_held3 (fun W => W.cell? ⟨W0.heap.size, 0, none⟩ = some (.int .i64 kd) ∧ W.cell? ⟨W0.heap.size, 1, none⟩ = some (.int .i64 nd) ∧ W.cell? ⟨W0.heap.size, 2, none⟩ = some (.string sd) ∧ W.cell? ⟨W0.heap.size, 3, none⟩ = some (.slice bd bm bz) ∧ W.cell? ⟨W0.heap.size, 4, none⟩ = some (.slice fd fm fz) ∧ W.cell? ⟨W0.heap.size, 5, none⟩ = some (.slice ld lm lz))
        (first | with_reducible exact hbx | with_reducible exact hbx2 | go_keep)
        ((go_at_call 20; refine (IH.out base v QA ys xs _ _ W2.drew (HA3.out.keep ((Below.refl _ W2).drew)) HSZ3.out (VIn.keep ((Below.refl _ W2).drew) HV3.out) (HP3.out.keep ((Below.refl _ W2).drew)) HN2.out).mono ?_; rintro e w5 ⟨v5, xs5, rfl, hA5, hW5⟩; have HA5 := Lib.hid hA5; have HW5 : Hid (Wrote w w5 v v5) := Wrote.of_below HBW.out (Wrote.of_below ((Below.refl _ W2).drew) hW5); have hbx2 := box_wrote (Wrote.of_below ((Below.refl _ W2).drew) hW5) HBX.out HVG.out; clear hA5 hW5))
      go_wp2_with fail
      go_ret
      exact ⟨v5, xs5, rfl, by rw [HRES.out]; exact HA5.out, HW5.out⟩
set_option maxRecDepth 100000 in
set_option maxHeartbeats 600000 in
theorem aall_last (H h : Nat) (hH : h + 1 ≤ H) (a : ByteArray) (r : List ByteArray) (g o : Nat) (m : Nat) (IH0 : AllAt H (h + 1) r (some ⟨g, o, none⟩) 0 0 (fun y => Bson.all m y r)) (base : Nat) (v : Value) (QA : Nat → Prop) (ys : List Val) (xs : List Value) (x : Val) (u : Value) (w : World) (hpn : (a :: r).length = 1) (h6 : x.kind = 6)
    (ha : Acc w base v QA H ys xs) (hbase : base ≤ w.heap.size) (hv : VIn w (fun g => QA g ∧ v.ownBlock ≠ some g) (h + 1) x u) (_hog : v.ownBlock ≠ some g) (hp : ∀ i (hi : i < (a :: r).length), w.cell? ⟨g, o + i, none⟩ = some (.string (a :: r)[i])) (hN : ys.length + (Bson.all (m + 1) x (a :: r)).length ≤ 1353245080339) :
    Calls Tryd.prog 20 #[v, u, .slice (some ⟨g, o, none⟩) 1 1] w (AllPost w base v QA H (ys ++ Bson.all (m + 1) x (a :: r))) := by
  obtain ⟨i0, hi, hz0, hz1, hz2⟩ := info_parts infoV6
  obtain ⟨xk, xn, xs0, ba, fa, la, bn, bc, fn, fc, ln, lc, rfl, hxk, hrest⟩ := hv.letters
  clear hrest
  obtain rfl : xk = 6 := by rw [hxk, h6]
  obtain ⟨yn, hyn⟩ : ∃ n, n = ys.length := ⟨_, rfl⟩
  have HA : Hid (Acc (w.alloc (.cells #[.int .i64 6, .int .i64 xn, .string xs0, .slice ba bn bc, .slice fa fn fc, .slice la ln lc] 27)) base v QA H ys xs) := ha.keep ((Below.refl _ w).alloc (Nat.le_refl _) _)
  have HV : Hid (VIn (w.alloc (.cells #[.int .i64 6, .int .i64 xn, .string xs0, .slice ba bn bc, .slice fa fn fc, .slice la ln lc] 27)) (fun g => (QA g ∧ v.ownBlock ≠ some g) ∧ g < w.heap.size) (h + 1) x (.agg #[.int .i64 6, .int .i64 xn, .string xs0, .slice ba bn bc, .slice fa fn fc, .slice la ln lc])) := VIn.keep ((Below.refl _ w).alloc (Nat.le_refl _) _) hv.lt
  have HB1 : Hid (Below w.heap.size w (w.alloc (.cells #[.int .i64 6, .int .i64 xn, .string xs0, .slice ba bn bc, .slice fa fn fc, .slice la ln lc] 27))) := (Below.refl _ w).alloc (Nat.le_refl _) _
  have HSZ : Hid (base ≤ (w.alloc (.cells #[.int .i64 6, .int .i64 xn, .string xs0, .slice ba bn bc, .slice fa fn fc, .slice la ln lc] 27)).heap.size) := by show _ ≤ _; simp; omega
  have hp0 : w.cell? ⟨g, o, none⟩ = some (.string a) := by have := hp 0 (by simp); rw [Nat.add_zero] at this; exact this
  have HPR : Hid (StrsBy w v (some ⟨g, o, none⟩) r) := by
    refine .inl ?_
    cases r with
    | nil => rfl
    | cons b t => simp at hpn
  have HMISS : Hid ((Bson.fieldIn x.f a).kind = 0 → Bson.all (m + 1) x (a :: r) = [Bson.zero]) := fun e => Bson.all_missing m x a r h6 e
  have HTHERE : Hid ((Bson.fieldIn x.f a).kind ≠ 0 → Bson.all (m + 1) x (a :: r) = Bson.all m (Bson.fieldIn x.f a) r) := fun e => Bson.all_doc m x a r h6 e
  have hyb : yn + 1 ≤ 1353245080339 := by have := List.length_pos_iff.2 (Bson.all_ne (m + 1) x (a :: r)); omega
  have HNB := Lib.hid hN
  have HYN := Lib.hid hyn
  have hf : (w.alloc (.cells #[.int .i64 6, .int .i64 xn, .string xs0, .slice ba bn bc, .slice fa fn fc, .slice la ln lc] 27)).cell? ⟨w.heap.size, 0, none⟩ = some (.int .i64 6) ∧ (w.alloc (.cells #[.int .i64 6, .int .i64 xn, .string xs0, .slice ba bn bc, .slice fa fn fc, .slice la ln lc] 27)).cell? ⟨w.heap.size, 1, none⟩ = some (.int .i64 xn) ∧ (w.alloc (.cells #[.int .i64 6, .int .i64 xn, .string xs0, .slice ba bn bc, .slice fa fn fc, .slice la ln lc] 27)).cell? ⟨w.heap.size, 2, none⟩ = some (.string xs0) ∧ (w.alloc (.cells #[.int .i64 6, .int .i64 xn, .string xs0, .slice ba bn bc, .slice fa fn fc, .slice la ln lc] 27)).cell? ⟨w.heap.size, 3, none⟩ = some (.slice ba bn bc) ∧ (w.alloc (.cells #[.int .i64 6, .int .i64 xn, .string xs0, .slice ba bn bc, .slice fa fn fc, .slice la ln lc] 27)).cell? ⟨w.heap.size, 4, none⟩ = some (.slice fa fn fc) ∧ (w.alloc (.cells #[.int .i64 6, .int .i64 xn, .string xs0, .slice ba bn bc, .slice fa fn fc, .slice la ln lc] 27)).cell? ⟨w.heap.size, 5, none⟩ = some (.slice la ln lc) ∧ (w.alloc (.cells #[.int .i64 6, .int .i64 xn, .string xs0, .slice ba bn bc, .slice fa fn fc, .slice la ln lc] 27)).cell? ⟨g, o, none⟩ = some (.string a) := by
    have e := heap_alloc_new w (.cells #[.int .i64 6, .int .i64 xn, .string xs0, .slice ba bn bc, .slice fa fn fc, .slice la ln lc] 27)
    exact ⟨(cell_of_row _ _ 0 _ _ _ e).trans rfl, (cell_of_row _ _ 1 _ _ _ e).trans rfl, (cell_of_row _ _ 2 _ _ _ e).trans rfl, (cell_of_row _ _ 3 _ _ _ e).trans rfl, (cell_of_row _ _ 4 _ _ _ e).trans rfl, (cell_of_row _ _ 5 _ _ _ e).trans rfl, cell_keep HB1.out hp0⟩
  have HF0 := Lib.hid hf
  have HSZ0 : Hid (w.heap.size < (w.alloc (.cells #[.int .i64 6, .int .i64 xn, .string xs0, .slice ba bn bc, .slice fa fn fc, .slice la ln lc] 27)).heap.size) := by show _ < _; simp
  have HG0 : Hid (g < (w.alloc (.cells #[.int .i64 6, .int .i64 xn, .string xs0, .slice ba bn bc, .slice fa fn fc, .slice la ln lc] 27)).heap.size) := by have := World.block_lt_of_cell? w _ hp0; show _ < _; simp at this ⊢; omega
  have IH := Lib.hid IH0
  clear ha hv hp hp0 hN hxk hyn h6 hpn _hog IH0
  generalize hW0 : w.alloc (.cells #[.int .i64 6, .int .i64 xn, .string xs0, .slice ba bn bc, .slice fa fn fc, .slice la ln lc] 27) = W0 at *
  go_enter Tryd.func20, Tryd.ntmps20
  go_wp2_with fail
  clear hW0
  go_region_held3 (fun W => W.cell? ⟨w.heap.size, 0, none⟩ = some (.int .i64 6) ∧ W.cell? ⟨w.heap.size, 1, none⟩ = some (.int .i64 xn) ∧ W.cell? ⟨w.heap.size, 2, none⟩ = some (.string xs0) ∧ W.cell? ⟨w.heap.size, 3, none⟩ = some (.slice ba bn bc) ∧ W.cell? ⟨w.heap.size, 4, none⟩ = some (.slice fa fn fc) ∧ W.cell? ⟨w.heap.size, 5, none⟩ = some (.slice la ln lc) ∧ W.cell? ⟨g, o, none⟩ = some (.string a))
    (first | with_reducible exact hf | with_reducible exact hf2 | with_reducible exact hf3 | with_reducible exact hf4 | go_keep)
    ((first
      | (go_at_call 36; refine (field_any _ h x _ a W0.drew (VIn.keep ((Below.refl _ W0).drew) HV.out)).mono ?_; rintro e w1 ⟨v1, rfl, hv1, hb1⟩; have HB2 : Hid (Below W0.heap.size W0 w1) := (Below.refl _ W0).drew.trans hb1; obtain ⟨kd, nd, sd, bd, fd, ld, bm, bz, fm, fz, lm, lz, rfl⟩ := hv1.shape; have HV1 := Lib.hid hv1; have hf2 : w1.cell? ⟨w.heap.size, 0, none⟩ = some (.int .i64 6) ∧ w1.cell? ⟨w.heap.size, 1, none⟩ = some (.int .i64 xn) ∧ w1.cell? ⟨w.heap.size, 2, none⟩ = some (.string xs0) ∧ w1.cell? ⟨w.heap.size, 3, none⟩ = some (.slice ba bn bc) ∧ w1.cell? ⟨w.heap.size, 4, none⟩ = some (.slice fa fn fc) ∧ w1.cell? ⟨w.heap.size, 5, none⟩ = some (.slice la ln lc) ∧ w1.cell? ⟨g, o, none⟩ = some (.string a) := ⟨cell_keep HB2.out HF0.out.1, cell_keep HB2.out HF0.out.2.1, cell_keep HB2.out HF0.out.2.2.1, cell_keep HB2.out HF0.out.2.2.2.1, cell_keep HB2.out HF0.out.2.2.2.2.1, cell_keep HB2.out HF0.out.2.2.2.2.2.1, cell_keep HB2.out HF0.out.2.2.2.2.2.2⟩; clear hv1 hb1)
      | (go_at_call 36; refine (field_any _ h x _ a (W0.alloc (.cells #[.int .i64 0, .int .i64 0, .string ⟨#[]⟩, .slice none 0 0, .slice none 0 0, .slice none 0 0] 27)).drew (VIn.keep (((Below.refl _ W0).alloc (Nat.le_refl _) (.cells #[.int .i64 0, .int .i64 0, .string ⟨#[]⟩, .slice none 0 0, .slice none 0 0, .slice none 0 0] 27)).drew) HV.out)).mono ?_; rintro e w1 ⟨v1, rfl, hv1, hb1⟩; have HB2 : Hid (Below W0.heap.size W0 w1) := (((Below.refl _ W0).alloc (Nat.le_refl _) (.cells #[.int .i64 0, .int .i64 0, .string ⟨#[]⟩, .slice none 0 0, .slice none 0 0, .slice none 0 0] 27)).drew).trans (hb1.mono (by simp)); have hrow : w1.heap[W0.heap.size]? = some (.cells #[.int .i64 0, .int .i64 0, .string ⟨#[]⟩, .slice none 0 0, .slice none 0 0, .slice none 0 0] 27 (0, 0)) := (hb1.block _ (by simp)).trans (heap_alloc_new W0 _); have HROW := Lib.hid hrow; have z0 : w1.cell? ⟨W0.heap.size, 0, none⟩ = some (.int .i64 0) := (cell_of_row _ _ 0 _ _ _ hrow).trans rfl; have z1 : w1.cell? ⟨W0.heap.size, 1, none⟩ = some (.int .i64 0) := (cell_of_row _ _ 1 _ _ _ hrow).trans rfl; have z2 : w1.cell? ⟨W0.heap.size, 2, none⟩ = some (.string { data := #[] }) := (cell_of_row _ _ 2 _ _ _ hrow).trans rfl; have z3 : w1.cell? ⟨W0.heap.size, 3, none⟩ = some (.slice none 0 0) := (cell_of_row _ _ 3 _ _ _ hrow).trans rfl; have z4 : w1.cell? ⟨W0.heap.size, 4, none⟩ = some (.slice none 0 0) := (cell_of_row _ _ 4 _ _ _ hrow).trans rfl; have z5 : w1.cell? ⟨W0.heap.size, 5, none⟩ = some (.slice none 0 0) := (cell_of_row _ _ 5 _ _ _ hrow).trans rfl; have g0 : w1.frozen? ⟨W0.heap.size, 0, none⟩ = false := frozen_of_row _ _ 0 _ _ hrow; have g1 : w1.frozen? ⟨W0.heap.size, 1, none⟩ = false := frozen_of_row _ _ 1 _ _ hrow; have g2 : w1.frozen? ⟨W0.heap.size, 2, none⟩ = false := frozen_of_row _ _ 2 _ _ hrow; have g3 : w1.frozen? ⟨W0.heap.size, 3, none⟩ = false := frozen_of_row _ _ 3 _ _ hrow; have g4 : w1.frozen? ⟨W0.heap.size, 4, none⟩ = false := frozen_of_row _ _ 4 _ _ hrow; have g5 : w1.frozen? ⟨W0.heap.size, 5, none⟩ = false := frozen_of_row _ _ 5 _ _ hrow; clear hrow; obtain ⟨kd, nd, sd, bd, fd, ld, bm, bz, fm, fz, lm, lz, rfl⟩ := hv1.shape; have HV1 := Lib.hid hv1; have hf2 : w1.cell? ⟨w.heap.size, 0, none⟩ = some (.int .i64 6) ∧ w1.cell? ⟨w.heap.size, 1, none⟩ = some (.int .i64 xn) ∧ w1.cell? ⟨w.heap.size, 2, none⟩ = some (.string xs0) ∧ w1.cell? ⟨w.heap.size, 3, none⟩ = some (.slice ba bn bc) ∧ w1.cell? ⟨w.heap.size, 4, none⟩ = some (.slice fa fn fc) ∧ w1.cell? ⟨w.heap.size, 5, none⟩ = some (.slice la ln lc) ∧ w1.cell? ⟨g, o, none⟩ = some (.string a) := ⟨cell_keep HB2.out HF0.out.1, cell_keep HB2.out HF0.out.2.1, cell_keep HB2.out HF0.out.2.2.1, cell_keep HB2.out HF0.out.2.2.2.1, cell_keep HB2.out HF0.out.2.2.2.2.1, cell_keep HB2.out HF0.out.2.2.2.2.2.1, cell_keep HB2.out HF0.out.2.2.2.2.2.2⟩; clear hv1 hb1; have hf3 : ((((((w1.setCell ⟨W0.heap.size, 0, none⟩ (.int .i64 kd)).setCell ⟨W0.heap.size, 1, none⟩ (.int .i64 nd)).setCell ⟨W0.heap.size, 2, none⟩ (.string sd)).setCell ⟨W0.heap.size, 3, none⟩ (.slice bd bm bz)).setCell ⟨W0.heap.size, 4, none⟩ (.slice fd fm fz)).setCell ⟨W0.heap.size, 5, none⟩ (.slice ld lm lz)).cell? ⟨w.heap.size, 0, none⟩ = some (.int .i64 6) ∧ ((((((w1.setCell ⟨W0.heap.size, 0, none⟩ (.int .i64 kd)).setCell ⟨W0.heap.size, 1, none⟩ (.int .i64 nd)).setCell ⟨W0.heap.size, 2, none⟩ (.string sd)).setCell ⟨W0.heap.size, 3, none⟩ (.slice bd bm bz)).setCell ⟨W0.heap.size, 4, none⟩ (.slice fd fm fz)).setCell ⟨W0.heap.size, 5, none⟩ (.slice ld lm lz)).cell? ⟨w.heap.size, 1, none⟩ = some (.int .i64 xn) ∧ ((((((w1.setCell ⟨W0.heap.size, 0, none⟩ (.int .i64 kd)).setCell ⟨W0.heap.size, 1, none⟩ (.int .i64 nd)).setCell ⟨W0.heap.size, 2, none⟩ (.string sd)).setCell ⟨W0.heap.size, 3, none⟩ (.slice bd bm bz)).setCell ⟨W0.heap.size, 4, none⟩ (.slice fd fm fz)).setCell ⟨W0.heap.size, 5, none⟩ (.slice ld lm lz)).cell? ⟨w.heap.size, 2, none⟩ = some (.string xs0) ∧ ((((((w1.setCell ⟨W0.heap.size, 0, none⟩ (.int .i64 kd)).setCell ⟨W0.heap.size, 1, none⟩ (.int .i64 nd)).setCell ⟨W0.heap.size, 2, none⟩ (.string sd)).setCell ⟨W0.heap.size, 3, none⟩ (.slice bd bm bz)).setCell ⟨W0.heap.size, 4, none⟩ (.slice fd fm fz)).setCell ⟨W0.heap.size, 5, none⟩ (.slice ld lm lz)).cell? ⟨w.heap.size, 3, none⟩ = some (.slice ba bn bc) ∧ ((((((w1.setCell ⟨W0.heap.size, 0, none⟩ (.int .i64 kd)).setCell ⟨W0.heap.size, 1, none⟩ (.int .i64 nd)).setCell ⟨W0.heap.size, 2, none⟩ (.string sd)).setCell ⟨W0.heap.size, 3, none⟩ (.slice bd bm bz)).setCell ⟨W0.heap.size, 4, none⟩ (.slice fd fm fz)).setCell ⟨W0.heap.size, 5, none⟩ (.slice ld lm lz)).cell? ⟨w.heap.size, 4, none⟩ = some (.slice fa fn fc) ∧ ((((((w1.setCell ⟨W0.heap.size, 0, none⟩ (.int .i64 kd)).setCell ⟨W0.heap.size, 1, none⟩ (.int .i64 nd)).setCell ⟨W0.heap.size, 2, none⟩ (.string sd)).setCell ⟨W0.heap.size, 3, none⟩ (.slice bd bm bz)).setCell ⟨W0.heap.size, 4, none⟩ (.slice fd fm fz)).setCell ⟨W0.heap.size, 5, none⟩ (.slice ld lm lz)).cell? ⟨w.heap.size, 5, none⟩ = some (.slice la ln lc) ∧ ((((((w1.setCell ⟨W0.heap.size, 0, none⟩ (.int .i64 kd)).setCell ⟨W0.heap.size, 1, none⟩ (.int .i64 nd)).setCell ⟨W0.heap.size, 2, none⟩ (.string sd)).setCell ⟨W0.heap.size, 3, none⟩ (.slice bd bm bz)).setCell ⟨W0.heap.size, 4, none⟩ (.slice fd fm fz)).setCell ⟨W0.heap.size, 5, none⟩ (.slice ld lm lz)).cell? ⟨g, o, none⟩ = some (.string a) := after_put hf2 W0.heap.size (by have := HSZ0.out; omega) (by have := HG0.out; omega) [.int .i64 kd, .int .i64 nd, .string sd, .slice bd bm bz, .slice fd fm fz, .slice ld lm lz])))
  · clear hf hf2
    have HB3 : Hid (Below W0.heap.size W0 (w1.alloc (.cells #[.int .i64 kd, .int .i64 nd, .string sd, .slice bd bm bz, .slice fd fm fz, .slice ld lm lz] 27))) := HB2.out.alloc HB2.out.size _
    have hrow2 := heap_alloc_new w1 (.cells #[.int .i64 kd, .int .i64 nd, .string sd, .slice bd bm bz, .slice fd fm fz, .slice ld lm lz] 27)
    have HBX : Hid ((w1.alloc (.cells #[.int .i64 kd, .int .i64 nd, .string sd, .slice bd bm bz, .slice fd fm fz, .slice ld lm lz] 27)).cell? ⟨w1.heap.size, 0, none⟩ = some (.int .i64 kd) ∧ (w1.alloc (.cells #[.int .i64 kd, .int .i64 nd, .string sd, .slice bd bm bz, .slice fd fm fz, .slice ld lm lz] 27)).cell? ⟨w1.heap.size, 1, none⟩ = some (.int .i64 nd) ∧ (w1.alloc (.cells #[.int .i64 kd, .int .i64 nd, .string sd, .slice bd bm bz, .slice fd fm fz, .slice ld lm lz] 27)).cell? ⟨w1.heap.size, 2, none⟩ = some (.string sd) ∧ (w1.alloc (.cells #[.int .i64 kd, .int .i64 nd, .string sd, .slice bd bm bz, .slice fd fm fz, .slice ld lm lz] 27)).cell? ⟨w1.heap.size, 3, none⟩ = some (.slice bd bm bz) ∧ (w1.alloc (.cells #[.int .i64 kd, .int .i64 nd, .string sd, .slice bd bm bz, .slice fd fm fz, .slice ld lm lz] 27)).cell? ⟨w1.heap.size, 4, none⟩ = some (.slice fd fm fz) ∧ (w1.alloc (.cells #[.int .i64 kd, .int .i64 nd, .string sd, .slice bd bm bz, .slice fd fm fz, .slice ld lm lz] 27)).cell? ⟨w1.heap.size, 5, none⟩ = some (.slice ld lm lz)) := ⟨(cell_of_row _ _ 0 _ _ _ hrow2).trans rfl, (cell_of_row _ _ 1 _ _ _ hrow2).trans rfl, (cell_of_row _ _ 2 _ _ _ hrow2).trans rfl, (cell_of_row _ _ 3 _ _ _ hrow2).trans rfl, (cell_of_row _ _ 4 _ _ _ hrow2).trans rfl, (cell_of_row _ _ 5 _ _ _ hrow2).trans rfl⟩
    have HV3 : Hid (VIn (w1.alloc (.cells #[.int .i64 kd, .int .i64 nd, .string sd, .slice bd bm bz, .slice fd fm fz, .slice ld lm lz] 27)) (fun g => QA g ∧ v.ownBlock ≠ some g) (h + 1) (Bson.fieldIn x.f a) (.agg #[.int .i64 kd, .int .i64 nd, .string sd, .slice bd bm bz, .slice fd fm fz, .slice ld lm lz])) := (HV1.out.kept (Kept.of_below (Below.refl _ _)) (fun g hg => hg.1)).keep ((Below.refl _ w1).alloc (Nat.le_refl _) _)
    clear hrow2 HV1 HF0
    generalize hW2 : w1.alloc (.cells #[.int .i64 kd, .int .i64 nd, .string sd, .slice bd bm bz, .slice fd fm fz, .slice ld lm lz] 27) = W2 at *
    generalize hGG : w1.heap.size = G at *
    have HA3 : Hid (Acc W2 base v QA H ys xs) := HA.out.keep HB3.out
    have HBW : Hid (Below w.heap.size w W2) := HB1.out.trans (HB3.out.mono (by have := HSZ0.out; omega))
    have HP3 := Lib.hid (HPR.out.keep HBW.out)
    have HSZ3 : Hid (base ≤ W2.heap.size) := Nat.le_trans HSZ.out HB3.out.size
    have HVG : Hid (v.ownBlock ≠ some G) := fun e => by have := (owns_block HA.out.own e).2; have h9 := HB2.out.size; rw [hGG] at h9; omega
    obtain ⟨e0, e1, e2, e3, e4, e5⟩ := HBX.out
    have hkd : kd = (Bson.fieldIn x.f a).kind := HV3.out.kind
    have HKD := Lib.hid hkd
    clear hkd hW2 HA HV HB1 HSZ HPR HB2 HB3
    by_cases h0 : kd = 0
    · subst h0
      have hres := HMISS.out HKD.out.symm
      have HRES := Lib.hid hres
      have HA4 : Hid (Acc (W2.alloc (.cells #[.int .i64 0, .int .i64 0, .string ⟨#[]⟩, .slice none 0 0, .slice none 0 0, .slice none 0 0] 27)) base v QA H ys xs) := HA3.out.keep ((Below.refl _ _).alloc (Nat.le_refl _) _)
      have HOWN : Hid ((W2.alloc (.cells #[.int .i64 0, .int .i64 0, .string ⟨#[]⟩, .slice none 0 0, .slice none 0 0, .slice none 0 0] 27)).ownsRow base 27 6 v yn xs) := by have := HA4.out.own; rw [← HYN.out] at this; exact this
      have HNW : Hid (∀ j u, ([.int .i64 0, .int .i64 0, .string ⟨#[]⟩, .slice none 0 0, .slice none 0 0, .slice none 0 0] : List Value)[j]? = some u → (W2.alloc (.cells #[.int .i64 0, .int .i64 0, .string ⟨#[]⟩, .slice none 0 0, .slice none 0 0, .slice none 0 0] 27)).cell? (Addr.add ⟨W2.heap.size, 0, none⟩ j) = some u) := six_new W2 _ _ _ _ _ _ _
      have HB5 : Hid (Below w.heap.size w (W2.alloc (.cells #[.int .i64 0, .int .i64 0, .string ⟨#[]⟩, .slice none 0 0, .slice none 0 0, .slice none 0 0] 27))) := HBW.out.alloc HBW.out.size _
      have HSZ5 : Hid (base ≤ (W2.alloc (.cells #[.int .i64 0, .int .i64 0, .string ⟨#[]⟩, .slice none 0 0, .slice none 0 0, .slice none 0 0] 27)).heap.size) := by have := HSZ3.out; show _ ≤ _; simp; omega
      clear hres HA3 HBW HP3 HSZ3 HV3 HNB HMISS HTHERE
      go_wp2_with (at_builtin; refine wpList_append_sz _ rfl (.tmp 38) (.tmp 40) 25 rfl base 27 i0 (.agg #[.int .i64 0, .int .i64 0, .string ⟨#[]⟩, .slice none 0 0, .slice none 0 0, .slice none 0 0]) 6 104 Tryd.underlying25 hi hz0 hz1 hz2 rfl v yn xs rfl HOWN.out ⟨W2.heap.size, 0, none⟩ 1 1 [.int .i64 0, .int .i64 0, .string ⟨#[]⟩, .slice none 0 0, .slice none 0 0, .slice none 0 0] rfl rfl (by decide) (by decide) HNW.out (six_one _ _ _ _ _ _ _ _ _ _ _ _) (by unfold maxLen; omega) (by omega) HSZ5.out ?_)
      intro v5 w5 hown5 hlies5
      have hw5 := Wrote.of_lies hlies5
      have hA5 : ∃ xs5, Acc w5 base v5 QA H (ys ++ [Bson.zero]) xs5 := ⟨_, HA4.out.push hw5 (by rw [← HYN.out]; exact hown5) ((zero_in _ _).up (by omega))⟩
      obtain ⟨xs5, hA5⟩ := hA5
      have HA5 := Lib.hid hA5
      have HW5 : Hid (Wrote w w5 v v5) := Wrote.of_below HB5.out hw5
      clear hown5 hlies5 hw5 hA5 HA4 HOWN HNW HB5 HSZ5
      go_wp2_with fail
      go_ret
      exact ⟨v5, xs5, rfl, by rw [HRES.out]; exact HA5.out, HW5.out⟩
    · have hkb : (kd == 0) = false := by simpa using h0
      have hres := HTHERE.out (by rw [← HKD.out]; exact h0)
      have HRES := Lib.hid hres
      have HN2 : Hid (ys.length + (Bson.all m (Bson.fieldIn x.f a) r).length ≤ 1353245080339) := by have := HNB.out; rw [hres] at this; exact this
      have hbx : W2.cell? ⟨G, 0, none⟩ = some (.int .i64 kd) ∧ W2.cell? ⟨G, 1, none⟩ = some (.int .i64 nd) ∧ W2.cell? ⟨G, 2, none⟩ = some (.string sd) ∧ W2.cell? ⟨G, 3, none⟩ = some (.slice bd bm bz) ∧ W2.cell? ⟨G, 4, none⟩ = some (.slice fd fm fz) ∧ W2.cell? ⟨G, 5, none⟩ = some (.slice ld lm lz) := HBX.out
      clear hres h0 HNB HMISS HTHERE HYN HKD e0 e1 e2 e3 e4 e5
      obtain ⟨e0, e1, e2, e3, e4, e5⟩ := HBX.out
      go_wp2_with fail
      go_region_held3 (fun W => W.cell? ⟨G, 0, none⟩ = some (.int .i64 kd) ∧ W.cell? ⟨G, 1, none⟩ = some (.int .i64 nd) ∧ W.cell? ⟨G, 2, none⟩ = some (.string sd) ∧ W.cell? ⟨G, 3, none⟩ = some (.slice bd bm bz) ∧ W.cell? ⟨G, 4, none⟩ = some (.slice fd fm fz) ∧ W.cell? ⟨G, 5, none⟩ = some (.slice ld lm lz))
        (first | with_reducible exact hbx | with_reducible exact hbx2 | go_keep)
        ((go_at_call 20; refine (IH.out base v QA ys xs _ _ W2.drew (HA3.out.keep ((Below.refl _ W2).drew)) HSZ3.out (VIn.keep ((Below.refl _ W2).drew) HV3.out) (HP3.out.keep ((Below.refl _ W2).drew)) HN2.out).mono ?_; rintro e w5 ⟨v5, xs5, rfl, hA5, hW5⟩; have HA5 := Lib.hid hA5; have HW5 : Hid (Wrote w w5 v v5) := Wrote.of_below HBW.out (Wrote.of_below ((Below.refl _ W2).drew) hW5); have hbx2 := box_wrote (Wrote.of_below ((Below.refl _ W2).drew) hW5) HBX.out HVG.out; clear hA5 hW5))
      go_wp2_with fail
      go_ret
      exact ⟨v5, xs5, rfl, by rw [HRES.out]; exact HA5.out, HW5.out⟩
  · clear hf hf2 hf3 z0 z1 z2 z3 z4 z5 g0 g1 g2 g3 g4 g5
    have HB3 : Hid (Below W0.heap.size W0 (puts w1 W0.heap.size 0 [.int .i64 kd, .int .i64 nd, .string sd, .slice bd bm bz, .slice fd fm fz, .slice ld lm lz])) := puts_below HB2.out (Nat.le_refl _) _ 0
    have HBX : Hid ((puts w1 W0.heap.size 0 [.int .i64 kd, .int .i64 nd, .string sd, .slice bd bm bz, .slice fd fm fz, .slice ld lm lz]).cell? ⟨W0.heap.size, 0, none⟩ = some (.int .i64 kd) ∧ (puts w1 W0.heap.size 0 [.int .i64 kd, .int .i64 nd, .string sd, .slice bd bm bz, .slice fd fm fz, .slice ld lm lz]).cell? ⟨W0.heap.size, 1, none⟩ = some (.int .i64 nd) ∧ (puts w1 W0.heap.size 0 [.int .i64 kd, .int .i64 nd, .string sd, .slice bd bm bz, .slice fd fm fz, .slice ld lm lz]).cell? ⟨W0.heap.size, 2, none⟩ = some (.string sd) ∧ (puts w1 W0.heap.size 0 [.int .i64 kd, .int .i64 nd, .string sd, .slice bd bm bz, .slice fd fm fz, .slice ld lm lz]).cell? ⟨W0.heap.size, 3, none⟩ = some (.slice bd bm bz) ∧ (puts w1 W0.heap.size 0 [.int .i64 kd, .int .i64 nd, .string sd, .slice bd bm bz, .slice fd fm fz, .slice ld lm lz]).cell? ⟨W0.heap.size, 4, none⟩ = some (.slice fd fm fz) ∧ (puts w1 W0.heap.size 0 [.int .i64 kd, .int .i64 nd, .string sd, .slice bd bm bz, .slice fd fm fz, .slice ld lm lz]).cell? ⟨W0.heap.size, 5, none⟩ = some (.slice ld lm lz)) := by
      have hr : Row6 w1 W0.heap.size 27 6 := ⟨_, HROW.out, rfl⟩
      obtain ⟨_, _, h7⟩ := hr.puts 0 [.int .i64 kd, .int .i64 nd, .string sd, .slice bd bm bz, .slice fd fm fz, .slice ld lm lz] (by show 0 + 6 ≤ 6; omega)
      exact ⟨(h7 0 (by show 0 < 6; omega)).trans rfl, (h7 1 (by show 1 < 6; omega)).trans rfl, (h7 2 (by show 2 < 6; omega)).trans rfl, (h7 3 (by show 3 < 6; omega)).trans rfl, (h7 4 (by show 4 < 6; omega)).trans rfl, (h7 5 (by show 5 < 6; omega)).trans rfl⟩
    have HV3 : Hid (VIn (puts w1 W0.heap.size 0 [.int .i64 kd, .int .i64 nd, .string sd, .slice bd bm bz, .slice fd fm fz, .slice ld lm lz]) (fun g => QA g ∧ v.ownBlock ≠ some g) (h + 1) (Bson.fieldIn x.f a) (.agg #[.int .i64 kd, .int .i64 nd, .string sd, .slice bd bm bz, .slice fd fm fz, .slice ld lm lz])) := HV1.out.kept (puts_kept (fun g => (QA g ∧ v.ownBlock ≠ some g) ∧ g < w.heap.size) (by have := HSZ0.out; omega) 0 _) (fun g hg => hg.1)
    clear HROW HV1 HF0
    generalize hW2 : ((((((w1.setCell ⟨W0.heap.size, 0, none⟩ (.int .i64 kd)).setCell ⟨W0.heap.size, 1, none⟩ (.int .i64 nd)).setCell ⟨W0.heap.size, 2, none⟩ (.string sd)).setCell ⟨W0.heap.size, 3, none⟩ (.slice bd bm bz)).setCell ⟨W0.heap.size, 4, none⟩ (.slice fd fm fz)).setCell ⟨W0.heap.size, 5, none⟩ (.slice ld lm lz)) = W2 at *
    have hW3 : puts w1 W0.heap.size 0 [.int .i64 kd, .int .i64 nd, .string sd, .slice bd bm bz, .slice fd fm fz, .slice ld lm lz] = W2 := hW2
    rw [hW3] at HB3 HBX HV3
    clear hW3
    generalize hGG : W0.heap.size = G at *
    subst hGG; have HA3 : Hid (Acc W2 base v QA H ys xs) := HA.out.keep HB3.out
    have HBW : Hid (Below w.heap.size w W2) := HB1.out.trans (HB3.out.mono (by have := HSZ0.out; omega))
    have HP3 := Lib.hid (HPR.out.keep HBW.out)
    have HSZ3 : Hid (base ≤ W2.heap.size) := Nat.le_trans HSZ.out HB3.out.size
    have HVG : Hid (v.ownBlock ≠ some W0.heap.size) := fun e => by have := (owns_block HA.out.own e).2; omega
    obtain ⟨e0, e1, e2, e3, e4, e5⟩ := HBX.out
    have hkd : kd = (Bson.fieldIn x.f a).kind := HV3.out.kind
    have HKD := Lib.hid hkd
    clear hkd hW2 HA HV HB1 HSZ HPR HB2 HB3
    by_cases h0 : kd = 0
    · subst h0
      have hres := HMISS.out HKD.out.symm
      have HRES := Lib.hid hres
      have HA4 : Hid (Acc (W2.alloc (.cells #[.int .i64 0, .int .i64 0, .string ⟨#[]⟩, .slice none 0 0, .slice none 0 0, .slice none 0 0] 27)) base v QA H ys xs) := HA3.out.keep ((Below.refl _ _).alloc (Nat.le_refl _) _)
      have HOWN : Hid ((W2.alloc (.cells #[.int .i64 0, .int .i64 0, .string ⟨#[]⟩, .slice none 0 0, .slice none 0 0, .slice none 0 0] 27)).ownsRow base 27 6 v yn xs) := by have := HA4.out.own; rw [← HYN.out] at this; exact this
      have HNW : Hid (∀ j u, ([.int .i64 0, .int .i64 0, .string ⟨#[]⟩, .slice none 0 0, .slice none 0 0, .slice none 0 0] : List Value)[j]? = some u → (W2.alloc (.cells #[.int .i64 0, .int .i64 0, .string ⟨#[]⟩, .slice none 0 0, .slice none 0 0, .slice none 0 0] 27)).cell? (Addr.add ⟨W2.heap.size, 0, none⟩ j) = some u) := six_new W2 _ _ _ _ _ _ _
      have HB5 : Hid (Below w.heap.size w (W2.alloc (.cells #[.int .i64 0, .int .i64 0, .string ⟨#[]⟩, .slice none 0 0, .slice none 0 0, .slice none 0 0] 27))) := HBW.out.alloc HBW.out.size _
      have HSZ5 : Hid (base ≤ (W2.alloc (.cells #[.int .i64 0, .int .i64 0, .string ⟨#[]⟩, .slice none 0 0, .slice none 0 0, .slice none 0 0] 27)).heap.size) := by have := HSZ3.out; show _ ≤ _; simp; omega
      clear hres HA3 HBW HP3 HSZ3 HV3 HNB HMISS HTHERE
      go_wp2_with (at_builtin; refine wpList_append_sz _ rfl (.tmp 38) (.tmp 40) 25 rfl base 27 i0 (.agg #[.int .i64 0, .int .i64 0, .string ⟨#[]⟩, .slice none 0 0, .slice none 0 0, .slice none 0 0]) 6 104 Tryd.underlying25 hi hz0 hz1 hz2 rfl v yn xs rfl HOWN.out ⟨W2.heap.size, 0, none⟩ 1 1 [.int .i64 0, .int .i64 0, .string ⟨#[]⟩, .slice none 0 0, .slice none 0 0, .slice none 0 0] rfl rfl (by decide) (by decide) HNW.out (six_one _ _ _ _ _ _ _ _ _ _ _ _) (by unfold maxLen; omega) (by omega) HSZ5.out ?_)
      intro v5 w5 hown5 hlies5
      have hw5 := Wrote.of_lies hlies5
      have hA5 : ∃ xs5, Acc w5 base v5 QA H (ys ++ [Bson.zero]) xs5 := ⟨_, HA4.out.push hw5 (by rw [← HYN.out]; exact hown5) ((zero_in _ _).up (by omega))⟩
      obtain ⟨xs5, hA5⟩ := hA5
      have HA5 := Lib.hid hA5
      have HW5 : Hid (Wrote w w5 v v5) := Wrote.of_below HB5.out hw5
      clear hown5 hlies5 hw5 hA5 HA4 HOWN HNW HB5 HSZ5
      go_wp2_with fail
      go_ret
      exact ⟨v5, xs5, rfl, by rw [HRES.out]; exact HA5.out, HW5.out⟩
    · have hkb : (kd == 0) = false := by simpa using h0
      have hres := HTHERE.out (by rw [← HKD.out]; exact h0)
      have HRES := Lib.hid hres
      have HN2 : Hid (ys.length + (Bson.all m (Bson.fieldIn x.f a) r).length ≤ 1353245080339) := by have := HNB.out; rw [hres] at this; exact this
      have hbx : W2.cell? ⟨W0.heap.size, 0, none⟩ = some (.int .i64 kd) ∧ W2.cell? ⟨W0.heap.size, 1, none⟩ = some (.int .i64 nd) ∧ W2.cell? ⟨W0.heap.size, 2, none⟩ = some (.string sd) ∧ W2.cell? ⟨W0.heap.size, 3, none⟩ = some (.slice bd bm bz) ∧ W2.cell? ⟨W0.heap.size, 4, none⟩ = some (.slice fd fm fz) ∧ W2.cell? ⟨W0.heap.size, 5, none⟩ = some (.slice ld lm lz) := HBX.out
      clear hres h0 HNB HMISS HTHERE HYN HKD e0 e1 e2 e3 e4 e5
      obtain ⟨e0, e1, e2, e3, e4, e5⟩ := HBX.out
      go_wp2_with fail
      go_region_held3 (fun W => W.cell? ⟨W0.heap.size, 0, none⟩ = some (.int .i64 kd) ∧ W.cell? ⟨W0.heap.size, 1, none⟩ = some (.int .i64 nd) ∧ W.cell? ⟨W0.heap.size, 2, none⟩ = some (.string sd) ∧ W.cell? ⟨W0.heap.size, 3, none⟩ = some (.slice bd bm bz) ∧ W.cell? ⟨W0.heap.size, 4, none⟩ = some (.slice fd fm fz) ∧ W.cell? ⟨W0.heap.size, 5, none⟩ = some (.slice ld lm lz))
        (first | with_reducible exact hbx | with_reducible exact hbx2 | go_keep)
        ((go_at_call 20; refine (IH.out base v QA ys xs _ _ W2.drew (HA3.out.keep ((Below.refl _ W2).drew)) HSZ3.out (VIn.keep ((Below.refl _ W2).drew) HV3.out) (HP3.out.keep ((Below.refl _ W2).drew)) HN2.out).mono ?_; rintro e w5 ⟨v5, xs5, rfl, hA5, hW5⟩; have HA5 := Lib.hid hA5; have HW5 : Hid (Wrote w w5 v v5) := Wrote.of_below HBW.out (Wrote.of_below ((Below.refl _ W2).drew) hW5); have hbx2 := box_wrote (Wrote.of_below ((Below.refl _ W2).drew) hW5) HBX.out HVG.out; clear hA5 hW5))
      go_wp2_with fail
      go_ret
      exact ⟨v5, xs5, rfl, by rw [HRES.out]; exact HA5.out, HW5.out⟩
end Go.Proofs.YtdgncpoephdboaaDoor
end
