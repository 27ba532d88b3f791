/- PathCopy. -/
import Derived.Test.YtngllchoiffniaaDoorMk4
import Derived.Test.YtngllchoiffniaaDoorMk1
set_option maxRecDepth 100000
set_option maxHeartbeats 20000000
section
namespace Go.Proofs.YtngllchoiffniaaDoor
open Go.RowKit
open Seal
open Bson (Val)
theorem clone_any (Q : Nat → Prop) (ba : Option Addr) (l : List Nat) (n bc : Nat) (w : World) (hn : l.length = n) (hl : n ≤ 140737488355328) (hB : BytesIn w Q ba l) :
  Calls Tryd.prog 36 #[.slice ba n bc] w fun e w' => ∃ a' c', e = .returned (.slice a' n c') ∧ (n ≤ c' ∧ c' ≤ 9223372036854775807) ∧ BytesIn w' (fun g => w.heap.size ≤ g) a' l ∧ Below w.heap.size w w' := by
 subst hn
 cases ba with
 | none =>
  have hnil : l = [] := by
   rcases hB with h | ⟨g, o, e, _⟩
   ·exact h
   ·cases e
  refine (Tryd.bytes_Clone_nil l.length bc w).mono ?_
  rintro e w' ⟨rfl, rfl⟩
  exact ⟨none, 0, by rw [hnil]; rfl, by rw [hnil]; exact ⟨Nat.le_refl _, by omega⟩, .inl hnil, Below.refl _ _⟩
 | some a =>
  refine (Tryd.bytes_Clone_at a l.length bc (l.map fun x => ((x : Nat) : Int)) w (by simp) hl (fun i hi => ?_)).mono ?_
  ·rcases hB with h | ⟨g, o, e, _, h⟩
   ·rw [h] at hi; simp at hi
   ·obtain rfl := Option.some.inj e
    have := h i hi
    rw [Addr.add_mid, this]
    simp [List.getD_eq_getElem?_getD, hi]
  ·rintro e w' ⟨v', rfl, hown, hne, hb⟩
   obtain ⟨_, ⟨rfl, _⟩ | ⟨g, cap, cur, rfl, hg, hrow, hc, hm, hsz, htake⟩⟩ := hown
   ·exact absurd rfl hne
   ·refine ⟨_, cap, rfl, ⟨hc, by unfold maxLen at hm; omega⟩, .inr ⟨g, 0, rfl, hg, fun j hj => ?_⟩, hb⟩
    have e1 : cur.toList[j]? = ((l.map fun x => ((x : Nat) : Int)).map (Value.int .u8))[j]? := by
     rw [← htake, List.getElem?_take_of_lt (by omega)]
    rw [Nat.zero_add, cell_of_row w' g j _ _ _ hrow, ← Array.getElem?_toList, e1]
    simp [List.getD_eq_getElem?_getD, hj]
def BoxV (c0 c1 c2 c3 c4 c5 : Value) (w W : World) : Prop := W.heap[w.heap.size]? = some (.cells #[c0, c1, c2, c3, c4, c5] 32 (0, 0)) ∧ W.heap[w.heap.size + 1]? = some (.cells #[.int .i64 0, .int .i64 0, .string ⟨#[]⟩, .slice none 0 0, .slice none 0 0, .slice none 0 0] 32 (0, 0)) ∧ Below w.heap.size w W ∧ w.heap.size + 2 ≤ W.heap.size
section
variable {c0 c1 c2 c3 c4 c5 : Value} {w W W' : World}
theorem BoxV.cells (h : BoxV c0 c1 c2 c3 c4 c5 w W) : W.cell? ⟨w.heap.size, 0, none⟩ = some c0 ∧ W.cell? ⟨w.heap.size, 1, none⟩ = some c1 ∧ W.cell? ⟨w.heap.size, 2, none⟩ = some c2 ∧ W.cell? ⟨w.heap.size, 3, none⟩ = some c3 ∧ W.cell? ⟨w.heap.size, 4, none⟩ = some c4 ∧ W.cell? ⟨w.heap.size, 5, none⟩ = some c5 :=
 ⟨(cell_of_row W _ 0 _ _ _ h.1).trans rfl, (cell_of_row W _ 1 _ _ _ h.1).trans rfl, (cell_of_row W _ 2 _ _ _ h.1).trans rfl, (cell_of_row W _ 3 _ _ _ h.1).trans rfl, (cell_of_row W _ 4 _ _ _ h.1).trans rfl, (cell_of_row W _ 5 _ _ _ h.1).trans rfl⟩
theorem BoxV.frozen (h : BoxV c0 c1 c2 c3 c4 c5 w W) (j : Nat) : W.frozen? ⟨w.heap.size, j, none⟩ = false := frozen_of_row W _ j _ _ h.1
theorem BoxV.zeros (h : BoxV c0 c1 c2 c3 c4 c5 w W) : W.cell? ⟨w.heap.size + 1, 0, none⟩ = some (.int .i64 0) ∧ W.cell? ⟨w.heap.size + 1, 1, none⟩ = some (.int .i64 0) ∧ W.cell? ⟨w.heap.size + 1, 2, none⟩ = some (.string ⟨#[]⟩) ∧ W.cell? ⟨w.heap.size + 1, 3, none⟩ = some (.slice none 0 0) ∧ W.cell? ⟨w.heap.size + 1, 4, none⟩ = some (.slice none 0 0) ∧ W.cell? ⟨w.heap.size + 1, 5, none⟩ = some (.slice none 0 0) ∧ W.frozen? ⟨w.heap.size + 1, 0, none⟩ = false ∧ W.frozen? ⟨w.heap.size + 1, 1, none⟩ = false ∧ W.frozen? ⟨w.heap.size + 1, 2, none⟩ = false ∧ W.frozen? ⟨w.heap.size + 1, 3, none⟩ = false ∧ W.frozen? ⟨w.heap.size + 1, 4, none⟩ = false ∧ W.frozen? ⟨w.heap.size + 1, 5, none⟩ = false :=
 ⟨(cell_of_row W _ 0 _ _ _ h.2.1).trans rfl, (cell_of_row W _ 1 _ _ _ h.2.1).trans rfl, (cell_of_row W _ 2 _ _ _ h.2.1).trans rfl, (cell_of_row W _ 3 _ _ _ h.2.1).trans rfl, (cell_of_row W _ 4 _ _ _ h.2.1).trans rfl, (cell_of_row W _ 5 _ _ _ h.2.1).trans rfl, frozen_of_row W _ 0 _ _ h.2.1, frozen_of_row W _ 1 _ _ h.2.1, frozen_of_row W _ 2 _ _ h.2.1, frozen_of_row W _ 3 _ _ h.2.1, frozen_of_row W _ 4 _ _ h.2.1, frozen_of_row W _ 5 _ _ h.2.1⟩
theorem BoxV.new (c0 c1 c2 c3 c4 c5 : Value) (w : World) : BoxV c0 c1 c2 c3 c4 c5 w ((w.alloc (.cells #[c0, c1, c2, c3, c4, c5] 32)).alloc (.cells #[.int .i64 0, .int .i64 0, .string ⟨#[]⟩, .slice none 0 0, .slice none 0 0, .slice none 0 0] 32)) :=
 ⟨(Below.heap_alloc _ _ _ (by simp)).trans (heap_alloc_new w _), by have := heap_alloc_new (w.alloc (.cells #[c0, c1, c2, c3, c4, c5] 32)) (.cells #[.int .i64 0, .int .i64 0, .string ⟨#[]⟩, .slice none 0 0, .slice none 0 0, .slice none 0 0] 32); simpa using this, ((Below.refl _ w).alloc (Nat.le_refl _) _).alloc (by simp) _, by simp⟩
theorem BoxV.keep (h : BoxV c0 c1 c2 c3 c4 c5 w W) (hb : Below W.heap.size W W') : BoxV c0 c1 c2 c3 c4 c5 w W' :=
 ⟨(hb.block _ (Array.getElem?_eq_some_iff.1 h.1).1).trans h.1, (hb.block _ (Array.getElem?_eq_some_iff.1 h.2.1).1).trans h.2.1, h.2.2.1.trans (hb.mono (by have := h.2.2.2; omega)), by have := hb.size; have := h.2.2.2; omega⟩
theorem below_set {B : Nat} {w wr : World} (h : Below B w wr) (g j : Nat) (hg : B ≤ g) (v : Value) : Below B w (wr.setCell ⟨g, j, none⟩ v) := puts_below h hg [v] j
theorem BoxV.set3 (h : BoxV c0 c1 c2 c3 c4 c5 w W) (v : Value) : BoxV c0 c1 c2 v c4 c5 w (W.setCell ⟨w.heap.size, 3, none⟩ v) :=
 ⟨heap_setCell_same W _ 3 _ _ v h.1, (Below.heap_setCell W _ v _ (by simp)).trans h.2.1, below_set h.2.2.1 _ _ (Nat.le_refl _) v, by simpa using h.2.2.2⟩
theorem BoxV.set4 (h : BoxV c0 c1 c2 c3 c4 c5 w W) (v : Value) : BoxV c0 c1 c2 c3 v c5 w (W.setCell ⟨w.heap.size, 4, none⟩ v) :=
 ⟨heap_setCell_same W _ 4 _ _ v h.1, (Below.heap_setCell W _ v _ (by simp)).trans h.2.1, below_set h.2.2.1 _ _ (Nat.le_refl _) v, by simpa using h.2.2.2⟩
theorem BoxV.set5 (h : BoxV c0 c1 c2 c3 c4 c5 w W) (v : Value) : BoxV c0 c1 c2 c3 c4 v w (W.setCell ⟨w.heap.size, 5, none⟩ v) :=
 ⟨heap_setCell_same W _ 5 _ _ v h.1, (Below.heap_setCell W _ v _ (by simp)).trans h.2.1, below_set h.2.2.1 _ _ (Nat.le_refl _) v, by simpa using h.2.2.2⟩
end
theorem copy_any (Q : Nat → Prop) : ∀ (h : Nat), CopyAt Q h
 | 0 => fun _ _ _ hv => hv.elim
 | h + 1 => by
  intro x v w hv
  obtain ⟨ba, fa, la, bc, fc, lc, rfl, hL, hb, hf, hl, hB, hF, hI⟩ := hv
  have IH := copy_any Q h
  unfold agg
  obtain ⟨bn, hbn⟩ : ∃ n, n = x.b.length := ⟨_, rfl⟩
  obtain ⟨fn, hfn⟩ : ∃ n, n = x.f.length := ⟨_, rfl⟩
  obtain ⟨ln, hln⟩ : ∃ n, n = x.l.length := ⟨_, rfl⟩
  have hbl := hL.b; have hfl := hL.f; have hll := hL.l
  have CB := Lib.hid (fun w0 (hk : BytesIn w0 Q ba x.b) => clone_any Q ba x.b bn bc w0 hbn.symm (by omega) hk)
  have CF := Lib.hid (fun w0 (hk : FieldsIn w0 Q (VIn w0 Q h) fa x.f) => eachF_any Q h IH fa fn fc x.f w0 hfn.symm (by omega) hk)
  have CI := Lib.hid (fun w0 (hk : ItemsIn w0 Q (VIn w0 Q h) la x.l) => eachV_any Q h IH la ln lc x.l w0 hln.symm (by omega) hk)
  have HE := Lib.hid (And.intro hbn (And.intro hfn hln))
  have HL := Lib.hid hL
  have HB := Lib.hid hB; have HF := Lib.hid hF; have HI := Lib.hid hI
  rw [← hbn, ← hfn, ← hln]
  obtain ⟨xk, hxk⟩ : ∃ k, k = x.kind := ⟨_, rfl⟩
  obtain ⟨xn, hxn⟩ : ∃ k, k = x.n := ⟨_, rfl⟩
  obtain ⟨xs, hxs⟩ : ∃ k, k = x.s := ⟨_, rfl⟩
  rw [← hxk, ← hxn, ← hxs]
  have HX := Lib.hid (And.intro hxk (And.intro hxn hxs))
  clear hL hb hf hl hB hF hI hbl hfl hll hbn hfn hln hxk hxn hxs IH
  have HW0 := Lib.hid (BoxV.new (.int .i64 xk) (.int .i64 xn) (.string xs) (.slice ba bn bc) (.slice fa fn fc) (.slice la ln lc) w)
  go_enter Tryd.func24, Tryd.ntmps24
  go_wp2_with fail
  generalize hW0 : (w.alloc (Obj.cells #[.int .i64 xk, .int .i64 xn, .string xs, .slice ba bn bc, .slice fa fn fc, .slice la ln lc] 32)).alloc (Obj.cells #[.int .i64 0, .int .i64 0, .string ⟨#[]⟩, .slice none 0 0, .slice none 0 0, .slice none 0 0] 32) = W0 at HW0 ⊢
  clear hW0
  have hk : Hid (∀ W, Below w.heap.size w W → Kept Q w W) := fun W hb => Kept.of_below hb
  refine (CB.out W0 (HB.out.kept (hk.out W0 HW0.out.2.2.1) (fun _ h => h))).mono ?_
  rintro e w1 ⟨a1, n1, rfl, hn1, hP1, hb1⟩
  have HX1 := Lib.hid (HW0.out.keep hb1)
  have HS1 := Lib.hid (HX1.out.set3 (.slice a1 bn n1))
  have HP1 : Hid (BytesIn (w1.setCell ⟨w.heap.size, 3, none⟩ (.slice a1 bn n1)) (fun g => w.heap.size + 2 ≤ g) a1 x.b) := hP1.kept (puts_kept (fun g => W0.heap.size ≤ g) (w := w1) (G := w.heap.size) (by have := HW0.out.2.2.2; omega) 3 [.slice a1 bn n1]) (fun g hg => by have := HW0.out.2.2.2; omega)
  have HN1 := Lib.hid hn1
  obtain ⟨p0, p1, p2, p3, p4, p5⟩ := HX1.out.cells
  have f3 := HX1.out.frozen 3
  obtain ⟨q0, q1, q2, q3, q4, q5⟩ := HS1.out.cells
  clear hP1 hb1 hn1 HX1
  go_wp2_with fail
  clear p0 p1 p2 p3 p4 p5 q0 q1 q2 q3 q4 q5 f3
  generalize w1.setCell ⟨w.heap.size, 3, none⟩ (.slice a1 bn n1) = W1 at HS1 HP1 ⊢
  refine (CF.out W1 (HF.out.kept (hk.out W1 HS1.out.2.2.1) (fun _ h => h) (fun _ _ h => VIn.keep HS1.out.2.2.1 h))).mono ?_
  rintro e w2 ⟨a2, n2, rfl, hn2, hP2, hb2⟩
  have HX2 := Lib.hid (HS1.out.keep hb2)
  have HS2 := Lib.hid (HX2.out.set4 (.slice a2 fn n2))
  have hkk2 : Kept (fun g => w.heap.size + 2 ≤ g) W1 (w2.setCell ⟨w.heap.size, 4, none⟩ (.slice a2 fn n2)) := fun g hg hl => ((puts_kept (fun g => w.heap.size + 2 ≤ g) (w := w2) (G := w.heap.size) (by omega) 4 [.slice a2 fn n2]) g hg (by have := hb2.size; omega)).trans (hb2.block g hl)
  have HP1b := Lib.hid (HP1.out.kept hkk2 (fun _ h => h))
  have hq2 := puts_kept (fun g => W1.heap.size ≤ g) (w := w2) (G := w.heap.size) (by have := HS1.out.2.2.2; omega) 4 [.slice a2 fn n2]
  have HP2 : Hid (FieldsIn (w2.setCell ⟨w.heap.size, 4, none⟩ (.slice a2 fn n2)) (fun g => w.heap.size + 2 ≤ g) (VIn (w2.setCell ⟨w.heap.size, 4, none⟩ (.slice a2 fn n2)) (fun g => w.heap.size + 2 ≤ g) h) a2 x.f) := hP2.kept hq2 (fun g hg => by have := HS1.out.2.2.2; omega) (fun _ _ hv => hv.kept hq2 (fun g hg => by have := HS1.out.2.2.2; omega))
  have HN2 := Lib.hid hn2
  obtain ⟨p0, p1, p2, p3, p4, p5⟩ := HX2.out.cells
  have f4 := HX2.out.frozen 4
  obtain ⟨q0, q1, q2, q3, q4, q5⟩ := HS2.out.cells
  clear hP2 hb2 hn2 HX2 hkk2 hq2 HP1
  go_wp2_with fail
  clear p0 p1 p2 p3 p4 p5 q0 q1 q2 q3 q4 q5 f4
  generalize w2.setCell ⟨w.heap.size, 4, none⟩ (.slice a2 fn n2) = W2 at HS2 HP1b HP2 ⊢
  refine (CI.out W2 (HI.out.kept (hk.out W2 HS2.out.2.2.1) (fun _ h => h) (fun _ _ h => VIn.keep HS2.out.2.2.1 h))).mono ?_
  rintro e w3 ⟨a3, n3, rfl, hn3, hP3, hb3⟩
  have HX3 := Lib.hid (HS2.out.keep hb3)
  have HS3 := Lib.hid (HX3.out.set5 (.slice a3 ln n3))
  have hkk3 : Kept (fun g => w.heap.size + 2 ≤ g) W2 (w3.setCell ⟨w.heap.size, 5, none⟩ (.slice a3 ln n3)) := fun g hg hl => ((puts_kept (fun g => w.heap.size + 2 ≤ g) (w := w3) (G := w.heap.size) (by omega) 5 [.slice a3 ln n3]) g hg (by have := hb3.size; omega)).trans (hb3.block g hl)
  have HP1c := Lib.hid (HP1b.out.kept hkk3 (fun _ h => h))
  have HP2c := Lib.hid (HP2.out.kept hkk3 (fun _ h => h) (fun _ _ hv => hv.kept hkk3 (fun _ h => h)))
  have hq3 := puts_kept (fun g => W2.heap.size ≤ g) (w := w3) (G := w.heap.size) (by have := HS2.out.2.2.2; omega) 5 [.slice a3 ln n3]
  have HP3 : Hid (ItemsIn (w3.setCell ⟨w.heap.size, 5, none⟩ (.slice a3 ln n3)) (fun g => w.heap.size + 2 ≤ g) (VIn (w3.setCell ⟨w.heap.size, 5, none⟩ (.slice a3 ln n3)) (fun g => w.heap.size + 2 ≤ g) h) a3 x.l) := hP3.kept hq3 (fun g hg => by have := HS2.out.2.2.2; omega) (fun _ _ hv => hv.kept hq3 (fun g hg => by have := HS2.out.2.2.2; omega))
  have HN3 := Lib.hid hn3
  obtain ⟨p0, p1, p2, p3, p4, p5⟩ := HX3.out.cells
  have f5 := HX3.out.frozen 5
  obtain ⟨q0, q1, q2, q3, q4, q5⟩ := HS3.out.cells
  obtain ⟨z0, z1, z2, z3, z4, z5, g0, g1, g2, g3, g4, g5⟩ := HS3.out.zeros
  clear hP3 hb3 hn3 HX3 hkk3 hq3 HP1b HP2
  have hk9 := puts_kept (fun g => w.heap.size + 2 ≤ g) (w := w3.setCell ⟨w.heap.size, 5, none⟩ (.slice a3 ln n3)) (G := w.heap.size + 1) (by omega) 0 [.int .i64 xk, .int .i64 xn, .string xs, .slice a1 bn n1, .slice a2 fn n2, .slice a3 ln n3]
  have HB9 := Lib.hid (puts_below HS3.out.2.2.1 (G := w.heap.size + 1) (by omega) [.int .i64 xk, .int .i64 xn, .string xs, .slice a1 bn n1, .slice a2 fn n2, .slice a3 ln n3] 0)
  have HV9 : Hid (VIn (puts (w3.setCell ⟨w.heap.size, 5, none⟩ (.slice a3 ln n3)) (w.heap.size + 1) 0 [.int .i64 xk, .int .i64 xn, .string xs, .slice a1 bn n1, .slice a2 fn n2, .slice a3 ln n3]) (fun g => w.heap.size ≤ g) (h + 1) x (.agg #[.int .i64 xk, .int .i64 xn, .string xs, .slice a1 bn n1, .slice a2 fn n2, .slice a3 ln n3])) := by
   obtain ⟨e1, e2, e3⟩ := HE.out
   obtain ⟨e4, e5, e6⟩ := HX.out
   refine ⟨a1, a2, a3, n1, n2, n3, by unfold agg; rw [← e1, ← e2, ← e3, ← e4, ← e5, ← e6], HL.out, by rw [← e1]; exact HN1.out, by rw [← e2]; exact HN2.out, by rw [← e3]; exact HN3.out, HP1c.out.kept hk9 (fun g hg => by omega), HP2c.out.kept hk9 (fun g hg => by omega) (fun _ _ hv => hv.kept hk9 (fun g hg => by omega)), HP3.out.kept hk9 (fun g hg => by omega) (fun _ _ hv => hv.kept hk9 (fun g hg => by omega))⟩
  clear hk9 HP1c HP2c HP3 HE HX HL HN1 HN2 HN3 HS3
  go_wp2_with fail
  exact bodyPost_ret (v := .agg #[.int .i64 xk, .int .i64 xn, .string xs, .slice a1 bn n1, .slice a2 fn n2, .slice a3 ln n3]) (by simp [results, Tryd.results24, go_sem, z0, z1, z2, z3, z4, z5]) rfl ⟨_, rfl, HV9.out, HB9.out⟩
end Go.Proofs.YtngllchoiffniaaDoor
end
