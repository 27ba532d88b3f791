/- (pile).Len, (pile).Less, (pile).Swap. -/
import Derived.Test.YtfkkckadnookoaaTopCmp
import Derived.BigRegion
namespace Go.Proofs.Ytfkkckadnookoaa
open Go.RowKit
open Seal
theorem below_grow {W w' : World} {q : Nat} {os : Array Obj} (h : w' = Go.Sort.grow (W.drewN q) os) : Below W.heap.size W w' := by
  subst h
  refine ⟨rfl, rfl, rfl, ?_, fun k hk => ?_⟩
  · show W.heap.size ≤ (W.heap ++ os).size
    rw [Array.size_append]; omega
  · show (W.heap ++ os)[k]? = W.heap[k]?
    rw [Array.getElem?_append_left hk]
theorem compare_any (a b : Rk) (Q Q' : Nat → Prop) (w : World) (ha : RkIn w Q a) (hb : RkIn w Q' b) :
    Calls Try.prog 23 #[.agg #[a.kv, a.dv, .int .i64 a.c], .agg #[b.kv, b.dv, .int .i64 b.c]] w fun e w' => e = .returned (.int .i64 (cf a b)) ∧ Below w.heap.size w w' :=
  (compare_ex a b Q Q' w ha hb).mono fun _ _ ⟨h1, _, _, h2⟩ => ⟨h1, below_grow h2⟩
theorem of_drew {w w' : World} (hb : Below w.drew.heap.size w.drew w') : Below w.heap.size w w' := ⟨hb.os, hb.tape, hb.output, hb.size, hb.block⟩
section
variable {w : World} {p : Nat} {m c s : Int} {v : Value} {d : List Rk}
theorem plen_any (n : Nat) (a : Option Addr) (cap : Nat) (w : World) : Calls Try.prog 70 #[.slice a n cap] w fun e w' => e = .returned (.int .i64 n) ∧ w' = w := by
  go_enter Try.func70, Try.ntmps70
  go_wp2
  go_ret
  exact ⟨rfl, rfl⟩
set_option maxRecDepth 100000 in
set_option maxHeartbeats 2000000 in
theorem less_any (h : PileAt w p m c s v d) (i j : Nat) (hi : i < d.length) (hj : j < d.length) :
    Calls Try.prog 71 #[v, .int .i64 i, .int .i64 j] w fun e w' => e = .returned (.bool (decide (cf d[i] d[j] > 0))) ∧ Below w.heap.size w w' := by
  obtain ⟨g, cap, rfl, hpg, hrow⟩ := h.row (by omega)
  obtain ⟨a0, a1, a2⟩ := hrow.cell hi
  obtain ⟨b0, b1, b2⟩ := hrow.cell hj
  have HC : Hid (∀ W, Below w.heap.size w W → Calls Try.prog 23 #[.agg #[d[i].kv, d[i].dv, .int .i64 d[i].c], .agg #[d[j].kv, d[j].dv, .int .i64 d[j].c]] W fun e w' => e = .returned (.int .i64 (cf d[i] d[j])) ∧ Below W.heap.size W w') := fun W hW =>
    compare_any d[i] d[j] _ _ W (((h.keep hW).el d[i] (List.getElem_mem hi))) ((h.keep hW).el d[j] (List.getElem_mem hj))
  generalize cf d[i] d[j] = r at HC ⊢
  generalize d[i].kv = ak at HC a0; generalize d[i].dv = ad at HC a1; generalize d[i].c = ac at HC a2
  generalize d[j].kv = bk at HC b0; generalize d[j].dv = bd at HC b1; generalize d[j].c = bc at HC b2
  generalize d.length = n at hi hj h hrow ⊢
  have hi' : (i : Int) < (n : Int) := by omega
  have hj' : (j : Int) < (n : Int) := by omega
  clear hrow hpg hi hj h
  go_enter Try.func71, Try.ntmps71
  go_upto_region 1 with fail
  refine wp_region_still_tail 8 (by kernel_rfl) (by kernel_rfl) ?_
  simp only [List.take_succ_cons, List.take_zero, List.drop_succ_cons, List.drop_zero]
  show wpStill _ _ w.drew _ _ _
  repeat still_step
  refine wpStill_nil ?_
  go_wp2_with (go_at_call 23; refine (HC.out w.drew ⟨rfl, rfl, rfl, Nat.le_refl _, fun _ _ => rfl⟩).mono ?_; rintro e w' ⟨rfl, hb⟩)
  go_ret
  exact ⟨rfl, of_drew hb⟩
theorem RkIn.shapes {Q : Nat → Prop} {r : Rk} (h : RkIn w Q r) : (∃ a n c, r.kv = .slice a n c) ∧ (∃ a n c, r.dv = .slice a n c) := by
  obtain ⟨a, c, e, _⟩ := h.k.shp
  obtain ⟨a2, c2, e2, _⟩ := h.d.shp
  exact ⟨⟨a, _, c, e⟩, ⟨a2, _, c2, e2⟩⟩
theorem swap_mem {g cap : Nat} (h : PileAt w p m c s (.slice (some ⟨g, 0, none⟩) d.length cap) d) (hrow : RowAt w g cap d) (hpg : p < g) {i j : Nat} (hi : i < d.length) (hj : j < d.length) (W : World)
    (hW : W = (puts (puts w g (i * 3) [d[j].kv, d[j].dv, .int .i64 d[j].c]) g (j * 3) [d[i].kv, d[i].dv, .int .i64 d[i].c]).drew) :
    PileAt W p m c s (.slice (some ⟨g, 0, none⟩) d.length cap) (Top.swp d i j hi hj) ∧ RM (PF p (.slice (some ⟨g, 0, none⟩) d.length cap)) w W := by
  have h1 := hrow.set hi d[j]
  have h2 := h1.set (i := j) (by rw [List.length_set]; exact hj) d[i]
  have e0 : Below 0 w w := Below.refl _ _
  have e1 := puts_below (G := g) e0 (Nat.zero_le _) [d[j].kv, d[j].dv, .int .i64 d[j].c] (i * 3)
  have hb0 := puts_below (G := g) e1 (Nat.zero_le _) [d[i].kv, d[i].dv, .int .i64 d[i].c] (j * 3)
  have q1 := fun k (hk : k ≠ g) => puts_other g k hk [d[i].kv, d[i].dv, .int .i64 d[i].c] (puts w g (i * 3) [d[j].kv, d[j].dv, .int .i64 d[j].c]) (j * 3)
  have q2 := fun k (hk : k ≠ g) => puts_other g k hk [d[j].kv, d[j].dv, .int .i64 d[j].c] w (i * 3)
  generalize puts (puts w g (i * 3) [d[j].kv, d[j].dv, .int .i64 d[j].c]) g (j * 3) [d[i].kv, d[i].dv, .int .i64 d[i].c] = W1 at hW h2 hb0 q1
  subst hW
  have hrm : RM (fun k => k = g) w W1.drew := ⟨hb0.os, hb0.tape, hb0.output, hb0.size, fun k _ hk => (q1 k hk).trans (q2 k hk)⟩
  exact ⟨h.turned (d' := Top.swp d i j hi hj) (h2.same rfl) (Top.swp_length d i j hi hj) (fun r hr => (Top.swp_perm d i j hi hj).mem_iff.1 hr) hpg hrm, hrm.mono fun k _ e => .inr (by rw [e]; rfl)⟩
set_option maxRecDepth 100000 in
set_option maxHeartbeats 4000000 in
theorem swap_any (h : PileAt w p m c s v d) (i j : Nat) (hi : i < d.length) (hj : j < d.length) :
    Calls Try.prog 72 #[v, .int .i64 i, .int .i64 j] w fun e w' => e = .returned (.tuple #[]) ∧ PileAt w' p m c s v (Top.swp d i j hi hj) ∧ RM (PF p v) w w' := by
  obtain ⟨g, cap, rfl, hpg, hrow⟩ := h.row (by omega)
  have HI : Hid (∀ W, W = (puts (puts w g (i * 3) [d[j].kv, d[j].dv, .int .i64 d[j].c]) g (j * 3) [d[i].kv, d[i].dv, .int .i64 d[i].c]).drew → PileAt W p m c s (.slice (some ⟨g, 0, none⟩) d.length cap) (Top.swp d i j hi hj) ∧ RM (PF p (.slice (some ⟨g, 0, none⟩) d.length cap)) w W) := swap_mem h hrow hpg hi hj
  obtain ⟨a0, a1, a2⟩ := hrow.cell hi
  obtain ⟨b0, b1, b2⟩ := hrow.cell hj
  have f := hrow.frozen
  have s1 := RkIn.shapes (h.el d[i] (List.getElem_mem hi))
  have s2 := RkIn.shapes (h.el d[j] (List.getElem_mem hj))
  generalize Top.swp d i j hi hj = dd at HI ⊢
  generalize d[i].kv = ak at HI a0 s1; generalize d[i].dv = ad at HI a1 s1; generalize d[i].c = ac at HI a2
  generalize d[j].kv = bk at HI b0 s2; generalize d[j].dv = bd at HI b1 s2; generalize d[j].c = bc at HI b2
  obtain ⟨⟨x1, x2, x3, rfl⟩, ⟨x4, x5, x6, rfl⟩⟩ := s1
  obtain ⟨⟨y1, y2, y3, rfl⟩, ⟨y4, y5, y6, rfl⟩⟩ := s2
  generalize d.length = n at hi hj h hrow HI ⊢
  have hi' : (i : Int) < (n : Int) := by omega
  have hj' : (j : Int) < (n : Int) := by omega
  clear hrow hpg hi hj h
  go_enter Try.func72, Try.ntmps72
  have fi0 := f (i * 3); have fi1 := f (i * 3 + 1); have fi2 := f (i * 3 + 2)
  have fj0 := f (j * 3); have fj1 := f (j * 3 + 1); have fj2 := f (j * 3 + 2)
  obtain ⟨_, e0⟩ := cell?_setCell_some (w := w) (p := ⟨g, i * 3, none⟩) (x := .slice y1 y2 y3) (q := ⟨g, j * 3, none⟩) b0
  obtain ⟨_, e1'⟩ := cell?_setCell_some (w := w) (p := ⟨g, i * 3, none⟩) (x := .slice y1 y2 y3) (q := ⟨g, j * 3 + 1, none⟩) b1
  obtain ⟨_, e1⟩ := cell?_setCell_some (w := w.setCell ⟨g, i * 3, none⟩ (.slice y1 y2 y3)) (p := ⟨g, i * 3 + 1, none⟩) (x := .slice y4 y5 y6) (q := ⟨g, j * 3 + 1, none⟩) e1'
  obtain ⟨_, e2''⟩ := cell?_setCell_some (w := w) (p := ⟨g, i * 3, none⟩) (x := .slice y1 y2 y3) (q := ⟨g, j * 3 + 2, none⟩) b2
  obtain ⟨_, e2'⟩ := cell?_setCell_some (w := w.setCell ⟨g, i * 3, none⟩ (.slice y1 y2 y3)) (p := ⟨g, i * 3 + 1, none⟩) (x := .slice y4 y5 y6) (q := ⟨g, j * 3 + 2, none⟩) e2''
  obtain ⟨_, e2⟩ := cell?_setCell_some (w := (w.setCell ⟨g, i * 3, none⟩ (.slice y1 y2 y3)).setCell ⟨g, i * 3 + 1, none⟩ (.slice y4 y5 y6)) (p := ⟨g, i * 3 + 2, none⟩) (x := .int .i64 bc) (q := ⟨g, j * 3 + 2, none⟩) e2'
  clear e1' e2' e2''
  go_region
  go_end0
  exact ⟨rfl, HI.out _ (by simp only [puts, World.setCells, Nat.add_assoc, Nat.reduceAdd])⟩
end
end Go.Proofs.Ytfkkckadnookoaa
