/- (*Top).isFull, isAheadOfLast, dropLast, keep. -/
import Derived.Test.YtfkkckadnookoaaTopClone
namespace Go.Proofs.Ytfkkckadnookoaa
open Go.RowKit
open Seal
section
variable {w : World} {p : Nat} {m c s : Int} {v : Value} {d : List Rk}
theorem PileAt.setCnt (h : PileAt w p m c s v d) {W : World} {c' s' : Int} (hW : W.heap[p]? = some (.cells #[.int .i64 m, v, .int .i64 c', .int .i64 s'] 45 (0, 0))) (hr : RM (fun k => k = p) w W) : PileAt W p m c' s' v d := by
  have hvp : ∀ g, v.ownBlock = some g → g ≠ p := fun g e => by have := (owns_block h.own e).1; omega
  exact ⟨hW, owns_same h.own (fun g hg => hr.block g (owns_block h.own hg).2 (hvp g hg)), fun r hx => (h.el r hx).keep (fun g hg hl => hr.block g hl (fun e => hg (.inl e))) (fun _ h _ => h)⟩
theorem RM.set1 (w : World) (p o : Nat) (u : Value) : RM (fun k => k = p) w (w.setCell ⟨p, o, none⟩ u) := by
  have hb := puts_below (B := 0) (G := p) (Below.refl 0 w) (Nat.zero_le _) [u] o
  exact ⟨hb.os, hb.tape, hb.output, hb.size, fun k _ hk => Below.heap_setCell w ⟨p, o, none⟩ u k hk⟩
theorem PileAt.came (h : PileAt w p m c s v d) (c' : Int) : PileAt (w.setCell ⟨p, 2, none⟩ (.int .i64 c')) p m c' s v d := h.setCnt (heap_setCell_same w p 2 _ _ (.int .i64 c') h.blk) (RM.set1 w p 2 _)
theorem PileAt.size (h : PileAt w p m c s v d) (s' : Int) : PileAt (w.setCell ⟨p, 3, none⟩ (.int .i64 s')) p m c s' v d := h.setCnt (heap_setCell_same w p 3 _ _ (.int .i64 s') h.blk) (RM.set1 w p 3 _)
set_option maxRecDepth 100000 in
set_option maxHeartbeats 2000000 in
theorem isFull_any (h : PileAt w p m c s v d) : Calls Try.prog 17 #[.pointer (some ⟨p, 0, none⟩)] w fun e w' => e = .returned (.bool (decide ((d.length : Int) ≥ m))) ∧ Below w.heap.size w w' := by
  obtain ⟨c0, c1, c2, c3⟩ := h.cells
  obtain ⟨va, vc, rfl⟩ := h.shape
  generalize d.length = n at c1 h ⊢
  clear h
  go_enter Try.func17, Try.ntmps17
  go_wp2_with fail
  go_quiet (fail)
  go_wp2_with fail
  generalize hw1 : w.drewN _ = w1
  go_ret
  subst hw1
  exact ⟨rfl, rfl, rfl, rfl, Nat.le_refl _, fun _ _ => rfl⟩
set_option maxRecDepth 100000 in
set_option maxHeartbeats 2000000 in
theorem isAhead_any (h : PileAt w p m c s v d) (Q : Nat → Prop) (kv dv : Value) (k dd : List Nat) (hk : SlQ w Q kv k) (hd : SlQ w Q dv dd) :
    Calls Try.prog 18 #[.pointer (some ⟨p, 0, none⟩), .agg #[kv, dv]] w fun e w' => e = .returned (.bool (d.head?.any fun r => decide (Order.octs k r.k < 0))) ∧ Below w.heap.size w w' := by
  obtain ⟨c0, c1, c2, c3⟩ := h.cells
  obtain ⟨ka, kc, ek⟩ := hk.shape
  obtain ⟨da, dc, ed⟩ := hd.shape
  obtain ⟨kn, hkn⟩ : ∃ n, n = k.length := ⟨_, rfl⟩
  rw [← hkn] at ek
  subst ek; subst ed
  cases d with
  | nil =>
    obtain ⟨va, vc, rfl⟩ := h.shape
    simp only [List.length_nil] at c1
    have HB : Hid (Below w.heap.size w (w.alloc (.cells #[.slice ka kn kc, .slice da dd.length dc] 30))) := (Below.refl _ w).alloc (Nat.le_refl _) _
    have c1' := cell_keepW HB.out c1
    clear h hkn
    simp only [List.head?_nil, Option.any_none]
    go_enter Try.func18, Try.ntmps18
    go_upto_region 1 with fail
    generalize w.alloc _ = w1 at HB c1' ⊢
    go_quiet (fail)
    go_wp2_with fail
    generalize hw2 : w1.drewN _ = w2
    have HB2 : Hid (Below w.heap.size w w2) := HB.out.trans (by rw [← hw2]; exact ⟨rfl, rfl, rfl, Nat.le_refl _, fun _ _ => rfl⟩)
    clear hw2
    go_ret
    exact ⟨rfl, HB2.out⟩
  | cons r0 d =>
    obtain ⟨g, cap, rfl, hpg, hrow⟩ := h.row (by simp)
    obtain ⟨a0, a1, a2⟩ := hrow.cell (i := 0) (by simp)
    rw [Nat.zero_mul] at a0
    simp only [List.getElem_cons_zero] at a0
    have hr0 := (h.el r0 List.mem_cons_self).k
    obtain ⟨ra, rc, er⟩ := hr0.shape
    obtain ⟨rn, hrn⟩ : ∃ n, n = r0.k.length := ⟨_, rfl⟩
    rw [← hrn] at er
    rw [er] at a0
    obtain ⟨n, hn⟩ : ∃ n, n = (r0 :: d).length := ⟨_, rfl⟩
    have hn0 : (0 : Int) < (n : Int) := by rw [hn, List.length_cons]; omega
    have hn2 : 0 < n := by omega
    have hn1 : decide (0 < n) = true := by simpa using hn2
    rw [← hn] at c1
    have HC : Hid (∀ W, Below w.heap.size w W → Calls Try.prog 25 #[.slice ka kn kc, .slice ra rn rc] W (IntPost (Order.octs k r0.k) W)) := fun W hW => by
      refine bytesCmp_any W ka ra k r0.k kn kc rn rc hkn.symm hrn.symm ?_ ?_ hk.oct hr0.oct
      · obtain ⟨x, y, e1, e2⟩ := (hk.below hW).is
        cases e1; exact e2
      · obtain ⟨x, y, e1, e2⟩ := (hr0.below hW).is
        rw [er] at e1; cases e1; exact e2
    simp only [List.head?_cons, Option.any_some]
    generalize Order.octs k r0.k = oo at HC ⊢
    have HB : Hid (Below w.heap.size w (w.alloc (.cells #[.slice ka kn kc, .slice da dd.length dc] 30))) := (Below.refl _ w).alloc (Nat.le_refl _) _
    have c1' := cell_keepW HB.out c1
    have a0' := cell_keepW HB.out a0
    have b0 : (w.alloc (.cells #[.slice ka kn kc, .slice da dd.length dc] 30)).cell? ⟨w.heap.size, 0, none⟩ = some (.slice ka kn kc) := by simp
    have HC1 : Hid (∀ q, Calls Try.prog 25 #[.slice ka kn kc, .slice ra rn rc] ((w.alloc (.cells #[.slice ka kn kc, .slice da dd.length dc] 30)).drewN q) (IntPost oo ((w.alloc (.cells #[.slice ka kn kc, .slice da dd.length dc] 30)).drewN q))) := fun q => HC.out _ (HB.out.trans ⟨rfl, rfl, rfl, Nat.le_refl _, fun _ _ => rfl⟩)
    clear h hkn hrow hr0 hrn er hk hd HC hn a1 a2 c0 c2 c3 c1 a0
    go_enter Try.func18, Try.ntmps18
    go_upto_region 1 with fail
    generalize w.alloc _ = w1 at HB c1' a0' b0 HC1 ⊢
    go_quiet ((go_at_call 25; exact Calls.quiet_of_same ((HC1.out _).mono fun _ _ h => ⟨h.1, h.2.symm⟩)))
    go_wp2_with fail
    generalize hw2 : w1.drewN _ = w2
    have HB2 : Hid (Below w.heap.size w w2) := HB.out.trans (by rw [← hw2]; exact ⟨rfl, rfl, rfl, Nat.le_refl _, fun _ _ => rfl⟩)
    clear hw2
    go_ret
    exact ⟨rfl, HB2.out⟩
end
end Go.Proofs.Ytfkkckadnookoaa
