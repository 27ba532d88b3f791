/- cmp.Or of two; top.compare. -/
import Derived.Test.YtfkkckadnookoaaTopMem
import Derived.Test.YtfkkckadnookoaaCmpLeaf
import Derived.Deep.Cut
import Derived.StillTailTactics
import Derived.Sort.Grow
namespace Go.Proofs.Ytfkkckadnookoaa
open Go.RowKit
open Seal
theorem grow_more {W w : World} {os : Array Obj} (h : W = Go.Sort.grow w os) (o : Obj) : ∃ q os, (W.alloc o).drew = Go.Sort.grow (w.drewN q) os := ⟨1, os ++ #[o], by rw [h, Go.Sort.alloc_eq_grow, Go.Sort.grow_grow]; rfl⟩
set_option maxRecDepth 100000 in
set_option maxHeartbeats 2000000 in
theorem or_any (g : Nat) (c : Nat) (x y : Int) (w : World) (h0 : w.cell? ⟨g, 0, none⟩ = some (.int .i64 x)) (h1 : w.cell? ⟨g, 1, none⟩ = some (.int .i64 y)) :
    Calls Try.prog 31 #[.slice (some ⟨g, 0, none⟩) 2 c] w (IntPost (if x = 0 then y else x) w) := by
  by_cases e : x = 0
  · subst e
    rw [if_pos rfl]
    have HY : Hid (w.cell? ⟨g, 1, none⟩ = some (.int .i64 y)) := h1
    clear h1
    go_enter Try.func31, Try.ntmps31
    go_wp2
    go_loop [5, 8] (fun _ i => i = .int .i64 0 ∨ i = .int .i64 1 ∨ i = .int .i64 2 ∧ y = 0) (fun _ i => 2 - (intOf i).toNat)
    case atStart => exact .inl rfl
    case round =>
      rcases hrel with rfl | rfl | ⟨rfl, hy⟩
      · go_wp2
        go_round
        case rel => exact .inr (.inl rfl)
        case measure => simp [intOf]
      · have h1 := HY.out
        by_cases e2 : y = 0
        · subst e2
          go_wp2
          go_round
          case rel => exact .inr (.inr ⟨rfl, trivial⟩)
          case measure => simp [intOf]
        · have e3 : (y != 0) = true := by simpa using e2
          clear e2
          go_wp2
          go_ret
          exact ⟨rfl, rfl⟩
      · subst hy
        go_wp2
        go_ret
        exact ⟨rfl, rfl⟩
  · rw [if_neg e]
    have e3 : (x != 0) = true := by simpa using e
    clear e h1
    go_enter Try.func31, Try.ntmps31
    go_wp2
    go_loop [5, 8] (fun _ i => i = .int .i64 0) (fun _ i => 2 - (intOf i).toNat)
    case atStart => rfl
    case round =>
      obtain rfl := hrel
      go_wp2
      go_ret
      exact ⟨rfl, rfl⟩
set_option maxRecDepth 100000 in
set_option maxHeartbeats 2000000 in
theorem compare_ex (a b : Rk) (Q Q' : Nat → Prop) (w : World) (ha : RkIn w Q a) (hb : RkIn w Q' b) :
    Calls Try.prog 23 #[.agg #[a.kv, a.dv, .int .i64 a.c], .agg #[b.kv, b.dv, .int .i64 b.c]] w fun e w' => e = .returned (.int .i64 (cf a b)) ∧ ∃ q os, w' = Go.Sort.grow (w.drewN q) os := by
  obtain ⟨aa, ac, ea, hsa⟩ := ha.k.is
  obtain ⟨ba, bc, eb, hsb⟩ := hb.k.is
  obtain ⟨ak, hak⟩ : ∃ z, z = a.k.length := ⟨_, rfl⟩
  obtain ⟨bk, hbk⟩ : ∃ z, z = b.k.length := ⟨_, rfl⟩
  rw [← hak] at ea
  rw [← hbk] at eb
  rw [ea, eb]
  obtain ⟨r, hr⟩ : ∃ z, z = cf a b := ⟨_, rfl⟩
  obtain ⟨o, ho⟩ : ∃ z, z = Order.octs a.k b.k := ⟨_, rfl⟩
  obtain ⟨s, hs⟩ : ∃ z, z = Order.sgn (a.c : Int) (b.c : Int) := ⟨_, rfl⟩
  have HR := Lib.hid (show r = if o = 0 then s else o by rw [hr, ho, hs]; rfl)
  rw [← hr]
  obtain ⟨adv, hadv⟩ : ∃ z, z = a.dv := ⟨_, rfl⟩
  obtain ⟨bdv, hbdv⟩ : ∃ z, z = b.dv := ⟨_, rfl⟩
  obtain ⟨ac2, hac⟩ : ∃ z, z = (a.c : Int) := ⟨_, rfl⟩
  obtain ⟨bc2, hbc⟩ : ∃ z, z = (b.c : Int) := ⟨_, rfl⟩
  rw [← hadv, ← hbdv, ← hac, ← hbc]
  have HS : Hid (∀ W, Calls Try.prog 32 #[.int .i64 ac2, .int .i64 bc2] W (IntPost s W)) := fun W => by
    rw [hs, ← hac, ← hbc]; exact cmpInt_any _ _ W
  have HC : Hid (∀ W, Below w.heap.size w W → Calls Try.prog 25 #[.slice aa ak ac, .slice ba bk bc] W (IntPost o W)) := fun W hW => by
    have h1 := (ha.k.below hW)
    have h2 := (hb.k.below hW)
    rw [ho]
    refine bytesCmp_any W aa ba a.k b.k ak ac bk bc hak.symm hbk.symm ?_ ?_ ha.k.oct hb.k.oct
    · obtain ⟨x, y, e1, e2⟩ := h1.is
      rw [ea] at e1; cases e1; exact e2
    · obtain ⟨x, y, e1, e2⟩ := h2.is
      rw [eb] at e1; cases e1; exact e2
  clear hr ho hs hadv hbdv hac hbc hak hbk ea eb hsa hsb ha hb
  go_enter Try.func23, Try.ntmps23
  have HW0 : Hid (((w.alloc (.cells #[.slice aa ak ac, adv, .int .i64 ac2] 49)).alloc (.cells #[.slice ba bk bc, bdv, .int .i64 bc2] 49)).cell? ⟨w.heap.size, 0, none⟩ = some (.slice aa ak ac) ∧
    ((w.alloc (.cells #[.slice aa ak ac, adv, .int .i64 ac2] 49)).alloc (.cells #[.slice ba bk bc, bdv, .int .i64 bc2] 49)).cell? ⟨w.heap.size, 2, none⟩ = some (.int .i64 ac2) ∧
    ((w.alloc (.cells #[.slice aa ak ac, adv, .int .i64 ac2] 49)).alloc (.cells #[.slice ba bk bc, bdv, .int .i64 bc2] 49)).cell? ⟨w.heap.size + 1, 0, none⟩ = some (.slice ba bk bc) ∧
    ((w.alloc (.cells #[.slice aa ak ac, adv, .int .i64 ac2] 49)).alloc (.cells #[.slice ba bk bc, bdv, .int .i64 bc2] 49)).cell? ⟨w.heap.size + 1, 2, none⟩ = some (.int .i64 bc2)) := by
    refine ⟨?_, ?_, ?_, ?_⟩ <;> simp
  have HB : Hid (Below w.heap.size w ((w.alloc (.cells #[.slice aa ak ac, adv, .int .i64 ac2] 49)).alloc (.cells #[.slice ba bk bc, bdv, .int .i64 bc2] 49)).drew) := (((Below.refl _ w).alloc (Nat.le_refl _) _).alloc (by simp) _).trans ⟨rfl, rfl, rfl, Nat.le_refl _, fun _ _ => rfl⟩
  have HG : Hid (∃ os, (w.alloc (.cells #[.slice aa ak ac, adv, .int .i64 ac2] 49)).alloc (.cells #[.slice ba bk bc, bdv, .int .i64 bc2] 49) = Go.Sort.grow w os) := ⟨_, by rw [Go.Sort.alloc_eq_grow, Go.Sort.alloc_eq_grow, Go.Sort.grow_grow]⟩
  have HZ : Hid (((w.alloc (.cells #[.slice aa ak ac, adv, .int .i64 ac2] 49)).alloc (.cells #[.slice ba bk bc, bdv, .int .i64 bc2] 49)).heap.size = w.heap.size + 2) := by unfold Hid; simp
  go_upto_region 1 with fail
  generalize (w.alloc _).alloc _ = W0 at HW0 HB HG HZ ⊢
  refine wp_region_still_tail 12 (by kernel_rfl) (by kernel_rfl) ?_
  simp only [List.take_succ_cons, List.take_zero, List.drop_succ_cons, List.drop_zero]
  show wpStill _ _ W0.drew _ _ _
  obtain ⟨q0, q1, q2, q3⟩ : W0.drew.cell? ⟨w.heap.size, 0, none⟩ = some (.slice aa ak ac) ∧ W0.drew.cell? ⟨w.heap.size, 2, none⟩ = some (.int .i64 ac2) ∧ W0.drew.cell? ⟨w.heap.size + 1, 0, none⟩ = some (.slice ba bk bc) ∧ W0.drew.cell? ⟨w.heap.size + 1, 2, none⟩ = some (.int .i64 bc2) := HW0.out
  have HZ1 : Hid (W0.drew.heap.size = w.heap.size + 2) := HZ.out
  clear HW0 HZ
  generalize W0.drew = W1 at HB HZ1 q0 q1 q2 q3 ⊢
  have HC1 := Lib.hid (HC.out W1 HB.out)
  have HS1 := Lib.hid (HS.out W1)
  clear HC HS
  repeat still_step
  still_call (HC1.out.mono fun _ _ h => ⟨h.1, h.2.symm⟩)
  repeat still_step
  still_call (HS1.out.mono fun _ _ h => ⟨h.1, h.2.symm⟩)
  refine wpStill_nil ?_
  have HO : Hid (∀ W g c, W.cell? ⟨g, 0, none⟩ = some (.int .i64 o) → W.cell? ⟨g, 1, none⟩ = some (.int .i64 s) → Calls Try.prog 31 #[.slice (some ⟨g, 0, none⟩) 2 c] W fun e w' => e = .returned (.int .i64 r) ∧ w' = W) := fun W g c z0 z1 => by
    rw [HR.out]; exact (or_any g c o s W z0 z1).mono fun _ _ h => ⟨h.1, h.2.symm⟩
  clear HC1 HS1 q0 q1 q2 q3
  go_wp2_with (go_at_call 31; refine (HO.out _ _ _ (by simp) (by simp)).mono ?_; rintro e w' ⟨rfl, rfl⟩)
  go_ret
  obtain ⟨os, hos⟩ := HG.out
  exact ⟨rfl, grow_more hos _⟩
end Go.Proofs.Ytfkkckadnookoaa
