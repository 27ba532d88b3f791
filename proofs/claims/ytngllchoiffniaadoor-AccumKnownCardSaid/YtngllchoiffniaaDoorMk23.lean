/- AccumReg, AccumTab, AccumIns, AccumPush. -/
import Derived.Test.YtngllchoiffniaaDoorCards
import Derived.Test.YtngllchoiffniaaDoorTie
import Derived.Lib.LaidU8T
import Derived.Lib.LaidTab
import Derived.Deep.DeepWitnessRowRef
import Derived.SizedLaws
import Derived.Lay
import Derived.Test.YtngllchoiffniaaDoorMk21
import Derived.Test.YtngllchoiffniaaDoorMk22
import Derived.Test.YtngllchoiffniaaDoorMk0
import Derived.Test.YtngllchoiffniaaDoorMk11
import Derived.Test.YtngllchoiffniaaDoorMk2
set_option maxRecDepth 100000
set_option maxHeartbeats 20000000
section
namespace Go.Proofs.YtngllchoiffniaaDoor
open Go.RowKit
open Seal
open Bson (Val)
namespace Acc
theorem bel_drewN {B : Nat} {a w : World} (h : Below B a w) (n : Nat) : Below B a (w.drewN n) := ⟨h.os, h.tape, h.output, h.size, h.block⟩
structure P1 (w0 : World) (cs : List Value) (B : Nat) (y : Val) (D : Nat → Bool) (V : Nat → Value) (W : World) : Prop where
 off : ∀ i, 9 ≤ i → D i = false
 bel : Below w0.heap.size w0 W
 pu : ∀ i, i < 9 → i ≠ 6 → i ≠ 8 → D i = true → V i = cs.getD i undef
 c6 : D 6 = true → VIn W (fun g => w0.heap.size ≤ g) B y (V 6)
 b8 : D 8 = true → ∃ z, V 8 = .slice (some ⟨z, 0, none⟩) 1 1 ∧ W.heap[z]? = some (.cells zero6 32 (0, 0))
structure P2 (w9 : World) (s n : Nat) (m k1 k2 k3 k4 k5 lv wt rv v9 : Value) (g9 : Nat) (cur : Array Value) (c0 c1 c2 c3 c4 c5 : Value) (D : Nat → Bool) (V : Nat → Value) (W : World) : Prop where
 on : ∀ i, i < 10 → D i = true
 v0 : V 0 = .pointer (some ⟨s, 0, none⟩)
 v6 : V 6 = .agg #[c0, c1, c2, c3, c4, c5]
 v7 : V 7 = .int .i64 n
 e9 : V 9 = v9
 v10 : D 10 = true → V 10 = .pointer (some ⟨g9, n * 6, none⟩)
 v12 : D 12 = true → V 12 = .pointer (some ⟨s, 0, none⟩)
 v13 : D 13 = true → V 13 = .pointer (some ⟨s, 1, none⟩)
 v14 : D 14 = true → V 14 = .pointer (some ⟨s, 6, none⟩)
 os : W.os = w9.os
 tape : W.tape = w9.tape
 output : W.output = w9.output
 size : W.heap.size = w9.heap.size
 oth : ∀ k, k ≠ g9 → k ≠ s → W.heap[k]? = w9.heap[k]?
 r0 : D 11 = false → W.heap[g9]? = some (.cells cur 32 (0, 0))
 r1 : D 11 = true → ∃ ds : Array Value, W.heap[g9]? = some (.cells ds 32 (0, 0)) ∧ ds.size = cur.size ∧ (∀ j, j < n * 6 → ds[j]? = cur[j]?) ∧ ∀ j, j < 6 → ds[n * 6 + j]? = [c0, c1, c2, c3, c4, c5][j]?
 s0 : D 15 = false → W.heap[s]? = some (.cells #[m, k1, k2, k3, k4, k5, lv, wt, rv] 41 (0, 0))
 s1 : D 15 = true → W.heap[s]? = some (.cells #[m, k1, k2, k3, k4, k5, v9, wt, rv] 41 (0, 0))
structure Row9 (w9 : World) (base n : Nat) (xs : List Value) (v9 : Value) (g9 cap : Nat) (cur : Array Value) : Prop where
 ev : v9 = .slice (some ⟨g9, 0, none⟩) (n + 1) cap
 hbase : base ≤ g9
 row : w9.heap[g9]? = some (.cells cur 32 (0, 0))
 hcap : n + 1 ≤ cap
 hmax : cap ≤ maxLen
 hsize : cur.size = cap * 6
 take : cur.toList.take ((n + 1) * 6) = xs ++ [.int .i64 0, .int .i64 0, .string ⟨#[]⟩, .slice none 0 0, .slice none 0 0, .slice none 0 0]
 len : xs.length = n * 6
def PI (w0 : World) (cs : List Value) (B : Nat) (y : Val) (base s n : Nat) (m k1 k2 k3 k4 k5 lv wt rv : Value) (xs : List Value) (D : Nat → Bool) (V : Nat → Value) (W : World) : Prop :=
 P1 w0 cs B y D V W ∨ ∃ w9 v9 g9 cap cur c0 c1 c2 c3 c4 c5, P2 w9 s n m k1 k2 k3 k4 k5 lv wt rv v9 g9 cur c0 c1 c2 c3 c4 c5 D V W ∧ Row9 w9 base n xs v9 g9 cap cur ∧ Wrote w0 w9 lv v9 ∧ VIn w9 (fun g => w0.heap.size ≤ g ∧ g ≠ g9) B y (.agg #[c0, c1, c2, c3, c4, c5]) ∧ g9 ≠ s ∧ D 9 = true
section
variable {w0 W W' : World} {cs : List Value} {B base s n : Nat} {y : Val} {m k1 k2 k3 k4 k5 lv wt rv : Value} {xs : List Value} {D : Nat → Bool} {V : Nat → Value}
theorem PI.start {V : Nat → Value} : PI w0 cs B y base s n m k1 k2 k3 k4 k5 lv wt rv xs (fun _ => false) V { w0 with drawn := w0.drawn + 1 } :=
 .inl ⟨fun _ _ => rfl, ⟨rfl, rfl, rfl, Nat.le_refl _, fun _ _ => rfl⟩, fun _ _ _ _ h => (by cases h), fun h => (by cases h), fun h => (by cases h)⟩
theorem PI.one (h : PI w0 cs B y base s n m k1 k2 k3 k4 k5 lv wt rv xs D V W) {i : Nat} (hi : i < 10) (hD : D i = false) : P1 w0 cs B y D V W := by
 rcases h with h | ⟨_, _, _, _, _, _, _, _, _, _, _, h, -⟩
 ·exact h
 ·rw [h.on i hi] at hD; cases hD
theorem PI.two (h : PI w0 cs B y base s n m k1 k2 k3 k4 k5 lv wt rv xs D V W) (h9 : D 9 = true) : ∃ w9 v9 g9 cap cur c0 c1 c2 c3 c4 c5, P2 w9 s n m k1 k2 k3 k4 k5 lv wt rv v9 g9 cur c0 c1 c2 c3 c4 c5 D V W ∧ Row9 w9 base n xs v9 g9 cap cur ∧ Wrote w0 w9 lv v9 ∧ VIn w9 (fun g => w0.heap.size ≤ g ∧ g ≠ g9) B y (.agg #[c0, c1, c2, c3, c4, c5]) ∧ g9 ≠ s ∧ D 9 = true := by
 rcases h with h | h
 ·rw [h.off 9 (Nat.le_refl _)] at h9; cases h9
 ·exact h
theorem P1.known (h : P1 w0 cs B y D V W) {i : Nat} (hi : i < 9) (h6 : i ≠ 6) (h8 : i ≠ 8) (hD : D i = true) : V i = cs.getD i undef := h.pu i hi h6 h8 hD
theorem P1.more (h : P1 w0 cs B y D V W) {i : Nat} {v : Value} (hi : i < 9) (hb : Below W.heap.size W W') (hp : i ≠ 6 → i ≠ 8 → v = cs.getD i undef) (h6 : i = 6 → VIn W' (fun g => w0.heap.size ≤ g) B y v) (h8 : i = 8 → ∃ z, v = .slice (some ⟨z, 0, none⟩) 1 1 ∧ W'.heap[z]? = some (.cells zero6 32 (0, 0))) : P1 w0 cs B y (setD D i) (upd V i v) W' := by
 refine ⟨fun j hj => by rw [setD_ne (by omega)]; exact h.off j hj, h.bel.trans (hb.mono h.bel.size), fun j hj n6 n8 hD => ?_, fun hD => ?_, fun hD => ?_⟩
 ·by_cases e : j = i
  ·subst e; unfold upd; rw [if_pos rfl]; exact hp n6 n8
  ·rw [setD_ne e] at hD; rw [upd_ne e]; exact h.pu j hj n6 n8 hD
 ·by_cases e : 6 = i
  ·subst e; unfold upd; rw [if_pos rfl]; exact h6 rfl
  ·rw [setD_ne e] at hD; rw [upd_ne e]; exact VIn.keep hb (h.c6 hD)
 ·by_cases e : 8 = i
  ·subst e; unfold upd; rw [if_pos rfl]; exact h8 rfl
  ·rw [setD_ne e] at hD; rw [upd_ne e]
   obtain ⟨z, e1, e2⟩ := h.b8 hD
   exact ⟨z, e1, (hb.block z (Array.getElem?_eq_some_iff.1 e2).1).trans e2⟩
theorem P1.pure (h : P1 w0 cs B y D V W) {i : Nat} {v : Value} (hi : i < 9) (n6 : i ≠ 6) (n8 : i ≠ 8) (hp : v = cs.getD i undef) : PI w0 cs B y base s n m k1 k2 k3 k4 k5 lv wt rv xs (setD D i) (upd V i v) W :=
 .inl (h.more hi (Below.refl _ _) (fun _ _ => hp) (fun e => absurd e n6) (fun e => absurd e n8))
theorem P1.append (h : P1 w0 cs B y D V W) (hall : ∀ i, i < 9 → D i = true) (hc0 : cs.getD 0 undef = .pointer (some ⟨s, 0, none⟩)) (hc7 : cs.getD 7 undef = .int .i64 n) {v9 : Value} (hs : W'.heap[s]? = some (.cells #[m, k1, k2, k3, k4, k5, lv, wt, rv] 41 (0, 0)))
  (hlt : s < w0.heap.size) (hsb : s < base) (hxl : xs.length = n * 6) (ho : W'.ownsRow base 32 6 v9 (n + 1) (xs ++ [.int .i64 0, .int .i64 0, .string ⟨#[]⟩, .slice none 0 0, .slice none 0 0, .slice none 0 0])) (hw : Wrote W W' lv v9) (hlv : ∀ g, lv.ownBlock = some g → g < w0.heap.size) :
  PI w0 cs B y base s n m k1 k2 k3 k4 k5 lv wt rv xs (setD D 9) (upd V 9 v9) W' := by
 obtain ⟨-, ⟨-, hn⟩ | ⟨g9, cap, cur, rfl, hgb, hrow, hcap, hmax, hsz, htake⟩⟩ := ho
 ·omega
 have hv6 := h.c6 (hall 6 (by omega))
 have h6s := hv6.shape
 obtain ⟨yk, yn, ys, ba, fa, la, b1, b2, b3, b4, b5, b6, e6⟩ := h6s
 rw [e6] at hv6
 have hg9 : w0.heap.size ≤ g9 → W.heap.size ≤ g9 := fun hge => by
  rcases hw.2 with e | ⟨g, e, hg⟩
  ·have := hlv g9 (e ▸ rfl); omega
  ·obtain rfl : g9 = g := Option.some.inj e; exact hg
 refine .inr ⟨W', _, g9, cap, cur, .int .i64 yk, .int .i64 yn, .string ys, .slice ba b1 b2, .slice fa b3 b4, .slice la b5 b6, ⟨fun i hi => ?_, ?_, ?_, ?_, ?_, ?_, ?_, ?_, ?_, rfl, rfl, rfl, rfl, fun _ _ _ => rfl, ?_, ?_, ?_, ?_⟩, ⟨rfl, hgb, hrow, hcap, hmax, hsz, htake, hxl⟩, Wrote.of_below h.bel hw, ?_, by omega, by unfold setD; rw [if_pos rfl]⟩
 ·by_cases e : i = 9
  ·subst e; unfold setD; rw [if_pos rfl]
  ·rw [setD_ne e]; exact hall i (by omega)
 ·rw [upd_ne (by omega), h.pu 0 (by omega) (by omega) (by omega) (hall 0 (by omega)), hc0]
 ·rw [upd_ne (by omega)]; exact e6
 ·rw [upd_ne (by omega), h.pu 7 (by omega) (by omega) (by omega) (hall 7 (by omega)), hc7]
 ·unfold upd; rw [if_pos rfl]
 ·rw [setD_ne (by omega), h.off 10 (by omega)]; exact fun e => (by cases e)
 ·rw [setD_ne (by omega), h.off 12 (by omega)]; exact fun e => (by cases e)
 ·rw [setD_ne (by omega), h.off 13 (by omega)]; exact fun e => (by cases e)
 ·rw [setD_ne (by omega), h.off 14 (by omega)]; exact fun e => (by cases e)
 ·exact fun _ => hrow
 ·rw [setD_ne (by omega), h.off 11 (by omega)]; exact fun e => (by cases e)
 ·exact fun _ => hs
 ·rw [setD_ne (by omega), h.off 15 (by omega)]; exact fun e => (by cases e)
 ·refine hv6.lt.kept (fun g hg hl => ?_) (fun g hg => ⟨hg.1, ?_⟩)
  ·exact hw.1.block g hl (fun e => by have := hlv g e.symm; have := hg.1; omega)
  ·rintro rfl; have := hg9 hg.1; have := hg.2; omega
section
variable {w9 : World} {v9 : Value} {g9 : Nat} {cur : Array Value} {c0 c1 c2 c3 c4 c5 : Value}
theorem P2.pure (h : P2 w9 s n m k1 k2 k3 k4 k5 lv wt rv v9 g9 cur c0 c1 c2 c3 c4 c5 D V W) {i : Nat} {v : Value} (hi : i = 10 ∨ i = 12 ∨ i = 13 ∨ i = 14) (h10 : i = 10 → v = .pointer (some ⟨g9, n * 6, none⟩)) (h12 : i = 12 → v = .pointer (some ⟨s, 0, none⟩)) (h13 : i = 13 → v = .pointer (some ⟨s, 1, none⟩)) (h14 : i = 14 → v = .pointer (some ⟨s, 6, none⟩)) :
  P2 w9 s n m k1 k2 k3 k4 k5 lv wt rv v9 g9 cur c0 c1 c2 c3 c4 c5 (setD D i) (upd V i v) W := by
 have u : ∀ j, j < 10 → upd V i v j = V j := fun j hj => upd_ne (by omega)
 have d11 : setD D i 11 = D 11 := setD_ne (by omega)
 have d15 : setD D i 15 = D 15 := setD_ne (by omega)
 have at' : ∀ (k : Nat) (x : Value), (i = k → v = x) → (D k = true → V k = x) → setD D i k = true → upd V i v k = x := fun k x h1 h2 hd => by
  by_cases e : k = i
  ·subst e; unfold upd; rw [if_pos rfl]; exact h1 rfl
  ·rw [setD_ne e] at hd; rw [upd_ne e]; exact h2 hd
 refine ⟨fun j hj => by rw [setD_ne (by omega)]; exact h.on j hj, by rw [u 0 (by omega)]; exact h.v0, by rw [u 6 (by omega)]; exact h.v6, by rw [u 7 (by omega)]; exact h.v7, by rw [u 9 (by omega)]; exact h.e9, at' 10 _ h10 h.v10, at' 12 _ h12 h.v12, at' 13 _ h13 h.v13, at' 14 _ h14 h.v14, h.os, h.tape, h.output, h.size, h.oth, ?_, ?_, ?_, ?_⟩
 ·rw [d11]; exact h.r0
 ·rw [d11]; exact h.r1
 ·rw [d15]; exact h.s0
 ·rw [d15]; exact h.s1
theorem setCells_parts (w : World) (g o : Nat) (vs : List Value) : (puts w g o vs).os = w.os ∧ (puts w g o vs).tape = w.tape ∧ (puts w g o vs).output = w.output :=
 ⟨(puts_below (B := 0) (Below.refl _ w) (Nat.zero_le _) vs o).os, (puts_below (B := 0) (Below.refl _ w) (Nat.zero_le _) vs o).tape, (puts_below (B := 0) (Below.refl _ w) (Nat.zero_le _) vs o).output⟩
theorem P2.store (h : P2 w9 s n m k1 k2 k3 k4 k5 lv wt rv v9 g9 cur c0 c1 c2 c3 c4 c5 D V W) (h11 : D 11 = false) (hne : g9 ≠ s) (hsz : n * 6 + 6 ≤ cur.size) (v : Value) :
  P2 w9 s n m k1 k2 k3 k4 k5 lv wt rv v9 g9 cur c0 c1 c2 c3 c4 c5 (setD D 11) (upd V 11 v) (puts W g9 (n * 6) [c0, c1, c2, c3, c4, c5]) := by
 obtain ⟨ds, e1, e2, e3, -, e5⟩ := puts_same g9 32 [c0, c1, c2, c3, c4, c5] W (n * 6) cur (h.r0 h11)
 obtain ⟨q1, q2, q3⟩ := setCells_parts W g9 (n * 6) [c0, c1, c2, c3, c4, c5]
 have d : ∀ j, j ≠ 11 → setD D 11 j = D j := fun j hj => setD_ne hj
 have u : ∀ j, j ≠ 11 → upd V 11 v j = V j := fun j hj => upd_ne hj
 have d15 := d 15 (by omega)
 refine ⟨fun j hj => by rw [d j (by omega)]; exact h.on j hj, by rw [u 0 (by omega)]; exact h.v0, by rw [u 6 (by omega)]; exact h.v6, by rw [u 7 (by omega)]; exact h.v7, by rw [u 9 (by omega)]; exact h.e9, by rw [d 10 (by omega), u 10 (by omega)]; exact h.v10, by rw [d 12 (by omega), u 12 (by omega)]; exact h.v12, by rw [d 13 (by omega), u 13 (by omega)]; exact h.v13, by rw [d 14 (by omega), u 14 (by omega)]; exact h.v14, q1.trans h.os, q2.trans h.tape, q3.trans h.output, (puts_size _ _ _ _).trans h.size, fun k hk1 hk2 => (puts_other _ _ hk1 _ _ _).trans (h.oth k hk1 hk2), ?_, fun _ => ⟨ds, e1, e2, e3, fun j hj => e5 hsz j hj⟩, ?_, ?_⟩
 ·unfold setD; rw [if_pos rfl]; exact fun e => (by cases e)
 ·rw [d15]; exact fun e => (puts_other _ _ hne.symm _ _ _).trans (h.s0 e)
 ·rw [d15]; exact fun e => (puts_other _ _ hne.symm _ _ _).trans (h.s1 e)
theorem P2.put (h : P2 w9 s n m k1 k2 k3 k4 k5 lv wt rv v9 g9 cur c0 c1 c2 c3 c4 c5 D V W) (h15 : D 15 = false) (hne : g9 ≠ s) (v : Value) :
  P2 w9 s n m k1 k2 k3 k4 k5 lv wt rv v9 g9 cur c0 c1 c2 c3 c4 c5 (setD D 15) (upd V 15 v) (W.setCell ⟨s, 6, none⟩ v9) := by
 have e1 := (heap_setCell_same W s 6 _ _ v9 (h.s0 h15)).trans rfl
 obtain ⟨q1, q2, q3⟩ := setCells_parts W s 6 [v9]
 have d : ∀ j, j ≠ 15 → setD D 15 j = D j := fun j hj => setD_ne hj
 have u : ∀ j, j ≠ 15 → upd V 15 v j = V j := fun j hj => upd_ne hj
 have d11 := d 11 (by omega)
 have o9 : (W.setCell ⟨s, 6, none⟩ v9).heap[g9]? = W.heap[g9]? := puts_other s g9 hne [v9] W 6
 refine ⟨fun j hj => by rw [d j (by omega)]; exact h.on j hj, by rw [u 0 (by omega)]; exact h.v0, by rw [u 6 (by omega)]; exact h.v6, by rw [u 7 (by omega)]; exact h.v7, by rw [u 9 (by omega)]; exact h.e9, by rw [d 10 (by omega), u 10 (by omega)]; exact h.v10, by rw [d 12 (by omega), u 12 (by omega)]; exact h.v12, by rw [d 13 (by omega), u 13 (by omega)]; exact h.v13, by rw [d 14 (by omega), u 14 (by omega)]; exact h.v14, q1.trans h.os, q2.trans h.tape, q3.trans h.output, (puts_size s [v9] W 6).trans h.size, fun k hk1 hk2 => (puts_other s k hk2 [v9] W 6).trans (h.oth k hk1 hk2), ?_, ?_, ?_, fun _ => e1⟩
 ·rw [d11]; exact fun e => o9.trans (h.r0 e)
 ·rw [d11]
  intro e
  obtain ⟨ds, f1, f2, f3, f4⟩ := h.r1 e
  exact ⟨ds, o9.trans f1, f2, f3, f4⟩
 ·unfold setD; rw [if_pos rfl]; exact fun e => (by cases e)
end
theorem PI.end (h : PI w0 cs B y base s n m k1 k2 k3 k4 k5 lv wt rv xs D V W) (hD : ∀ i, i < 16 → D i = true) (hs0 : s < w0.heap.size) : ∃ v9 c0 c1 c2 c3 c4 c5, W.heap[s]? = some (.cells #[m, k1, k2, k3, k4, k5, v9, wt, rv] 41 (0, 0)) ∧ W.ownsRow base 32 6 v9 (n + 1) (xs ++ [c0, c1, c2, c3, c4, c5]) ∧
  VIn W (fun g => w0.heap.size ≤ g ∧ v9.ownBlock ≠ some g ∧ g ≠ s) B y (.agg #[c0, c1, c2, c3, c4, c5]) ∧ (v9.ownBlock = lv.ownBlock ∨ ∃ g, v9.ownBlock = some g ∧ w0.heap.size ≤ g) ∧ RM (fun g => g = s ∨ lv.ownBlock = some g) w0 W ∧ s < W.heap.size := by
 obtain ⟨w9, v9, g9, cap, cur, c0, c1, c2, c3, c4, c5, h2, hr, hw, hv, hne, -⟩ := h.two (hD 9 (by omega))
 obtain ⟨ds, f1, f2, f3, f4⟩ := h2.r1 (hD 11 (by omega))
 have hS := h2.s1 (hD 15 (by omega))
 have hsl : s < W.heap.size := (Array.getElem?_eq_some_iff.1 hS).1
 have hob : v9.ownBlock = some g9 := by rw [hr.ev]; rfl
 have hlen := hr.len
 have hsz := hr.hsize
 have hcap := hr.hcap
 refine ⟨v9, c0, c1, c2, c3, c4, c5, hS, ⟨by rw [List.length_append, hlen, List.length_cons, List.length_cons, List.length_cons, List.length_cons, List.length_cons, List.length_cons, List.length_nil]; omega, .inr ⟨g9, cap, ds, hr.ev, hr.hbase, f1, hr.hcap, hr.hmax, by rw [f2, hsz], ?_⟩⟩, ?_, hw.2, ⟨h2.os.trans hw.1.os, h2.tape.trans hw.1.tape, h2.output.trans hw.1.output, by rw [h2.size]; exact hw.1.size, fun k hk hn => ?_⟩, hsl⟩
 ·have ht := hr.take
  have hsize : n * 6 + 6 ≤ cur.size := by omega
  apply List.ext_getElem?
  intro j
  by_cases hj : j < n * 6
  ·have e1 : (cur.toList.take ((n + 1) * 6))[j]? = (xs ++ [c0, c1, c2, c3, c4, c5])[j]? := by
    rw [ht, List.getElem?_append_left (by omega), List.getElem?_append_left (by omega)]
   rw [← e1, List.getElem?_take_of_lt (by omega), List.getElem?_take_of_lt (by omega), Array.getElem?_toList, Array.getElem?_toList]
   exact f3 j hj
  ·by_cases hj2 : j < n * 6 + 6
   ·rw [List.getElem?_take_of_lt (by omega), Array.getElem?_toList, List.getElem?_append_right (by omega), hlen]
    have := f4 (j - n * 6) (by omega)
    rw [show n * 6 + (j - n * 6) = j by omega] at this
    exact this
   ·rw [List.getElem?_eq_none (by rw [List.length_take]; omega), List.getElem?_eq_none (by rw [List.length_append, hlen, List.length_cons, List.length_cons, List.length_cons, List.length_cons, List.length_cons, List.length_cons, List.length_nil]; omega)]
 ·exact hv.kept (fun g hg _ => h2.oth g hg.2 (by omega)) (fun g hg => ⟨hg.1, by rw [hob]; exact fun e => hg.2 (Option.some.inj e).symm, by omega⟩)
 ·by_cases e : k = g9
  ·subst e
   exfalso
   apply hn
   rcases hw.2 with e2 | ⟨g, e2, hg⟩
   ·exact .inr (e2 ▸ hob)
   ·rw [hob] at e2; have := Option.some.inj e2; omega
  ·have e2 : k ≠ s := fun e2 => hn (.inl e2)
   exact (h2.oth k e e2).trans (hw.1.block k hk (fun e3 => hn (.inr e3.symm)))
end
end Acc
end Go.Proofs.YtngllchoiffniaaDoor
end
section
namespace Go.Proofs.YtngllchoiffniaaDoor
open Go.ChangeShapes Go.WideShapes Go.ChangeAt Go.RowKit
def strData {H : Type} (zs : List ByteArray) : DataW H := .agg (zs.map fun z => .lit (.string z.data.toList))
theorem cells_of_strs {H : Type} {enc : TypeId × Value → H} {P : Program} {w : World} {base : Nat} {sp : Nat → Bool} {held : Bool} {fuel : Nat} {t e : TypeId} {n : Nat} {cs : List Value} {zs : List ByteArray} {p : List MemPlace}
  (ht : P.underlying t = some (.array n e)) (he : P.underlying e = some .string) (hce : P.cellsOf e = 1) (hct : P.cellsOf t = n)
  (h : DataW.trod enc P w base sp held fuel t cs = some (strData zs, p)) : cs = zs.map fun z => Value.string z := by
 cases fuel with
 | zero => simp [DataW.trod] at h
 | succ fuel =>
  simp only [DataW.trod, ht, hce, hct, Nat.mul_one] at h
  split at h
  ·rename_i hl
   obtain ⟨xs, hm, hx⟩ := Option.map_eq_some_iff.1 h
   have hxs : xs.map (·.1) = zs.map fun z => (DataW.lit (.string z.data.toList) : DataW H) := by
    have := congrArg Prod.fst hx
    simpa [strData] using this
   have hxl : xs.length = n := by simpa using Lib.mapM_length hm
   have hzl : zs.length = n := by
    have := congrArg List.length hxs
    simp at this
    omega
   apply List.ext_getElem?
   intro i
   by_cases hi : i < n
   ·obtain ⟨b, hb, hf⟩ := Lib.mapM_at hm i i (by simp [hi])
    obtain ⟨z, hc, rfl, _⟩ := DataW.trod_string he hf
    have h1 : cs[i]? = some (.string z) := by
     have := congrArg (·[0]?) hc
     simpa [List.getElem?_take, List.getElem?_drop] using this
    have h2 : (xs.map (·.1))[i]? = some (DataW.lit (.string z.data.toList) : DataW H) := by simp [hb]
    rw [hxs] at h2
    simp only [List.getElem?_map, Option.map_eq_some_iff, DataW.lit.injEq, Lit.string.injEq] at h2
    obtain ⟨z', hz', hzz⟩ := h2
    obtain rfl : z' = z := by
     cases z'; cases z
     simp only [ByteArray.mk.injEq]
     exact Array.toList_inj.1 hzz
    simp [h1, hz']
   ·rw [List.getElem?_eq_none (by omega), List.getElem?_eq_none (by simp; omega)]
  ·cases h
def laidList12 : List (String × DataW Unit) := [("math/bits.deBruijn32tab", Rows.laid_math_bits_deBruijn32tab), ("math/bits.deBruijn64tab", Rows.laid_math_bits_deBruijn64tab), ("internal/strconv.uint64pow10", Rows.laid_internal_strconv_uint64pow10), ("unicode/utf8.acceptRanges", Rows.laid_unicode_utf8_acceptRanges), ("aqueduct/accum.names", Rows.laid_aqueduct_accum_names), ("unicode/utf8.first", Rows.laid_unicode_utf8_first)]
theorem laidList12_eq : laidList12 = [("math/bits.deBruijn32tab", Rows.laid_math_bits_deBruijn32tab), ("math/bits.deBruijn64tab", Rows.laid_math_bits_deBruijn64tab), ("internal/strconv.uint64pow10", Lib.tabData .u64 Lib.pow10Tab), ("unicode/utf8.acceptRanges", Lib.acceptData), ("aqueduct/accum.names", strData Acc.names12), ("unicode/utf8.first", Lib.firstData)] := by kernel_rfl
noncomputable def laidWorld12 (os : Os) : World := World.laidAll Tryd.prog os laidList12
theorem laid_met_all12 (os : Os) (args : Array Value) : laidMet Tryd.prog laidList12 ((laidWorld12 os).forCall (fun _ _ => 0) ⟨#[], args, []⟩).memory :=
 laidMet_laidAll args (by kernel_rfl) (by kernel_rfl)
theorem tabs12_of {W : World} (h : laidMetH Tryd.prog laidList12 W) : Tabs W := by
 rw [laidList12_eq] at h
 have U := utf8Tabs_of_readsT (Go.Proofs.U8Types.of196 Tryd.lays196) ⟨by kernel_rfl, by kernel_rfl, by kernel_rfl, by kernel_rfl, by kernel_rfl, by kernel_rfl, by kernel_rfl⟩ (Lib.laidMet.reads h (.tail _ (.tail _ (.tail _ (.tail _ (.tail _ (.head _))))))) (Lib.laidMet.reads h (.tail _ (.tail _ (.tail _ (.head _)))))
 refine ⟨⟨fun c hc => U.1 c hc, fun i hi => ?_, fun i hi => ?_⟩, ?_⟩
 ·have h1 := (U.2 i hi).1
  rw [Nat.mul_comm] at h1
  exact h1
 ·have h1 := (U.2 i hi).2
  rw [Nat.mul_comm] at h1
  exact h1
 ·obtain ⟨g, t, cs, fuel, p, hg, hty, hvar, hd⟩ := Lib.laidMet.reads h (.tail _ (.tail _ (.head _)))
  have hg2 : Tryd.prog.globalNamed "internal/strconv.uint64pow10" = some 4 := by kernel_rfl
  have ht2 : (Tryd.prog.globals[4]?).map (·.type) = some 112 := by kernel_rfl
  obtain rfl := Option.some.inj (hg2.symm.trans hg)
  obtain rfl := Option.some.inj (ht2.symm.trans hty)
  unfold Lib.TabIs
  rw [hvar, ← Lib.cells_of_tab Tryd.underlying112 Tryd.underlying101 (by kernel_rfl) (by kernel_rfl) hd]
theorem nms12_of {W : World} (h : laidMetH Tryd.prog laidList12 W) : Acc.Nms12 W := by
 rw [laidList12_eq] at h
 obtain ⟨g, t, cs, fuel, p, hg, hty, hvar, hd⟩ := Lib.laidMet.reads h (.tail _ (.tail _ (.tail _ (.tail _ (.head _)))))
 have hg2 : Tryd.prog.globalNamed "aqueduct/accum.names" = some 0 := by kernel_rfl
 have ht2 : (Tryd.prog.globals[0]?).map (·.type) = some 45 := by kernel_rfl
 obtain rfl := Option.some.inj (hg2.symm.trans hg)
 obtain rfl := Option.some.inj (ht2.symm.trans hty)
 have hcs := cells_of_strs Tryd.underlying45 Tryd.underlying9 (by kernel_rfl) (by kernel_rfl) hd
 intro j hj
 rw [World.var?_cell hg2 hvar j, ← Array.getElem?_toList, hcs]
 match j, hj with
 | 0, _ => rfl
 | 1, _ => rfl
 | 2, _ => rfl
 | 3, _ => rfl
 | 4, _ => rfl
 | 5, _ => rfl
 | 6, _ => rfl
 | 7, _ => rfl
end Go.Proofs.YtngllchoiffniaaDoor
end
section
namespace Go.Proofs.YtngllchoiffniaaDoor
open Go.RowKit
open Seal
namespace Acc
def insAt {α : Type} (l : List α) (i : Nat) (p : α) : List α := l.take i ++ p :: l.drop i
theorem row_ins {ds : Array Value} {cs : List Value} {n i : Nat} {p : Value} (hcl : cs.length = n) (hi : i ≤ n) (hsz : n + 1 ≤ ds.size) (h1 : ∀ j, j < i → ds[j]? = cs[j]?) (h2 : ds[i]? = some p) (h3 : ∀ j, i ≤ j → j < n → ds[j + 1]? = cs[j]?) :
  ds.toList.take (n + 1) = insAt cs i p := by
 apply List.ext_getElem?
 intro j
 unfold insAt
 have hlt : (cs.take i).length = i := by rw [List.length_take]; omega
 by_cases hj : j < n + 1
 ·rw [List.getElem?_take_of_lt hj, Array.getElem?_toList]
  rcases Nat.lt_trichotomy j i with h | h | h
  ·rw [h1 j h, List.getElem?_append_left (by omega), List.getElem?_take_of_lt h]
  ·subst h
   rw [h2, List.getElem?_append_right (by omega), hlt, Nat.sub_self]; rfl
  ·obtain ⟨k, rfl⟩ : ∃ k, j = k + 1 := ⟨j - 1, by omega⟩
   rw [h3 k (by omega) (by omega), List.getElem?_append_right (by omega), hlt, show k + 1 - i = (k - i) + 1 by omega, List.getElem?_cons_succ, List.getElem?_drop, show i + (k - i) = k by omega]
 ·rw [List.getElem?_eq_none (by rw [List.length_take]; omega), List.getElem?_eq_none (by rw [List.length_append, hlt, List.length_cons, List.length_drop]; omega)]
theorem ins_len {α : Type} (l : List α) (i : Nat) (p : α) (hi : i ≤ l.length) : (insAt l i p).length = l.length + 1 := by
 unfold insAt; rw [List.length_append, List.length_cons, List.length_take, List.length_drop]; omega
theorem ins_map {α β : Type} (f : α → β) (l : List α) (i : Nat) (p : α) : (insAt l i p).map f = insAt (l.map f) i (f p) := by
 unfold insAt; rw [List.map_append, List.map_cons, List.map_take, List.map_drop]
def cellsOf (rs : List Nat) : List Value := rs.map fun x : Nat => Value.int .i64 (x : Int)
theorem cellsOf_len (rs : List Nat) : (cellsOf rs).length = rs.length := by simp [cellsOf]
theorem cellsOf_one (rs : List Nat) : ∀ v ∈ cellsOf rs, v.oneCell' = true := by
 intro v hv
 obtain ⟨x, _, rfl⟩ := List.mem_map.1 hv
 rfl
def InsPost (w : World) (base n : Nat) (rv : Value) (rs : List Nat) (i p : Nat) (e : Ending) (w' : World) : Prop := ∃ rv', e = .returned rv' ∧ w'.ownsRow base 3 1 rv' (n + 1) (cellsOf (insAt rs i p)) ∧ RM (fun g => rv.ownBlock = some g) w w' ∧ (rv'.ownBlock = rv.ownBlock ∨ ∃ g, rv'.ownBlock = some g ∧ w.heap.size ≤ g)
theorem rm_new {F : Nat → Prop} {w : World} {o : Obj} : RM F w (w.drew.alloc o) := RM.of_below (((Below.refl w.heap.size w).drew).alloc (Nat.le_refl _) o)
theorem insert_any (base z p i n : Nat) (rv : Value) (rs : List Nat) (t0 : TypeId) (w : World) (hown : w.ownsRow base 3 1 rv n (cellsOf rs)) (hz : w.heap[z]? = some (.cells #[.int .i64 (p : Int)] t0 (0, 0))) (hne : rv.ownBlock ≠ some z) (hi : i ≤ n) (hn : n ≤ 60000) (hbase : base ≤ w.heap.size) :
  Calls Tryd.prog 35 #[rv, .int .i64 (i : Int), .slice (some ⟨z, 0, none⟩) 1 1] w (InsPost w base n rv rs i p) := by
 have hcl : (cellsOf rs).length = n := by have := hown.1; omega
 have hvs : ∀ j v, [Value.int .i64 (p : Int)][j]? = some v → w.cell? ⟨z, 0 + j, none⟩ = some v := fun j v hv => by
  rw [Nat.zero_add]; exact (cell_of_row _ _ j _ _ _ hz).trans (by simpa using hv)
 have h1v : ∀ v ∈ [Value.int .i64 (p : Int)], v.oneCell' = true := by intro v hv; rw [List.mem_singleton.1 hv]; rfl
 have hgw := fun c => grownCap_ge w (n + 1) c 3
 have hgm := fun c => grownCap_le_maxLen w (n + 1) c 3 (by unfold maxLen; omega)
 have hmap : cellsOf (insAt rs i p) = insAt (cellsOf rs) i (Value.int .i64 (p : Int)) := ins_map _ _ _ _
 unfold InsPost
 rw [hmap]
 -- a new row at the end
 have endgrow : ∀ (a : Option Addr) (c : Nat), rv = .slice a n c → n ≤ c → c < n + 1 → i = n → (a = none → n = 0) → (∀ b, a = some b → ∀ j v, (cellsOf rs)[j]? = some v → w.cell? (b.add j) = some v) →
   Calls Tryd.prog 35 #[rv, .int .i64 (i : Int), .slice (some ⟨z, 0, none⟩) 1 1] w fun e w' => ∃ rv', e = .returned rv' ∧ w'.ownsRow base 3 1 rv' (n + 1) (insAt (cellsOf rs) i (Value.int .i64 (p : Int))) ∧ RM (fun g => rv.ownBlock = some g) w w' ∧ (rv'.ownBlock = rv.ownBlock ∨ ∃ g, rv'.ownBlock = some g ∧ w.heap.size ≤ g) := by
  intro a c hrv hnc hc hin hnil hcs
  rw [hrv, hin]
  obtain ⟨arr, harr⟩ : ∃ a, a = (((cellsOf rs) ++ [Value.int .i64 (p : Int)]).toArray ++ Builtin.zeroCells (Value.int .i64 0).cells (grownCap w (n + 1) c 3 - (n + 1))) := ⟨_, rfl⟩
  have C2 : Calls Tryd.prog 35 #[.slice a n c, .int .i64 (n : Int), .slice (some ⟨z, 0, none⟩) 1 1] w fun e w' => e = .returned (.slice (some ⟨w.heap.size, 0, none⟩) (n + 1) (grownCap w (n + 1) c 3)) ∧ w' = w.drew.alloc (.cells arr 3) := by
   rw [harr]
   exact Any2.slices_Insert_int_end_grow Tryd.laysIns a n c z 0 1 1 (cellsOf rs) [Value.int .i64 (p : Int)] w (by omega) hnc hc (by omega) hcl rfl hnil hcs hvs h1v
  refine C2.mono ?_
  rintro e w' ⟨rfl, rfl⟩
  refine ⟨_, rfl, ⟨by rw [ins_len _ _ _ (by omega)]; omega, .inr ⟨w.heap.size, grownCap w (n + 1) c 3, _, rfl, hbase, heap_alloc_new w.drew _, hgw c, hgm c, ?_, ?_⟩⟩, rm_new, .inr ⟨_, rfl, Nat.le_refl _⟩⟩
  ·have := hgw c
   have hz1 : (Value.int .i64 0).cells.size = 1 := rfl
   rw [harr, Array.size_append, size_zeroCells, List.size_toArray, List.length_append, hcl, hz1, List.length_singleton]
   omega
  ·rw [Nat.mul_one]
   have hsz : n + 1 ≤ arr.size := by
    rw [harr, Array.size_append, List.size_toArray, List.length_append, hcl, List.length_singleton]; omega
   rw [harr] at hsz ⊢
   refine row_ins hcl (Nat.le_refl _) hsz (fun j hj => ?_) ?_ (fun j h1 h2 => by omega)
   ·rw [Array.getElem?_append_left (by rw [List.size_toArray, List.length_append, hcl]; omega), List.getElem?_toArray, List.getElem?_append_left (by omega)]
   ·rw [Array.getElem?_append_left (by rw [List.size_toArray, List.length_append, hcl, List.length_singleton]; omega), List.getElem?_toArray, List.getElem?_append_right (by omega), hcl, Nat.sub_self]; rfl
 rcases id hown with ⟨hxl, ⟨hrv, hn0⟩ | ⟨g, cap, cur, hrv, hbg, hrow, hnc, hmax, hsz, htake⟩⟩
 ·refine endgrow none 0 (by rw [hrv, hn0]) (by omega) (by omega) (by omega) (fun _ => hn0) (fun b hb => by cases hb)
 ·rw [Nat.mul_one] at hsz htake
  have hob : rv.ownBlock = some g := by rw [hrv]; rfl
  have hgz : z ≠ g := fun e => hne (by rw [hob, e])
  have hcur : ∀ j, j < n → cur[j]? = (cellsOf rs)[j]? := fun j hj => by rw [← htake, List.getElem?_take_of_lt hj, Array.getElem?_toList]
  have hcs : ∀ j v, (cellsOf rs)[j]? = some v → w.cell? ⟨g, 0 + j, none⟩ = some v := fun j v hv => by
   have hjn : j < n := by have := (List.getElem?_eq_some_iff.1 hv).1; omega
   rw [Nat.zero_add]; exact (cell_of_row _ _ j _ _ _ hrow).trans ((hcur j hjn).trans hv)
  have hgl : g < w.heap.size := (Array.getElem?_eq_some_iff.1 hrow).1
  by_cases hroom : n + 1 ≤ cap
  ·by_cases hin : i = n
   ·rw [hrv, hin]
    refine (Any2.slices_Insert_int_end_room Tryd.laysIns g 0 n cap z 0 1 1 [Value.int .i64 (p : Int)] w (by omega) hroom (by unfold maxLen at hmax; omega) rfl (fun j hj => ?_) (fun j hj => frozen_of_row w g _ _ _ hrow) hvs h1v).mono ?_
    ·rw [cell_of_row w g _ _ _ _ hrow, Array.getElem?_eq_getElem (show 0 + n + j < cur.size by omega)] <;> rfl
    ·rintro e w' ⟨rfl, rfl⟩
     obtain ⟨ds, e1, e2, e3, -, e5⟩ := puts_same g 3 [Value.int .i64 (p : Int)] w (0 + n) cur hrow
     refine ⟨_, rfl, ⟨by rw [ins_len _ _ _ (by omega)]; omega, .inr ⟨g, cap, ds, rfl, hbg, e1, hroom, hmax, by rw [e2]; omega, ?_⟩⟩, RM.puts (F := fun g' => (Value.slice (some ⟨g, 0, none⟩) n cap).ownBlock = some g') (RM.refl _ _) rfl _ _, .inl rfl⟩
     rw [Nat.mul_one]
     refine row_ins hcl (Nat.le_refl _) (by omega) (fun j hj => (e3 j (by omega)).trans (hcur j hj)) ?_ (fun j h1 h2 => by omega)
     have := e5 (by simp; omega) 0 (by simp)
     rw [Nat.add_zero, Nat.zero_add] at this
     exact this
   ·rw [hrv]
    have hsh : w.shape? z = some (t0, 1) := by unfold World.shape?; rw [hz]; rfl
    have hshb : w.shape? g = some (3, cur.size) := by unfold World.shape?; rw [hrow]
    refine (Any2.slices_Insert_int_shift Tryd.laysIns g 0 n cap i z 0 1 1 (cellsOf rs) [Value.int .i64 (p : Int)] w (by omega) (by omega) hroom (by unfold maxLen at hmax; omega) hgz hcl rfl hcs (fun j hj => ?_) (fun j hj => frozen_of_row w g _ _ _ hrow) hvs (cellsOf_one rs) h1v t0 3 1 cur.size hsh hshb (by omega) (frozen_of_row w z _ _ _ hz) (frozen_of_row w z _ _ _ hz)).mono ?_
    ·rw [cell_of_row w g _ _ _ _ hrow, Array.getElem?_eq_getElem (show 0 + j < cur.size by omega)] <;> rfl
    ·rintro e w' ⟨rfl, rfl⟩
     obtain ⟨d1, e1, e2, e3, e4, e5⟩ := puts_same g 3 ((cellsOf rs).drop i) w.drew (0 + (i + 1)) cur hrow
     obtain ⟨d2, f1, f2, f3, f4, f5⟩ := puts_same g 3 [Value.int .i64 (p : Int)] (puts w.drew g (0 + (i + 1)) ((cellsOf rs).drop i)) (0 + i) d1 e1
     have hdl : ((cellsOf rs).drop i).length = n - i := by rw [List.length_drop, hcl]
     refine ⟨_, rfl, ⟨by rw [ins_len _ _ _ (by omega)]; omega, .inr ⟨g, cap, d2, rfl, hbg, f1, hroom, hmax, by rw [f2, e2]; omega, ?_⟩⟩, RM.puts (F := fun g' => (Value.slice (some ⟨g, 0, none⟩) n cap).ownBlock = some g') (RM.puts (F := fun g' => (Value.slice (some ⟨g, 0, none⟩) n cap).ownBlock = some g') (RM.of_below (Below.refl w.heap.size w).drew) rfl _ _) rfl _ _, .inl rfl⟩
     rw [Nat.mul_one]
     refine row_ins hcl hi (by omega) (fun j hj => (f3 j (by omega)).trans ((e3 j (by omega)).trans (hcur j (by omega)))) ?_ (fun j h1 h2 => ?_)
     ·have := f5 (by simp; omega) 0 (by simp)
      rw [Nat.add_zero, Nat.zero_add] at this
      exact this
     ·rw [f4 (j + 1) (by simp; omega)]
      have := e5 (by rw [hdl]; omega) (j - i) (by rw [hdl]; omega)
      rw [show 0 + (i + 1) + (j - i) = j + 1 by omega, List.getElem?_drop, show i + (j - i) = j by omega] at this
      exact this
  ·by_cases hin : i = n
   ·exact endgrow (some ⟨g, 0, none⟩) cap hrv hnc (by omega) hin (fun e => by cases e) (fun b hb j v hv => by obtain rfl := Option.some.inj hb; rw [Addr.add_mid]; exact hcs j v hv)
   ·rw [hrv]
    obtain ⟨arr, harr⟩ : ∃ a, a = (((cellsOf rs).take i).toArray ++ Builtin.zeroCells (Value.int .i64 0).cells (n + 1 - i) ++ Builtin.zeroCells (Value.int .i64 0).cells (grownCap w (n + 1) cap 3 - (n + 1))) := ⟨_, rfl⟩
    have C2 : Calls Tryd.prog 35 #[.slice (some ⟨g, 0, none⟩) n cap, .int .i64 (i : Int), .slice (some ⟨z, 0, none⟩) 1 1] w fun e w' => e = .returned (.slice (some ⟨w.heap.size, 0, none⟩) (n + 1) (grownCap w (n + 1) cap 3)) ∧ w' = puts ((puts (w.alloc (.cells arr 3)).drew w.heap.size i [Value.int .i64 (p : Int)]).drew) w.heap.size (i + 1) ((cellsOf rs).drop i) := by
     rw [harr]
     exact Any2.slices_Insert_int_grow Tryd.laysIns g 0 n cap i z 0 1 1 (cellsOf rs) [Value.int .i64 (p : Int)] w (by omega) (by omega) hnc (by omega) (by omega) hcl rfl hcs hvs (cellsOf_one rs) h1v
    refine C2.mono ?_
    rintro e w' ⟨rfl, rfl⟩
    have hal : arr.size = grownCap w (n + 1) cap 3 := by
     have := hgw cap
     have hz1 : (Value.int .i64 0).cells.size = 1 := rfl
     rw [harr, Array.size_append, Array.size_append, size_zeroCells, size_zeroCells, List.size_toArray, List.length_take, hcl, hz1]
     omega
    have hpre : ∀ j, j < i → arr[j]? = (cellsOf rs)[j]? := fun j hj => by
     rw [harr, Array.getElem?_append_left (by rw [Array.size_append, List.size_toArray, List.length_take, hcl]; omega), Array.getElem?_append_left (by rw [List.size_toArray, List.length_take, hcl]; omega), List.getElem?_toArray, List.getElem?_take_of_lt hj]
    have hcg := hgw cap
    have hrow0 : ((w.alloc (.cells arr 3)).drew).heap[w.heap.size]? = some (.cells arr 3 (0, 0)) := heap_alloc_new w _
    obtain ⟨d1, e1, e2, e3, e4, e5⟩ := puts_same w.heap.size 3 [Value.int .i64 (p : Int)] (w.alloc (.cells arr 3)).drew i arr hrow0
    obtain ⟨d2, f1, f2, f3, f4, f5⟩ := puts_same w.heap.size 3 ((cellsOf rs).drop i) ((puts (w.alloc (.cells arr 3)).drew w.heap.size i [Value.int .i64 (p : Int)]).drew) (i + 1) d1 e1
    have hdl : ((cellsOf rs).drop i).length = n - i := by rw [List.length_drop, hcl]
    have hbel : Below w.heap.size w (puts ((puts (w.alloc (.cells arr 3)).drew w.heap.size i [Value.int .i64 (p : Int)]).drew) w.heap.size (i + 1) ((cellsOf rs).drop i)) := puts_below (puts_below ((Below.refl w.heap.size w).alloc (Nat.le_refl _) _).drew (Nat.le_refl _) _ _).drew (Nat.le_refl _) _ _
    refine ⟨_, rfl, ⟨by rw [ins_len _ _ _ (by omega)]; omega, .inr ⟨w.heap.size, grownCap w (n + 1) cap 3, d2, rfl, hbase, f1, hcg, hgm cap, by rw [f2, e2, hal]; omega, ?_⟩⟩, RM.of_below hbel, .inr ⟨_, rfl, Nat.le_refl _⟩⟩
    rw [Nat.mul_one]
    refine row_ins hcl hi (by omega) (fun j hj => (f3 j (by omega)).trans ((e3 j (by omega)).trans (hpre j hj))) ?_ (fun j h1 h2 => ?_)
    ·rw [f3 i (by omega)]
     have := e5 (by simp; omega) 0 (by simp)
     rw [Nat.add_zero] at this
     exact this
    ·have := f5 (by rw [hdl]; omega) (j - i) (by rw [hdl]; omega)
     rw [show i + 1 + (j - i) = j + 1 by omega, List.getElem?_drop, show i + (j - i) = j by omega] at this
     exact this
end Acc
end Go.Proofs.YtngllchoiffniaaDoor
end
section
namespace Go.Proofs.YtngllchoiffniaaDoor
open Go.RowKit
open Seal
open Bson (Val)
namespace Acc
def lst (l : List Val) : Val := .mk 7 0 ⟨#[]⟩ [] [] l
def growV (y : Val) (k : Nat) : Int := if sizeB (one (lst [y])) = 0 then 0 else (sizeB (one (lst [y])) : Int) - 12 - 1 + ((Lib.itoa (k : Int)).length : Int)
theorem size_empty : sizeB (one (lst [])) = 12 := by kernel_rfl
theorem lst1_in {w : World} {Q : Nat → Prop} {h g : Nat} {y : Val} {a0 a1 a2 a3 a4 a5 : Value} {t : TypeId} (hr : w.heap[g]? = some (.cells #[a0, a1, a2, a3, a4, a5] t (0, 0))) (hq : Q g) (hx : VIn w Q h y (.agg #[a0, a1, a2, a3, a4, a5])) :
  VIn w Q (h + 1) (lst [y]) (.agg #[.int .i64 7, .int .i64 0, .string ⟨#[]⟩, .slice none 0 0, .slice none 0 0, .slice (some ⟨g, 0, none⟩) 1 1]) := by
 have e : ∀ j c, (#[a0, a1, a2, a3, a4, a5] : Array Value)[j]? = some c → w.cell? ⟨g, j, none⟩ = some c := fun j c hc => (cell_of_row _ _ j _ _ _ hr).trans hc
 refine ⟨none, none, some ⟨g, 0, none⟩, 0, 0, 1, rfl, plain_lim 7 0 [] [y] (by omega) (by omega) (by simp) (by simp), ⟨Nat.le_refl _, by omega⟩, ⟨Nat.le_refl _, by omega⟩, ⟨Nat.le_refl _, by omega⟩, .inl rfl, .inl rfl, .inr ⟨g, 0, rfl, hq, fun i hi => ?_⟩⟩
 obtain rfl : i = 0 := by simp [lst, Val.l] at hi; omega
 exact ⟨_, ⟨a0, a1, a2, a3, a4, a5, rfl, e 0 _ rfl, e 1 _ rfl, e 2 _ rfl, e 3 _ rfl, e 4 _ rfl, e 5 _ rfl⟩, hx⟩
theorem itoa_some (k : Nat) (hk : k ≤ 9223372036854775807) (w : World) (hT : Tabs w) : Calls Tryd.prog 44 #[.int .i64 (k : Int)] w fun e w' => ∃ d : ByteArray, e = .returned (.string d) ∧ d.size = (Lib.itoa (k : Int)).length ∧ Below w.heap.size w w' :=
 (Tryd.strconv_Itoa (k : Int) (by omega) (by omega) w hT.p10).mono fun e w' ⟨h1, q, os, h2⟩ => ⟨_, h1, by simp [ByteArray.size], by rw [h2]; exact below_grow (bel_drewN (Below.refl _ w) q) os (Nat.le_refl _)⟩
theorem itoa_len (k : Nat) (hk : k ≤ 70000) : (Lib.itoa (k : Int)).length ≤ 70001 := by
 have h1 : (Lib.itoa (k : Int)).length = (Bson.digits k).size := by rw [← itoa_digits]; simp [ByteArray.size]
 rw [h1]
 have h2 := decDigits_le k
 have h3 : (Bson.digits k).size = (Lib.decDigits k).length := by unfold Bson.digits; simp [ByteArray.size]
 rw [h3]; omega
theorem growth_any (Q : Nat → Prop) (H : Nat) (y : Val) (v : Value) (k : Nat) (w : World) (hk : k ≤ 70000) (hv : VIn w Q (H + 1) y v) (hT : Tabs w) :
  Calls Tryd.prog 32 #[v, .int .i64 (k : Int)] w fun e w' => e = .returned (.int .i64 (growV y k)) ∧ Below w.heap.size w w' := by
 obtain ⟨yk, yn, ys0, ba, fa, la, bn, bc, fn, fc, ln, lc, rfl, -⟩ := hv.letters
 obtain ⟨W1, hW1⟩ : ∃ W, W = w.alloc (.cells #[.int .i64 yk, .int .i64 yn, .string ys0, .slice ba bn bc, .slice fa fn fc, .slice la ln lc] 32) := ⟨_, rfl⟩
 obtain ⟨W2, hW2⟩ : ∃ W, W = W1.alloc (.cells #[.int .i64 yk, .int .i64 yn, .string ys0, .slice ba bn bc, .slice fa fn fc, .slice la ln lc] 32) := ⟨_, rfl⟩
 have hb1 : Below w.heap.size w W1 := by rw [hW1]; exact (Below.refl _ _).alloc (Nat.le_refl _) _
 have hb2 : Below w.heap.size w W2 := by rw [hW2]; exact hb1.alloc hb1.size _
 have hp : W1.heap.size = w.heap.size + 1 := by rw [hW1]; simp
 have hr2 : W2.heap[w.heap.size + 1]? = some (.cells #[.int .i64 yk, .int .i64 yn, .string ys0, .slice ba bn bc, .slice fa fn fc, .slice la ln lc] 32 (0, 0)) := by rw [hW2, ← hp]; exact heap_alloc_new W1 _
 have hl := lst1_in (Q := fun _ => True) hr2 trivial (VIn.all (hv.keep hb2))
 have CS := Lib.hid (sizeOfOne_any _ _ _ _ W2 hl (hT.below hb2))
 have HW1 := Lib.hid hW1; have HW2 := Lib.hid hW2; have HB2 := Lib.hid hb2; have HT := Lib.hid (TabsAt.of hT)
 obtain ⟨a, ha⟩ : ∃ a, a = sizeB (one (lst [y])) := ⟨_, rfl⟩
 have hab : a ≤ 65536 := by rw [ha]; exact size_le _
 rw [← ha] at CS
 have HA := Lib.hid ha
 have hil := itoa_len k hk
 obtain ⟨il, hile⟩ : ∃ n, n = (Lib.itoa (k : Int)).length := ⟨_, rfl⟩
 rw [← hile] at hil
 have HIL := Lib.hid hile
 clear hW1 hW2 hb1 hb2 hp hr2 hl hv hT ha hile
 go_enter Tryd.func32, Tryd.ntmps32
 go_wp2_with fail
 rw [← HW1.out, ← HW2.out]
 refine CS.out.mono ?_
 rintro e w3 ⟨rfl, hb3⟩
 have HB3 := Lib.hid (HB2.out.trans (hb3.mono HB2.out.size))
 clear hb3
 by_cases h0 : a = 0
 ·subst h0
  have hz : growV y k = 0 := by unfold growV; rw [← HA.out, if_pos rfl]
  have HZ := Lib.hid hz
  clear hz
  go_wp2_with fail
  go_ret
  exact ⟨by rw [HZ.out]; rfl, HB3.out⟩
 have e0 : ((a : Int) == 0) = false := by rw [beq_eq_false_iff_ne]; omega
 have hz : growV y k = (a : Int) - 12 - 1 + (il : Int) := by unfold growV; rw [← HA.out, if_neg h0, HIL.out]
 have HZ := Lib.hid hz
 clear hz
 have hw1 : IntKind.i64.wrap ((a : Int) - 12) = (a : Int) - 12 := IntWalk.i64_in _ (by omega)
 have hw2 : IntKind.i64.wrap ((a : Int) - 12 - 1) = (a : Int) - 12 - 1 := IntWalk.i64_in _ (by omega)
 have hw3 : IntKind.i64.wrap ((a : Int) - 12 - 1 + (il : Int)) = (a : Int) - 12 - 1 + (il : Int) := IntWalk.i64_in _ (by omega)
 go_wp2_with fail
 refine (emptyList_any w3).mono ?_
 rintro e w4 ⟨rfl, hb4⟩
 have HB4 := Lib.hid (HB3.out.trans (hb4.mono HB3.out.size))
 clear hb4
 have CE := Lib.hid (sizeOfOne_any (fun _ => True) 0 (lst []) _ w4 (leaf_in w4 _ 7 0 (by omega) (by omega) 0) (HT.out.mono HB4.out).now)
 rw [size_empty] at CE
 go_wp2_with fail
 refine CE.out.mono ?_
 rintro e w5 ⟨rfl, hb5⟩
 have HB5 := Lib.hid (HB4.out.trans (hb5.mono HB4.out.size))
 clear hb5 CE
 have C0 := Lib.hid (itoa_some 0 (by omega) w5 (HT.out.mono HB5.out).now)
 go_wp2_with fail
 refine C0.out.mono ?_
 rintro e w6 ⟨d0, rfl, hd0, hb6⟩
 have HB6 := Lib.hid (HB5.out.trans (hb6.mono HB5.out.size))
 have hd1 : d0.size = 1 := hd0.trans (by kernel_rfl)
 clear hb6 hd0 C0
 have CK := Lib.hid (itoa_some k (by omega) w6 (HT.out.mono HB6.out).now)
 go_wp2_with fail
 refine CK.out.mono ?_
 rintro e w7 ⟨dk, rfl, hdk, hb7⟩
 have HB7 := Lib.hid (HB6.out.trans (hb7.mono HB6.out.size))
 rw [← HIL.out] at hdk
 clear hb7 CK
 go_wp2_with fail
 go_ret
 exact ⟨by rw [HZ.out]; rfl, HB7.out⟩
def Pushed (w : World) (X : Nat → Prop) (s base H : Nat) (ys : List Val) (lv m rv : Value) (wt : Int) (y : Val) (n : Int) (w' : World) : Prop := ∃ lv' xs', w'.heap[s]? = some (.cells #[m, .int .i64 7, .int .i64 0, .string ⟨#[]⟩, .slice none 0 0, .slice none 0 0, lv', .int .i64 (wt + n), rv] 41 (0, 0)) ∧ Acc w' base lv' (fun g => g ≠ s ∧ X g) (H + 1) (ys ++ [y]) xs' ∧ RM (fun g => g = s ∨ lv.ownBlock = some g) w w' ∧ (lv'.ownBlock = lv.ownBlock ∨ ∃ g, lv'.ownBlock = some g ∧ w.heap.size ≤ g)
def PushPost (w : World) (X : Nat → Prop) (s base H : Nat) (ys : List Val) (lv m rv : Value) (wt : Int) (y : Val) (e : Ending) (w' : World) : Prop :=
 if y.kind = 0 then e = .returned (.int .i64 0) ∧ Below w.heap.size w w'
 else if growV y ys.length = 0 ∨ 65536 < 7 + wt + growV y ys.length then e = .returned (.int .i64 3) ∧ Below w.heap.size w w'
 else e = .returned (.int .i64 0) ∧ Pushed w X s base H ys lv m rv wt y (growV y ys.length) w'
theorem grow_bound (y : Val) (k : Nat) (hk : k ≤ 70000) : -13 ≤ growV y k ∧ growV y k ≤ 135537 := by
 unfold growV
 have h1 := size_le (one (lst [y])); have h2 := itoa_len k hk
 split <;> omega
theorem six_of {w : World} {Q : Nat → Prop} {h : Nat} {x : Val} {c0 c1 c2 c3 c4 c5 : Value} (hv : VIn w Q h x (.agg #[c0, c1, c2, c3, c4, c5])) : ∃ (k n : Int) (s : ByteArray) (a1 a2 a3 : Option Addr) (p1 p2 p3 p4 p5 p6 : Nat), c0 = .int .i64 k ∧ c1 = .int .i64 n ∧ c2 = .string s ∧ c3 = .slice a1 p1 p2 ∧ c4 = .slice a2 p3 p4 ∧ c5 = .slice a3 p5 p6 := by
 obtain ⟨k, n, s, a1, a2, a3, p1, p2, p3, p4, p5, p6, e⟩ := hv.shape
 simp only [Value.agg.injEq, Array.mk.injEq, List.cons.injEq, and_true] at e
 exact ⟨k, n, s, a1, a2, a3, p1, p2, p3, p4, p5, p6, e⟩
theorem aoper_append {P : Program} {w : World} {o : Oper} {a : Act} {K : Act → World → Prop} {Q : Exit → Act → World → Prop} (s x : Operand) (t : TypeId)
  (ho : o.op = .call { callee := .builtin .append, args := #[s, x], argTypes := #[t, t] })
  (base : Nat) (e : TypeId) (i : TypeInfo) (z : Value) (size bytes : Nat) (ht : P.underlying t = some (.slice e)) (hi : P.info? e = some i) (hz : i.zero = some z)
  (hsize : i.size = size) (hby : i.bytes = bytes) (hzs : z.cells.size = size) (v : Value) (n : Nat) (xs : List Value) (hs : a.eval s = v) (hown : w.ownsRow base e size v n xs)
  (b : Addr) (m c : Nat) (news : List Value) (hx : a.eval x = .slice (some b) m c) (hl : news.length = m * size) (hm : 0 < m) (hsz : 0 < size) (hcell : ∀ j u, news[j]? = some u → w.cell? (b.add j) = some u) (h1 : ∀ u ∈ news, u.oneCell' = true)
  (h63 : n + m ≤ maxLen) (hbytes : (n + m) * bytes ≤ 140737488355328) (hbase : base ≤ w.heap.size)
  (h : ∀ v' w', w'.ownsRow base e size v' (n + m) (xs ++ news) → Wrote w w' v v' → K (a.put o.dst v') w') : Oper.wp P o a w K Q := by
 obtain ⟨v', w', hr, h2, h3⟩ := run_append_sz (P := P) w base t o.type e i z size bytes ht hi hz hsize hby hzs v n xs hown b m c news hl hm hsz hcell h1 h63 hbytes hbase
 unfold Oper.wp execOp
 simp only [ho, resolve, invoke, builtin, Sem.run_bind, Sem.run_pure, Result.andThen_ok, List.map_toArray, List.map_cons, List.map_nil, hs, hx, hr]
 exact h v' w' h2 (Wrote.of_lies h3)
theorem push_any (B s base : Nat) (H : Nat) (ys : List Val) (xs : List Value) (lv m rv : Value) (wt : Int) (y : Val) (v : Value) (Qy X : Nat → Prop) (w : World) (hB : B ≤ s) (hsb : s < base) (hbase : base ≤ w.heap.size) (hrow : w.heap[s]? = some (.cells #[m, .int .i64 7, .int .i64 0, .string ⟨#[]⟩, .slice none 0 0, .slice none 0 0, lv, .int .i64 wt, rv] 41 (0, 0))) (hA : Acc w base lv (fun g => g ≠ s ∧ X g) (H + 1) ys xs) (hX : ∀ g, w.heap.size ≤ g → X g) (hv : VIn w Qy (H + 1) y v) (hT : TabsAt B w) (hlen : ys.length ≤ 60000) (hw0 : 0 ≤ wt) (hw1 : wt ≤ 70000) :
  Calls Tryd.prog 19 #[.pointer (some ⟨s, 0, none⟩), v] w (PushPost w X s base H ys lv m rv wt y) := by
 obtain ⟨i0, hi0, hz0, hz1, hz2⟩ := info_parts infoV6
 have hlt : s < w.heap.size := (Array.getElem?_eq_some_iff.1 hrow).1
 obtain ⟨yk, yn, ys0, ba, fa, la, bn, bc, fn, fc, ln, lc, rfl, hyk, -⟩ := hv.letters
 obtain ⟨lo_, lc_, hlv⟩ : ∃ a c, lv = .slice a ys.length c := by
  obtain ⟨-, ⟨rfl, hn⟩ | ⟨g, cap, cur, rfl, -⟩⟩ := hA.own
  ·exact ⟨none, 0, by rw [hn]⟩
  ·exact ⟨_, _, rfl⟩
 have hob : ∀ g, lv.ownBlock = some g → base ≤ g ∧ g < w.heap.size := fun g hg => owns_block hA.own hg
 obtain ⟨n, hn⟩ : ∃ n, n = ys.length := ⟨_, rfl⟩
 have hgb := grow_bound y ys.length (by omega)
 obtain ⟨W1, hW1⟩ : ∃ W, W = w.alloc (.cells #[.int .i64 yk, .int .i64 yn, .string ys0, .slice ba bn bc, .slice fa fn fc, .slice la ln lc] 32) := ⟨_, rfl⟩
 have hb1 : Below w.heap.size w W1 := by rw [hW1]; exact (Below.refl _ _).alloc (Nat.le_refl _) _
 have hx1 : IsBox W1 w.heap.size (.int .i64 yk) (.int .i64 yn) (.string ys0) (.slice ba bn bc) (.slice fa fn fc) (.slice la ln lc) := by rw [hW1]; exact IsBox.new w (.int .i64 yk) (.int .i64 yn) (.string ys0) (.slice ba bn bc) (.slice fa fn fc) (.slice la ln lc)
 have CG : Hid (∀ W, Below W1.heap.size W1 W → Calls Tryd.prog 32 #[.agg #[.int .i64 yk, .int .i64 yn, .string ys0, .slice ba bn bc, .slice fa fn fc, .slice la ln lc], .int .i64 (n : Int)] W fun e w' => e = .returned (.int .i64 (growV y n)) ∧ Below W.heap.size W w') := fun W hW => growth_any Qy H y _ n W (by omega) (VIn.keep hW (VIn.keep hb1 hv)) (hT.mono ((hb1.trans (hW.mono hb1.size)).mono hT.1)).now
 rw [← hn] at hgb hlv hlen
 unfold PushPost
 rw [← hyk, ← hn]
 obtain ⟨gv, hgv⟩ : ∃ g, g = growV y n := ⟨_, rfl⟩
 rw [← hgv] at hgb CG ⊢
 have HW1 := Lib.hid hW1; have HB1 := Lib.hid hb1; have HX1 := Lib.hid hx1; have HROW := Lib.hid hrow; have HA := Lib.hid hA; have HV := Lib.hid hv; have HT := Lib.hid hT; have HN := Lib.hid hn; have HOB := Lib.hid hob; have HGB := Lib.hid hgb; have HLV := Lib.hid hlv; have HXX := Lib.hid hX
 clear hW1 hb1 hx1 hrow hA hv hT hn hob hyk hgv hX
 by_cases y0 : yk = 0
 ·subst y0
  refine (show Calls Tryd.prog 19 #[.pointer (some ⟨s, 0, none⟩), .agg #[.int .i64 0, .int .i64 yn, .string ys0, .slice ba bn bc, .slice fa fn fc, .slice la ln lc]] w (fun e w' => e = .returned (.int .i64 0) ∧ Below w.heap.size w w') from ?_).mono (fun e w' h => by show (if _ then _ else _); rw [if_pos rfl]; exact h)
  go_enter Tryd.func19, Tryd.ntmps19
  go_upto_region 1 with fail
  rw [← HW1.out]
  obtain ⟨b0, b1, b2, b3, b4, b5⟩ := HX1.out.cells
  go_wp2_with fail
  go_ret
  exact ⟨rfl, HB1.out⟩
 have ey0 : ((yk : Int) == 0) = false := by rw [beq_eq_false_iff_ne]; exact y0
 obtain ⟨PP, hPP⟩ : ∃ P, P = (fun (e : Ending) (w' : World) => if gv = 0 ∨ 65536 < 7 + wt + gv then e = .returned (.int .i64 3) ∧ Below w.heap.size w w' else e = .returned (.int .i64 0) ∧ Pushed w X s base H ys lv m rv wt y gv w') := ⟨_, rfl⟩
 refine (show Calls Tryd.prog 19 #[.pointer (some ⟨s, 0, none⟩), .agg #[.int .i64 yk, .int .i64 yn, .string ys0, .slice ba bn bc, .slice fa fn fc, .slice la ln lc]] w PP from ?_).mono (fun e w' h => by show (if _ then _ else _); rw [if_neg y0]; rw [hPP] at h; exact h)
 clear y0
 have HPP := Lib.hid hPP
 clear hPP
 go_enter Tryd.func19, Tryd.ntmps19
 go_upto_region 1 with fail
 rw [← HW1.out]
 obtain ⟨b0, b1, b2, b3, b4, b5⟩ := HX1.out.cells
 go_upto_region 3 with fail
 clear b0 b1 b2 b3 b4 b5
 refine wp_region_facts (fun V => { tmps := #[.pointer (some ⟨s, 0, none⟩), .agg #[.int .i64 yk, .int .i64 yn, .string ys0, .slice ba bn bc, .slice fa fn fc, .slice la ln lc], undef, .pointer (some ⟨w.heap.size, 0, none⟩), .int .i64 0, V 8, .pointer (some ⟨w.heap.size, 0, none⟩), .int .i64 yk, .bool false, V 0, V 1, V 2, V 3, V 4, V 5, V 6, V 7, undef, undef, undef, undef, undef, undef, undef, undef, undef, undef, undef, undef, undef, undef, undef, undef, undef, undef, undef, undef, undef, undef, undef, undef, undef, undef, undef, undef, undef, undef, undef, undef, undef, undef], defers := [] }) [Fact.is (.agg #[.int .i64 yk, .int .i64 yn, .string ys0, .slice ba bn bc, .slice fa fn fc, .slice la ln lc]), Fact.is (.pointer (some ⟨s, 0, none⟩)), Fact.is (.pointer (some ⟨s, 0, none⟩)), Fact.is (.pointer (some ⟨s, 1, none⟩)), Fact.is (.pointer (some ⟨s, 6, none⟩)), Fact.is (.slice lo_ n lc_), Fact.is (.int .i64 (n : Int)), Fact.is (.int .i64 gv), Fact.is (.int .i64 gv)] (by kernel_rfl) (by kernel_rfl) (by kernel_rfl) (fun V => by kernel_rfl) ?_ ?_
 ·refine ⟨?_, ?_⟩
  ·refine fact_free rfl (fun V w5 hB hF K hK => ?_)
   obtain ⟨b0, b1, b2, b3, b4, b5⟩ := (HX1.out.keep hB).cells
   go_simp
   exact put_is (by kernel_rfl) (hK.out (.agg #[.int .i64 yk, .int .i64 yn, .string ys0, .slice ba bn bc, .slice fa fn fc, .slice la ln lc]) w5 (Below.refl _ _) rfl)
  refine ⟨?_, ?_⟩
  ·refine fact_free rfl (fun V w5 hB hF K hK => ?_)
   go_simp
   exact put_is (by kernel_rfl) (hK.out (.pointer (some ⟨s, 0, none⟩)) w5 (Below.refl _ _) rfl)
  refine ⟨?_, ?_⟩
  ·refine fact_free rfl (fun V w5 hB hF K hK => ?_)
   have h1 : V 1 = .pointer (some ⟨s, 0, none⟩) := hF.out 1 (by kernel_rfl)
   go_simp
   exact put_is (by rw [h1]; kernel_rfl) (hK.out (.pointer (some ⟨s, 0, none⟩)) w5 (Below.refl _ _) rfl)
  refine ⟨?_, ?_⟩
  ·refine fact_free rfl (fun V w5 hB hF K hK => ?_)
   have h2 : V 2 = .pointer (some ⟨s, 0, none⟩) := hF.out 2 (by kernel_rfl)
   go_simp
   exact put_is (by rw [h2]; kernel_rfl) (hK.out (.pointer (some ⟨s, 1, none⟩)) w5 (Below.refl _ _) rfl)
  refine ⟨?_, ?_⟩
  ·refine fact_free rfl (fun V w5 hB hF K hK => ?_)
   have h3 : V 3 = .pointer (some ⟨s, 1, none⟩) := hF.out 3 (by kernel_rfl)
   go_simp
   exact put_is (by rw [h3]; kernel_rfl) (hK.out (.pointer (some ⟨s, 6, none⟩)) w5 (Below.refl _ _) rfl)
  refine ⟨?_, ?_⟩
  ·refine fact_free rfl (fun V w5 hB hF K hK => ?_)
   have h4 : V 4 = .pointer (some ⟨s, 6, none⟩) := hF.out 4 (by kernel_rfl)
   have c6 := (cell_of_row w5 _ 6 _ _ _ ((hB.block s (Nat.lt_of_lt_of_le hlt HB1.out.size)).trans ((HB1.out.block s hlt).trans HROW.out))).trans rfl
   rw [HLV.out] at c6
   go_simp
   exact put_is (by rw [h4]; kernel_rfl) (hK.out (.slice lo_ n lc_) w5 (Below.refl _ _) rfl)
  refine ⟨?_, ?_⟩
  ·refine fact_free rfl (fun V w5 hB hF K hK => ?_)
   have h5 : V 5 = .slice lo_ n lc_ := hF.out 5 (by kernel_rfl)
   go_simp
   exact put_is (by rw [h5]; kernel_rfl) (hK.out (.int .i64 (n : Int)) w5 (Below.refl _ _) rfl)
  refine ⟨?_, ?_⟩
  ·refine fact_free rfl (fun V w5 hB hF K hK => ?_)
   have h0 : V 0 = .agg #[.int .i64 yk, .int .i64 yn, .string ys0, .slice ba bn bc, .slice fa fn fc, .slice la ln lc] := hF.out 0 (by kernel_rfl)
   have h6 : V 6 = .int .i64 (n : Int) := hF.out 6 (by kernel_rfl)
   go_simp
   refine (CG.out w5 hB).mono ?_
   rintro e w6 ⟨rfl, hb6⟩
   exact put_is (by rw [h0, h6]; kernel_rfl) (hK.out (.int .i64 gv) w6 hb6 rfl)
  refine ⟨?_, ?_⟩
  ·refine fact_free rfl (fun V w5 hB hF K hK => ?_)
   have h7 : V 7 = .int .i64 gv := hF.out 7 (by kernel_rfl)
   go_simp
   exact put_is (by rw [h7]; kernel_rfl) (hK.out (.int .i64 gv) w5 (Below.refl _ _) rfl)
  trivial
 intro V3 w2 hB hF
 have h8 : V3 8 = .int .i64 gv := hF 8 (by decide)
 rw [h8]
 have HB2 : Hid (Below w.heap.size w w2) := HB1.out.trans (hB.mono HB1.out.size)
 have HX2 := Lib.hid (HX1.out.keep hB)
 clear hB hF h8 CG
 have hr2 := (HB2.out.block s hlt).trans HROW.out
 have c7 := (cell_of_row w2 _ 7 _ _ _ hr2).trans rfl
 obtain ⟨hg0, hg1⟩ := hgb
 have hq1 : IntKind.i64.wrap (7 + wt) = 7 + wt := IntWalk.i64_in _ (by omega)
 have hq2 : IntKind.i64.wrap (7 + wt + gv) = 7 + wt + gv := IntWalk.i64_in _ (by omega)
 have hq3 : IntKind.i64.wrap (wt + gv) = wt + gv := IntWalk.i64_in _ (by omega)
 have HR2 := Lib.hid hr2
 clear hr2
 by_cases hgz : gv = 0
 ·subst hgz
  go_wp2_with fail
  rw [HPP.out]
  show (if _ then _ else _)
  rw [if_pos (by simp)]
  exact ⟨rfl, HB2.out⟩
 have egz : ((gv : Int) == 0) = false := by rw [beq_eq_false_iff_ne]; exact hgz
 by_cases hbig : 65536 < 7 + wt + gv
 ·go_wp2_with fail
  rw [HPP.out]
  show (if _ then _ else _)
  rw [if_pos (.inr hbig)]
  exact ⟨rfl, HB2.out⟩
 have HPQ : Hid (PP = fun (e : Ending) (w' : World) => e = .returned (.int .i64 0) ∧ Pushed w X s base H ys lv m rv wt y gv w') := by rw [HPP.out]; funext e w'; rw [if_neg (fun h => h.elim hgz hbig)]
 clear HPP
 go_upto_region 6 with fail
 clear c7
 refine wp_region_inv0 (fun V => { tmps := #[Value.pointer (some ⟨s, 0, none⟩), Value.agg #[Value.int .i64 yk, Value.int .i64 yn, Value.string ys0, Value.slice ba bn bc, Value.slice fa fn fc, Value.slice la ln lc], undef, Value.pointer (some ⟨w.heap.size, 0, none⟩), Value.int .i64 0, Value.int .i64 gv, Value.pointer (some ⟨w.heap.size, 0, none⟩), Value.int .i64 yk, Value.bool false, V3 0, V3 1, V3 2, V3 3, V3 4, V3 5, V3 6, V3 7, Value.int .i64 gv, Value.bool false, Value.bool false, Value.pointer (some ⟨s, 0, none⟩), Value.pointer (some ⟨s, 0, none⟩), Value.pointer (some ⟨s, 7, none⟩), Value.int .i64 wt, Value.int .i64 (7 + wt), Value.int .i64 gv, Value.int .i64 (7 + wt + gv), Value.bool false, Value.bool false, V 0, V 1, V 2, V 3, V 4, V 5, V 6, V 7, V 8, V 9, V 10, V 12, V 13, V 14, undef, undef, undef, undef, undef, undef, undef, undef], defers := [] }) (PI w2 [.pointer (some ⟨s, 0, none⟩), .pointer (some ⟨s, 0, none⟩), .pointer (some ⟨s, 1, none⟩), .pointer (some ⟨s, 6, none⟩), lv, .agg #[.int .i64 yk, .int .i64 yn, .string ys0, .slice ba bn bc, .slice fa fn fc, .slice la ln lc], undef, .int .i64 (n : Int), undef] (H + 1) y base s n m (.int .i64 7) (.int .i64 0) (.string ⟨#[]⟩) (.slice none 0 0) (.slice none 0 0) lv (.int .i64 wt) rv xs) (by kernel_rfl) (by kernel_rfl) (by kernel_rfl) (fun V => by kernel_rfl) ?_ PI.start ?_
 ·refine ⟨?_, ?_⟩
  ·refine inv_free rfl (fun D9 V w5 hDi hpre hI K hK => ?_)
   have h1 := hI.one (by decide) hDi
   go_simp
   exact put_is (by kernel_rfl) (hK.out (.pointer (some ⟨s, 0, none⟩)) w5 (h1.pure (by decide) (by decide) (by decide) rfl))
  refine ⟨?_, ?_⟩
  ·refine inv_free rfl (fun D9 V w5 hDi hpre hI K hK => ?_)
   have h1 := hI.one (by decide) hDi
   have e0 : V 0 = .pointer (some ⟨s, 0, none⟩) := h1.known (by decide) (by decide) (by decide) (hpre.out 0 (by kernel_rfl))
   go_simp
   exact put_is (by rw [e0]; kernel_rfl) (hK.out (.pointer (some ⟨s, 0, none⟩)) w5 (h1.pure (by decide) (by decide) (by decide) rfl))
  refine ⟨?_, ?_⟩
  ·refine inv_free rfl (fun D9 V w5 hDi hpre hI K hK => ?_)
   have h1 := hI.one (by decide) hDi
   have e1 : V 1 = .pointer (some ⟨s, 0, none⟩) := h1.known (by decide) (by decide) (by decide) (hpre.out 1 (by kernel_rfl))
   go_simp
   exact put_is (by rw [e1]; kernel_rfl) (hK.out (.pointer (some ⟨s, 1, none⟩)) w5 (h1.pure (by decide) (by decide) (by decide) rfl))
  refine ⟨?_, ?_⟩
  ·refine inv_free rfl (fun D9 V w5 hDi hpre hI K hK => ?_)
   have h1 := hI.one (by decide) hDi
   have e2 : V 2 = .pointer (some ⟨s, 1, none⟩) := h1.known (by decide) (by decide) (by decide) (hpre.out 2 (by kernel_rfl))
   go_simp
   exact put_is (by rw [e2]; kernel_rfl) (hK.out (.pointer (some ⟨s, 6, none⟩)) w5 (h1.pure (by decide) (by decide) (by decide) rfl))
  refine ⟨?_, ?_⟩
  ·refine inv_free rfl (fun D9 V w5 hDi hpre hI K hK => ?_)
   have h1 := hI.one (by decide) hDi
   have e3 : V 3 = .pointer (some ⟨s, 6, none⟩) := h1.known (by decide) (by decide) (by decide) (hpre.out 3 (by kernel_rfl))
   have c6 := (cell_of_row w5 _ 6 _ _ _ ((h1.bel.block s (Nat.lt_of_lt_of_le hlt HB2.out.size)).trans HR2.out)).trans rfl
   rw [HLV.out] at c6
   go_simp
   exact put_is (by rw [e3, HLV.out]; kernel_rfl) (hK.out lv w5 (h1.pure (by decide) (by decide) (by decide) rfl))
  refine ⟨?_, ?_⟩
  ·refine inv_free rfl (fun D9 V w5 hDi hpre hI K hK => ?_)
   have h1 := hI.one (by decide) hDi
   obtain ⟨b0, b1, b2, b3, b4, b5⟩ := (HX2.out.keep h1.bel).cells
   go_simp
   exact put_is (by kernel_rfl) (hK.out (.agg #[.int .i64 yk, .int .i64 yn, .string ys0, .slice ba bn bc, .slice fa fn fc, .slice la ln lc]) w5 (h1.pure (by decide) (by decide) (by decide) rfl))
  refine ⟨?_, ?_⟩
  ·refine inv_free rfl (fun D9 V w5 hDi hpre hI K hK => ?_)
   have h1 := hI.one (by decide) hDi
   have e5 : V 5 = .agg #[.int .i64 yk, .int .i64 yn, .string ys0, .slice ba bn bc, .slice fa fn fc, .slice la ln lc] := h1.known (by decide) (by decide) (by decide) (hpre.out 5 (by kernel_rfl))
   go_simp
   refine (copy_any Qy (H + 1) y _ w5 (VIn.keep h1.bel (VIn.keep HB2.out HV.out))).mono ?_
   rintro e w6 ⟨v6, rfl, hv6, hb6⟩
   exact put_is (by rw [e5]; kernel_rfl) (hK.out v6 w6 (.inl (h1.more (by decide) hb6 (fun e => absurd rfl e) (fun _ => hv6.kept (Kept.of_below (Below.refl _ _)) (fun g hg => Nat.le_trans h1.bel.size hg)) (fun e => absurd e (by decide)))))
  refine ⟨?_, ?_⟩
  ·refine inv_free rfl (fun D9 V w5 hDi hpre hI K hK => ?_)
   have h1 := hI.one (by decide) hDi
   have e4 : V 4 = lv := h1.known (by decide) (by decide) (by decide) (hpre.out 4 (by kernel_rfl))
   have e4b : V 4 = .slice lo_ n lc_ := e4.trans HLV.out
   go_simp
   exact put_is (by rw [e4b]; kernel_rfl) (hK.out (.int .i64 (n : Int)) w5 (h1.pure (by decide) (by decide) (by decide) rfl))
  refine ⟨?_, ?_⟩
  ·refine inv_free rfl (fun D9 V w5 hDi hpre hI K hK => ?_)
   have h1 := hI.one (by decide) hDi
   go_simp
   exact put_is (by kernel_rfl) (hK.out (.slice (some ⟨w5.heap.size, 0, none⟩) 1 1) _ (.inl (h1.more (by decide) ((Below.refl _ w5).alloc (Nat.le_refl _) _) (fun _ e => absurd rfl e) (fun e => absurd e (by decide)) (fun _ => ⟨w5.heap.size, rfl, heap_alloc_new w5 _⟩))))
  refine ⟨?_, ?_⟩
  ·refine inv_free rfl (fun D9 V w5 hDi hpre hI K hK => ?_)
   have h1 := hI.one (by decide) hDi
   have hall : ∀ i, i < 9 → D9 i = true := fun i hi => by
    match i, hi with
    | 0, _ => exact hpre.out 0 (by kernel_rfl)
    | 1, _ => exact hpre.out 1 (by kernel_rfl)
    | 2, _ => exact hpre.out 2 (by kernel_rfl)
    | 3, _ => exact hpre.out 3 (by kernel_rfl)
    | 4, _ => exact hpre.out 4 (by kernel_rfl)
    | 5, _ => exact hpre.out 5 (by kernel_rfl)
    | 6, _ => exact hpre.out 6 (by kernel_rfl)
    | 7, _ => exact hpre.out 7 (by kernel_rfl)
    | 8, _ => exact hpre.out 8 (by kernel_rfl)
   have e4 : V 4 = lv := h1.known (by decide) (by decide) (by decide) (hpre.out 4 (by kernel_rfl))
   obtain ⟨z, e8, hz⟩ := h1.b8 (hpre.out 8 (by kernel_rfl))
   refine aoper_append (.tmp 33) (.tmp 37) 30 rfl base 32 i0 (.agg #[.int .i64 0, .int .i64 0, .string ⟨#[]⟩, .slice none 0 0, .slice none 0 0, .slice none 0 0]) 6 104 Tryd.underlying30 hi0 hz0 hz1 hz2 rfl lv n xs e4 (owns_below (by have hh := owns_below HA.out.own HB2.out; rw [← HN.out] at hh; exact hh) h1.bel) ⟨z, 0, none⟩ 1 1 [.int .i64 0, .int .i64 0, .string ⟨#[]⟩, .slice none 0 0, .slice none 0 0, .slice none 0 0] e8 rfl (by decide) (by decide) (fun j u hu => by rw [Addr.add_mid, Nat.zero_add, cell_of_row _ _ j _ _ _ hz]; unfold zero6; simpa using hu) (by intro u hu; simp only [List.mem_cons, List.not_mem_nil, or_false] at hu; rcases hu with rfl | rfl | rfl | rfl | rfl | rfl <;> rfl) (by unfold maxLen; omega) (by omega) (by have := h1.bel.size; have := HB2.out.size; omega) ?_
   intro v9 w6 hown hw6
   exact hK.out v9 w6 (h1.append hall rfl rfl ((hw6.1.block s (by have := h1.bel.size; have := HB2.out.size; omega) (fun e => by have := (HOB.out s e.symm).1; omega)).trans ((h1.bel.block s (Nat.lt_of_lt_of_le hlt HB2.out.size)).trans HR2.out)) (Nat.lt_of_lt_of_le hlt HB2.out.size) hsb (by have := HA.out.own.1; rw [HN.out]; exact this) hown hw6 (fun g hg => Nat.lt_of_lt_of_le (HOB.out g hg).2 HB2.out.size))
  refine ⟨?_, ?_⟩
  ·refine inv_free rfl (fun D9 V w5 hDi hpre hI K hK => ?_)
   obtain ⟨w9, v9, g9, cap, cur, c0, c1, c2, c3, c4, c5, h2, hr9, hw9, hv9, hne9, h99⟩ := hI.two (hpre.out 9 (by kernel_rfl))
   have e9 : V 9 = .slice (some ⟨g9, 0, none⟩) (n + 1) cap := h2.e9.trans hr9.ev
   have e7 := h2.v7
   have q0 : (n : Int) < ((n + 1 : Nat) : Int) := by omega
   have q1 : (n : Int) < (n : Int) + 1 := by omega
   go_simp
   exact put_is (by rw [e9, e7]; kernel_rfl) (hK.out (.pointer (some ⟨g9, n * 6, none⟩)) w5 (.inr ⟨w9, v9, g9, cap, cur, c0, c1, c2, c3, c4, c5, h2.pure (.inl rfl) (fun _ => rfl) (fun e => absurd e (by decide)) (fun e => absurd e (by decide)) (fun e => absurd e (by decide)), hr9, hw9, hv9, hne9, by rw [setD_ne (by decide)]; exact h99⟩))
  refine ⟨?_, ?_⟩
  ·refine inv_free rfl (fun D9 V w5 hDi hpre hI K hK => ?_)
   obtain ⟨w9, v9, g9, cap, cur, c0, c1, c2, c3, c4, c5, h2, hr9, hw9, hv9, hne9, h99⟩ := hI.two (hpre.out 9 (by kernel_rfl))
   have e10 := h2.v10 (hpre.out 10 (by kernel_rfl))
   have e6 := h2.v6
   have hro := h2.r0 hDi
   obtain ⟨sk, sn, ss, t1, t2, t3, t4, t5, t6, t7, t8, t9, rfl, rfl, rfl, rfl, rfl, rfl⟩ := six_of hv9
   have hsz : n * 6 + 6 ≤ cur.size := by rw [hr9.hsize]; have := hr9.hcap; omega
   obtain ⟨u0, hu0⟩ : ∃ u, w5.cell? ⟨g9, n * 6, none⟩ = some u := ⟨cur[n * 6 + 0], (cell_of_row w5 _ _ _ _ _ hro).trans (Array.getElem?_eq_getElem (show n * 6 + 0 < cur.size by omega))⟩
   obtain ⟨u1, hu1⟩ : ∃ u, w5.cell? ⟨g9, n * 6 + 1, none⟩ = some u := ⟨cur[n * 6 + 1], (cell_of_row w5 _ _ _ _ _ hro).trans (Array.getElem?_eq_getElem (show n * 6 + 1 < cur.size by omega))⟩
   obtain ⟨u2, hu2⟩ : ∃ u, w5.cell? ⟨g9, n * 6 + 2, none⟩ = some u := ⟨cur[n * 6 + 2], (cell_of_row w5 _ _ _ _ _ hro).trans (Array.getElem?_eq_getElem (show n * 6 + 2 < cur.size by omega))⟩
   obtain ⟨u3, hu3⟩ : ∃ u, w5.cell? ⟨g9, n * 6 + 3, none⟩ = some u := ⟨cur[n * 6 + 3], (cell_of_row w5 _ _ _ _ _ hro).trans (Array.getElem?_eq_getElem (show n * 6 + 3 < cur.size by omega))⟩
   obtain ⟨u4, hu4⟩ : ∃ u, w5.cell? ⟨g9, n * 6 + 4, none⟩ = some u := ⟨cur[n * 6 + 4], (cell_of_row w5 _ _ _ _ _ hro).trans (Array.getElem?_eq_getElem (show n * 6 + 4 < cur.size by omega))⟩
   obtain ⟨u5, hu5⟩ : ∃ u, w5.cell? ⟨g9, n * 6 + 5, none⟩ = some u := ⟨cur[n * 6 + 5], (cell_of_row w5 _ _ _ _ _ hro).trans (Array.getElem?_eq_getElem (show n * 6 + 5 < cur.size by omega))⟩
   have z0 := frozen_of_row w5 g9 (n * 6) _ _ hro
   have z1 := frozen_of_row w5 g9 (n * 6 + 1) _ _ hro
   have z2 := frozen_of_row w5 g9 (n * 6 + 2) _ _ hro
   have z3 := frozen_of_row w5 g9 (n * 6 + 3) _ _ hro
   have z4 := frozen_of_row w5 g9 (n * 6 + 4) _ _ hro
   have z5 := frozen_of_row w5 g9 (n * 6 + 5) _ _ hro
   go_simp
   exact put_is (by rw [e10, e6]; kernel_rfl) (hK.out undef _ (.inr ⟨w9, v9, g9, cap, cur, _, _, _, _, _, _, h2.store hDi hne9 hsz undef, hr9, hw9, hv9, hne9, by rw [setD_ne (by decide)]; exact h99⟩))
  refine ⟨?_, ?_⟩
  ·refine inv_free rfl (fun D9 V w5 hDi hpre hI K hK => ?_)
   obtain ⟨w9, v9, g9, cap, cur, c0, c1, c2, c3, c4, c5, h2, hr9, hw9, hv9, hne9, h99⟩ := hI.two (hpre.out 9 (by kernel_rfl))
   have ed := h2.v0
   go_simp
   exact put_is (by rw [ed]; kernel_rfl) (hK.out (.pointer (some ⟨s, 0, none⟩)) w5 (.inr ⟨w9, v9, g9, cap, cur, c0, c1, c2, c3, c4, c5, h2.pure (.inr (.inl rfl)) (fun e => absurd e (by decide)) (fun _ => rfl) (fun e => absurd e (by decide)) (fun e => absurd e (by decide)), hr9, hw9, hv9, hne9, by rw [setD_ne (by decide)]; exact h99⟩))
  refine ⟨?_, ?_⟩
  ·refine inv_free rfl (fun D9 V w5 hDi hpre hI K hK => ?_)
   obtain ⟨w9, v9, g9, cap, cur, c0, c1, c2, c3, c4, c5, h2, hr9, hw9, hv9, hne9, h99⟩ := hI.two (hpre.out 9 (by kernel_rfl))
   have ed := h2.v12 (hpre.out 12 (by kernel_rfl))
   go_simp
   exact put_is (by rw [ed]; kernel_rfl) (hK.out (.pointer (some ⟨s, 1, none⟩)) w5 (.inr ⟨w9, v9, g9, cap, cur, c0, c1, c2, c3, c4, c5, h2.pure (.inr (.inr (.inl rfl))) (fun e => absurd e (by decide)) (fun e => absurd e (by decide)) (fun _ => rfl) (fun e => absurd e (by decide)), hr9, hw9, hv9, hne9, by rw [setD_ne (by decide)]; exact h99⟩))
  refine ⟨?_, ?_⟩
  ·refine inv_free rfl (fun D9 V w5 hDi hpre hI K hK => ?_)
   obtain ⟨w9, v9, g9, cap, cur, c0, c1, c2, c3, c4, c5, h2, hr9, hw9, hv9, hne9, h99⟩ := hI.two (hpre.out 9 (by kernel_rfl))
   have ed := h2.v13 (hpre.out 13 (by kernel_rfl))
   go_simp
   exact put_is (by rw [ed]; kernel_rfl) (hK.out (.pointer (some ⟨s, 6, none⟩)) w5 (.inr ⟨w9, v9, g9, cap, cur, c0, c1, c2, c3, c4, c5, h2.pure (.inr (.inr (.inr rfl))) (fun e => absurd e (by decide)) (fun e => absurd e (by decide)) (fun e => absurd e (by decide)) (fun _ => rfl), hr9, hw9, hv9, hne9, by rw [setD_ne (by decide)]; exact h99⟩))
  refine ⟨?_, ?_⟩
  ·refine inv_free rfl (fun D9 V w5 hDi hpre hI K hK => ?_)
   obtain ⟨w9, v9, g9, cap, cur, c0, c1, c2, c3, c4, c5, h2, hr9, hw9, hv9, hne9, h99⟩ := hI.two (hpre.out 9 (by kernel_rfl))
   have ed := h2.v14 (hpre.out 14 (by kernel_rfl))
   have e9 : V 9 = .slice (some ⟨g9, 0, none⟩) (n + 1) cap := h2.e9.trans hr9.ev
   have hs0 := h2.s0 hDi
   have c6 := (cell_of_row w5 _ 6 _ _ _ hs0).trans rfl
   have z6 := frozen_of_row w5 _ 6 _ _ hs0
   have hput := h2.put hDi hne9 undef
   rw [hr9.ev] at hput
   go_simp
   exact put_is (by rw [ed, e9]; kernel_rfl) (hK.out undef _ (.inr ⟨w9, _, g9, cap, cur, c0, c1, c2, c3, c4, c5, hput, by rw [← hr9.ev]; exact hr9, by rw [← hr9.ev]; exact hw9, hv9, hne9, by rw [setD_ne (by decide)]; exact h99⟩))
  trivial
 intro D9 V w9 hD9 hI9
 obtain ⟨lv9, c0, c1, c2, c3, c4, c5, hS, hown, hv9, hlie, hrm, hsl⟩ := hI9.end hD9 (Nat.lt_of_lt_of_le hlt HB2.out.size)
 have c7 := (cell_of_row w9 _ 7 _ _ _ hS).trans rfl
 have z7 := frozen_of_row w9 _ 7 _ _ hS
 have HS9 := Lib.hid hS; have HO9 := Lib.hid hown; have HV9 := Lib.hid hv9; have HL9 := Lib.hid hlie; have HRM := Lib.hid hrm
 clear hS hown hv9 hlie hrm hI9 hD9
 go_wp2_with fail
 rw [HPQ.out]
 have hrw : RM (fun g => g = s ∨ lv.ownBlock = some g) w (puts w9 s 7 [.int .i64 (wt + gv)]) := RM.puts ((RM.of_below HB2.out).trans HRM.out (fun _ _ h => h)) (.inl rfl) 7 _
 have hle : w.heap.size ≤ w2.heap.size := HB2.out.size
 have hxl := HA.out.own.1
 refine ⟨rfl, lv9, xs ++ [c0, c1, c2, c3, c4, c5], (heap_setCell_same w9 s 7 _ _ _ HS9.out).trans rfl, ⟨?_, fun i hi => ?_⟩, hrw, ?_⟩
 ·rw [List.length_append, List.length_singleton, ← HN.out]
  exact owns_same HO9.out (fun g hg => puts_other s g (fun e => by have := (owns_block HO9.out hg).1; omega) [.int .i64 (wt + gv)] w9 7)
 ·rw [List.length_append, List.length_singleton] at hi
  rcases Nat.lt_or_ge i ys.length with hl | hge
  ·obtain ⟨d0, d1, d2, d3, d4, d5, h0, h1, h2, h3, h4, h5, hd⟩ := HA.out.at' i hl
   have e : ∀ j, j < 6 → (xs ++ [c0, c1, c2, c3, c4, c5])[i * 6 + j]? = xs[i * 6 + j]? := fun j hj => List.getElem?_append_left (by omega)
   refine ⟨d0, d1, d2, d3, d4, d5, (e 0 (by omega)).trans h0, (e 1 (by omega)).trans h1, (e 2 (by omega)).trans h2, (e 3 (by omega)).trans h3, (e 4 (by omega)).trans h4, (e 5 (by omega)).trans h5, ?_⟩
   rw [List.getElem_append_left hl]
   refine hd.lt.kept (fun g hg hl2 => hrw.block g hl2 (fun e2 => e2.elim (fun e3 => hg.1.1.1 e3) (fun e3 => hg.1.2 e3))) (fun g hg => ⟨hg.1.1, fun e2 => ?_⟩)
   rcases HL9.out with e3 | ⟨g3, e3, h3⟩
   ·exact hg.1.2 (e3 ▸ e2)
   ·rw [e2] at e3; have := Option.some.inj e3; have := hg.2; omega
  ·obtain rfl : i = ys.length := by omega
   have e : ∀ j, (xs ++ [c0, c1, c2, c3, c4, c5])[ys.length * 6 + j]? = [c0, c1, c2, c3, c4, c5][j]? := fun j => by
    rw [List.getElem?_append_right (by omega)]; congr 1; omega
   refine ⟨c0, c1, c2, c3, c4, c5, e 0, e 1, e 2, e 3, e 4, e 5, ?_⟩
   rw [List.getElem_append_right (Nat.le_refl _)]
   simp only [Nat.sub_self, List.getElem_cons_zero]
   exact HV9.out.kept (fun g hg _ => puts_other s g hg.2.2 [.int .i64 (wt + gv)] w9 7) (fun g hg => ⟨⟨hg.2.2, HXX.out g (by have := hg.1; omega)⟩, hg.2.1⟩)
 ·rcases HL9.out with e | ⟨g, e, h⟩
  ·exact .inl e
  ·exact .inr ⟨g, e, by omega⟩
end Acc
end Go.Proofs.YtngllchoiffniaaDoor
end
