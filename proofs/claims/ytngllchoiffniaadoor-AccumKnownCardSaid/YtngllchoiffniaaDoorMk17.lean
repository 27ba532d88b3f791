/- BsonSize, AccumKeep. -/
import Derived.Test.YtngllchoiffniaaDoorMk16
import Derived.Test.YtngllchoiffniaaDoorMk12
import Derived.Test.YtngllchoiffniaaDoorMk3
import Derived.Test.YtngllchoiffniaaDoorMk10
import Derived.Test.YtngllchoiffniaaDoorMk0
set_option maxRecDepth 100000
set_option maxHeartbeats 20000000
section
namespace Go.Proofs.YtngllchoiffniaaDoor
open Go.RowKit
open Seal
open Bson (Val)
theorem hold_any (Q : Nat → Prop) (h : Nat) : HoldAns Q h := fun w gn a n c f s hn hm hnc hc2 hs hF hd hN => by
 by_cases h16 : n ≤ 16
 ·exact hold_few Q h w gn a n c f s hn h16 hF hN
 ·exact hold_many Q h w gn a n c f s hn (by omega) hm hnc hc2 hs hF hd hN
theorem VIn.parts {w : World} {Q : Nat → Prop} {h : Nat} {x : Val} {ba fa la : Option Addr} {bc fc lc : Nat} (hv : VIn w Q (h + 1) x (agg x ba fa la bc fc lc)) :
  Lim x ∧ (x.b.length ≤ bc ∧ bc ≤ 9223372036854775807) ∧ (x.f.length ≤ fc ∧ fc ≤ 9223372036854775807) ∧ (x.l.length ≤ lc ∧ lc ≤ 9223372036854775807) ∧ BytesIn w Q ba x.b ∧ FieldsIn w Q (VIn w Q h) fa x.f ∧ ItemsIn w Q (VIn w Q h) la x.l := by
 obtain ⟨ba', fa', la', bc', fc', lc', e, h1⟩ := hv
 unfold agg at e
 injection e with e
 simp only [Array.mk.injEq, List.cons.injEq, and_true, Value.slice.injEq] at e
 obtain ⟨-, -, -, ⟨rfl, -, rfl⟩, ⟨rfl, -, rfl⟩, ⟨rfl, -, rfl⟩⟩ := e
 exact h1
theorem mvalue_all : ∀ (d : Nat) (gm : Nat) (depth : Int), depth + d = 33 → 1 ≤ depth → ∀ (Q : Nat → Prop) (h : Nat) (x : Val) (v : Value) (w : World) (left : Int), VIn w Q h x v → Mtr w gm left → 0 ≤ left → left ≤ 65536 → Tabs w →
  Calls Tryd.prog 50 #[.pointer (some ⟨gm, 0, none⟩), v, .int .i64 depth] w (MPost gm left (Bson.enc d x) w)
 | d, gm, depth, hd, h1, Q, 0, x, v, w, left, hv, hM, hl0, hl, hT => hv.elim
 | 0, gm, depth, hd, h1, Q, h + 1, x, v, w, left, hv, hM, hl0, hl, hT => by
  obtain ⟨ba, fa, la, bc, fc, lc, rfl, -⟩ := id hv
  by_cases h6 : x.kind = 6
  ·have h2 := mdoc_any Q (h + 1) x w gm left depth ba fa la bc fc lc none (by omega) (by omega) h6 (fun _ _ _ _ _ _ _ hdd => absurd hdd (by omega)) hv hM hl0 hl hT
   rw [if_neg (by omega)] at h2
   rw [enc_none x (.inl h6)]; exact h2
  ·by_cases h7 : x.kind = 7
   ·have h2 := mlist_any Q (h + 1) x w gm left depth ba fa la bc fc lc none (by omega) (by omega) h7 (fun _ _ _ _ _ _ _ hdd => absurd hdd (by omega)) hv hM hl0 hl hT
    rw [if_neg (by omega)] at h2
    rw [enc_none x (.inr h7)]; exact h2
   ·rw [Bson.enc_other 0 x h6 h7]
    exact mscalar_any Q (h + 1) x _ w gm left depth hv hM hl0 hl hT.t8 h6 h7
 | d + 1, gm, depth, hd, h1, Q, h + 1, x, v, w, left, hv, hM, hl0, hl, hT => by
  obtain ⟨ba, fa, la, bc, fc, lc, rfl, -⟩ := id hv
  have IH := fun x v w left a b c e f => mvalue_all d gm (depth + 1) (by omega) (by omega) Q h x v w left a b c e f
  by_cases h6 : x.kind = 6
  ·have h2 := mdoc_any Q (h + 1) x w gm left depth ba fa la bc fc lc (rowB d x.f) (by omega) (by omega) h6 (fun w2 left2 hv2 hM2 a b hT2 _ => by
    obtain ⟨hL, -, ⟨k1, k2⟩, -, -, hF, -⟩ := VIn.parts hv2
    exact mfields_any Q h d gm depth (by omega) (by omega) (hold_any Q h) IH w2 left2 fa x.f.length fc x.f rfl (by have := hL.f; omega) k1 k2 hF hM2 a b hT2) hv hM hl0 hl hT
   rw [if_pos (by omega), ← enc_doc_row d x h6] at h2
   exact h2
  ·by_cases h7 : x.kind = 7
   ·have h2 := mlist_any Q (h + 1) x w gm left depth ba fa la bc fc lc (Bson.row (Bson.enc d) (Bson.named x.l)) (by omega) (by omega) h7 (fun w2 left2 hv2 hM2 a b hT2 _ => by
     obtain ⟨hL, -, -, ⟨k1, k2⟩, -, -, hI⟩ := VIn.parts hv2
     exact mitems_any Q h d gm depth (by omega) (by omega) IH w2 left2 la x.l.length lc x.l rfl (by have := hL.l; omega) hI hM2 a b hT2) hv hM hl0 hl hT
    rw [if_pos (by omega), ← enc_list_row d x h7] at h2
    exact h2
   ·rw [Bson.enc_other (d + 1) x h6 h7]
    exact mscalar_any Q (h + 1) x _ w gm left depth hv hM hl0 hl hT.t8 h6 h7
theorem Tabs.below {w w' : World} (h : Tabs w) (hb : Below w.heap.size w w') : Tabs w' := by
 refine ⟨h.t8.keep hb, ?_⟩
 have h1 := h.p10
 unfold Lib.TabIs World.var? at *
 cases hgn : Tryd.prog.globalNamed "internal/strconv.uint64pow10" with
 | none => rw [hgn] at h1; cases h1
 | some g =>
  rw [hgn] at h1
  simp only [Option.bind_some] at h1 ⊢
  have hlt : g < w.heap.size := by
   refine Nat.lt_of_not_le fun hge => ?_
   rw [Array.getElem?_eq_none hge] at h1; cases h1
  rw [hb.block g hlt]
  exact h1
theorem below_grown {w w1 w' : World} {gm : Nat} (hg : w1.grownBy w' (some gm)) (hs : w.heap.size ≤ w1.heap.size) (h : w.heap.size ≤ gm) : Below w.heap.size w1 w' :=
 ⟨hg.os, hg.tape, hg.output, hg.size, fun j hj => hg.block j (by omega) (fun e => by have := Option.some.inj e; omega)⟩
def docB (x : Val) : Option (List Nat) := if x.kind = 6 then (match Bson.enc 32 x with | some l => if l.length ≤ 65536 then some l else none | none => none) else none
def sizeB (x : Val) : Nat := match docB x with | some l => l.length | none => 0
theorem size_any (Q : Nat → Prop) (h : Nat) (x : Val) (v : Value) (w : World) (hv : VIn w Q h x v) (hT : Tabs w) :
  Calls Tryd.prog 42 #[v] w fun e w' => e = .returned (.int .i64 (sizeB x)) ∧ Below w.heap.size w w' := by
 cases h with
 | zero => exact hv.elim
 | succ h =>
 obtain ⟨ba, fa, la, bc, fc, lc, rfl, -⟩ := id hv
 have HV := Lib.hid hv
 have HT := Lib.hid hT
 clear hv hT
 unfold agg
 obtain ⟨kd, hkd⟩ : ∃ k, k = x.kind := ⟨_, rfl⟩
 have HK := Lib.hid hkd
 rw [← hkd]
 clear hkd
 by_cases h6 : kd = 6
 ·subst h6
  go_enter Tryd.func42, Tryd.ntmps42
  have HB2 : Hid (Below w.heap.size w ((w.alloc (.cells #[.int .i64 6, .int .i64 x.n, .string x.s, .slice ba x.b.length bc, .slice fa x.f.length fc, .slice la x.l.length lc] 32)).alloc (.cells #[.int .i64 65536] 73))) := ((Below.refl _ w).alloc (Nat.le_refl _) _).alloc (by simp) _
  have HM2 : Hid (Mtr ((w.alloc (.cells #[.int .i64 6, .int .i64 x.n, .string x.s, .slice ba x.b.length bc, .slice fa x.f.length fc, .slice la x.l.length lc] 32)).alloc (.cells #[.int .i64 65536] 73)) (w.heap.size + 1) 65536) := by
   have h1 := heap_alloc_new (w.alloc (.cells #[.int .i64 6, .int .i64 x.n, .string x.s, .slice ba x.b.length bc, .slice fa x.f.length fc, .slice la x.l.length lc] 32)) (.cells #[.int .i64 65536] 73 (0, 0))
   rw [show (w.alloc (.cells #[.int .i64 6, .int .i64 x.n, .string x.s, .slice ba x.b.length bc, .slice fa x.f.length fc, .slice la x.l.length lc] 32)).heap.size = w.heap.size + 1 by simp] at h1
   exact h1
  have CV := Lib.hid (mvalue_all 32 (w.heap.size + 1) 1 rfl (by omega) Q (h + 1) x _ ((w.alloc (.cells #[.int .i64 6, .int .i64 x.n, .string x.s, .slice ba x.b.length bc, .slice fa x.f.length fc, .slice la x.l.length lc] 32)).alloc (.cells #[.int .i64 65536] 73)) 65536 (VIn.keep HB2.out HV.out) HM2.out (by omega) (by omega) (HT.out.below HB2.out))
  unfold agg at CV
  rw [← HK.out] at CV
  go_wp2_with fail
  refine CV.out.mono ?_
  rintro e w' ⟨b, rfl, hg, hy, hn⟩
  have HB3 : Hid (Below w.heap.size w w') := HB2.out.trans (below_grown hg HB2.out.size (by omega))
  cases b with
  | false =>
   have HS : Hid (sizeB x = 0) := by
    unfold sizeB docB
    rw [if_pos HK.out.symm]
    cases he : Bson.enc 32 x with
    | none => rfl
    | some l =>
     by_cases hl : l.length ≤ 65536
     ·exact absurd ⟨l, he, by omega⟩ (hn rfl)
     ·show (match (if l.length ≤ 65536 then some l else none) with | some l => l.length | none => 0) = 0
      rw [if_neg hl]
   clear hg hy hn
   go_wp2_with fail
   go_ret
   exact ⟨ret_eq (by rw [HS.out]; rfl), HB3.out⟩
  | true =>
   obtain ⟨l, he, hl, hM3⟩ := hy rfl
   have HS : Hid (sizeB x = l.length) := by
    unfold sizeB docB
    rw [if_pos HK.out.symm, he]
    show (match (if l.length ≤ 65536 then some l else none) with | some l => l.length | none => 0) = _
    rw [if_pos (by omega)]
   have c0 := hM3.c0
   have hw : IntKind.i64.wrap (65536 - (65536 - (l.length : Int))) = (l.length : Int) := by rw [show (65536 : Int) - (65536 - (l.length : Int)) = l.length by omega]; exact IntWalk.i64_in _ (by omega)
   clear hg hy hn he
   go_wp2_with fail
   go_ret
   exact ⟨ret_eq (by rw [HS.out]; simp), HB3.out⟩
 ·have h6b : (kd != 6) = true := by rw [bne_iff_ne]; exact h6
  go_enter Tryd.func42, Tryd.ntmps42
  go_wp2_with fail
  go_ret
  have hs : sizeB x = 0 := by
   unfold sizeB docB
   rw [if_neg (by rw [← HK.out]; exact h6)]
  exact ⟨ret_eq (by rw [hs]; rfl), ((Below.refl _ w).alloc (Nat.le_refl _) _).alloc (by simp) _⟩
namespace Acc
def one (x : Val) : Val := .mk 6 0 ⟨#[]⟩ [] [(⟨#[]⟩, x)] []
def wOf (x : Val) : Int := max ((sizeB (one x) : Int) - 7) 0
def TabsAt (B : Nat) (w : World) : Prop := B ≤ w.heap.size ∧ ∀ w', Below B w w' → Tabs w'
theorem TabsAt.mono {B : Nat} {w w' : World} (h : TabsAt B w) (hb : Below B w w') : TabsAt B w' := ⟨Nat.le_trans h.1 hb.size, fun w2 h2 => h.2 w2 (hb.trans h2)⟩
theorem TabsAt.now {B : Nat} {w : World} (h : TabsAt B w) : Tabs w := h.2 w (Below.refl _ _)
theorem TabsAt.of {w : World} (h : Tabs w) : TabsAt w.heap.size w := ⟨Nat.le_refl _, fun _ hb => h.below hb⟩
theorem VIn.all {w : World} {Q : Nat → Prop} {h : Nat} {x : Val} {v : Value} (hv : VIn w Q h x v) : VIn w (fun _ => True) h x v := hv.kept (Kept.of_below (Below.refl _ _)) (fun _ _ => trivial)
theorem sizeOfOne_any (Q : Nat → Prop) (H : Nat) (x : Val) (v : Value) (w : World) (hv : VIn w Q (H + 1) x v) (hT : Tabs w) :
  Calls Tryd.prog 29 #[v] w fun e w' => e = .returned (.int .i64 (sizeB (one x))) ∧ Below w.heap.size w w' := by
 obtain ⟨xk, xn, xs, ba, fa, la, bn, bc, fn, fc, ln, lc, rfl, -⟩ := hv.letters
 obtain ⟨W1, hW1⟩ : ∃ W, W = w.alloc (.cells #[.int .i64 xk, .int .i64 xn, .string xs, .slice ba bn bc, .slice fa fn fc, .slice la ln lc] 32) := ⟨_, rfl⟩
 obtain ⟨W2, hW2⟩ : ∃ W, W = W1.alloc (.cells #[.string ⟨#[]⟩, .int .i64 xk, .int .i64 xn, .string xs, .slice ba bn bc, .slice fa fn fc, .slice la ln lc] 59) := ⟨_, rfl⟩
 have hb1 : Below w.heap.size w W1 := by rw [hW1]; exact (Below.refl _ _).alloc (Nat.le_refl _) _
 have hb2 : Below w.heap.size w W2 := by rw [hW2]; exact hb1.alloc hb1.size _
 have hp : W1.heap.size = w.heap.size + 1 := by rw [hW1]; simp
 have hr2 : W2.heap[w.heap.size + 1]? = some (.cells #[.string ⟨#[]⟩, .int .i64 xk, .int .i64 xn, .string xs, .slice ba bn bc, .slice fa fn fc, .slice la ln lc] 59 (0, 0)) := by rw [hW2, ← hp]; exact heap_alloc_new W1 _
 have hd := doc_in (Q := fun _ => True) hr2 trivial (by decide : (⟨#[]⟩ : ByteArray).size ≤ 140737488355328) (VIn.all (hv.keep hb2))
 have CS := Lib.hid (size_any _ _ _ _ W2 hd (hT.below hb2))
 have HW1 := Lib.hid hW1; have HW2 := Lib.hid hW2; have HB2 := Lib.hid hb2
 clear hW1 hW2 hb1 hb2 hp hr2 hd hv hT
 go_enter Tryd.func29, Tryd.ntmps29
 go_wp2_with fail
 rw [← HW1.out, ← HW2.out]
 refine CS.out.mono ?_
 rintro e w' ⟨rfl, hb⟩
 have HB3 := Lib.hid (HB2.out.trans (hb.mono HB2.out.size))
 clear hb
 go_wp2_with fail
 go_ret
 exact ⟨rfl, HB3.out⟩
def Cells (w : World) (s : Nat) (m v : Value) (wt : Int) (rv : Value) : Prop := ∃ c0 c1 c2 c3 c4 c5, v = .agg #[c0, c1, c2, c3, c4, c5] ∧ w.heap[s]? = some (.cells #[m, c0, c1, c2, c3, c4, c5, .int .i64 wt, rv] 41 (0, 0))
theorem Cells.lt {w : World} {s : Nat} {m v rv : Value} {wt : Int} (h : Cells w s m v wt rv) : s < w.heap.size := by
 obtain ⟨_, _, _, _, _, _, _, h⟩ := h
 exact (Array.getElem?_eq_some_iff.1 h).1
theorem Cells.keep {w w' : World} {s : Nat} {m v rv : Value} {wt : Int} (h : Cells w s m v wt rv) (hk : w'.heap[s]? = w.heap[s]?) : Cells w' s m v wt rv := by
 obtain ⟨c0, c1, c2, c3, c4, c5, e, h⟩ := h
 exact ⟨c0, c1, c2, c3, c4, c5, e, hk.trans h⟩
theorem size_le (x : Val) : sizeB x ≤ 65536 := by
 unfold sizeB docB
 by_cases h : x.kind = 6
 ·rw [if_pos h]
  cases Bson.enc 32 x with
  | none => exact Nat.zero_le _
  | some l =>
   by_cases h2 : l.length ≤ 65536
   ·simp only [if_pos h2]; exact h2
   ·simp only [if_neg h2]; omega
 ·rw [if_neg h]; exact Nat.zero_le _
theorem six_row {w : World} {s : Nat} {t : TypeId} {m u0 u1 u2 u3 u4 u5 a b : Value} (h : w.heap[s]? = some (.cells #[m, u0, u1, u2, u3, u4, u5, a, b] t (0, 0))) (v0 v1 v2 v3 v4 v5 : Value) :
  (puts w s 1 [v0, v1, v2, v3, v4, v5]).heap[s]? = some (.cells #[m, v0, v1, v2, v3, v4, v5, a, b] t (0, 0)) :=
 (heap_setCell_same _ s 6 _ t v5 (heap_setCell_same _ s 5 _ t v4 (heap_setCell_same _ s 4 _ t v3 (heap_setCell_same _ s 3 _ t v2 (heap_setCell_same _ s 2 _ t v1 (heap_setCell_same _ s 1 _ t v0 h)))))).trans rfl
theorem RM.puts {F : Nat → Prop} {w w' : World} {s : Nat} (h : RM F w w') (hs : F s) (o : Nat) (vs : List Value) : RM F w (puts w' s o vs) :=
 ⟨(puts_below (B := 0) (Below.refl _ w') (Nat.zero_le _) vs o).os.trans h.os, (puts_below (B := 0) (Below.refl _ w') (Nat.zero_le _) vs o).tape.trans h.tape, (puts_below (B := 0) (Below.refl _ w') (Nat.zero_le _) vs o).output.trans h.output, by rw [puts_size]; exact h.size, fun k hk hn => (puts_other s k (fun e => hn (e ▸ hs)) vs w' o).trans (h.block k hk hn)⟩
theorem akeep_gen (R : Value → Prop) (B s : Nat) (m u rv : Value) (wt0 : Int) (Q : Nat → Prop) (H : Nat) (x : Val) (v : Value) (w : World) (hB : B ≤ s) (hs : Cells w s m u wt0 rv) (hv : VIn w Q (H + 1) x v) (hQ : ¬ Q s) (hT : TabsAt B w) (hC : ∀ W, Below w.heap.size w W → Calls Tryd.prog 24 #[v] W fun e w' => ∃ v', e = .returned v' ∧ R v' ∧ VIn w' (fun g => W.heap.size ≤ g) (H + 1) x v' ∧ Below W.heap.size W w') :
  Calls Tryd.prog 13 #[.pointer (some ⟨s, 0, none⟩), v] w fun e w' => e = .returned (.tuple #[]) ∧ ∃ v', R v' ∧ Cells w' s m v' (wOf x) rv ∧ VIn w' (fun g => w.heap.size ≤ g) (H + 1) x v' ∧ RM (fun g => g = s) w w' := by
 have hlt := hs.lt
 obtain ⟨u0, u1, u2, u3, u4, u5, rfl, hs⟩ := hs
 obtain ⟨xk, xn, xs, ba, fa, la, bn, bc, fn, fc, ln, lc, rfl, -⟩ := hv.letters
 obtain ⟨W1, hW1⟩ : ∃ W, W = w.alloc (.cells #[.int .i64 xk, .int .i64 xn, .string xs, .slice ba bn bc, .slice fa fn fc, .slice la ln lc] 32) := ⟨_, rfl⟩
 have hb1 : Below w.heap.size w W1 := by rw [hW1]; exact (Below.refl _ _).alloc (Nat.le_refl _) _
 have hr1 : W1.heap[w.heap.size]? = some (.cells #[.int .i64 xk, .int .i64 xn, .string xs, .slice ba bn bc, .slice fa fn fc, .slice la ln lc] 32 (0, 0)) := by rw [hW1]; exact heap_alloc_new w _
 have hp : W1.heap.size = w.heap.size + 1 := by rw [hW1]; simp
 have CC := Lib.hid (hC W1 hb1)
 have HW1 := Lib.hid hW1; have HB1 := Lib.hid hb1; have HR1 := Lib.hid hr1; have HP := Lib.hid hp
 have HV := Lib.hid hv; have HS := Lib.hid hs; have HT := Lib.hid hT; have HQ := Lib.hid hQ
 clear hW1 hb1 hr1 hp hv hs hT hC
 go_enter Tryd.func13, Tryd.ntmps13
 go_wp2_with fail
 rw [← HW1.out]
 refine CC.out.mono ?_
 rintro e w2 ⟨v2, rfl, hR, hv2, hb2⟩
 have HRR := Lib.hid hR
 clear hR
 obtain ⟨yk, yn, ys, bb, fb, lb, m1, m2, m3, m4, m5, m6, rfl⟩ := hv2.shape
 have hS2 : w2.heap[s]? = some (.cells #[m, u0, u1, u2, u3, u4, u5, .int .i64 wt0, rv] 41 (0, 0)) := (hb2.block s (by have := HP.out; omega)).trans ((HB1.out.block s hlt).trans HS.out)
 have g1 := (cell_of_row w2 _ 1 _ _ _ hS2).trans rfl; have g2 := (cell_of_row w2 _ 2 _ _ _ hS2).trans rfl; have g3 := (cell_of_row w2 _ 3 _ _ _ hS2).trans rfl
 have g4 := (cell_of_row w2 _ 4 _ _ _ hS2).trans rfl; have g5 := (cell_of_row w2 _ 5 _ _ _ hS2).trans rfl; have g6 := (cell_of_row w2 _ 6 _ _ _ hS2).trans rfl
 have z1 := frozen_of_row w2 _ 1 _ _ hS2; have z2 := frozen_of_row w2 _ 2 _ _ hS2; have z3 := frozen_of_row w2 _ 3 _ _ hS2
 have z4 := frozen_of_row w2 _ 4 _ _ hS2; have z5 := frozen_of_row w2 _ 5 _ _ hS2; have z6 := frozen_of_row w2 _ 6 _ _ hS2
 have HV2 := Lib.hid hv2; have HB2 := Lib.hid hb2; have HS2 := Lib.hid hS2
 clear hv2 hb2 hS2
 obtain ⟨W3, hW3⟩ : ∃ W, W = puts w2 s 1 [.int .i64 yk, .int .i64 yn, .string ys, .slice bb m1 m2, .slice fb m3 m4, .slice lb m5 m6] := ⟨_, rfl⟩
 have hr3 := six_row HS2.out (.int .i64 yk) (.int .i64 yn) (.string ys) (.slice bb m1 m2) (.slice fb m3 m4) (.slice lb m5 m6)
 rw [← hW3] at hr3
 have hrm : RM (fun g => g = s) w W3 := by
  rw [hW3]
  exact RM.puts ((RM.of_below HB1.out).trans (RM.of_below (F := fun g => g = s) HB2.out) (fun _ _ h => h)) rfl 1 _
 have hpo : ∀ k, k ≠ s → W3.heap[k]? = w2.heap[k]? := fun k hk => by rw [hW3]; exact puts_other s k hk _ _ _
 have hsz : W3.heap.size = w2.heap.size := by rw [hW3]; exact puts_size _ _ _ _
 have hbx : W3.heap[w.heap.size]? = some (.cells #[.int .i64 xk, .int .i64 xn, .string xs, .slice ba bn bc, .slice fa fn fc, .slice la ln lc] 32 (0, 0)) := (hpo _ (by omega)).trans ((HB2.out.block _ (by have := HP.out; omega)).trans HR1.out)
 have hv3 : VIn W3 Q (H + 1) x (.agg #[.int .i64 xk, .int .i64 xn, .string xs, .slice ba bn bc, .slice fa fn fc, .slice la ln lc]) := HV.out.kept (fun g hg hl => hrm.block g hl (fun e => HQ.out (e ▸ hg))) (fun _ h => h)
 have hn3 : VIn W3 (fun g => w.heap.size + 1 ≤ g) (H + 1) x (.agg #[.int .i64 yk, .int .i64 yn, .string ys, .slice bb m1 m2, .slice fb m3 m4, .slice lb m5 m6]) := HV2.out.kept (fun g hg _ => hpo g (by have := HP.out; omega)) (fun g hg => by have := HP.out; omega)
 have CS := Lib.hid (sizeOfOne_any Q H x _ W3 hv3 (HT.out.mono (hrm.below HT.out.1 (fun k hk => by omega))).now)
 have x0 := (cell_of_row W3 _ 0 _ _ _ hbx).trans rfl; have x1 := (cell_of_row W3 _ 1 _ _ _ hbx).trans rfl; have x2 := (cell_of_row W3 _ 2 _ _ _ hbx).trans rfl
 have x3 := (cell_of_row W3 _ 3 _ _ _ hbx).trans rfl; have x4 := (cell_of_row W3 _ 4 _ _ _ hbx).trans rfl; have x5 := (cell_of_row W3 _ 5 _ _ _ hbx).trans rfl
 have HR3 := Lib.hid hr3; have HRM := Lib.hid hrm; have HSZ := Lib.hid hsz; have HN3 := Lib.hid hn3
 clear hr3 hrm hpo hsz hbx hv3 hn3
 go_upto_region 2 with fail
 clear g1 g2 g3 g4 g5 g6 z1 z2 z3 z4 z5 z6
 rw [show ((((((w2.setCell ⟨s, 1, none⟩ (.int .i64 yk)).setCell ⟨s, 2, none⟩ (.int .i64 yn)).setCell ⟨s, 3, none⟩ (.string ys)).setCell ⟨s, 4, none⟩ (.slice bb m1 m2)).setCell ⟨s, 5, none⟩ (.slice fb m3 m4)).setCell ⟨s, 6, none⟩ (.slice lb m5 m6)) = W3 from hW3.symm]
 have HW3 := Lib.hid hW3
 clear hW3
 go_wp2_with fail
 refine CS.out.mono ?_
 rintro e w4 ⟨rfl, hb4⟩
 have hr4 := (hb4.block s (by have := HRM.out.size; omega)).trans HR3.out
 have g7 := (cell_of_row w4 _ 7 _ _ _ hr4).trans rfl
 have z7 := frozen_of_row w4 _ 7 _ _ hr4
 obtain ⟨n, hn⟩ : ∃ n : Nat, n = sizeB (one x) := ⟨_, rfl⟩
 have hnb : n ≤ 65536 := by rw [hn]; exact size_le _
 have HN := Lib.hid hn
 have HB4 := Lib.hid hb4; have HR4 := Lib.hid hr4
 rw [← hn]
 clear hb4 hr4 hn
 go_wp2_with fail
 go_end0
 have hw : wOf x = max ((n : Int) - 7) 0 := by unfold wOf; rw [HN.out]
 have hrm5 : RM (fun g => g = s) w (puts w4 s 7 [.int .i64 (max ((n : Int) - 7) 0)]) := RM.puts (HRM.out.trans (RM.of_below (F := fun g => g = s) HB4.out) (fun _ _ h => h)) rfl 7 _
 refine ⟨rfl, .agg #[.int .i64 yk, .int .i64 yn, .string ys, .slice bb m1 m2, .slice fb m3 m4, .slice lb m5 m6], HRR.out, ⟨_, _, _, _, _, _, rfl, ?_⟩, ?_, hrm5⟩
 ·rw [hw]
  exact (heap_setCell_same w4 s 7 _ _ _ HR4.out).trans rfl
 ·exact (VIn.keep HB4.out HN3.out).kept (Q := fun g => w.heap.size + 1 ≤ g) (fun g hg _ => puts_other s g (by omega) [.int .i64 (max ((n : Int) - 7) 0)] w4 7) (fun g hg => by omega)
theorem akeep_any (B s : Nat) (m u rv : Value) (wt0 : Int) (Q : Nat → Prop) (H : Nat) (x : Val) (v : Value) (w : World) (hB : B ≤ s) (hs : Cells w s m u wt0 rv) (hv : VIn w Q (H + 1) x v) (hQ : ¬ Q s) (hT : TabsAt B w) :
  Calls Tryd.prog 13 #[.pointer (some ⟨s, 0, none⟩), v] w fun e w' => e = .returned (.tuple #[]) ∧ ∃ v', Cells w' s m v' (wOf x) rv ∧ VIn w' (fun g => w.heap.size ≤ g) (H + 1) x v' ∧ RM (fun g => g = s) w w' :=
 (akeep_gen (fun _ => True) B s m u rv wt0 Q H x v w hB hs hv hQ hT (fun W hb => (copy_any Q (H + 1) x v W (hv.keep hb)).mono fun _ _ ⟨v', h1, h2, h3⟩ => ⟨v', h1, trivial, h2, h3⟩)).mono fun _ _ ⟨h1, v', _, h2⟩ => ⟨h1, v', h2⟩
def leafA (k n : Int) : Value := .agg #[.int .i64 k, .int .i64 n, .string ⟨#[]⟩, .slice none 0 0, .slice none 0 0, .slice none 0 0]
theorem each_nil (c : Nat) (f : Value) (w : World) : Calls Tryd.prog 39 #[.slice none 0 c, f] w fun e w' => e = .returned (.slice none 0 0) ∧ Below w.heap.size w w' := by
 have he := fun u : World => Lib.run_eql_slice_nil (P := Tryd.prog) u 30 32 none 0 c 0 0 Tryd.underlying30
 go_enter Tryd.func39, Tryd.ntmps39
 go_wp2_with fail
 go_ret
 exact ⟨rfl, Below.refl _ _⟩
theorem eachF_nil (c : Nat) (f : Value) (w : World) : Calls Tryd.prog 37 #[.slice none 0 c, f] w fun e w' => e = .returned (.slice none 0 0) ∧ Below w.heap.size w w' := by
 have he := fun u : World => Lib.run_eql_slice_nil (P := Tryd.prog) u 29 59 none 0 c 0 0 Tryd.underlying29
 go_enter Tryd.func37, Tryd.ntmps37
 go_wp2_with fail
 go_ret
 exact ⟨rfl, Below.refl _ _⟩
theorem copy_leaf (k n : Int) (w : World) : Calls Tryd.prog 24 #[leafA k n] w fun e w' => e = .returned (leafA k n) ∧ Below w.heap.size w w' := by
 unfold leafA
 obtain ⟨W0, hW0⟩ : ∃ W, W = (w.alloc (Obj.cells #[.int .i64 k, .int .i64 n, .string ⟨#[]⟩, .slice none 0 0, .slice none 0 0, .slice none 0 0] 32)).alloc (Obj.cells #[.int .i64 0, .int .i64 0, .string ⟨#[]⟩, .slice none 0 0, .slice none 0 0, .slice none 0 0] 32) := ⟨_, rfl⟩
 have hX := BoxV.new (.int .i64 k) (.int .i64 n) (.string ⟨#[]⟩) (.slice none 0 0) (.slice none 0 0) (.slice none 0 0) w
 rw [← hW0] at hX
 have HX := Lib.hid hX
 have HW0 := Lib.hid hW0
 clear hX hW0
 go_enter Tryd.func24, Tryd.ntmps24
 go_wp2_with fail
 rw [← HW0.out]
 refine (Tryd.bytes_Clone_nil 0 0 W0).mono ?_
 rintro e w1 ⟨rfl, rfl⟩
 have HX1 := Lib.hid (HX.out.set3 (.slice none 0 0))
 obtain ⟨p0, p1, p2, p3, p4, p5⟩ := HX.out.cells
 have f3 := HX.out.frozen 3
 obtain ⟨q0, q1, q2, q3, q4, q5⟩ := HX1.out.cells
 go_wp2_with fail
 clear p0 p1 p2 p3 p4 p5 q0 q1 q2 q3 q4 q5 f3
 generalize w1.setCell ⟨w.heap.size, 3, none⟩ (.slice none 0 0) = W1 at HX1 ⊢
 refine (eachF_nil 0 _ W1).mono ?_
 rintro e w2 ⟨rfl, hb2⟩
 have HX2 := Lib.hid (HX1.out.keep hb2)
 have HX3 := Lib.hid (HX2.out.set4 (.slice none 0 0))
 obtain ⟨p0, p1, p2, p3, p4, p5⟩ := HX2.out.cells
 have f4 := HX2.out.frozen 4
 obtain ⟨q0, q1, q2, q3, q4, q5⟩ := HX3.out.cells
 clear hb2
 go_wp2_with fail
 clear p0 p1 p2 p3 p4 p5 q0 q1 q2 q3 q4 q5 f4
 generalize w2.setCell ⟨w.heap.size, 4, none⟩ (.slice none 0 0) = W2 at HX3 ⊢
 refine (each_nil 0 _ W2).mono ?_
 rintro e w3 ⟨rfl, hb3⟩
 have HX4 := Lib.hid (HX3.out.keep hb3)
 have HX5 := Lib.hid (HX4.out.set5 (.slice none 0 0))
 obtain ⟨p0, p1, p2, p3, p4, p5⟩ := HX4.out.cells
 have f5 := HX4.out.frozen 5
 obtain ⟨q0, q1, q2, q3, q4, q5⟩ := HX5.out.cells
 obtain ⟨r0, r1, r2, r3, r4, r5, t0, t1, t2, t3, t4, t5⟩ := HX5.out.zeros
 clear hb3
 have HB9 := Lib.hid (puts_below HX5.out.2.2.1 (G := w.heap.size + 1) (by omega) [.int .i64 k, .int .i64 n, .string ⟨#[]⟩, .slice none 0 0, .slice none 0 0, .slice none 0 0] 0)
 go_wp2_with fail
 exact bodyPost_ret (v := .agg #[.int .i64 k, .int .i64 n, .string ⟨#[]⟩, .slice none 0 0, .slice none 0 0, .slice none 0 0]) (by simp [results, Tryd.results24, go_sem, *]) rfl ⟨rfl, HB9.out⟩
end Acc
end Go.Proofs.YtngllchoiffniaaDoor
end
