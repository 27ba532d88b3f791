/- BsonMScalar. -/
import Derived.Test.YtngllchoiffniaaDoorMk9
set_option maxRecDepth 100000
set_option maxHeartbeats 20000000
section
namespace Go.Proofs.YtngllchoiffniaaDoor
open Go.RowKit
open Seal
open Bson (Val)
theorem Tabs8.metered {w w' : World} {gm : Nat} {left : Int} (h : Tabs8 w) (hM : Mtr w gm left) (hg : w.grownBy w' (some gm)) : Tabs8 w' := by
 have key : ∀ (g o x : Nat), w.cell? ⟨g, o, none⟩ = some (.int .u8 (x : Int)) → w'.cell? ⟨g, o, none⟩ = some (.int .u8 (x : Int)) := fun g o x hx => grown_cell hg hx (hM.ne hx (fun n => by simp))
 exact ⟨fun c hc => key _ _ _ (h.first c hc), fun i hi => key _ _ _ (h.lo i hi), fun i hi => key _ _ _ (h.hi i hi)⟩
theorem mpost_no {w w' : World} {gm : Nat} {left : Int} {S : Option (List Nat)} (hg : w.grownBy w' (some gm)) (h : ∀ l, S = some l → left < (l.length : Int)) : MPost gm left S w (.returned (.bool false)) w' :=
 ⟨false, rfl, hg, nofun, fun _ ⟨l, h1, h2⟩ => by have := h l h1; omega⟩
theorem mpost_yes {w w' : World} {gm : Nat} {left n : Int} {S : Option (List Nat)} {l : List Nat} (hg : w.grownBy w' (some gm)) (hs : S = some l) (hn : (l.length : Int) = n) (hle : n ≤ left) (hM : Mtr w' gm (left - n)) : MPost gm left S w (.returned (.bool true)) w' :=
 ⟨true, rfl, hg, fun _ => ⟨l, hs, by omega, by rw [hn]; exact hM⟩, nofun⟩
theorem scalar_unbare (x : Val) (hb : bareB x = false) : Bson.scalar x = none := by
 unfold bareB at hb
 unfold Bson.scalar Bson.scalarP
 by_cases k1 : x.kind = 1 ∨ x.kind = 2 ∨ x.kind = 12
 ·rw [if_pos k1]
  have e : Bson.bare x false false false false false = false := by
   rcases k1 with k | k | k <;> rw [k] at hb <;> exact hb
  rw [e]; rfl
 rw [if_neg k1]
 by_cases k3 : x.kind = 3
 ·rw [if_pos k3]; rw [k3] at hb
  rw [show Bson.bare x true false false false false = false from hb]; rfl
 rw [if_neg k3]
 by_cases k4 : x.kind = 4 ∨ x.kind = 11
 ·rw [if_pos k4]
  have e : Bson.bare x true false false false false = false := by
   rcases k4 with k | k <;> rw [k] at hb <;> exact hb
  rw [e]; rfl
 rw [if_neg k4]
 by_cases k10 : x.kind = 10
 ·rw [if_pos k10]; rw [k10] at hb
  rw [show Bson.bare x true false false false false = false from hb]; rfl
 rw [if_neg k10]
 by_cases k5 : x.kind = 5
 ·rw [if_pos k5]; rw [k5] at hb
  rw [show Bson.bare x false true false false false = false from hb]; rfl
 rw [if_neg k5]
 by_cases k8 : x.kind = 8
 ·rw [if_pos k8]; rw [k8] at hb
  rw [show Bson.bare x false false true false false = false from hb]; rfl
 rw [if_neg k8]
 by_cases k9 : x.kind = 9
 ·rw [if_pos k9]; rw [k9] at hb
  rw [show Bson.bare x false false true false false = false from hb]; rfl
 rw [if_neg k9]
theorem scalar_1 (x : Val) (k : x.kind = 1) (hb : bareB x = true) : Bson.scalar x = some [] := by
 unfold bareB at hb
 rw [k] at hb
 have hb' : Bson.bare x false false false false false = true := hb
 unfold Bson.scalar Bson.scalarP
 rw [k]
 simp [*]
theorem scalar_2 (x : Val) (k : x.kind = 2) (hb : bareB x = true) : Bson.scalar x = some [] := by
 unfold bareB at hb
 rw [k] at hb
 have hb' : Bson.bare x false false false false false = true := hb
 unfold Bson.scalar Bson.scalarP
 rw [k]
 simp [*]
theorem scalar_12 (x : Val) (k : x.kind = 12) (hb : bareB x = true) : Bson.scalar x = some [] := by
 unfold bareB at hb
 rw [k] at hb
 have hb' : Bson.bare x false false false false false = true := hb
 unfold Bson.scalar Bson.scalarP
 rw [k]
 simp [*]
theorem scalar_3 (x : Val) (k : x.kind = 3) (hb : bareB x = true) : Bson.scalar x = if -2147483648 ≤ x.n ∧ x.n < 2147483648 then some (Bson.leI x.n 4) else none := by
 unfold bareB at hb
 rw [k] at hb
 have hb' : Bson.bare x true false false false false = true := hb
 unfold Bson.scalar Bson.scalarP
 rw [k]
 simp [*]
theorem scalar_4 (x : Val) (k : x.kind = 4) (hb : bareB x = true) (h0 : -9223372036854775808 ≤ x.n) (h1 : x.n ≤ 9223372036854775807) : Bson.scalar x = some (Bson.leI x.n 8) := by
 unfold bareB at hb
 rw [k] at hb
 have hb' : Bson.bare x true false false false false = true := hb
 unfold Bson.scalar Bson.scalarP
 rw [k]
 simp only [hb', decide_eq_true h0, decide_eq_true (show x.n < 9223372036854775808 by omega)]
 simp
theorem scalar_11 (x : Val) (k : x.kind = 11) (hb : bareB x = true) (h0 : -9223372036854775808 ≤ x.n) (h1 : x.n ≤ 9223372036854775807) : Bson.scalar x = some (Bson.leI x.n 8) := by
 unfold bareB at hb
 rw [k] at hb
 have hb' : Bson.bare x true false false false false = true := hb
 unfold Bson.scalar Bson.scalarP
 rw [k]
 simp only [hb', decide_eq_true h0, decide_eq_true (show x.n < 9223372036854775808 by omega)]
 simp
theorem scalar_10 (x : Val) (k : x.kind = 10) (hb : bareB x = true) : Bson.scalar x = if x.n = 0 ∨ x.n = 1 then some (Bson.leI x.n 1) else none := by
 unfold bareB at hb
 rw [k] at hb
 have hb' : Bson.bare x true false false false false = true := hb
 unfold Bson.scalar Bson.scalarP
 rw [k]
 simp [*]
theorem scalar_5 (x : Val) (k : x.kind = 5) (hb : bareB x = true) : Bson.scalar x = if Bson.u8 x.s = true then some (Bson.leI (x.s.size + 1) 4 ++ (Bson.bytes x.s ++ [0])) else none := by
 unfold bareB at hb
 rw [k] at hb
 have hb' : Bson.bare x false true false false false = true := hb
 unfold Bson.scalar Bson.scalarP
 rw [k]
 simp [*]
theorem scalar_8 (x : Val) (k : x.kind = 8) (hb : bareB x = true) : Bson.scalar x = some (Bson.leI x.b.length 4 ++ (0 :: x.b)) := by
 unfold bareB at hb
 rw [k] at hb
 have hb' : Bson.bare x false false true false false = true := hb
 unfold Bson.scalar Bson.scalarP
 rw [k]
 simp [*]
theorem scalar_9 (x : Val) (k : x.kind = 9) (hb : bareB x = true) : Bson.scalar x = if x.b.length = 12 then some x.b else none := by
 unfold bareB at hb
 rw [k] at hb
 have hb' : Bson.bare x false false true false false = true := hb
 unfold Bson.scalar Bson.scalarP
 rw [k]
 simp [*]
theorem mscalar_any (Q : Nat → Prop) (h : Nat) (x : Val) (v : Value) (w : World) (gm : Nat) (left depth : Int) (hv : VIn w Q h x v) (hM : Mtr w gm left) (hl0 : 0 ≤ left) (hl : left ≤ 65536) (hT : Tabs8 w) (h6 : x.kind ≠ 6) (h7 : x.kind ≠ 7) :
  Calls Tryd.prog 50 #[.pointer (some ⟨gm, 0, none⟩), v, .int .i64 depth] w (MPost gm left (Bson.scalar x) w) := by
 cases h with
 | zero => exact hv.elim
 | succ h =>
  have hv0 := hv
  obtain ⟨ba, fa, la, bc, fc, lc, rfl, hL, hb, hf, hl', hB, hF, hI⟩ := hv
  have CB := bare_any Q (h + 1) x _ (w.alloc (.cells #[.int .i64 x.kind, .int .i64 x.n, .string x.s, .slice ba x.b.length bc, .slice fa x.f.length fc, .slice la x.l.length lc] 32)) (hv0.keep ((Below.refl _ w).alloc (Nat.le_refl _) _))
  clear hv0
  have hn0 := hL.n0
  have hn1 := hL.n1
  have hbl := hL.b
  have hss := hL.s
  unfold agg at CB ⊢
  have HM := Lib.hid hM
  have HT := Lib.hid hT
  clear hM hT hL hb hf hl' hB hF hI
  by_cases hbf : bareB x = false
  ·rw [hbf] at CB
   have HS := Lib.hid (scalar_unbare x hbf)
   generalize Bson.scalar x = SC at *
   replace CB := Lib.hid CB
   clear hbf
   go_enter Tryd.func50, Tryd.ntmps50
   go_wp2_with fail
   refine CB.out.mono ?_
   rintro e w' ⟨rfl, hb⟩
   have HB := Lib.hid ((Boxed.refl w _ _).step hb).below
   clear hb
   go_wp2_with fail
   go_ret
   exact mpost_no (grown_of_below HB.out gm) (by rw [HS.out]; nofun)
  have hbare : bareB x = true := by simpa using hbf
  clear hbf
  rw [hbare] at CB
  by_cases k1 : x.kind = 1
  ·have k := k1
   clear k1
   have hs := scalar_1 x k hbare
   have HS := Lib.hid hs
   clear hs
   generalize Bson.scalar x = SC at *
   generalize x.kind = kd at *
   generalize x.n = nn at *
   replace CB := Lib.hid CB
   clear hbare
   subst k
   go_enter Tryd.func50, Tryd.ntmps50
   go_wp2_with fail
   refine CB.out.mono ?_
   rintro e w' ⟨rfl, hb⟩
   have hbx := (Boxed.refl w _ _).step hb
   have HB := Lib.hid hbx.below
   have c0 : w'.cell? ⟨w.heap.size, 0, none⟩ = some (.int .i64 1) := hbx.cell 0
   have c1 : w'.cell? ⟨w.heap.size, 1, none⟩ = some (.int .i64 nn) := hbx.cell 1
   have c2 : w'.cell? ⟨w.heap.size, 2, none⟩ = some (.string x.s) := hbx.cell 2
   have c3 : w'.cell? ⟨w.heap.size, 3, none⟩ = some (.slice ba x.b.length bc) := hbx.cell 3
   clear hbx
   have HM2 := Lib.hid (HM.out.keep HB.out)
   clear hb
   go_wp2_with fail
   go_ret
   exact mpost_yes (n := 0) (grown_of_below HB.out gm) HS.out rfl hl0 (by rw [Int.sub_zero]; exact HM2.out)
  by_cases k2 : x.kind = 2
  ·have k := k2
   clear k2
   have hs := scalar_2 x k hbare
   have HS := Lib.hid hs
   clear hs
   generalize Bson.scalar x = SC at *
   generalize x.kind = kd at *
   generalize x.n = nn at *
   replace CB := Lib.hid CB
   clear hbare
   subst k
   go_enter Tryd.func50, Tryd.ntmps50
   go_wp2_with fail
   refine CB.out.mono ?_
   rintro e w' ⟨rfl, hb⟩
   have hbx := (Boxed.refl w _ _).step hb
   have HB := Lib.hid hbx.below
   have c0 : w'.cell? ⟨w.heap.size, 0, none⟩ = some (.int .i64 2) := hbx.cell 0
   have c1 : w'.cell? ⟨w.heap.size, 1, none⟩ = some (.int .i64 nn) := hbx.cell 1
   have c2 : w'.cell? ⟨w.heap.size, 2, none⟩ = some (.string x.s) := hbx.cell 2
   have c3 : w'.cell? ⟨w.heap.size, 3, none⟩ = some (.slice ba x.b.length bc) := hbx.cell 3
   clear hbx
   have HM2 := Lib.hid (HM.out.keep HB.out)
   clear hb
   go_wp2_with fail
   go_ret
   exact mpost_yes (n := 0) (grown_of_below HB.out gm) HS.out rfl hl0 (by rw [Int.sub_zero]; exact HM2.out)
  by_cases k12 : x.kind = 12
  ·have k := k12
   clear k12
   have hs := scalar_12 x k hbare
   have HS := Lib.hid hs
   clear hs
   generalize Bson.scalar x = SC at *
   generalize x.kind = kd at *
   generalize x.n = nn at *
   replace CB := Lib.hid CB
   clear hbare
   subst k
   go_enter Tryd.func50, Tryd.ntmps50
   go_wp2_with fail
   refine CB.out.mono ?_
   rintro e w' ⟨rfl, hb⟩
   have hbx := (Boxed.refl w _ _).step hb
   have HB := Lib.hid hbx.below
   have c0 : w'.cell? ⟨w.heap.size, 0, none⟩ = some (.int .i64 12) := hbx.cell 0
   have c1 : w'.cell? ⟨w.heap.size, 1, none⟩ = some (.int .i64 nn) := hbx.cell 1
   have c2 : w'.cell? ⟨w.heap.size, 2, none⟩ = some (.string x.s) := hbx.cell 2
   have c3 : w'.cell? ⟨w.heap.size, 3, none⟩ = some (.slice ba x.b.length bc) := hbx.cell 3
   clear hbx
   have HM2 := Lib.hid (HM.out.keep HB.out)
   clear hb
   go_wp2_with fail
   go_ret
   exact mpost_yes (n := 0) (grown_of_below HB.out gm) HS.out rfl hl0 (by rw [Int.sub_zero]; exact HM2.out)
  by_cases k3 : x.kind = 3
  ·have k := k3
   clear k3
   have hs := scalar_3 x k hbare
   by_cases hr : -2147483648 ≤ x.n ∧ x.n < 2147483648
   ·rw [if_pos hr] at hs
    have HLN := Lib.hid (show ∀ l, Bson.scalar x = some l → (l.length : Int) = 4 by rw [hs]; rintro l ⟨⟩; rw [Bson.leI_length]; rfl)
    have HY := Lib.hid (show ∃ l, Bson.scalar x = some l from ⟨_, hs⟩)
    have hw1 : IntKind.i32.wrap x.n = x.n := IntWalk.i32_in _ (by omega)
    have hw2 : IntKind.i64.wrap x.n = x.n := IntWalk.i64_in _ (by omega)
    clear hs
    generalize Bson.scalar x = SC at *
    generalize x.kind = kd at *
    generalize x.n = nn at *
    replace CB := Lib.hid CB
    clear hbare
    subst k
    by_cases hroom : 4 ≤ left
    ·go_enter Tryd.func50, Tryd.ntmps50
     go_wp2_with fail
     refine CB.out.mono ?_
     rintro e w' ⟨rfl, hb⟩
     have hbx := (Boxed.refl w _ _).step hb
     have HB := Lib.hid hbx.below
     have c0 : w'.cell? ⟨w.heap.size, 0, none⟩ = some (.int .i64 3) := hbx.cell 0
     have c1 : w'.cell? ⟨w.heap.size, 1, none⟩ = some (.int .i64 nn) := hbx.cell 1
     have c2 : w'.cell? ⟨w.heap.size, 2, none⟩ = some (.string x.s) := hbx.cell 2
     have c3 : w'.cell? ⟨w.heap.size, 3, none⟩ = some (.slice ba x.b.length bc) := hbx.cell 3
     clear hbx
     have CT := Lib.hid (mtake_yes w' gm left (4) (HM.out.keep HB.out) (by omega) hroom hl)
     clear hb
     go_wp2_with fail
     refine CT.out.mono ?_
     rintro e w2 ⟨rfl, hM2, hg2⟩
     have HM2 := Lib.hid hM2
     have HG2 := Lib.hid hg2
     clear hM2 hg2
     go_wp2_with fail
     go_ret
     obtain ⟨l, hl⟩ := HY.out
     exact mpost_yes (grown_then (grown_of_below HB.out gm) HG2.out) hl (HLN.out l hl) hroom HM2.out
    ·go_enter Tryd.func50, Tryd.ntmps50
     go_wp2_with fail
     refine CB.out.mono ?_
     rintro e w' ⟨rfl, hb⟩
     have hbx := (Boxed.refl w _ _).step hb
     have HB := Lib.hid hbx.below
     have c0 : w'.cell? ⟨w.heap.size, 0, none⟩ = some (.int .i64 3) := hbx.cell 0
     have c1 : w'.cell? ⟨w.heap.size, 1, none⟩ = some (.int .i64 nn) := hbx.cell 1
     have c2 : w'.cell? ⟨w.heap.size, 2, none⟩ = some (.string x.s) := hbx.cell 2
     have c3 : w'.cell? ⟨w.heap.size, 3, none⟩ = some (.slice ba x.b.length bc) := hbx.cell 3
     clear hbx
     have CT := Lib.hid (mtake_no w' gm left (4) (HM.out.keep HB.out) (by omega))
     clear hb
     go_wp2_with fail
     refine CT.out.mono ?_
     rintro e w2 ⟨rfl, rfl⟩
     go_wp2_with fail
     go_ret
     refine mpost_no (grown_of_below HB.out gm) ?_
     intro l hl
     have := HLN.out l hl
     omega
   ·rw [if_neg hr] at hs
    have HS := Lib.hid hs
    have hw1 : -2147483648 ≤ IntKind.i32.wrap x.n ∧ IntKind.i32.wrap x.n ≤ 2147483647 := by rw [IntKind.wrap_i32]; omega
    have hw2 : IntKind.i64.wrap (IntKind.i32.wrap x.n) = IntKind.i32.wrap x.n := IntWalk.i64_in _ (by omega)
    have hw3 : ¬ x.n = IntKind.i32.wrap x.n := by omega
    obtain ⟨wn, hwn⟩ : ∃ wn, IntKind.i32.wrap x.n = wn := ⟨_, rfl⟩
    rw [hwn] at hw2 hw3
    clear hs hw1 hr
    generalize Bson.scalar x = SC at *
    generalize x.kind = kd at *
    generalize x.n = nn at *
    replace CB := Lib.hid CB
    clear hbare
    subst k
    go_enter Tryd.func50, Tryd.ntmps50
    go_wp2_with fail
    refine CB.out.mono ?_
    rintro e w' ⟨rfl, hb⟩
    have hbx := (Boxed.refl w _ _).step hb
    have HB := Lib.hid hbx.below
    have c0 : w'.cell? ⟨w.heap.size, 0, none⟩ = some (.int .i64 3) := hbx.cell 0
    have c1 : w'.cell? ⟨w.heap.size, 1, none⟩ = some (.int .i64 nn) := hbx.cell 1
    have c2 : w'.cell? ⟨w.heap.size, 2, none⟩ = some (.string x.s) := hbx.cell 2
    have c3 : w'.cell? ⟨w.heap.size, 3, none⟩ = some (.slice ba x.b.length bc) := hbx.cell 3
    clear hbx
    clear hb
    go_wp2_with fail
    go_ret
    exact mpost_no (grown_of_below HB.out gm) (by rw [HS.out]; nofun)
  by_cases k4 : x.kind = 4
  ·have k := k4
   clear k4
   have hs := scalar_4 x k hbare hn0 hn1
   have HLN := Lib.hid (show ∀ l, Bson.scalar x = some l → (l.length : Int) = 8 by rw [hs]; rintro l ⟨⟩; rw [Bson.leI_length]; rfl)
   have HY := Lib.hid (show ∃ l, Bson.scalar x = some l from ⟨_, hs⟩)
   clear hs
   generalize Bson.scalar x = SC at *
   generalize x.kind = kd at *
   generalize x.n = nn at *
   replace CB := Lib.hid CB
   clear hbare
   subst k
   by_cases hroom : 8 ≤ left
   ·go_enter Tryd.func50, Tryd.ntmps50
    go_wp2_with fail
    refine CB.out.mono ?_
    rintro e w' ⟨rfl, hb⟩
    have hbx := (Boxed.refl w _ _).step hb
    have HB := Lib.hid hbx.below
    have c0 : w'.cell? ⟨w.heap.size, 0, none⟩ = some (.int .i64 4) := hbx.cell 0
    have c1 : w'.cell? ⟨w.heap.size, 1, none⟩ = some (.int .i64 nn) := hbx.cell 1
    have c2 : w'.cell? ⟨w.heap.size, 2, none⟩ = some (.string x.s) := hbx.cell 2
    have c3 : w'.cell? ⟨w.heap.size, 3, none⟩ = some (.slice ba x.b.length bc) := hbx.cell 3
    clear hbx
    have CT := Lib.hid (mtake_yes w' gm left (8) (HM.out.keep HB.out) (by omega) hroom hl)
    clear hb
    go_wp2_with fail
    refine CT.out.mono ?_
    rintro e w2 ⟨rfl, hM2, hg2⟩
    have HM2 := Lib.hid hM2
    have HG2 := Lib.hid hg2
    clear hM2 hg2
    go_wp2_with fail
    go_ret
    obtain ⟨l, hl⟩ := HY.out
    exact mpost_yes (grown_then (grown_of_below HB.out gm) HG2.out) hl (HLN.out l hl) hroom HM2.out
   ·go_enter Tryd.func50, Tryd.ntmps50
    go_wp2_with fail
    refine CB.out.mono ?_
    rintro e w' ⟨rfl, hb⟩
    have hbx := (Boxed.refl w _ _).step hb
    have HB := Lib.hid hbx.below
    have c0 : w'.cell? ⟨w.heap.size, 0, none⟩ = some (.int .i64 4) := hbx.cell 0
    have c1 : w'.cell? ⟨w.heap.size, 1, none⟩ = some (.int .i64 nn) := hbx.cell 1
    have c2 : w'.cell? ⟨w.heap.size, 2, none⟩ = some (.string x.s) := hbx.cell 2
    have c3 : w'.cell? ⟨w.heap.size, 3, none⟩ = some (.slice ba x.b.length bc) := hbx.cell 3
    clear hbx
    have CT := Lib.hid (mtake_no w' gm left (8) (HM.out.keep HB.out) (by omega))
    clear hb
    go_wp2_with fail
    refine CT.out.mono ?_
    rintro e w2 ⟨rfl, rfl⟩
    go_wp2_with fail
    go_ret
    refine mpost_no (grown_of_below HB.out gm) ?_
    intro l hl
    have := HLN.out l hl
    omega
  by_cases k11 : x.kind = 11
  ·have k := k11
   clear k11
   have hs := scalar_11 x k hbare hn0 hn1
   have HLN := Lib.hid (show ∀ l, Bson.scalar x = some l → (l.length : Int) = 8 by rw [hs]; rintro l ⟨⟩; rw [Bson.leI_length]; rfl)
   have HY := Lib.hid (show ∃ l, Bson.scalar x = some l from ⟨_, hs⟩)
   clear hs
   generalize Bson.scalar x = SC at *
   generalize x.kind = kd at *
   generalize x.n = nn at *
   replace CB := Lib.hid CB
   clear hbare
   subst k
   by_cases hroom : 8 ≤ left
   ·go_enter Tryd.func50, Tryd.ntmps50
    go_wp2_with fail
    refine CB.out.mono ?_
    rintro e w' ⟨rfl, hb⟩
    have hbx := (Boxed.refl w _ _).step hb
    have HB := Lib.hid hbx.below
    have c0 : w'.cell? ⟨w.heap.size, 0, none⟩ = some (.int .i64 11) := hbx.cell 0
    have c1 : w'.cell? ⟨w.heap.size, 1, none⟩ = some (.int .i64 nn) := hbx.cell 1
    have c2 : w'.cell? ⟨w.heap.size, 2, none⟩ = some (.string x.s) := hbx.cell 2
    have c3 : w'.cell? ⟨w.heap.size, 3, none⟩ = some (.slice ba x.b.length bc) := hbx.cell 3
    clear hbx
    have CT := Lib.hid (mtake_yes w' gm left (8) (HM.out.keep HB.out) (by omega) hroom hl)
    clear hb
    go_wp2_with fail
    refine CT.out.mono ?_
    rintro e w2 ⟨rfl, hM2, hg2⟩
    have HM2 := Lib.hid hM2
    have HG2 := Lib.hid hg2
    clear hM2 hg2
    go_wp2_with fail
    go_ret
    obtain ⟨l, hl⟩ := HY.out
    exact mpost_yes (grown_then (grown_of_below HB.out gm) HG2.out) hl (HLN.out l hl) hroom HM2.out
   ·go_enter Tryd.func50, Tryd.ntmps50
    go_wp2_with fail
    refine CB.out.mono ?_
    rintro e w' ⟨rfl, hb⟩
    have hbx := (Boxed.refl w _ _).step hb
    have HB := Lib.hid hbx.below
    have c0 : w'.cell? ⟨w.heap.size, 0, none⟩ = some (.int .i64 11) := hbx.cell 0
    have c1 : w'.cell? ⟨w.heap.size, 1, none⟩ = some (.int .i64 nn) := hbx.cell 1
    have c2 : w'.cell? ⟨w.heap.size, 2, none⟩ = some (.string x.s) := hbx.cell 2
    have c3 : w'.cell? ⟨w.heap.size, 3, none⟩ = some (.slice ba x.b.length bc) := hbx.cell 3
    clear hbx
    have CT := Lib.hid (mtake_no w' gm left (8) (HM.out.keep HB.out) (by omega))
    clear hb
    go_wp2_with fail
    refine CT.out.mono ?_
    rintro e w2 ⟨rfl, rfl⟩
    go_wp2_with fail
    go_ret
    refine mpost_no (grown_of_below HB.out gm) ?_
    intro l hl
    have := HLN.out l hl
    omega
  by_cases k10 : x.kind = 10
  ·have k := k10
   clear k10
   have hs := scalar_10 x k hbare
   by_cases hr : x.n = 0
   ·rw [if_pos (Or.inl hr)] at hs
    have HLN := Lib.hid (show ∀ l, Bson.scalar x = some l → (l.length : Int) = 1 by rw [hs]; rintro l ⟨⟩; rw [Bson.leI_length]; rfl)
    have HY := Lib.hid (show ∃ l, Bson.scalar x = some l from ⟨_, hs⟩)
    clear hs
    generalize Bson.scalar x = SC at *
    generalize x.kind = kd at *
    generalize x.n = nn at *
    replace CB := Lib.hid CB
    clear hbare
    subst k
    subst hr
    by_cases hroom : 1 ≤ left
    ·go_enter Tryd.func50, Tryd.ntmps50
     go_wp2_with fail
     refine CB.out.mono ?_
     rintro e w' ⟨rfl, hb⟩
     have hbx := (Boxed.refl w _ _).step hb
     have HB := Lib.hid hbx.below
     have c0 : w'.cell? ⟨w.heap.size, 0, none⟩ = some (.int .i64 10) := hbx.cell 0
     have c1 : w'.cell? ⟨w.heap.size, 1, none⟩ = some (.int .i64 0) := hbx.cell 1
     have c2 : w'.cell? ⟨w.heap.size, 2, none⟩ = some (.string x.s) := hbx.cell 2
     have c3 : w'.cell? ⟨w.heap.size, 3, none⟩ = some (.slice ba x.b.length bc) := hbx.cell 3
     clear hbx
     have CT := Lib.hid (mtake_yes w' gm left (1) (HM.out.keep HB.out) (by omega) hroom hl)
     clear hb
     go_wp2_with fail
     refine CT.out.mono ?_
     rintro e w2 ⟨rfl, hM2, hg2⟩
     have HM2 := Lib.hid hM2
     have HG2 := Lib.hid hg2
     clear hM2 hg2
     go_wp2_with fail
     go_ret
     obtain ⟨l, hl⟩ := HY.out
     exact mpost_yes (grown_then (grown_of_below HB.out gm) HG2.out) hl (HLN.out l hl) hroom HM2.out
    ·go_enter Tryd.func50, Tryd.ntmps50
     go_wp2_with fail
     refine CB.out.mono ?_
     rintro e w' ⟨rfl, hb⟩
     have hbx := (Boxed.refl w _ _).step hb
     have HB := Lib.hid hbx.below
     have c0 : w'.cell? ⟨w.heap.size, 0, none⟩ = some (.int .i64 10) := hbx.cell 0
     have c1 : w'.cell? ⟨w.heap.size, 1, none⟩ = some (.int .i64 0) := hbx.cell 1
     have c2 : w'.cell? ⟨w.heap.size, 2, none⟩ = some (.string x.s) := hbx.cell 2
     have c3 : w'.cell? ⟨w.heap.size, 3, none⟩ = some (.slice ba x.b.length bc) := hbx.cell 3
     clear hbx
     have CT := Lib.hid (mtake_no w' gm left (1) (HM.out.keep HB.out) (by omega))
     clear hb
     go_wp2_with fail
     refine CT.out.mono ?_
     rintro e w2 ⟨rfl, rfl⟩
     go_wp2_with fail
     go_ret
     refine mpost_no (grown_of_below HB.out gm) ?_
     intro l hl
     have := HLN.out l hl
     omega
   by_cases hr : x.n = 1
   ·rw [if_pos (Or.inr hr)] at hs
    have HLN := Lib.hid (show ∀ l, Bson.scalar x = some l → (l.length : Int) = 1 by rw [hs]; rintro l ⟨⟩; rw [Bson.leI_length]; rfl)
    have HY := Lib.hid (show ∃ l, Bson.scalar x = some l from ⟨_, hs⟩)
    clear hs
    generalize Bson.scalar x = SC at *
    generalize x.kind = kd at *
    generalize x.n = nn at *
    replace CB := Lib.hid CB
    clear hbare
    subst k
    subst hr
    by_cases hroom : 1 ≤ left
    ·go_enter Tryd.func50, Tryd.ntmps50
     go_wp2_with fail
     refine CB.out.mono ?_
     rintro e w' ⟨rfl, hb⟩
     have hbx := (Boxed.refl w _ _).step hb
     have HB := Lib.hid hbx.below
     have c0 : w'.cell? ⟨w.heap.size, 0, none⟩ = some (.int .i64 10) := hbx.cell 0
     have c1 : w'.cell? ⟨w.heap.size, 1, none⟩ = some (.int .i64 1) := hbx.cell 1
     have c2 : w'.cell? ⟨w.heap.size, 2, none⟩ = some (.string x.s) := hbx.cell 2
     have c3 : w'.cell? ⟨w.heap.size, 3, none⟩ = some (.slice ba x.b.length bc) := hbx.cell 3
     clear hbx
     have CT := Lib.hid (mtake_yes w' gm left (1) (HM.out.keep HB.out) (by omega) hroom hl)
     clear hb
     go_wp2_with fail
     refine CT.out.mono ?_
     rintro e w2 ⟨rfl, hM2, hg2⟩
     have HM2 := Lib.hid hM2
     have HG2 := Lib.hid hg2
     clear hM2 hg2
     go_wp2_with fail
     go_ret
     obtain ⟨l, hl⟩ := HY.out
     exact mpost_yes (grown_then (grown_of_below HB.out gm) HG2.out) hl (HLN.out l hl) hroom HM2.out
    ·go_enter Tryd.func50, Tryd.ntmps50
     go_wp2_with fail
     refine CB.out.mono ?_
     rintro e w' ⟨rfl, hb⟩
     have hbx := (Boxed.refl w _ _).step hb
     have HB := Lib.hid hbx.below
     have c0 : w'.cell? ⟨w.heap.size, 0, none⟩ = some (.int .i64 10) := hbx.cell 0
     have c1 : w'.cell? ⟨w.heap.size, 1, none⟩ = some (.int .i64 1) := hbx.cell 1
     have c2 : w'.cell? ⟨w.heap.size, 2, none⟩ = some (.string x.s) := hbx.cell 2
     have c3 : w'.cell? ⟨w.heap.size, 3, none⟩ = some (.slice ba x.b.length bc) := hbx.cell 3
     clear hbx
     have CT := Lib.hid (mtake_no w' gm left (1) (HM.out.keep HB.out) (by omega))
     clear hb
     go_wp2_with fail
     refine CT.out.mono ?_
     rintro e w2 ⟨rfl, rfl⟩
     go_wp2_with fail
     go_ret
     refine mpost_no (grown_of_below HB.out gm) ?_
     intro l hl
     have := HLN.out l hl
     omega
   rename_i hr0
   rw [if_neg (by omega)] at hs
   have HS := Lib.hid hs
   clear hs
   generalize Bson.scalar x = SC at *
   generalize x.kind = kd at *
   generalize x.n = nn at *
   replace CB := Lib.hid CB
   clear hbare
   subst k
   go_enter Tryd.func50, Tryd.ntmps50
   go_wp2_with fail
   refine CB.out.mono ?_
   rintro e w' ⟨rfl, hb⟩
   have hbx := (Boxed.refl w _ _).step hb
   have HB := Lib.hid hbx.below
   have c0 : w'.cell? ⟨w.heap.size, 0, none⟩ = some (.int .i64 10) := hbx.cell 0
   have c1 : w'.cell? ⟨w.heap.size, 1, none⟩ = some (.int .i64 nn) := hbx.cell 1
   have c2 : w'.cell? ⟨w.heap.size, 2, none⟩ = some (.string x.s) := hbx.cell 2
   have c3 : w'.cell? ⟨w.heap.size, 3, none⟩ = some (.slice ba x.b.length bc) := hbx.cell 3
   clear hbx
   clear hb
   go_wp2_with fail
   go_ret
   exact mpost_no (grown_of_below HB.out gm) (by rw [HS.out]; nofun)
  by_cases k5 : x.kind = 5
  ·have k := k5
   clear k5
   have hs := scalar_5 x k hbare
   have hw1 : IntKind.i64.wrap (4 + (x.s.size : Int)) = 4 + (x.s.size : Int) := IntWalk.i64_in _ (by omega)
   have hw2 : IntKind.i64.wrap (4 + (x.s.size : Int) + 1) = 4 + (x.s.size : Int) + 1 := IntWalk.i64_in _ (by omega)
   have hlen : ∀ l, Bson.scalar x = some l → (l.length : Int) = 4 + (x.s.size : Int) + 1 := by
    intro l h
    rw [hs] at h
    split at h
    ·cases h; rw [List.length_append, Bson.leI_length, List.length_append, Bson.bytes_length]; simp; omega
    ·cases h
   have HLN := Lib.hid hlen
   clear hlen
   by_cases hu : Bson.u8 x.s = true
   ·rw [if_pos hu] at hs
    have HY := Lib.hid (show ∃ l, Bson.scalar x = some l from ⟨_, hs⟩)
    have hu' : Lib.validD x.s.data.toList = true := hu
    have hV := fun w' (ht : Tabs8 w') => Tryd.utf8_ValidString x.s w' (by omega) (tabs_lib ht)
    rw [hu'] at hV
    replace hV := Lib.hid hV
    clear hs hu hu'
    generalize x.s = ss at *
    generalize Bson.scalar x = SC at *
    generalize x.kind = kd at *
    generalize x.n = nn at *
    replace CB := Lib.hid CB
    clear hbare
    subst k
    by_cases hroom : 4 + (ss.size : Int) + 1 ≤ left
    ·go_enter Tryd.func50, Tryd.ntmps50
     go_wp2_with fail
     refine CB.out.mono ?_
     rintro e w' ⟨rfl, hb⟩
     have hbx := (Boxed.refl w _ _).step hb
     have HB := Lib.hid hbx.below
     have c0 : w'.cell? ⟨w.heap.size, 0, none⟩ = some (.int .i64 5) := hbx.cell 0
     have c1 : w'.cell? ⟨w.heap.size, 1, none⟩ = some (.int .i64 nn) := hbx.cell 1
     have c2 : w'.cell? ⟨w.heap.size, 2, none⟩ = some (.string ss) := hbx.cell 2
     have c3 : w'.cell? ⟨w.heap.size, 3, none⟩ = some (.slice ba x.b.length bc) := hbx.cell 3
     clear hbx
     have CT := Lib.hid (mtake_yes w' gm left (4 + (ss.size : Int) + 1) (HM.out.keep HB.out) (by omega) hroom hl)
     clear hb
     go_wp2_with fail
     refine CT.out.mono ?_
     rintro e w2 ⟨rfl, hM2, hg2⟩
     have HM2 := Lib.hid hM2
     have HG2 := Lib.hid hg2
     clear hM2 hg2
     have c22 := grown_cell HG2.out c2 (fun e => by have := HM.out.lt; omega)
     have CV := Lib.hid (hV.out w2 ((HT.out.keep HB.out).metered (HM.out.keep HB.out) HG2.out))
     go_wp2_with fail
     refine CV.out.mono ?_
     rintro e w3 ⟨rfl, hb3⟩
     have HB3 := Lib.hid hb3
     clear hb3
     go_wp2_with fail
     go_ret
     obtain ⟨l, hl⟩ := HY.out
     exact mpost_yes (grown_then (grown_then (grown_of_below HB.out gm) HG2.out) (grown_of_below HB3.out gm)) hl (HLN.out l hl) hroom (HM2.out.keep HB3.out)
    ·go_enter Tryd.func50, Tryd.ntmps50
     go_wp2_with fail
     refine CB.out.mono ?_
     rintro e w' ⟨rfl, hb⟩
     have hbx := (Boxed.refl w _ _).step hb
     have HB := Lib.hid hbx.below
     have c0 : w'.cell? ⟨w.heap.size, 0, none⟩ = some (.int .i64 5) := hbx.cell 0
     have c1 : w'.cell? ⟨w.heap.size, 1, none⟩ = some (.int .i64 nn) := hbx.cell 1
     have c2 : w'.cell? ⟨w.heap.size, 2, none⟩ = some (.string ss) := hbx.cell 2
     have c3 : w'.cell? ⟨w.heap.size, 3, none⟩ = some (.slice ba x.b.length bc) := hbx.cell 3
     clear hbx
     have CT := Lib.hid (mtake_no w' gm left (4 + (ss.size : Int) + 1) (HM.out.keep HB.out) (by omega))
     clear hb
     go_wp2_with fail
     refine CT.out.mono ?_
     rintro e w2 ⟨rfl, rfl⟩
     go_wp2_with fail
     go_ret
     refine mpost_no (grown_of_below HB.out gm) ?_
     intro l hl
     have := HLN.out l hl
     omega
   ·rw [if_neg hu] at hs
    have HS := Lib.hid hs
    have hu' : Lib.validD x.s.data.toList = false := (show Bson.u8 x.s = false by simpa using hu)
    have hV := fun w' (ht : Tabs8 w') => Tryd.utf8_ValidString x.s w' (by omega) (tabs_lib ht)
    rw [hu'] at hV
    replace hV := Lib.hid hV
    clear hs hu hu'
    generalize x.s = ss at *
    generalize Bson.scalar x = SC at *
    generalize x.kind = kd at *
    generalize x.n = nn at *
    replace CB := Lib.hid CB
    clear hbare
    subst k
    by_cases hroom : 4 + (ss.size : Int) + 1 ≤ left
    ·go_enter Tryd.func50, Tryd.ntmps50
     go_wp2_with fail
     refine CB.out.mono ?_
     rintro e w' ⟨rfl, hb⟩
     have hbx := (Boxed.refl w _ _).step hb
     have HB := Lib.hid hbx.below
     have c0 : w'.cell? ⟨w.heap.size, 0, none⟩ = some (.int .i64 5) := hbx.cell 0
     have c1 : w'.cell? ⟨w.heap.size, 1, none⟩ = some (.int .i64 nn) := hbx.cell 1
     have c2 : w'.cell? ⟨w.heap.size, 2, none⟩ = some (.string ss) := hbx.cell 2
     have c3 : w'.cell? ⟨w.heap.size, 3, none⟩ = some (.slice ba x.b.length bc) := hbx.cell 3
     clear hbx
     have CT := Lib.hid (mtake_yes w' gm left (4 + (ss.size : Int) + 1) (HM.out.keep HB.out) (by omega) hroom hl)
     clear hb
     go_wp2_with fail
     refine CT.out.mono ?_
     rintro e w2 ⟨rfl, hM2, hg2⟩
     have HM2 := Lib.hid hM2
     have HG2 := Lib.hid hg2
     clear hM2 hg2
     have c22 := grown_cell HG2.out c2 (fun e => by have := HM.out.lt; omega)
     have CV := Lib.hid (hV.out w2 ((HT.out.keep HB.out).metered (HM.out.keep HB.out) HG2.out))
     go_wp2_with fail
     refine CV.out.mono ?_
     rintro e w3 ⟨rfl, hb3⟩
     have HB3 := Lib.hid hb3
     clear hb3
     go_wp2_with fail
     go_ret
     exact mpost_no (grown_then (grown_then (grown_of_below HB.out gm) HG2.out) (grown_of_below HB3.out gm)) (by rw [HS.out]; nofun)
    ·go_enter Tryd.func50, Tryd.ntmps50
     go_wp2_with fail
     refine CB.out.mono ?_
     rintro e w' ⟨rfl, hb⟩
     have hbx := (Boxed.refl w _ _).step hb
     have HB := Lib.hid hbx.below
     have c0 : w'.cell? ⟨w.heap.size, 0, none⟩ = some (.int .i64 5) := hbx.cell 0
     have c1 : w'.cell? ⟨w.heap.size, 1, none⟩ = some (.int .i64 nn) := hbx.cell 1
     have c2 : w'.cell? ⟨w.heap.size, 2, none⟩ = some (.string ss) := hbx.cell 2
     have c3 : w'.cell? ⟨w.heap.size, 3, none⟩ = some (.slice ba x.b.length bc) := hbx.cell 3
     clear hbx
     have CT := Lib.hid (mtake_no w' gm left (4 + (ss.size : Int) + 1) (HM.out.keep HB.out) (by omega))
     clear hb
     go_wp2_with fail
     refine CT.out.mono ?_
     rintro e w2 ⟨rfl, rfl⟩
     go_wp2_with fail
     go_ret
     refine mpost_no (grown_of_below HB.out gm) ?_
     intro l hl
     have := HLN.out l hl
     omega
  by_cases k8 : x.kind = 8
  ·have k := k8
   clear k8
   have hs := scalar_8 x k hbare
   have HLN := Lib.hid (show ∀ l, Bson.scalar x = some l → (l.length : Int) = 5 + (x.b.length : Int) by rw [hs]; rintro l ⟨⟩; rw [List.length_append, Bson.leI_length, List.length_cons]; omega)
   have HY := Lib.hid (show ∃ l, Bson.scalar x = some l from ⟨_, hs⟩)
   have hw1 : IntKind.i64.wrap (5 + (x.b.length : Int)) = 5 + (x.b.length : Int) := IntWalk.i64_in _ (by omega)
   clear hs
   generalize x.b.length = bn at *
   generalize Bson.scalar x = SC at *
   generalize x.kind = kd at *
   generalize x.n = nn at *
   replace CB := Lib.hid CB
   clear hbare
   subst k
   by_cases hroom : 5 + (bn : Int) ≤ left
   ·go_enter Tryd.func50, Tryd.ntmps50
    go_wp2_with fail
    refine CB.out.mono ?_
    rintro e w' ⟨rfl, hb⟩
    have hbx := (Boxed.refl w _ _).step hb
    have HB := Lib.hid hbx.below
    have c0 : w'.cell? ⟨w.heap.size, 0, none⟩ = some (.int .i64 8) := hbx.cell 0
    have c1 : w'.cell? ⟨w.heap.size, 1, none⟩ = some (.int .i64 nn) := hbx.cell 1
    have c2 : w'.cell? ⟨w.heap.size, 2, none⟩ = some (.string x.s) := hbx.cell 2
    have c3 : w'.cell? ⟨w.heap.size, 3, none⟩ = some (.slice ba bn bc) := hbx.cell 3
    clear hbx
    have CT := Lib.hid (mtake_yes w' gm left (5 + (bn : Int)) (HM.out.keep HB.out) (by omega) hroom hl)
    clear hb
    go_wp2_with fail
    refine CT.out.mono ?_
    rintro e w2 ⟨rfl, hM2, hg2⟩
    have HM2 := Lib.hid hM2
    have HG2 := Lib.hid hg2
    clear hM2 hg2
    go_wp2_with fail
    go_ret
    obtain ⟨l, hl⟩ := HY.out
    exact mpost_yes (grown_then (grown_of_below HB.out gm) HG2.out) hl (HLN.out l hl) hroom HM2.out
   ·go_enter Tryd.func50, Tryd.ntmps50
    go_wp2_with fail
    refine CB.out.mono ?_
    rintro e w' ⟨rfl, hb⟩
    have hbx := (Boxed.refl w _ _).step hb
    have HB := Lib.hid hbx.below
    have c0 : w'.cell? ⟨w.heap.size, 0, none⟩ = some (.int .i64 8) := hbx.cell 0
    have c1 : w'.cell? ⟨w.heap.size, 1, none⟩ = some (.int .i64 nn) := hbx.cell 1
    have c2 : w'.cell? ⟨w.heap.size, 2, none⟩ = some (.string x.s) := hbx.cell 2
    have c3 : w'.cell? ⟨w.heap.size, 3, none⟩ = some (.slice ba bn bc) := hbx.cell 3
    clear hbx
    have CT := Lib.hid (mtake_no w' gm left (5 + (bn : Int)) (HM.out.keep HB.out) (by omega))
    clear hb
    go_wp2_with fail
    refine CT.out.mono ?_
    rintro e w2 ⟨rfl, rfl⟩
    go_wp2_with fail
    go_ret
    refine mpost_no (grown_of_below HB.out gm) ?_
    intro l hl
    have := HLN.out l hl
    omega
  by_cases k9 : x.kind = 9
  ·have k := k9
   clear k9
   have hs := scalar_9 x k hbare
   have hlb : ∀ n, x.b.length = n → True := fun _ _ => trivial
   by_cases hr : x.b.length = 12
   ·rw [if_pos hr] at hs
    have HLN := Lib.hid (show ∀ l, Bson.scalar x = some l → (l.length : Int) = 12 by rw [hs]; rintro l ⟨⟩; rw [hr]; rfl)
    have HY := Lib.hid (show ∃ l, Bson.scalar x = some l from ⟨_, hs⟩)
    clear hs hlb
    generalize x.b.length = bn at *
    generalize Bson.scalar x = SC at *
    generalize x.kind = kd at *
    generalize x.n = nn at *
    replace CB := Lib.hid CB
    clear hbare
    subst k
    subst hr
    by_cases hroom : 12 ≤ left
    ·go_enter Tryd.func50, Tryd.ntmps50
     go_wp2_with fail
     refine CB.out.mono ?_
     rintro e w' ⟨rfl, hb⟩
     have hbx := (Boxed.refl w _ _).step hb
     have HB := Lib.hid hbx.below
     have c0 : w'.cell? ⟨w.heap.size, 0, none⟩ = some (.int .i64 9) := hbx.cell 0
     have c1 : w'.cell? ⟨w.heap.size, 1, none⟩ = some (.int .i64 nn) := hbx.cell 1
     have c2 : w'.cell? ⟨w.heap.size, 2, none⟩ = some (.string x.s) := hbx.cell 2
     have c3 : w'.cell? ⟨w.heap.size, 3, none⟩ = some (.slice ba 12 bc) := hbx.cell 3
     clear hbx
     have CT := Lib.hid (mtake_yes w' gm left (12) (HM.out.keep HB.out) (by omega) hroom hl)
     clear hb
     go_wp2_with fail
     refine CT.out.mono ?_
     rintro e w2 ⟨rfl, hM2, hg2⟩
     have HM2 := Lib.hid hM2
     have HG2 := Lib.hid hg2
     clear hM2 hg2
     go_wp2_with fail
     go_ret
     obtain ⟨l, hl⟩ := HY.out
     exact mpost_yes (grown_then (grown_of_below HB.out gm) HG2.out) hl (HLN.out l hl) hroom HM2.out
    ·go_enter Tryd.func50, Tryd.ntmps50
     go_wp2_with fail
     refine CB.out.mono ?_
     rintro e w' ⟨rfl, hb⟩
     have hbx := (Boxed.refl w _ _).step hb
     have HB := Lib.hid hbx.below
     have c0 : w'.cell? ⟨w.heap.size, 0, none⟩ = some (.int .i64 9) := hbx.cell 0
     have c1 : w'.cell? ⟨w.heap.size, 1, none⟩ = some (.int .i64 nn) := hbx.cell 1
     have c2 : w'.cell? ⟨w.heap.size, 2, none⟩ = some (.string x.s) := hbx.cell 2
     have c3 : w'.cell? ⟨w.heap.size, 3, none⟩ = some (.slice ba 12 bc) := hbx.cell 3
     clear hbx
     have CT := Lib.hid (mtake_no w' gm left (12) (HM.out.keep HB.out) (by omega))
     clear hb
     go_wp2_with fail
     refine CT.out.mono ?_
     rintro e w2 ⟨rfl, rfl⟩
     go_wp2_with fail
     go_ret
     refine mpost_no (grown_of_below HB.out gm) ?_
     intro l hl
     have := HLN.out l hl
     omega
   rw [if_neg hr] at hs
   have HS := Lib.hid hs
   have hr2 : ¬ ((x.b.length : Int) = 12) := by omega
   clear hs hlb
   generalize x.b.length = bn at *
   generalize Bson.scalar x = SC at *
   generalize x.kind = kd at *
   generalize x.n = nn at *
   replace CB := Lib.hid CB
   clear hbare
   subst k
   go_enter Tryd.func50, Tryd.ntmps50
   go_wp2_with fail
   refine CB.out.mono ?_
   rintro e w' ⟨rfl, hb⟩
   have hbx := (Boxed.refl w _ _).step hb
   have HB := Lib.hid hbx.below
   have c0 : w'.cell? ⟨w.heap.size, 0, none⟩ = some (.int .i64 9) := hbx.cell 0
   have c1 : w'.cell? ⟨w.heap.size, 1, none⟩ = some (.int .i64 nn) := hbx.cell 1
   have c2 : w'.cell? ⟨w.heap.size, 2, none⟩ = some (.string x.s) := hbx.cell 2
   have c3 : w'.cell? ⟨w.heap.size, 3, none⟩ = some (.slice ba bn bc) := hbx.cell 3
   clear hbx
   clear hb
   go_wp2_with fail
   go_ret
   exact mpost_no (grown_of_below HB.out gm) (by rw [HS.out]; nofun)
  have hs : Bson.scalar x = none := by
   unfold Bson.scalar Bson.scalarP
   simp [*]
  have HS := Lib.hid hs
  clear hs
  generalize Bson.scalar x = SC at *
  generalize x.kind = kd at *
  generalize x.n = nn at *
  replace CB := Lib.hid CB
  clear hbare
  go_enter Tryd.func50, Tryd.ntmps50
  go_wp2_with fail
  refine CB.out.mono ?_
  rintro e w' ⟨rfl, hb⟩
  have hbx := (Boxed.refl w _ _).step hb
  have HB := Lib.hid hbx.below
  have c0 : w'.cell? ⟨w.heap.size, 0, none⟩ = some (.int .i64 kd) := hbx.cell 0
  have c1 : w'.cell? ⟨w.heap.size, 1, none⟩ = some (.int .i64 nn) := hbx.cell 1
  have c2 : w'.cell? ⟨w.heap.size, 2, none⟩ = some (.string x.s) := hbx.cell 2
  have c3 : w'.cell? ⟨w.heap.size, 3, none⟩ = some (.slice ba x.b.length bc) := hbx.cell 3
  clear hbx
  clear hb
  go_wp2_with fail
  go_ret
  exact mpost_no (grown_of_below HB.out gm) (by rw [HS.out]; nofun)
end Go.Proofs.YtngllchoiffniaaDoor
end
