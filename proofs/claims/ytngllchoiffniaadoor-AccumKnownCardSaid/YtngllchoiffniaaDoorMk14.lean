/- BsonMDeep. -/
import Derived.Test.YtngllchoiffniaaDoorMk13
set_option maxRecDepth 100000
set_option maxHeartbeats 20000000
section
namespace Go.Proofs.YtngllchoiffniaaDoor
open Go.RowKit
open Seal
open Bson (Val)
theorem wrap_length (l : List Nat) : (Bson.wrap l).length = l.length + 5 := by
 unfold Bson.wrap
 rw [List.length_append, Bson.leI_length, List.length_append]
 simp; omega
def wrapB (x : Val) (S : Option (List Nat)) : Option (List Nat) := if bareB x = true then S.map Bson.wrap else none
theorem mdoc_any (Q : Nat → Prop) (h : Nat) (x : Val) (w : World) (gm : Nat) (left depth : Int) (ba fa la : Option Addr) (bc fc lc : Nat) (S : Option (List Nat)) (hd0 : 0 ≤ depth) (hd1 : depth ≤ 100) (hk : x.kind = 6)
  (CI : ∀ w2 left2, VIn w2 Q h x (agg x ba fa la bc fc lc) → Mtr w2 gm left2 → 0 ≤ left2 → left2 ≤ 65536 → Tabs w2 → depth ≤ 32 → Calls Tryd.prog 65 #[.pointer (some ⟨gm, 0, none⟩), .slice fa x.f.length fc, .int .i64 depth] w2 (MPost gm left2 S w2))
  (hv : VIn w Q h x (agg x ba fa la bc fc lc)) (hM : Mtr w gm left) (hl0 : 0 ≤ left) (hl : left ≤ 65536) (hT : Tabs w) :
  Calls Tryd.prog 50 #[.pointer (some ⟨gm, 0, none⟩), agg x ba fa la bc fc lc, .int .i64 depth] w (MPost gm left (if depth ≤ 32 then wrapB x S else none) w) := by
 have CB := bare_any Q h x _ (w.alloc (.cells #[.int .i64 x.kind, .int .i64 x.n, .string x.s, .slice ba x.b.length bc, .slice fa x.f.length fc, .slice la x.l.length lc] 32)) (hv.keep ((Below.refl _ w).alloc (Nat.le_refl _) _))
 have HV := Lib.hid hv
 replace CI := Lib.hid CI
 obtain ⟨T, hTe⟩ : ∃ T, T = (if depth ≤ 32 then wrapB x S else none) := ⟨_, rfl⟩
 rw [← hTe]
 have hbe : ∀ b, bareB x = b → T = (if depth ≤ 32 then (if b = true then S.map Bson.wrap else none) else none) := by
  rintro b rfl; exact hTe
 clear hTe hv
 unfold agg at CB ⊢
 have HM := Lib.hid hM
 have HT := Lib.hid hT
 obtain ⟨fn, hfn⟩ : ∃ fn, fn = x.f.length := ⟨_, rfl⟩
 obtain ⟨ln, hln⟩ : ∃ ln, ln = x.l.length := ⟨_, rfl⟩
 rw [← hfn] at CB ⊢; rw [← hln] at CB ⊢
 have HFN := Lib.hid hfn
 have HLN := Lib.hid hln
 clear hM hT hfn hln
 rw [hk] at CB ⊢
 by_cases hbf : bareB x = false
 ·rw [hbf] at CB
  have HS := Lib.hid (hbe _ hbf)
  replace CB := Lib.hid CB
  clear hbf hbe
  go_enter Tryd.func50, Tryd.ntmps50
  go_wp2_with fail
  refine CB.out.mono ?_
  rintro e w' ⟨rfl, hb⟩
  have hbx := (Boxed.refl w _ _).step hb
  have HB := Lib.hid hbx.below
  have c0 : w'.cell? ⟨w.heap.size, 0, none⟩ = some (.int .i64 6) := hbx.cell 0
  have c4 : w'.cell? ⟨w.heap.size, 4, none⟩ = some (.slice fa fn fc) := hbx.cell 4
  have c5 : w'.cell? ⟨w.heap.size, 5, none⟩ = some (.slice la ln lc) := hbx.cell 5
  clear hb hbx
  go_wp2_with fail
  go_ret
  exact mpost_no (grown_of_below HB.out gm) (by rw [HS.out]; intro l h; split at h <;> simp at h)
 have hbare : bareB x = true := by simpa using hbf
 clear hbf
 have hs := hbe _ hbare
 rw [if_pos rfl] at hs
 rw [hbare] at CB
 replace CB := Lib.hid CB
 clear hbare hbe
 by_cases hdp : depth ≤ 32
 ·rw [if_pos hdp] at hs
  have HS := Lib.hid hs
  clear hs
  by_cases hroom : 5 ≤ left
  ·go_enter Tryd.func50, Tryd.ntmps50
   go_wp2_with fail
   refine CB.out.mono ?_
   rintro e w' ⟨rfl, hb⟩
   have hbx := (Boxed.refl w _ _).step hb
   have HB := Lib.hid hbx.below
   have c0 : w'.cell? ⟨w.heap.size, 0, none⟩ = some (.int .i64 6) := hbx.cell 0
   have c4 : w'.cell? ⟨w.heap.size, 4, none⟩ = some (.slice fa fn fc) := hbx.cell 4
   have c5 : w'.cell? ⟨w.heap.size, 5, none⟩ = some (.slice la ln lc) := hbx.cell 5
   clear hb hbx
   have CT := Lib.hid (mtake_yes w' gm left 5 (HM.out.keep HB.out) (by omega) hroom hl)
   have hne : w.heap.size ≠ gm := by have := HM.out.lt; omega
   go_wp2_with fail
   refine CT.out.mono ?_
   rintro e w2 ⟨rfl, hM2, hg2⟩
   have HM2 := Lib.hid hM2
   have HG2 := Lib.hid (grown_then (grown_of_below HB.out gm) hg2)
   have c4' := grown_cell hg2 c4 hne
   have CF := Lib.hid (CI.out w2 (left - 5) (VIn.metered HM.out HG2.out HV.out) hM2 (by omega) (by omega) (HT.out.metered HM.out HG2.out) hdp)
   rw [← HFN.out] at CF
   clear hM2 hg2 c0 c4 c5
   go_wp2_with fail
   refine CF.out.mono ?_
   rintro e w3 ⟨b, rfl, hg3, hyes, hno⟩
   have HG3 := Lib.hid (grown_then HG2.out hg3)
   have HY := Lib.hid hyes
   have HN := Lib.hid hno
   clear hg3 hyes hno
   go_wp2_with fail
   all_goals go_ret
   cases b with
   | false =>
    refine mpost_no HG3.out ?_
    intro l hl
    rw [HS.out] at hl
    obtain ⟨l0, h1, rfl⟩ := Option.map_eq_some_iff.1 hl
    rw [wrap_length]
    have := HN.out rfl
    by_cases hle : (l0.length : Int) ≤ left - 5
    ·exact absurd ⟨l0, h1, hle⟩ this
    ·omega
   | true =>
    obtain ⟨l0, h1, h2, h3⟩ := HY.out rfl
    refine ⟨true, rfl, HG3.out, fun _ => ⟨Bson.wrap l0, by rw [HS.out, h1]; rfl, by rw [wrap_length]; omega, ?_⟩, nofun⟩
    rw [wrap_length, show left - ((l0.length + 5 : Nat) : Int) = left - 5 - l0.length by omega]
    exact h3
  ·go_enter Tryd.func50, Tryd.ntmps50
   go_wp2_with fail
   refine CB.out.mono ?_
   rintro e w' ⟨rfl, hb⟩
   have hbx := (Boxed.refl w _ _).step hb
   have HB := Lib.hid hbx.below
   have c0 : w'.cell? ⟨w.heap.size, 0, none⟩ = some (.int .i64 6) := hbx.cell 0
   have c4 : w'.cell? ⟨w.heap.size, 4, none⟩ = some (.slice fa fn fc) := hbx.cell 4
   have c5 : w'.cell? ⟨w.heap.size, 5, none⟩ = some (.slice la ln lc) := hbx.cell 5
   clear hb hbx
   have CT := Lib.hid (mtake_no w' gm left 5 (HM.out.keep HB.out) (by omega))
   go_wp2_with fail
   refine CT.out.mono ?_
   rintro e w2 ⟨rfl, rfl⟩
   go_wp2_with fail
   go_ret
   refine mpost_no (grown_of_below HB.out gm) ?_
   intro l hl
   rw [HS.out] at hl
   obtain ⟨l0, h1, rfl⟩ := Option.map_eq_some_iff.1 hl
   rw [wrap_length]
   omega
 ·rw [if_neg hdp] at hs
  have HS := Lib.hid hs
  clear hs
  go_enter Tryd.func50, Tryd.ntmps50
  go_wp2_with fail
  refine CB.out.mono ?_
  rintro e w' ⟨rfl, hb⟩
  have hbx := (Boxed.refl w _ _).step hb
  have HB := Lib.hid hbx.below
  have c0 : w'.cell? ⟨w.heap.size, 0, none⟩ = some (.int .i64 6) := hbx.cell 0
  have c4 : w'.cell? ⟨w.heap.size, 4, none⟩ = some (.slice fa fn fc) := hbx.cell 4
  have c5 : w'.cell? ⟨w.heap.size, 5, none⟩ = some (.slice la ln lc) := hbx.cell 5
  clear hb hbx
  go_wp2_with fail
  go_ret
  exact mpost_no (grown_of_below HB.out gm) (by rw [HS.out]; nofun)
theorem mlist_any (Q : Nat → Prop) (h : Nat) (x : Val) (w : World) (gm : Nat) (left depth : Int) (ba fa la : Option Addr) (bc fc lc : Nat) (S : Option (List Nat)) (hd0 : 0 ≤ depth) (hd1 : depth ≤ 100) (hk : x.kind = 7)
  (CI : ∀ w2 left2, VIn w2 Q h x (agg x ba fa la bc fc lc) → Mtr w2 gm left2 → 0 ≤ left2 → left2 ≤ 65536 → Tabs w2 → depth ≤ 32 → Calls Tryd.prog 66 #[.pointer (some ⟨gm, 0, none⟩), .slice la x.l.length lc, .int .i64 depth] w2 (MPost gm left2 S w2))
  (hv : VIn w Q h x (agg x ba fa la bc fc lc)) (hM : Mtr w gm left) (hl0 : 0 ≤ left) (hl : left ≤ 65536) (hT : Tabs w) :
  Calls Tryd.prog 50 #[.pointer (some ⟨gm, 0, none⟩), agg x ba fa la bc fc lc, .int .i64 depth] w (MPost gm left (if depth ≤ 32 then wrapB x S else none) w) := by
 have CB := bare_any Q h x _ (w.alloc (.cells #[.int .i64 x.kind, .int .i64 x.n, .string x.s, .slice ba x.b.length bc, .slice fa x.f.length fc, .slice la x.l.length lc] 32)) (hv.keep ((Below.refl _ w).alloc (Nat.le_refl _) _))
 have HV := Lib.hid hv
 replace CI := Lib.hid CI
 obtain ⟨T, hTe⟩ : ∃ T, T = (if depth ≤ 32 then wrapB x S else none) := ⟨_, rfl⟩
 rw [← hTe]
 have hbe : ∀ b, bareB x = b → T = (if depth ≤ 32 then (if b = true then S.map Bson.wrap else none) else none) := by
  rintro b rfl; exact hTe
 clear hTe hv
 unfold agg at CB ⊢
 have HM := Lib.hid hM
 have HT := Lib.hid hT
 obtain ⟨fn, hfn⟩ : ∃ fn, fn = x.f.length := ⟨_, rfl⟩
 obtain ⟨ln, hln⟩ : ∃ ln, ln = x.l.length := ⟨_, rfl⟩
 rw [← hfn] at CB ⊢; rw [← hln] at CB ⊢
 have HFN := Lib.hid hfn
 have HLN := Lib.hid hln
 clear hM hT hfn hln
 rw [hk] at CB ⊢
 by_cases hbf : bareB x = false
 ·rw [hbf] at CB
  have HS := Lib.hid (hbe _ hbf)
  replace CB := Lib.hid CB
  clear hbf hbe
  go_enter Tryd.func50, Tryd.ntmps50
  go_wp2_with fail
  refine CB.out.mono ?_
  rintro e w' ⟨rfl, hb⟩
  have hbx := (Boxed.refl w _ _).step hb
  have HB := Lib.hid hbx.below
  have c0 : w'.cell? ⟨w.heap.size, 0, none⟩ = some (.int .i64 7) := hbx.cell 0
  have c4 : w'.cell? ⟨w.heap.size, 4, none⟩ = some (.slice fa fn fc) := hbx.cell 4
  have c5 : w'.cell? ⟨w.heap.size, 5, none⟩ = some (.slice la ln lc) := hbx.cell 5
  clear hb hbx
  go_wp2_with fail
  go_ret
  exact mpost_no (grown_of_below HB.out gm) (by rw [HS.out]; intro l h; split at h <;> simp at h)
 have hbare : bareB x = true := by simpa using hbf
 clear hbf
 have hs := hbe _ hbare
 rw [if_pos rfl] at hs
 rw [hbare] at CB
 replace CB := Lib.hid CB
 clear hbare hbe
 by_cases hdp : depth ≤ 32
 ·rw [if_pos hdp] at hs
  have HS := Lib.hid hs
  clear hs
  by_cases hroom : 5 ≤ left
  ·go_enter Tryd.func50, Tryd.ntmps50
   go_wp2_with fail
   refine CB.out.mono ?_
   rintro e w' ⟨rfl, hb⟩
   have hbx := (Boxed.refl w _ _).step hb
   have HB := Lib.hid hbx.below
   have c0 : w'.cell? ⟨w.heap.size, 0, none⟩ = some (.int .i64 7) := hbx.cell 0
   have c4 : w'.cell? ⟨w.heap.size, 4, none⟩ = some (.slice fa fn fc) := hbx.cell 4
   have c5 : w'.cell? ⟨w.heap.size, 5, none⟩ = some (.slice la ln lc) := hbx.cell 5
   clear hb hbx
   have CT := Lib.hid (mtake_yes w' gm left 5 (HM.out.keep HB.out) (by omega) hroom hl)
   have hne : w.heap.size ≠ gm := by have := HM.out.lt; omega
   go_wp2_with fail
   refine CT.out.mono ?_
   rintro e w2 ⟨rfl, hM2, hg2⟩
   have HM2 := Lib.hid hM2
   have HG2 := Lib.hid (grown_then (grown_of_below HB.out gm) hg2)
   have c5' := grown_cell hg2 c5 hne
   have CF := Lib.hid (CI.out w2 (left - 5) (VIn.metered HM.out HG2.out HV.out) hM2 (by omega) (by omega) (HT.out.metered HM.out HG2.out) hdp)
   rw [← HLN.out] at CF
   clear hM2 hg2 c0 c4 c5
   go_wp2_with fail
   refine CF.out.mono ?_
   rintro e w3 ⟨b, rfl, hg3, hyes, hno⟩
   have HG3 := Lib.hid (grown_then HG2.out hg3)
   have HY := Lib.hid hyes
   have HN := Lib.hid hno
   clear hg3 hyes hno
   go_wp2_with fail
   all_goals go_ret
   cases b with
   | false =>
    refine mpost_no HG3.out ?_
    intro l hl
    rw [HS.out] at hl
    obtain ⟨l0, h1, rfl⟩ := Option.map_eq_some_iff.1 hl
    rw [wrap_length]
    have := HN.out rfl
    by_cases hle : (l0.length : Int) ≤ left - 5
    ·exact absurd ⟨l0, h1, hle⟩ this
    ·omega
   | true =>
    obtain ⟨l0, h1, h2, h3⟩ := HY.out rfl
    refine ⟨true, rfl, HG3.out, fun _ => ⟨Bson.wrap l0, by rw [HS.out, h1]; rfl, by rw [wrap_length]; omega, ?_⟩, nofun⟩
    rw [wrap_length, show left - ((l0.length + 5 : Nat) : Int) = left - 5 - l0.length by omega]
    exact h3
  ·go_enter Tryd.func50, Tryd.ntmps50
   go_wp2_with fail
   refine CB.out.mono ?_
   rintro e w' ⟨rfl, hb⟩
   have hbx := (Boxed.refl w _ _).step hb
   have HB := Lib.hid hbx.below
   have c0 : w'.cell? ⟨w.heap.size, 0, none⟩ = some (.int .i64 7) := hbx.cell 0
   have c4 : w'.cell? ⟨w.heap.size, 4, none⟩ = some (.slice fa fn fc) := hbx.cell 4
   have c5 : w'.cell? ⟨w.heap.size, 5, none⟩ = some (.slice la ln lc) := hbx.cell 5
   clear hb hbx
   have CT := Lib.hid (mtake_no w' gm left 5 (HM.out.keep HB.out) (by omega))
   go_wp2_with fail
   refine CT.out.mono ?_
   rintro e w2 ⟨rfl, rfl⟩
   go_wp2_with fail
   go_ret
   refine mpost_no (grown_of_below HB.out gm) ?_
   intro l hl
   rw [HS.out] at hl
   obtain ⟨l0, h1, rfl⟩ := Option.map_eq_some_iff.1 hl
   rw [wrap_length]
   omega
 ·rw [if_neg hdp] at hs
  have HS := Lib.hid hs
  clear hs
  go_enter Tryd.func50, Tryd.ntmps50
  go_wp2_with fail
  refine CB.out.mono ?_
  rintro e w' ⟨rfl, hb⟩
  have hbx := (Boxed.refl w _ _).step hb
  have HB := Lib.hid hbx.below
  have c0 : w'.cell? ⟨w.heap.size, 0, none⟩ = some (.int .i64 7) := hbx.cell 0
  have c4 : w'.cell? ⟨w.heap.size, 4, none⟩ = some (.slice fa fn fc) := hbx.cell 4
  have c5 : w'.cell? ⟨w.heap.size, 5, none⟩ = some (.slice la ln lc) := hbx.cell 5
  clear hb hbx
  go_wp2_with fail
  go_ret
  exact mpost_no (grown_of_below HB.out gm) (by rw [HS.out]; nofun)
end Go.Proofs.YtngllchoiffniaaDoor
end
