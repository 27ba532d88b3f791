/- BsonWeight. -/
import Derived.IntWalk
import Derived.Test.YtngllchoiffniaaGreatDoorMo2
set_option maxRecDepth 100000
set_option maxHeartbeats 20000000
section
namespace Go.Proofs.YtngllchoiffniaaGreatDoor
open Go.RowKit
open Seal
open Bson (Val)
def wt : Nat → Val → Nat
 | 0, _ => 0
 | h + 1, x => 1 + x.s.size + x.b.length + (x.f.map fun p => p.1.size + wt h p.2).sum + (x.l.map (wt h)).sum
def fieldsWt (h : Nat) (f : List (ByteArray × Val)) : Nat := (f.map fun p => p.1.size + wt h p.2).sum
def itemsWt (h : Nat) (l : List Val) : Nat := (l.map (wt h)).sum
theorem fieldsWt_snoc (h : Nat) (f : List (ByteArray × Val)) (k : Nat) (hk : k < f.length) : fieldsWt h (f.take (k + 1)) = fieldsWt h (f.take k) + (f[k].1.size + wt h f[k].2) := by
 rw [List.take_succ_eq_append_getElem hk]; unfold fieldsWt; rw [List.map_append, List.sum_append]; simp only [List.map_cons, List.map_nil, List.sum_cons, List.sum_nil, Nat.add_zero]
theorem itemsWt_snoc (h : Nat) (l : List Val) (k : Nat) (hk : k < l.length) : itemsWt h (l.take (k + 1)) = itemsWt h (l.take k) + wt h l[k] := by
 rw [List.take_succ_eq_append_getElem hk]; unfold itemsWt; rw [List.map_append, List.sum_append]; simp only [List.map_cons, List.map_nil, List.sum_cons, List.sum_nil, Nat.add_zero]
def WtPost (w : World) (h : Nat) (x : Val) (m : Int) (e : Ending) (w' : World) : Prop := ∃ r : Int, e = .returned (.int .i64 r) ∧ 1 ≤ r ∧ r ≤ (max m 0 + 3) * 281474976710656 ∧ (r ≤ m → r = (wt h x : Nat)) ∧ Below w.heap.size w w'
theorem weight_step (Q : Nat → Prop) (h : Nat) (IH0 : ∀ (x : Val) (v : Value) (m : Int) (w : World), VIn w Q h x v → -9223372036854775808 ≤ m → m ≤ 3000 → Calls Tryz.prog 20 #[v, .int .i64 m] w (WtPost w h x m)) (x : Val) (v : Value) (m : Int) (w : World) (hv : VIn w Q (h + 1) x v) (h0 : -9223372036854775808 ≤ m) (h1 : m ≤ 3000) : Calls Tryz.prog 20 #[v, .int .i64 m] w (WtPost w (h + 1) x m) := by
 obtain ⟨ba, fa, la, bc, fc, lc, rfl, hL, hb, hf, hl, hB, hF, hI⟩ := hv
 unfold agg
 have IH := Lib.hid IH0
 clear IH0
 have HF := Lib.hid hF; have HI := Lib.hid hI
 obtain ⟨fn, hfn⟩ : ∃ fn, fn = x.f.length := ⟨_, rfl⟩
 obtain ⟨ln, hln⟩ : ∃ ln, ln = x.l.length := ⟨_, rfl⟩
 obtain ⟨sn, hsn⟩ : ∃ sn, sn = x.s.size := ⟨_, rfl⟩
 obtain ⟨bn, hbn⟩ : ∃ bn, bn = x.b.length := ⟨_, rfl⟩
 have hfl := hL.f; have hll := hL.l; have hsl := hL.s; have hbl := hL.b
 rw [← hfn] at hfl ⊢; rw [← hln] at hll ⊢; rw [← hsn] at hsl; rw [← hbn] at hbl ⊢
 have HFN := Lib.hid hfn; have HLN := Lib.hid hln; have HSN := Lib.hid hsn; have HBN := Lib.hid hbn
 clear hF hI hB hb hL hf hl hfn hln hbn
 obtain ⟨cs, hcs⟩ : ∃ cs, cs = #[Value.int .i64 x.kind, .int .i64 x.n, .string x.s, .slice ba bn bc, .slice fa fn fc, .slice la ln lc] := ⟨_, rfl⟩
 have HC := Lib.hid hcs; clear hcs
 have hsz : (x.s.size : Int) = (sn : Int) := by rw [hsn]
 clear hsn
 go_enter Tryz.func20, Tryz.ntmps20
 go_wp2
 go_loopw [5, 6] (fun n i wr => ∃ (k : Nat) (q : Int), i = .int .i64 k ∧ n = .int .i64 q ∧ k ≤ fn ∧ 1 ≤ q ∧ q ≤ (max m 0 + 3) * 281474976710656 ∧ Hid (q ≤ m → q = ((1 + sn + bn + fieldsWt h (x.f.take k) : Nat) : Int)) ∧ Hid (Boxed w cs 35 wr)) (fun _ i _ => fn - (intOf i).toNat)
 case atStart =>
  exact ⟨0, _, rfl, rfl, Nat.zero_le _, by omega, by omega, fun _ => by simp [fieldsWt], by rw [HC.out]; exact Boxed.refl _ _ _⟩
 case round =>
  obtain ⟨k, q, rfl, rfl, hk, hq0, hq1, hq, hbx⟩ := hrel
  have c4 : wr.cell? ⟨w.heap.size, 4, none⟩ = some (.slice fa fn fc) := by rw [hbx.out.cell, HC.out]; rfl
  have c5 : wr.cell? ⟨w.heap.size, 5, none⟩ = some (.slice la ln lc) := by rw [hbx.out.cell, HC.out]; rfl
  by_cases hlt : k < fn
  ·by_cases hqm : q ≤ m
   ·obtain ⟨g, o, hfa, _, hall⟩ := HF.out.resolve_left (fun e => by have := HFN.out; rw [e] at this; simp at this; omega)
    have hkf : k < x.f.length := by have := HFN.out; omega
    obtain ⟨hnm, hnl, v', hsix, hV⟩ := hall k hkf
    have hsn' := fieldsWt_snoc h x.f k hkf
    subst hfa
    have hV := Lib.hid (VIn.keep hbx.out.below hV)
    obtain ⟨d0, d1, d2, d3, d4, d5, rfl, s0, s1, s2, s3, s4, s5⟩ := hsix.keep hbx.out.below
    have hnm := cell_keep hbx.out.below hnm
    generalize x.f[k].1 = nm at *
    generalize x.f[k].2 = y at *
    have hSN := Lib.hid hsn'
    clear hall hsn'
    have hwq : IntKind.i64.wrap (m - q) = m - q := IntWalk.i64_in _ (by omega)
    have hwn : IntKind.i64.wrap (q + nm.size) = q + nm.size := IntWalk.i64_in _ (by omega)
    go_wp2_with fail
    go_region_held3 (fun W => W.cell? ⟨w.heap.size, 4, none⟩ = some (.slice (some ⟨g, o, none⟩) fn fc) ∧ W.cell? ⟨g, o + k * 7, none⟩ = some (.string nm) ∧ W.cell? ⟨g, o + k * 7 + 1, none⟩ = some d0 ∧ W.cell? ⟨g, o + k * 7 + 1 + 1, none⟩ = some d1 ∧ W.cell? ⟨g, o + k * 7 + 1 + 2, none⟩ = some d2 ∧ W.cell? ⟨g, o + k * 7 + 1 + 3, none⟩ = some d3 ∧ W.cell? ⟨g, o + k * 7 + 1 + 4, none⟩ = some d4 ∧ W.cell? ⟨g, o + k * 7 + 1 + 5, none⟩ = some d5)
     (first | exact ⟨c4, hnm, s0, s1, s2, s3, s4, s5⟩ | exact ⟨cell_keep hB' c4, cell_keep hB' hnm, cell_keep hB' s0, cell_keep hB' s1, cell_keep hB' s2, cell_keep hB' s3, cell_keep hB' s4, cell_keep hB' s5⟩)
     ((go_at_call 20; refine (IH.out y _ (m - q) wr.drew (VIn.keep ((Below.refl _ wr).drew) hV.out) (by omega) (by omega)).mono ?_; rintro e w' ⟨r, rfl, hr1, hr2, hr3, hB'⟩))
    have HB5 := Lib.hid (hbx.out.step (cs := cs) ((Below.refl _ wr).drew.trans (show Below wr.heap.size wr.drew w' from hB')))
    have hnew : q + nm.size + r ≤ m → q + nm.size + r = ((1 + sn + bn + fieldsWt h (x.f.take (k + 1)) : Nat) : Int) := fun hle => by
     have e1 := hq.out hqm
     have e2 := hr3 (by omega)
     rw [hSN.out]; omega
    have hbd : 1 ≤ q + nm.size + r ∧ q + nm.size + r ≤ (max m 0 + 3) * 281474976710656 := by omega
    have HNEW := Lib.hid hnew
    have hwr : IntKind.i64.wrap (q + nm.size + r) = q + nm.size + r := IntWalk.i64_in _ (by omega)
    simp only [hwr]
    clear hr3 hnew hB' hq hwq hwn hr1 hr2 hwr
    go_wp2_with fail
    go_roundw
    case rel => exact ⟨k + 1, q + nm.size + r, by go_num, by go_num, by omega, hbd.1, hbd.2, HNEW, HB5⟩
    case measure => simp [intOf]; omega
   ·have hqm' : decide (q ≤ m) = false := by simpa using hqm
    have hq2 : Hid (q ≤ m → q = ((1 + sn + bn + fieldsWt h x.f : Nat) : Int)) := fun hle => absurd hle hqm
    clear hq
    go_wp2_with fail
    go_loopw [5, 7] (fun n i wr => ∃ (j : Nat) (q : Int), i = .int .i64 j ∧ n = .int .i64 q ∧ j ≤ ln ∧ 1 ≤ q ∧ q ≤ (max m 0 + 3) * 281474976710656 ∧ Hid (q ≤ m → q = ((1 + sn + bn + fieldsWt h x.f + itemsWt h (x.l.take j) : Nat) : Int)) ∧ Hid (Boxed w cs 35 wr)) (fun _ i _ => ln - (intOf i).toNat)
    case atStart => exact ⟨0, q, rfl, rfl, Nat.zero_le _, hq0, hq1, fun hle => by rw [hq2.out hle]; simp [itemsWt], hbx⟩
    case round =>
     clear hq0 hq1 hq2
     obtain ⟨j, q, rfl, rfl, hj, hq0, hq1, hq, hbx⟩ := hrel
     have c5 : wr.cell? ⟨w.heap.size, 5, none⟩ = some (.slice la ln lc) := by rw [hbx.out.cell, HC.out]; rfl
     by_cases hlt : j < ln
     ·by_cases hqm : q ≤ m
      ·obtain ⟨g, o, hla, _, hall⟩ := HI.out.resolve_left (fun e => by have := HLN.out; rw [e] at this; simp at this; omega)
       have hjl : j < x.l.length := by have := HLN.out; omega
       obtain ⟨v', hsix, hV⟩ := hall j hjl
       have hsn' := itemsWt_snoc h x.l j hjl
       subst hla
       have hV := Lib.hid (VIn.keep hbx.out.below hV)
       obtain ⟨d0, d1, d2, d3, d4, d5, rfl, s0, s1, s2, s3, s4, s5⟩ := hsix.keep hbx.out.below
       generalize x.l[j] = y at *
       have hSN := Lib.hid hsn'
       clear hall hsn'
       go_wp2_with fail
       refine (IH.out y _ (m - q) _ hV.out (by omega) (by omega)).mono ?_
       rintro e w' ⟨r, rfl, hr1, hr2, hr3, hB'⟩
       have HB5 := Lib.hid (hbx.out.step (cs := cs) hB')
       have hnew : q + r ≤ m → q + r = ((1 + sn + bn + fieldsWt h x.f + itemsWt h (x.l.take (j + 1)) : Nat) : Int) := fun hle => by
        have e1 := hq.out hqm
        have e2 := hr3 (by omega)
        rw [hSN.out]; omega
       have hbd : 1 ≤ q + r ∧ q + r ≤ (max m 0 + 3) * 281474976710656 := by omega
       have HNEW := Lib.hid hnew
       clear hr3 hnew hB' hq
       go_wp2_with fail
       go_roundw
       case rel => exact ⟨j + 1, q + r, by go_num, by go_num, by omega, hbd.1, hbd.2, HNEW, HB5⟩
       case measure => simp [intOf]; omega
      ·have hqm' : decide (q ≤ m) = false := by simpa using hqm
       have HR : Hid (q ≤ m → q = (wt (h + 1) x : Nat)) := fun hle => absurd hle hqm
       go_wp2_with fail
       go_ret
       exact ⟨q, rfl, hq0, hq1, HR.out, hbx.out.below⟩
     ·have HR : Hid (q ≤ m → q = (wt (h + 1) x : Nat)) := fun hle => by
       have e1 := hq.out hle
       rw [List.take_of_length_le (by have := HLN.out; omega)] at e1
       rw [e1, HSN.out, HBN.out]; rfl
      go_wp2_with fail
      go_ret
      exact ⟨q, rfl, hq0, hq1, HR.out, hbx.out.below⟩
  ·obtain rfl : fn = k := by omega
   have hq2 : Hid (q ≤ m → q = ((1 + sn + bn + fieldsWt h x.f : Nat) : Int)) := fun hle => by
    have e1 := hq.out hle
    rwa [List.take_of_length_le (by have := HFN.out; omega)] at e1
   clear hq
   go_wp2_with fail
   go_loopw [5, 7] (fun n i wr => ∃ (j : Nat) (q : Int), i = .int .i64 j ∧ n = .int .i64 q ∧ j ≤ ln ∧ 1 ≤ q ∧ q ≤ (max m 0 + 3) * 281474976710656 ∧ Hid (q ≤ m → q = ((1 + sn + bn + fieldsWt h x.f + itemsWt h (x.l.take j) : Nat) : Int)) ∧ Hid (Boxed w cs 35 wr)) (fun _ i _ => ln - (intOf i).toNat)
   case atStart => exact ⟨0, q, rfl, rfl, Nat.zero_le _, hq0, hq1, fun hle => by rw [hq2.out hle]; simp [itemsWt], hbx⟩
   case round =>
    clear hq0 hq1 hq2
    obtain ⟨j, q, rfl, rfl, hj, hq0, hq1, hq, hbx⟩ := hrel
    have c5 : wr.cell? ⟨w.heap.size, 5, none⟩ = some (.slice la ln lc) := by rw [hbx.out.cell, HC.out]; rfl
    by_cases hlt : j < ln
    ·by_cases hqm : q ≤ m
     ·obtain ⟨g, o, hla, _, hall⟩ := HI.out.resolve_left (fun e => by have := HLN.out; rw [e] at this; simp at this; omega)
      have hjl : j < x.l.length := by have := HLN.out; omega
      obtain ⟨v', hsix, hV⟩ := hall j hjl
      have hsn' := itemsWt_snoc h x.l j hjl
      subst hla
      have hV := Lib.hid (VIn.keep hbx.out.below hV)
      obtain ⟨d0, d1, d2, d3, d4, d5, rfl, s0, s1, s2, s3, s4, s5⟩ := hsix.keep hbx.out.below
      generalize x.l[j] = y at *
      have hSN := Lib.hid hsn'
      clear hall hsn'
      go_wp2_with fail
      refine (IH.out y _ (m - q) _ hV.out (by omega) (by omega)).mono ?_
      rintro e w' ⟨r, rfl, hr1, hr2, hr3, hB'⟩
      have HB5 := Lib.hid (hbx.out.step (cs := cs) hB')
      have hnew : q + r ≤ m → q + r = ((1 + sn + bn + fieldsWt h x.f + itemsWt h (x.l.take (j + 1)) : Nat) : Int) := fun hle => by
       have e1 := hq.out hqm
       have e2 := hr3 (by omega)
       rw [hSN.out]; omega
      have hbd : 1 ≤ q + r ∧ q + r ≤ (max m 0 + 3) * 281474976710656 := by omega
      have HNEW := Lib.hid hnew
      clear hr3 hnew hB' hq
      go_wp2_with fail
      go_roundw
      case rel => exact ⟨j + 1, q + r, by go_num, by go_num, by omega, hbd.1, hbd.2, HNEW, HB5⟩
      case measure => simp [intOf]; omega
     ·have hqm' : decide (q ≤ m) = false := by simpa using hqm
      have HR : Hid (q ≤ m → q = (wt (h + 1) x : Nat)) := fun hle => absurd hle hqm
      go_wp2_with fail
      go_ret
      exact ⟨q, rfl, hq0, hq1, HR.out, hbx.out.below⟩
    ·have HR : Hid (q ≤ m → q = (wt (h + 1) x : Nat)) := fun hle => by
      have e1 := hq.out hle
      rw [List.take_of_length_le (by have := HLN.out; omega)] at e1
      rw [e1, HSN.out, HBN.out]; rfl
     go_wp2_with fail
     go_ret
     exact ⟨q, rfl, hq0, hq1, HR.out, hbx.out.below⟩
theorem weight_any (Q : Nat → Prop) : ∀ (h : Nat) (x : Val) (v : Value) (m : Int) (w : World), VIn w Q h x v → -9223372036854775808 ≤ m → m ≤ 3000 → Calls Tryz.prog 20 #[v, .int .i64 m] w (WtPost w h x m)
 | 0, _, _, _, _, hv, _, _ => hv.elim
 | h + 1, x, v, m, w, hv, h0, h1 => weight_step Q h (fun x v m w => weight_any Q h x v m w) x v m w hv h0 h1
end Go.Proofs.YtngllchoiffniaaGreatDoor
end
