/- BsonMFields. -/
import Derived.Deep.RegionHeld3
import Derived.Test.YtngllchoiffniaaDoorMk15
import Derived.Test.YtngllchoiffniaaDoorMk1
set_option maxRecDepth 100000
set_option maxHeartbeats 20000000
section
namespace Go.Proofs.YtngllchoiffniaaDoor
open Go.RowKit
open Seal
open Bson (Val)
def HoldAns (Q : Nat → Prop) (h : Nat) : Prop := ∀ (w : World) (gn : Nat) (a : Option Addr) (n c : Nat) (f : List (ByteArray × Val)) (s : ByteArray), f.length = n → n ≤ 140737488355328 → n ≤ c → c ≤ 9223372036854775807 → s.size ≤ 140737488355328 → FieldsIn w Q (VIn w Q h) a f → (f.map (·.1)).Nodup → Nms w gn f →
 Calls Tryd.prog 75 #[.pointer (some ⟨gn, 0, none⟩), .slice a n c, .string s] w fun e w' => e = .returned (.bool (hasName f s)) ∧ HMove gn w w' ∧ Nms w' gn f
theorem mpost_true {w w' : World} {e : Ending} {gm : Nat} {left : Int} {S : Option (List Nat)} (h : MPost gm left S w e w') (hy : ∃ l, S = some l ∧ (l.length : Int) ≤ left) : e = .returned (.bool true) ∧ w.grownBy w' (some gm) ∧ ∃ l, S = some l ∧ (l.length : Int) ≤ left ∧ Mtr w' gm (left - l.length) := by
 obtain ⟨b, rfl, hg, h1, h2⟩ := h
 cases b with
 | true => exact ⟨rfl, hg, h1 rfl⟩
 | false => exact absurd hy (h2 rfl)
theorem mpost_false {w w' : World} {e : Ending} {gm : Nat} {left : Int} {S : Option (List Nat)} (h : MPost gm left S w e w') (hy : ¬ ∃ l, S = some l ∧ (l.length : Int) ≤ left) : e = .returned (.bool false) ∧ w.grownBy w' (some gm) := by
 obtain ⟨b, rfl, hg, h1, h2⟩ := h
 cases b with
 | true => obtain ⟨l, h3, h4, _⟩ := h1 rfl; exact absurd ⟨l, h3, h4⟩ hy
 | false => exact ⟨rfl, hg⟩
def Ph3 (Base P0 P1 P2 P3 : World → Prop) (D : Nat → Bool) (w : World) : Prop :=
 Base w ∧ (D 3 = false → P0 w) ∧ (D 3 = true → D 11 = false → P1 w) ∧ (D 11 = true → D 19 = false → P2 w) ∧ (D 19 = true → P3 w) ∧ (D 5 = true → D 3 = true) ∧ (D 13 = true → D 11 = true) ∧ (D 11 = true → D 3 = true) ∧ (D 19 = true → D 11 = true)
section
variable {Base P0 P1 P2 P3 : World → Prop} {D : Nat → Bool} {w w' : World}
theorem Ph3.at5 (h : Ph3 Base P0 P1 P2 P3 D w) (h3 : D 3 = true) : Ph3 Base P0 P1 P2 P3 (setD D 5) w := by
 obtain ⟨a, b, c, d, e, _, g, i, j⟩ := h
 exact ⟨a, b, c, d, e, fun _ => h3, g, i, j⟩
theorem Ph3.at13 (h : Ph3 Base P0 P1 P2 P3 D w) (h11 : D 11 = true) : Ph3 Base P0 P1 P2 P3 (setD D 13) w := by
 obtain ⟨a, b, c, d, e, f, _, i, j⟩ := h
 exact ⟨a, b, c, d, e, f, fun _ => h11, i, j⟩
theorem Ph3.call3 (h : Ph3 Base P0 P1 P2 P3 D w) (h3 : D 3 = false) (hb : Base w') (hp : P1 w') : Ph3 Base P0 P1 P2 P3 (setD D 3) w' := by
 obtain ⟨_, _, _, _, _, f, g, i, j⟩ := h
 have h11 : D 11 ≠ true := fun e => by rw [i e] at h3; cases h3
 have h19 : D 19 ≠ true := fun e => h11 (j e)
 exact ⟨hb, fun e => absurd (show true = false from e) (by decide), fun _ _ => hp, fun e _ => absurd (show D 11 = true from e) h11, fun e => absurd (show D 19 = true from e) h19, fun _ => rfl, g, fun _ => rfl, j⟩
theorem Ph3.call11 (h : Ph3 Base P0 P1 P2 P3 D w) (h5 : D 5 = true) (h11 : D 11 = false) (hb : Base w') (hp : P2 w') : Ph3 Base P0 P1 P2 P3 (setD D 11) w' := by
 obtain ⟨_, _, _, _, _, f, g, i, j⟩ := h
 have h3 := f h5
 have h19 : D 19 ≠ true := fun e => by rw [j e] at h11; cases h11
 exact ⟨hb, fun e => absurd ((show D 3 = false from e).symm.trans h3) (by decide), fun _ e => absurd (show true = false from e) (by decide), fun _ _ => hp, fun e => absurd (show D 19 = true from e) h19, f, fun _ => rfl, fun _ => h3, fun _ => rfl⟩
theorem Ph3.call19 (h : Ph3 Base P0 P1 P2 P3 D w) (h13 : D 13 = true) (hb : Base w') (hp : P3 w') : Ph3 Base P0 P1 P2 P3 (setD D 19) w' := by
 obtain ⟨_, _, _, _, _, f, g, i, j⟩ := h
 have h11 := g h13
 have h3 := i h11
 exact ⟨hb, fun e => absurd ((show D 3 = false from e).symm.trans h3) (by decide), fun _ e => absurd ((show D 11 = false from e).symm.trans h11) (by decide), fun _ e => absurd (show true = false from e) (by decide), fun _ => hp, f, g, i, fun _ => h11⟩
end
theorem FieldsIn.metered {w w' : World} {Q : Nat → Prop} {gm h : Nat} {left : Int} {a : Option Addr} {f : List (ByteArray × Val)} (hM : Mtr w gm left) (hg : w.grownBy w' (some gm)) (hF : FieldsIn w Q (VIn w Q h) a f) : FieldsIn w' Q (VIn w' Q h) a f := by
 rcases hF with h0 | ⟨g, o, e, hq, h0⟩
 ·exact .inl h0
 ·refine .inr ⟨g, o, e, hq, fun i hi => ?_⟩
  obtain ⟨k1, k2, v, k3, k4⟩ := h0 i hi
  exact ⟨grown_cell hg k1 (hM.ne k1 (fun n => by simp)), k2, v, hM.six hg k3, VIn.metered hM hg k4⟩
def BoxBase (w : World) (gm B : Nat) (cs : Array Value) (ty : TypeId) (w' : World) : Prop := w.grownBy w' (some gm) ∧ w'.heap[B]? = some (.cells cs ty (0, 0))
theorem BoxBase.grown {w w1 w' : World} {gm B : Nat} {cs : Array Value} {ty : TypeId} (h : BoxBase w gm B cs ty w1) (hne : B ≠ gm) (hg : w1.grownBy w' (some gm)) : BoxBase w gm B cs ty w' :=
 ⟨grown_then h.1 hg, (hg.block B (lt_of_heap h.2) (fun e => hne (Option.some.inj e))).trans h.2⟩
theorem BoxBase.held {w w1 w' : World} {gm B gn : Nat} {cs : Array Value} {ty : TypeId} (h : BoxBase w gm B cs ty w1) (hne : B ≠ gn) (hgn : w.heap.size ≤ gn) (hm : HMove gn w1 w') : BoxBase w gm B cs ty w' :=
 ⟨hmove_grown h.1 hm hgn, hmove_block hm h.2 hne⟩
theorem mfields_any (Q : Nat → Prop) (h d : Nat) (gm : Nat) (depth : Int) (hd0 : 0 ≤ depth) (hd1 : depth ≤ 100) (HH : HoldAns Q h)
  (IH : ∀ x v w left, VIn w Q h x v → Mtr w gm left → 0 ≤ left → left ≤ 65536 → Tabs w → Calls Tryd.prog 50 #[.pointer (some ⟨gm, 0, none⟩), v, .int .i64 (depth + 1)] w (MPost gm left (Bson.enc d x) w))
  (w : World) (left : Int) (a : Option Addr) (n c : Nat) (f : List (ByteArray × Val)) (hn : f.length = n) (hm : n ≤ 140737488355328) (hc : n ≤ c) (hc2 : c ≤ 9223372036854775807) (hF : FieldsIn w Q (VIn w Q h) a f) (hM : Mtr w gm left) (hl0 : 0 ≤ left) (hl : left ≤ 65536) (hT : Tabs w) :
  Calls Tryd.prog 65 #[.pointer (some ⟨gm, 0, none⟩), .slice a n c, .int .i64 depth] w (MPost gm left (rowB d f) w) := by
 have HN := Lib.hid hn
 have HF := Lib.hid hF
 have HM := Lib.hid hM
 have HT := Lib.hid hT
 have IH := Lib.hid IH
 have HH := Lib.hid HH
 have hdw : IntKind.i64.wrap (depth + 1) = depth + 1 := IntWalk.i64_in _ (by omega)
 have hgl := hM.lt
 clear hn hF hM hT
 go_enter Tryd.func65, Tryd.ntmps65
 go_wp2_with fail
 go_loopw [12] (fun i wr => ∃ (k : Nat) (q : Int), i = .int .i64 k ∧ k ≤ n ∧ 0 ≤ q ∧ q ≤ left ∧ Hid (∃ r, Bson.row (Bson.enc d) (f.take k) = some r ∧ (r.length : Int) = left - q) ∧ Hid ((f.take k).map (·.1)).Nodup ∧ Hid (Nms wr w.heap.size (f.take k)) ∧ Hid (Mtr wr gm q) ∧ Hid (w.grownBy wr (some gm)) ∧ w.heap.size < wr.heap.size) (fun i _ => n - (intOf i).toNat)
 case atStart =>
  refine ⟨0, left, rfl, Nat.zero_le _, hl0, Int.le_refl _, ⟨[], by rw [List.take_zero, Bson.row], by simp⟩, by show List.Nodup _; simp, .inl (heap_alloc_new w _), HM.out.keep ((Below.refl _ w).alloc (Nat.le_refl _) _), grown_of_below ((Below.refl _ w).alloc (Nat.le_refl _) _) gm, by simp⟩
 case round =>
  obtain ⟨k, q, rfl, hk, hq0, hq1, hR, hD, hNm, hMk, hGk, hsz⟩ := hrel
  by_cases hlt : k < n
  ·have hkf : k < f.length := by rw [HN.out]; exact hlt
   obtain ⟨g, o, rfl, hQg, hall⟩ := HF.out.resolve_left (fun e => by rw [e] at hkf; cases hkf)
   obtain ⟨hnm, hnl, v', hsix, hV⟩ := hall k hkf
   have hnm := grown_cell hGk.out hnm (HM.out.ne hnm (fun n => by simp))
   have HV0' := Lib.hid hV
   have hV := Lib.hid (VIn.metered HM.out hGk.out hV)
   obtain ⟨q1, q2, q3, a1, n1, c1, a2, n2, c2, a3, n3, c3, rfl⟩ := VIn.form hV.out
   obtain ⟨d0, d1, d2, d3, d4, d5, he6, s0, s1, s2, s3, s4, s5⟩ := HM.out.six hGk.out hsix
   obtain ⟨rfl, rfl, rfl, rfl, rfl, rfl⟩ : d0 = .int .i64 q1 ∧ d1 = .int .i64 q2 ∧ d2 = .string q3 ∧ d3 = .slice a1 n1 c1 ∧ d4 = .slice a2 n2 c2 ∧ d5 = .slice a3 n3 c3 := by
    simp only [Value.agg.injEq, Array.mk.injEq, List.cons.injEq, and_true] at he6
    obtain ⟨e0, e1, e2, e3, e4, e5⟩ := he6
    exact ⟨e0.symm, e1.symm, e2.symm, e3.symm, e4.symm, e5.symm⟩
   have HK := Lib.hid hkf
   clear hsix he6 hall
   generalize hnme : f[k].1 = nm at hnm hnl
   generalize hye : f[k].2 = y at hV HV0'
   have HV0 := HV0'
   clear HV0'
   have HNE := Lib.hid hnme
   have HYE := Lib.hid hye
   clear hnme hye
   go_upto_region 5 with fail
   have HNE2 : Hid (∀ (hh : k < f.length), f[k].1 = nm) := fun _ => HNE.out
   have HYE2 : Hid (∀ (hh : k < f.length), f[k].2 = y) := fun _ => HYE.out
   have hkc0 : k ≤ c := by omega
   have hBm : wr.heap.size ≠ gm := by have := hGk.out.size; omega
   have hBn : wr.heap.size ≠ w.heap.size := by omega
   have HWB : Hid (Below wr.heap.size wr (wr.alloc (.cells #[.string nm, .int .i64 q1, .int .i64 q2, .string q3, .slice a1 n1 c1, .slice a2 n2 c2, .slice a3 n3 c3] 59))) := (Below.refl _ wr).alloc (Nat.le_refl _) _
   have HBASE : Hid (BoxBase w gm wr.heap.size #[.string nm, .int .i64 q1, .int .i64 q2, .string q3, .slice a1 n1 c1, .slice a2 n2 c2, .slice a3 n3 c3] 59 { wr.alloc (.cells #[.string nm, .int .i64 q1, .int .i64 q2, .string q3, .slice a1 n1 c1, .slice a2 n2 c2, .slice a3 n3 c3] 59) with drawn := (wr.alloc (.cells #[.string nm, .int .i64 q1, .int .i64 q2, .string q3, .slice a1 n1 c1, .slice a2 n2 c2, .slice a3 n3 c3] 59)).drawn + 1 }) := ⟨grown_then hGk.out (grown_of_below (HWB.out.drew) gm), heap_alloc_new wr _⟩
   have HP0 : Hid (Mtr { wr.alloc (.cells #[.string nm, .int .i64 q1, .int .i64 q2, .string q3, .slice a1 n1 c1, .slice a2 n2 c2, .slice a3 n3 c3] 59) with drawn := (wr.alloc (.cells #[.string nm, .int .i64 q1, .int .i64 q2, .string q3, .slice a1 n1 c1, .slice a2 n2 c2, .slice a3 n3 c3] 59)).drawn + 1 } gm q ∧ Nms { wr.alloc (.cells #[.string nm, .int .i64 q1, .int .i64 q2, .string q3, .slice a1 n1 c1, .slice a2 n2 c2, .slice a3 n3 c3] 59) with drawn := (wr.alloc (.cells #[.string nm, .int .i64 q1, .int .i64 q2, .string q3, .slice a1 n1 c1, .slice a2 n2 c2, .slice a3 n3 c3] 59)).drawn + 1 } w.heap.size (f.take k)) := ⟨hMk.out.keep HWB.out.drew, hNm.out.below HWB.out.drew⟩
   have HTW : Hid (∀ W, w.grownBy W (some gm) → Tabs W) := fun W hg => HT.out.metered HM.out hg
   have HVW : Hid (∀ W, w.grownBy W (some gm) → VIn W Q h y (.agg #[.int .i64 q1, .int .i64 q2, .string q3, .slice a1 n1 c1, .slice a2 n2 c2, .slice a3 n3 c3])) := fun W hg => VIn.metered HM.out hg HV0.out
   have hql : q ≤ 65536 := by omega
   by_cases hfit : ∃ l, headBytes nm = some l ∧ (l.length : Int) ≤ q
   ·obtain ⟨l0, hl0b, hl0q⟩ := hfit
    have HL0 := Lib.hid hl0b
    obtain ⟨qh, hqh⟩ : ∃ z : Int, z = q - l0.length := ⟨_, rfl⟩
    have HQH := Lib.hid hqh
    have CN : Hid (∀ W, w.grownBy W (some gm) → Mtr W gm q → Calls Tryd.prog 74 #[.pointer (some ⟨gm, 0, none⟩), .string nm] W fun e w' => e = .returned (.bool true) ∧ W.grownBy w' (some gm) ∧ Mtr w' gm qh) := fun W hg hM5 => (mname_any W gm q nm hM5 hql hnl (HTW.out W hg).t8).mono (fun e w' hh => by
     obtain ⟨h1, h2, l, h3, h4, h5⟩ := mpost_true hh ⟨l0, HL0.out, hl0q⟩
     have h6 : l = l0 := Option.some.inj (h3.symm.trans HL0.out)
     subst h6
     rw [HQH.out]
     exact ⟨h1, h2, h5⟩)
    have hqh0 : 0 ≤ qh ∧ qh ≤ 65536 := by omega
    obtain ⟨rh, hrh⟩ : ∃ r, r = hasName (f.take k) nm := ⟨_, rfl⟩
    have HRH := Lib.hid hrh
    have CH : Hid (∀ W, w.grownBy W (some gm) → Nms W w.heap.size (f.take k) → Calls Tryd.prog 75 #[.pointer (some ⟨w.heap.size, 0, none⟩), .slice (some ⟨g, o, none⟩) k c, .string nm] W fun e w' => e = .returned (.bool rh) ∧ HMove w.heap.size W w' ∧ Nms w' w.heap.size (f.take k)) := fun W hg hN5 => by
     have h1 := HH.out W w.heap.size (some ⟨g, o, none⟩) k c (f.take k) nm (by rw [List.length_take]; have := HK.out; omega) (by omega) hkc0 hc2 hnl (FieldsIn.pre (FieldsIn.metered HM.out hg HF.out) k) hD.out hN5
     rw [← HRH.out] at h1
     exact h1
    clear hl0b hqh hrh
    cases rh with
    | true =>
     refine wp_region_inv (fun V => { tmps := #[Value.pointer (some ⟨gm, 0, none⟩), .slice (some ⟨g, o, none⟩) n c, .int .i64 depth, undef, undef, undef, u6, .pointer (some ⟨w.heap.size, 0, none⟩), .int .i64 k, .pointer (some ⟨wr.heap.size, 0, none⟩), .slice (some ⟨g, o, none⟩) n c, .int .i64 n, .int .i64 k, .bool true, .int .i64 k, .pointer (some ⟨g, o + k * 7, none⟩), .agg #[.string nm, .int .i64 q1, .int .i64 q2, .string q3, .slice a1 n1 c1, .slice a2 n2 c2, .slice a3 n3 c3], V 0, V 1, V 2, V 3, V 4, V 5, V 6, V 7, V 8, V 9, V 10, V 11, V 12, V 13, V 14, V 15, V 16, V 17, V 18, V 19, V 20, V 21, u39], defers := [] }) (DInv [Value.pointer (some ⟨gm, 0, none⟩), .pointer (some ⟨wr.heap.size, 0, none⟩), .string nm, .bool true, .bool false, .bool false, .slice (some ⟨g, o, none⟩) n c, .int .i64 k, .slice (some ⟨g, o, none⟩) k c, .pointer (some ⟨wr.heap.size, 0, none⟩), .string nm, .bool true, .bool true, .bool true, undef, undef, undef, undef, undef, undef, undef, .bool true] (Ph3 (BoxBase w gm wr.heap.size #[.string nm, .int .i64 q1, .int .i64 q2, .string q3, .slice a1 n1 c1, .slice a2 n2 c2, .slice a3 n3 c3] 59) (fun W => Mtr W gm q ∧ Nms W w.heap.size (f.take k)) (fun W => Mtr W gm qh ∧ Nms W w.heap.size (f.take k)) (fun _ => True) (fun _ => True))) (by kernel_rfl) (by kernel_rfl) (by kernel_rfl) (fun V => by kernel_rfl) ?_ (fun V => ⟨nofun, HBASE.out, fun _ => HP0.out, nofun, nofun, nofun, nofun, nofun, nofun, nofun⟩) ?_
     ·refine ⟨?_, ?_⟩
      ·refine det_free rfl (fun D V w5 hDi hpre hP K hK => ?_)
       have hpre := hpre.out
       go_simp
       exact put_is (by kernel_rfl) (hK.out _ hP)
      refine ⟨?_, ?_⟩
      ·refine det_free rfl (fun D V w5 hDi hpre hP K hK => ?_)
       have hpre := hpre.out
       go_simp
       exact put_is (by kernel_rfl) (hK.out _ hP)
      refine ⟨?_, ?_⟩
      ·refine det_free rfl (fun D V w5 hDi hpre hP K hK => ?_)
       have hpre := hpre.out
       have e1 : V 1 = Value.pointer (some ⟨wr.heap.size, 0, none⟩) := (hpre 1 (by kernel_rfl)).2
       have c0 := cell_of_row _ _ 0 _ _ _ hP.1.2
       go_simp
       exact put_is (by rw [e1]; kernel_rfl) (hK.out _ hP)
      refine ⟨?_, ?_⟩
      ·refine det_free rfl (fun D V w5 hDi hpre hP K hK => ?_)
       have hpre := hpre.out
       have e0 : V 0 = Value.pointer (some ⟨gm, 0, none⟩) := (hpre 0 (by kernel_rfl)).2
       have e2 : V 2 = Value.string nm := (hpre 2 (by kernel_rfl)).2
       obtain ⟨hM5, hN5⟩ := hP.2.1 hDi
       have hsz := hP.1.1.size
       go_simp
       go_at_call 74
       refine (CN.out w5 hP.1.1 hM5).mono ?_
       rintro e w6 ⟨rfl, hg6, hM6⟩
       exact put_is (by rw [e0, e2]; kernel_rfl) (hK.out _ (hP.call3 hDi (hP.1.grown hBm hg6) ⟨hM6, hN5.metered hg6 hgl⟩))
      refine ⟨?_, ?_⟩
      ·refine det_free rfl (fun D V w5 hDi hpre hP K hK => ?_)
       have hpre := hpre.out
       have e3 : V 3 = Value.bool true := (hpre 3 (by kernel_rfl)).2
       go_simp
       exact put_is (by rw [e3]; kernel_rfl) (hK.out _ hP)
      refine ⟨?_, ?_⟩
      ·refine det_free rfl (fun D V w5 hDi hpre hP K hK => ?_)
       have hpre := hpre.out
       have e4 : V 4 = Value.bool false := (hpre 4 (by kernel_rfl)).2
       go_simp
       exact put_is (by rw [e4]; kernel_rfl) (hK.out _ (hP.at5 (hpre 3 (by kernel_rfl)).1))
      refine ⟨?_, ?_⟩
      ·refine det_on 5 false rfl (by kernel_rfl) (fun V => by kernel_rfl) rfl (fun D V w5 hDi hpre hP K hK => ?_)
       have hpre := hpre.out
       go_simp
       exact put_is (by kernel_rfl) (hK.out _ hP)
      refine ⟨?_, ?_⟩
      ·refine det_on 5 false rfl (by kernel_rfl) (fun V => by kernel_rfl) rfl (fun D V w5 hDi hpre hP K hK => ?_)
       have hpre := hpre.out
       go_simp
       exact put_is (by kernel_rfl) (hK.out _ hP)
      refine ⟨?_, ?_⟩
      ·refine det_on 5 false rfl (by kernel_rfl) (fun V => by kernel_rfl) rfl (fun D V w5 hDi hpre hP K hK => ?_)
       have hpre := hpre.out
       have e6 : V 6 = Value.slice (some ⟨g, o, none⟩) n c := (hpre 6 (by kernel_rfl)).2
       have e7 : V 7 = Value.int .i64 k := (hpre 7 (by kernel_rfl)).2
       have hkc : k ≤ c := hkc0
       go_simp
       exact put_is (by rw [e6, e7]; kernel_rfl) (hK.out _ hP)
      refine ⟨?_, ?_⟩
      ·refine det_on 5 false rfl (by kernel_rfl) (fun V => by kernel_rfl) rfl (fun D V w5 hDi hpre hP K hK => ?_)
       have hpre := hpre.out
       go_simp
       exact put_is (by kernel_rfl) (hK.out _ hP)
      refine ⟨?_, ?_⟩
      ·refine det_on 5 false rfl (by kernel_rfl) (fun V => by kernel_rfl) rfl (fun D V w5 hDi hpre hP K hK => ?_)
       have hpre := hpre.out
       have e9 : V 9 = Value.pointer (some ⟨wr.heap.size, 0, none⟩) := (hpre 9 (by kernel_rfl)).2
       have c0 := cell_of_row _ _ 0 _ _ _ hP.1.2
       go_simp
       exact put_is (by rw [e9]; kernel_rfl) (hK.out _ hP)
      refine ⟨?_, ?_⟩
      ·refine det_on 5 false rfl (by kernel_rfl) (fun V => by kernel_rfl) rfl (fun D V w5 hDi hpre hP K hK => ?_)
       have hpre := hpre.out
       have e8 : V 8 = Value.slice (some ⟨g, o, none⟩) k c := (hpre 8 (by kernel_rfl)).2
       have e10 : V 10 = Value.string nm := (hpre 10 (by kernel_rfl)).2
       have h5 := (hpre 5 (by kernel_rfl)).1
       obtain ⟨hM5, hN5⟩ := hP.2.2.1 (hP.2.2.2.2.2.1 h5) hDi
       go_simp
       go_at_call 75
       refine (CH.out w5 hP.1.1 hN5).mono ?_
       rintro e w6 ⟨rfl, hm6, hN6⟩
       exact put_is (by rw [e8, e10]; kernel_rfl) (hK.out _ (hP.call11 h5 hDi (hP.1.held hBn (Nat.le_refl _) hm6) trivial))
      refine ⟨?_, ?_⟩
      ·refine det_free rfl (fun D V w5 hDi hpre hP K hK => ?_)
       have hpre := hpre.out
       have e5 : V 5 = Value.bool false := (hpre 5 (by kernel_rfl)).2
       have e11 : V 11 = Value.bool true := (hpre 11 (by kernel_rfl)).2
       go_simp
       exact put_is (by rw [e5, e11]; kernel_rfl) (hK.out _ hP)
      refine ⟨?_, ?_⟩
      ·refine det_free rfl (fun D V w5 hDi hpre hP K hK => ?_)
       have hpre := hpre.out
       have e12 : V 12 = Value.bool true := (hpre 12 (by kernel_rfl)).2
       go_simp
       exact put_is (by rw [e12]; kernel_rfl) (hK.out _ (hP.at13 (hpre 11 (by kernel_rfl)).1))
      refine ⟨?_, ?_⟩
      ·exact det_off 13 false rfl (by kernel_rfl) (fun V => by kernel_rfl) rfl rfl (fun D w5 hDi hpre hP => hP)
      refine ⟨?_, ?_⟩
      ·exact det_off 13 false rfl (by kernel_rfl) (fun V => by kernel_rfl) rfl rfl (fun D w5 hDi hpre hP => hP)
      refine ⟨?_, ?_⟩
      ·exact det_off 13 false rfl (by kernel_rfl) (fun V => by kernel_rfl) rfl rfl (fun D w5 hDi hpre hP => hP)
      refine ⟨?_, ?_⟩
      ·exact det_off 13 false rfl (by kernel_rfl) (fun V => by kernel_rfl) rfl rfl (fun D w5 hDi hpre hP => hP)
      refine ⟨?_, ?_⟩
      ·exact det_off 13 false rfl (by kernel_rfl) (fun V => by kernel_rfl) rfl rfl (fun D w5 hDi hpre hP => hP)
      refine ⟨?_, ?_⟩
      ·exact det_off 13 false rfl (by kernel_rfl) (fun V => by kernel_rfl) rfl rfl (fun D w5 hDi hpre hP => hP.call19 (hpre.out 13 (by kernel_rfl)) hP.1 trivial)
      refine ⟨?_, ?_⟩
      ·exact det_off 13 false rfl (by kernel_rfl) (fun V => by kernel_rfl) rfl rfl (fun D w5 hDi hpre hP => hP)
      refine ⟨?_, ?_⟩
      ·refine det_free rfl (fun D V w5 hDi hpre hP K hK => ?_)
       have hpre := hpre.out
       have e13 : V 13 = Value.bool true := (hpre 13 (by kernel_rfl)).2
       have e20 : V 20 = undef := (hpre 20 (by kernel_rfl)).2
       go_simp
       exact put_is (by rw [e13, e20]; kernel_rfl) (hK.out _ hP)
      trivial
     intro D V w4 hD hI
     have e21 : V 21 = Value.bool true := hI.1 21 (hD 21 (by decide))
     have HP := Lib.hid hI.2
     have hD19 := hD 19 (by decide)
     clear hI hD
     go_wp2_with fail
     go_ret
     refine ⟨false, rfl, HP.out.1.1, nofun, fun _ => ?_⟩
     rintro ⟨r, hr, hrl⟩
     unfold rowB at hr
     by_cases hnd : (f.map (·.1)).Nodup
     case neg => rw [if_neg hnd] at hr; cases hr
     rw [if_pos hnd] at hr
     exact (hasName_take HK.out hD.out).1 (by rw [HNE2.out]; exact HRH.out.symm) hnd
    | false =>
     by_cases hfv : ∃ l, Bson.enc d y = some l ∧ (l.length : Int) ≤ qh
     ·obtain ⟨xb, hxb, hxq⟩ := hfv
      have HXB := Lib.hid hxb
      obtain ⟨xl, hxl⟩ : ∃ z : Int, z = xb.length := ⟨_, rfl⟩
      have HXL := Lib.hid hxl
      have CV : Hid (∀ W, w.grownBy W (some gm) → Mtr W gm qh → Calls Tryd.prog 50 #[.pointer (some ⟨gm, 0, none⟩), .agg #[.int .i64 q1, .int .i64 q2, .string q3, .slice a1 n1 c1, .slice a2 n2 c2, .slice a3 n3 c3], .int .i64 (depth + 1)] W fun e w' => e = .returned (.bool true) ∧ W.grownBy w' (some gm) ∧ (true = true → Mtr w' gm (qh - xl))) := fun W hg hM5 => (IH.out y _ W qh (HVW.out W hg) hM5 hqh0.1 hqh0.2 (HTW.out W hg)).mono (fun e w' hh => by
       obtain ⟨h1, h2, l, h3, h4, h5⟩ := mpost_true hh ⟨xb, HXB.out, hxq⟩
       have h6 : l = xb := Option.some.inj (h3.symm.trans HXB.out)
       subst h6
       rw [HXL.out]
       exact ⟨h1, h2, fun _ => h5⟩)
      have hxl0 : 0 ≤ xl ∧ xl ≤ qh := by omega
      clear hxb hxl hxq
      refine wp_region_inv (fun V => { tmps := #[Value.pointer (some ⟨gm, 0, none⟩), .slice (some ⟨g, o, none⟩) n c, .int .i64 depth, undef, undef, undef, u6, .pointer (some ⟨w.heap.size, 0, none⟩), .int .i64 k, .pointer (some ⟨wr.heap.size, 0, none⟩), .slice (some ⟨g, o, none⟩) n c, .int .i64 n, .int .i64 k, .bool true, .int .i64 k, .pointer (some ⟨g, o + k * 7, none⟩), .agg #[.string nm, .int .i64 q1, .int .i64 q2, .string q3, .slice a1 n1 c1, .slice a2 n2 c2, .slice a3 n3 c3], V 0, V 1, V 2, V 3, V 4, V 5, V 6, V 7, V 8, V 9, V 10, V 11, V 12, V 13, V 14, V 15, V 16, V 17, V 18, V 19, V 20, V 21, u39], defers := [] }) (DInv [Value.pointer (some ⟨gm, 0, none⟩), .pointer (some ⟨wr.heap.size, 0, none⟩), .string nm, .bool true, .bool false, .bool false, .slice (some ⟨g, o, none⟩) n c, .int .i64 k, .slice (some ⟨g, o, none⟩) k c, .pointer (some ⟨wr.heap.size, 0, none⟩), .string nm, .bool false, .bool false, .bool false, .pointer (some ⟨gm, 0, none⟩), .pointer (some ⟨wr.heap.size, 1, none⟩), .agg #[.int .i64 q1, .int .i64 q2, .string q3, .slice a1 n1 c1, .slice a2 n2 c2, .slice a3 n3 c3], .int .i64 depth, .int .i64 (depth + 1), .bool true, .bool (!true), .bool (!true)] (Ph3 (BoxBase w gm wr.heap.size #[.string nm, .int .i64 q1, .int .i64 q2, .string q3, .slice a1 n1 c1, .slice a2 n2 c2, .slice a3 n3 c3] 59) (fun W => Mtr W gm q ∧ Nms W w.heap.size (f.take k)) (fun W => Mtr W gm qh ∧ Nms W w.heap.size (f.take k)) (fun W => Mtr W gm qh ∧ Nms W w.heap.size (f.take k)) (fun W => true = true → Mtr W gm (qh - xl) ∧ Nms W w.heap.size (f.take k)))) (by kernel_rfl) (by kernel_rfl) (by kernel_rfl) (fun V => by kernel_rfl) ?_ (fun V => ⟨nofun, HBASE.out, fun _ => HP0.out, nofun, nofun, nofun, nofun, nofun, nofun, nofun⟩) ?_
      ·refine ⟨?_, ?_⟩
       ·refine det_free rfl (fun D V w5 hDi hpre hP K hK => ?_)
        have hpre := hpre.out
        go_simp
        exact put_is (by kernel_rfl) (hK.out _ hP)
       refine ⟨?_, ?_⟩
       ·refine det_free rfl (fun D V w5 hDi hpre hP K hK => ?_)
        have hpre := hpre.out
        go_simp
        exact put_is (by kernel_rfl) (hK.out _ hP)
       refine ⟨?_, ?_⟩
       ·refine det_free rfl (fun D V w5 hDi hpre hP K hK => ?_)
        have hpre := hpre.out
        have e1 : V 1 = Value.pointer (some ⟨wr.heap.size, 0, none⟩) := (hpre 1 (by kernel_rfl)).2
        have c0 := cell_of_row _ _ 0 _ _ _ hP.1.2
        go_simp
        exact put_is (by rw [e1]; kernel_rfl) (hK.out _ hP)
       refine ⟨?_, ?_⟩
       ·refine det_free rfl (fun D V w5 hDi hpre hP K hK => ?_)
        have hpre := hpre.out
        have e0 : V 0 = Value.pointer (some ⟨gm, 0, none⟩) := (hpre 0 (by kernel_rfl)).2
        have e2 : V 2 = Value.string nm := (hpre 2 (by kernel_rfl)).2
        obtain ⟨hM5, hN5⟩ := hP.2.1 hDi
        have hsz := hP.1.1.size
        go_simp
        go_at_call 74
        refine (CN.out w5 hP.1.1 hM5).mono ?_
        rintro e w6 ⟨rfl, hg6, hM6⟩
        exact put_is (by rw [e0, e2]; kernel_rfl) (hK.out _ (hP.call3 hDi (hP.1.grown hBm hg6) ⟨hM6, hN5.metered hg6 hgl⟩))
       refine ⟨?_, ?_⟩
       ·refine det_free rfl (fun D V w5 hDi hpre hP K hK => ?_)
        have hpre := hpre.out
        have e3 : V 3 = Value.bool true := (hpre 3 (by kernel_rfl)).2
        go_simp
        exact put_is (by rw [e3]; kernel_rfl) (hK.out _ hP)
       refine ⟨?_, ?_⟩
       ·refine det_free rfl (fun D V w5 hDi hpre hP K hK => ?_)
        have hpre := hpre.out
        have e4 : V 4 = Value.bool false := (hpre 4 (by kernel_rfl)).2
        go_simp
        exact put_is (by rw [e4]; kernel_rfl) (hK.out _ (hP.at5 (hpre 3 (by kernel_rfl)).1))
       refine ⟨?_, ?_⟩
       ·refine det_on 5 false rfl (by kernel_rfl) (fun V => by kernel_rfl) rfl (fun D V w5 hDi hpre hP K hK => ?_)
        have hpre := hpre.out
        go_simp
        exact put_is (by kernel_rfl) (hK.out _ hP)
       refine ⟨?_, ?_⟩
       ·refine det_on 5 false rfl (by kernel_rfl) (fun V => by kernel_rfl) rfl (fun D V w5 hDi hpre hP K hK => ?_)
        have hpre := hpre.out
        go_simp
        exact put_is (by kernel_rfl) (hK.out _ hP)
       refine ⟨?_, ?_⟩
       ·refine det_on 5 false rfl (by kernel_rfl) (fun V => by kernel_rfl) rfl (fun D V w5 hDi hpre hP K hK => ?_)
        have hpre := hpre.out
        have e6 : V 6 = Value.slice (some ⟨g, o, none⟩) n c := (hpre 6 (by kernel_rfl)).2
        have e7 : V 7 = Value.int .i64 k := (hpre 7 (by kernel_rfl)).2
        have hkc : k ≤ c := hkc0
        go_simp
        exact put_is (by rw [e6, e7]; kernel_rfl) (hK.out _ hP)
       refine ⟨?_, ?_⟩
       ·refine det_on 5 false rfl (by kernel_rfl) (fun V => by kernel_rfl) rfl (fun D V w5 hDi hpre hP K hK => ?_)
        have hpre := hpre.out
        go_simp
        exact put_is (by kernel_rfl) (hK.out _ hP)
       refine ⟨?_, ?_⟩
       ·refine det_on 5 false rfl (by kernel_rfl) (fun V => by kernel_rfl) rfl (fun D V w5 hDi hpre hP K hK => ?_)
        have hpre := hpre.out
        have e9 : V 9 = Value.pointer (some ⟨wr.heap.size, 0, none⟩) := (hpre 9 (by kernel_rfl)).2
        have c0 := cell_of_row _ _ 0 _ _ _ hP.1.2
        go_simp
        exact put_is (by rw [e9]; kernel_rfl) (hK.out _ hP)
       refine ⟨?_, ?_⟩
       ·refine det_on 5 false rfl (by kernel_rfl) (fun V => by kernel_rfl) rfl (fun D V w5 hDi hpre hP K hK => ?_)
        have hpre := hpre.out
        have e8 : V 8 = Value.slice (some ⟨g, o, none⟩) k c := (hpre 8 (by kernel_rfl)).2
        have e10 : V 10 = Value.string nm := (hpre 10 (by kernel_rfl)).2
        have h5 := (hpre 5 (by kernel_rfl)).1
        obtain ⟨hM5, hN5⟩ := hP.2.2.1 (hP.2.2.2.2.2.1 h5) hDi
        go_simp
        go_at_call 75
        refine (CH.out w5 hP.1.1 hN5).mono ?_
        rintro e w6 ⟨rfl, hm6, hN6⟩
        exact put_is (by rw [e8, e10]; kernel_rfl) (hK.out _ (hP.call11 h5 hDi (hP.1.held hBn (Nat.le_refl _) hm6) ⟨hmove_mtr hM5 hm6 hgl, hN6⟩))
       refine ⟨?_, ?_⟩
       ·refine det_free rfl (fun D V w5 hDi hpre hP K hK => ?_)
        have hpre := hpre.out
        have e5 : V 5 = Value.bool false := (hpre 5 (by kernel_rfl)).2
        have e11 : V 11 = Value.bool false := (hpre 11 (by kernel_rfl)).2
        go_simp
        exact put_is (by rw [e5, e11]; kernel_rfl) (hK.out _ hP)
       refine ⟨?_, ?_⟩
       ·refine det_free rfl (fun D V w5 hDi hpre hP K hK => ?_)
        have hpre := hpre.out
        have e12 : V 12 = Value.bool false := (hpre 12 (by kernel_rfl)).2
        go_simp
        exact put_is (by rw [e12]; kernel_rfl) (hK.out _ (hP.at13 (hpre 11 (by kernel_rfl)).1))
       refine ⟨?_, ?_⟩
       ·refine det_on 13 false rfl (by kernel_rfl) (fun V => by kernel_rfl) rfl (fun D V w5 hDi hpre hP K hK => ?_)
        have hpre := hpre.out
        go_simp
        exact put_is (by kernel_rfl) (hK.out _ hP)
       refine ⟨?_, ?_⟩
       ·refine det_on 13 false rfl (by kernel_rfl) (fun V => by kernel_rfl) rfl (fun D V w5 hDi hpre hP K hK => ?_)
        have hpre := hpre.out
        go_simp
        exact put_is (by kernel_rfl) (hK.out _ hP)
       refine ⟨?_, ?_⟩
       ·refine det_on 13 false rfl (by kernel_rfl) (fun V => by kernel_rfl) rfl (fun D V w5 hDi hpre hP K hK => ?_)
        have hpre := hpre.out
        have e15 : V 15 = Value.pointer (some ⟨wr.heap.size, 1, none⟩) := (hpre 15 (by kernel_rfl)).2
        have c1 := cell_of_row _ _ 1 _ _ _ hP.1.2
        have c2 := cell_of_row _ _ 2 _ _ _ hP.1.2
        have c3 := cell_of_row _ _ 3 _ _ _ hP.1.2
        have c4 := cell_of_row _ _ 4 _ _ _ hP.1.2
        have c5 := cell_of_row _ _ 5 _ _ _ hP.1.2
        have c6 := cell_of_row _ _ 6 _ _ _ hP.1.2
        go_simp
        exact put_is (by rw [e15]; kernel_rfl) (hK.out _ hP)
       refine ⟨?_, ?_⟩
       ·refine det_on 13 false rfl (by kernel_rfl) (fun V => by kernel_rfl) rfl (fun D V w5 hDi hpre hP K hK => ?_)
        have hpre := hpre.out
        go_simp
        exact put_is (by kernel_rfl) (hK.out _ hP)
       refine ⟨?_, ?_⟩
       ·refine det_on 13 false rfl (by kernel_rfl) (fun V => by kernel_rfl) rfl (fun D V w5 hDi hpre hP K hK => ?_)
        have hpre := hpre.out
        have e17 : V 17 = Value.int .i64 depth := (hpre 17 (by kernel_rfl)).2
        go_simp
        exact put_is (by rw [e17]; kernel_rfl) (hK.out _ hP)
       refine ⟨?_, ?_⟩
       ·refine det_on 13 false rfl (by kernel_rfl) (fun V => by kernel_rfl) rfl (fun D V w5 hDi hpre hP K hK => ?_)
        have hpre := hpre.out
        have e14 : V 14 = Value.pointer (some ⟨gm, 0, none⟩) := (hpre 14 (by kernel_rfl)).2
        have e16 : V 16 = Value.agg #[.int .i64 q1, .int .i64 q2, .string q3, .slice a1 n1 c1, .slice a2 n2 c2, .slice a3 n3 c3] := (hpre 16 (by kernel_rfl)).2
        have e18 : V 18 = Value.int .i64 (depth + 1) := (hpre 18 (by kernel_rfl)).2
        have h13 := (hpre 13 (by kernel_rfl)).1
        obtain ⟨hM5, hN5⟩ := hP.2.2.2.1 (hP.2.2.2.2.2.2.1 h13) hDi
        go_simp
        go_at_call 50
        refine (CV.out w5 hP.1.1 hM5).mono ?_
        rintro e w6 ⟨rfl, hg6, hM6⟩
        exact put_is (by rw [e14, e16, e18]; kernel_rfl) (hK.out _ (hP.call19 h13 (hP.1.grown hBm hg6) (fun e => ⟨hM6 e, hN5.metered hg6 hgl⟩)))
       refine ⟨?_, ?_⟩
       ·refine det_on 13 false rfl (by kernel_rfl) (fun V => by kernel_rfl) rfl (fun D V w5 hDi hpre hP K hK => ?_)
        have hpre := hpre.out
        have e19 : V 19 = Value.bool true := (hpre 19 (by kernel_rfl)).2
        go_simp
        exact put_is (by rw [e19]; kernel_rfl) (hK.out _ hP)
       refine ⟨?_, ?_⟩
       ·refine det_free rfl (fun D V w5 hDi hpre hP K hK => ?_)
        have hpre := hpre.out
        have e13 : V 13 = Value.bool false := (hpre 13 (by kernel_rfl)).2
        have e20 : V 20 = Value.bool (!true) := (hpre 20 (by kernel_rfl)).2
        go_simp
        exact put_is (by rw [e13, e20]; kernel_rfl) (hK.out _ hP)
       trivial
      intro D V w4 hD hI
      have e21 : V 21 = Value.bool (!true) := hI.1 21 (hD 21 (by decide))
      have HP := Lib.hid hI.2
      have hD19 := hD 19 (by decide)
      clear hI hD
      obtain ⟨hMx, hNx⟩ := HP.out.2.2.2.2.1 hD19 rfl
      have HMx := Lib.hid hMx
      have HNx := Lib.hid hNx.more
      have HGx := Lib.hid HP.out.1.1
      have HD2 : Hid ((f.take (k + 1)).map (·.1)).Nodup := (hasName_take HK.out hD.out).2 (by rw [HNE2.out]; exact HRH.out.symm)
      have hmay := may_head HL0.out
      have HR2 : Hid (∃ r, Bson.row (Bson.enc d) (f.take (k + 1)) = some r ∧ (r.length : Int) = left - (qh - xl)) := by
       obtain ⟨r0, hr0, hr0l⟩ := hR.out
       obtain ⟨r', h1, h2⟩ := row_snoc (Bson.enc d) f k HK.out r0 xb hr0 (by rw [HNE2.out]; exact hmay.1) (by rw [HYE2.out]; exact HXB.out)
       rw [HNE2.out] at h2
       have := HXL.out
       have := HQH.out
       have := hmay.2
       exact ⟨r', h1, by omega⟩
      have hsz2 : w.heap.size < w4.heap.size := hNx.lt
      clear hMx hNx HP hD19 hmay
      go_wp2_with fail
      go_roundw
      case rel => exact ⟨k + 1, qh - xl, by go_num, by omega, by omega, by have := HQH.out; omega, HR2, HD2, HNx, HMx, HGx, hsz2⟩
      case measure => simp [intOf]; omega
     ·have HNO := Lib.hid hfv
      have CV : Hid (∀ W, w.grownBy W (some gm) → Mtr W gm qh → Calls Tryd.prog 50 #[.pointer (some ⟨gm, 0, none⟩), .agg #[.int .i64 q1, .int .i64 q2, .string q3, .slice a1 n1 c1, .slice a2 n2 c2, .slice a3 n3 c3], .int .i64 (depth + 1)] W fun e w' => e = .returned (.bool false) ∧ W.grownBy w' (some gm) ∧ (false = true → Mtr w' gm (qh - 0))) := fun W hg hM5 => (IH.out y _ W qh (HVW.out W hg) hM5 hqh0.1 hqh0.2 (HTW.out W hg)).mono (fun e w' hh => ⟨(mpost_false hh HNO.out).1, (mpost_false hh HNO.out).2, nofun⟩)
      clear hfv
      refine wp_region_inv (fun V => { tmps := #[Value.pointer (some ⟨gm, 0, none⟩), .slice (some ⟨g, o, none⟩) n c, .int .i64 depth, undef, undef, undef, u6, .pointer (some ⟨w.heap.size, 0, none⟩), .int .i64 k, .pointer (some ⟨wr.heap.size, 0, none⟩), .slice (some ⟨g, o, none⟩) n c, .int .i64 n, .int .i64 k, .bool true, .int .i64 k, .pointer (some ⟨g, o + k * 7, none⟩), .agg #[.string nm, .int .i64 q1, .int .i64 q2, .string q3, .slice a1 n1 c1, .slice a2 n2 c2, .slice a3 n3 c3], V 0, V 1, V 2, V 3, V 4, V 5, V 6, V 7, V 8, V 9, V 10, V 11, V 12, V 13, V 14, V 15, V 16, V 17, V 18, V 19, V 20, V 21, u39], defers := [] }) (DInv [Value.pointer (some ⟨gm, 0, none⟩), .pointer (some ⟨wr.heap.size, 0, none⟩), .string nm, .bool true, .bool false, .bool false, .slice (some ⟨g, o, none⟩) n c, .int .i64 k, .slice (some ⟨g, o, none⟩) k c, .pointer (some ⟨wr.heap.size, 0, none⟩), .string nm, .bool false, .bool false, .bool false, .pointer (some ⟨gm, 0, none⟩), .pointer (some ⟨wr.heap.size, 1, none⟩), .agg #[.int .i64 q1, .int .i64 q2, .string q3, .slice a1 n1 c1, .slice a2 n2 c2, .slice a3 n3 c3], .int .i64 depth, .int .i64 (depth + 1), .bool false, .bool (!false), .bool (!false)] (Ph3 (BoxBase w gm wr.heap.size #[.string nm, .int .i64 q1, .int .i64 q2, .string q3, .slice a1 n1 c1, .slice a2 n2 c2, .slice a3 n3 c3] 59) (fun W => Mtr W gm q ∧ Nms W w.heap.size (f.take k)) (fun W => Mtr W gm qh ∧ Nms W w.heap.size (f.take k)) (fun W => Mtr W gm qh ∧ Nms W w.heap.size (f.take k)) (fun W => false = true → Mtr W gm (qh - 0) ∧ Nms W w.heap.size (f.take k)))) (by kernel_rfl) (by kernel_rfl) (by kernel_rfl) (fun V => by kernel_rfl) ?_ (fun V => ⟨nofun, HBASE.out, fun _ => HP0.out, nofun, nofun, nofun, nofun, nofun, nofun, nofun⟩) ?_
      ·refine ⟨?_, ?_⟩
       ·refine det_free rfl (fun D V w5 hDi hpre hP K hK => ?_)
        have hpre := hpre.out
        go_simp
        exact put_is (by kernel_rfl) (hK.out _ hP)
       refine ⟨?_, ?_⟩
       ·refine det_free rfl (fun D V w5 hDi hpre hP K hK => ?_)
        have hpre := hpre.out
        go_simp
        exact put_is (by kernel_rfl) (hK.out _ hP)
       refine ⟨?_, ?_⟩
       ·refine det_free rfl (fun D V w5 hDi hpre hP K hK => ?_)
        have hpre := hpre.out
        have e1 : V 1 = Value.pointer (some ⟨wr.heap.size, 0, none⟩) := (hpre 1 (by kernel_rfl)).2
        have c0 := cell_of_row _ _ 0 _ _ _ hP.1.2
        go_simp
        exact put_is (by rw [e1]; kernel_rfl) (hK.out _ hP)
       refine ⟨?_, ?_⟩
       ·refine det_free rfl (fun D V w5 hDi hpre hP K hK => ?_)
        have hpre := hpre.out
        have e0 : V 0 = Value.pointer (some ⟨gm, 0, none⟩) := (hpre 0 (by kernel_rfl)).2
        have e2 : V 2 = Value.string nm := (hpre 2 (by kernel_rfl)).2
        obtain ⟨hM5, hN5⟩ := hP.2.1 hDi
        have hsz := hP.1.1.size
        go_simp
        go_at_call 74
        refine (CN.out w5 hP.1.1 hM5).mono ?_
        rintro e w6 ⟨rfl, hg6, hM6⟩
        exact put_is (by rw [e0, e2]; kernel_rfl) (hK.out _ (hP.call3 hDi (hP.1.grown hBm hg6) ⟨hM6, hN5.metered hg6 hgl⟩))
       refine ⟨?_, ?_⟩
       ·refine det_free rfl (fun D V w5 hDi hpre hP K hK => ?_)
        have hpre := hpre.out
        have e3 : V 3 = Value.bool true := (hpre 3 (by kernel_rfl)).2
        go_simp
        exact put_is (by rw [e3]; kernel_rfl) (hK.out _ hP)
       refine ⟨?_, ?_⟩
       ·refine det_free rfl (fun D V w5 hDi hpre hP K hK => ?_)
        have hpre := hpre.out
        have e4 : V 4 = Value.bool false := (hpre 4 (by kernel_rfl)).2
        go_simp
        exact put_is (by rw [e4]; kernel_rfl) (hK.out _ (hP.at5 (hpre 3 (by kernel_rfl)).1))
       refine ⟨?_, ?_⟩
       ·refine det_on 5 false rfl (by kernel_rfl) (fun V => by kernel_rfl) rfl (fun D V w5 hDi hpre hP K hK => ?_)
        have hpre := hpre.out
        go_simp
        exact put_is (by kernel_rfl) (hK.out _ hP)
       refine ⟨?_, ?_⟩
       ·refine det_on 5 false rfl (by kernel_rfl) (fun V => by kernel_rfl) rfl (fun D V w5 hDi hpre hP K hK => ?_)
        have hpre := hpre.out
        go_simp
        exact put_is (by kernel_rfl) (hK.out _ hP)
       refine ⟨?_, ?_⟩
       ·refine det_on 5 false rfl (by kernel_rfl) (fun V => by kernel_rfl) rfl (fun D V w5 hDi hpre hP K hK => ?_)
        have hpre := hpre.out
        have e6 : V 6 = Value.slice (some ⟨g, o, none⟩) n c := (hpre 6 (by kernel_rfl)).2
        have e7 : V 7 = Value.int .i64 k := (hpre 7 (by kernel_rfl)).2
        have hkc : k ≤ c := hkc0
        go_simp
        exact put_is (by rw [e6, e7]; kernel_rfl) (hK.out _ hP)
       refine ⟨?_, ?_⟩
       ·refine det_on 5 false rfl (by kernel_rfl) (fun V => by kernel_rfl) rfl (fun D V w5 hDi hpre hP K hK => ?_)
        have hpre := hpre.out
        go_simp
        exact put_is (by kernel_rfl) (hK.out _ hP)
       refine ⟨?_, ?_⟩
       ·refine det_on 5 false rfl (by kernel_rfl) (fun V => by kernel_rfl) rfl (fun D V w5 hDi hpre hP K hK => ?_)
        have hpre := hpre.out
        have e9 : V 9 = Value.pointer (some ⟨wr.heap.size, 0, none⟩) := (hpre 9 (by kernel_rfl)).2
        have c0 := cell_of_row _ _ 0 _ _ _ hP.1.2
        go_simp
        exact put_is (by rw [e9]; kernel_rfl) (hK.out _ hP)
       refine ⟨?_, ?_⟩
       ·refine det_on 5 false rfl (by kernel_rfl) (fun V => by kernel_rfl) rfl (fun D V w5 hDi hpre hP K hK => ?_)
        have hpre := hpre.out
        have e8 : V 8 = Value.slice (some ⟨g, o, none⟩) k c := (hpre 8 (by kernel_rfl)).2
        have e10 : V 10 = Value.string nm := (hpre 10 (by kernel_rfl)).2
        have h5 := (hpre 5 (by kernel_rfl)).1
        obtain ⟨hM5, hN5⟩ := hP.2.2.1 (hP.2.2.2.2.2.1 h5) hDi
        go_simp
        go_at_call 75
        refine (CH.out w5 hP.1.1 hN5).mono ?_
        rintro e w6 ⟨rfl, hm6, hN6⟩
        exact put_is (by rw [e8, e10]; kernel_rfl) (hK.out _ (hP.call11 h5 hDi (hP.1.held hBn (Nat.le_refl _) hm6) ⟨hmove_mtr hM5 hm6 hgl, hN6⟩))
       refine ⟨?_, ?_⟩
       ·refine det_free rfl (fun D V w5 hDi hpre hP K hK => ?_)
        have hpre := hpre.out
        have e5 : V 5 = Value.bool false := (hpre 5 (by kernel_rfl)).2
        have e11 : V 11 = Value.bool false := (hpre 11 (by kernel_rfl)).2
        go_simp
        exact put_is (by rw [e5, e11]; kernel_rfl) (hK.out _ hP)
       refine ⟨?_, ?_⟩
       ·refine det_free rfl (fun D V w5 hDi hpre hP K hK => ?_)
        have hpre := hpre.out
        have e12 : V 12 = Value.bool false := (hpre 12 (by kernel_rfl)).2
        go_simp
        exact put_is (by rw [e12]; kernel_rfl) (hK.out _ (hP.at13 (hpre 11 (by kernel_rfl)).1))
       refine ⟨?_, ?_⟩
       ·refine det_on 13 false rfl (by kernel_rfl) (fun V => by kernel_rfl) rfl (fun D V w5 hDi hpre hP K hK => ?_)
        have hpre := hpre.out
        go_simp
        exact put_is (by kernel_rfl) (hK.out _ hP)
       refine ⟨?_, ?_⟩
       ·refine det_on 13 false rfl (by kernel_rfl) (fun V => by kernel_rfl) rfl (fun D V w5 hDi hpre hP K hK => ?_)
        have hpre := hpre.out
        go_simp
        exact put_is (by kernel_rfl) (hK.out _ hP)
       refine ⟨?_, ?_⟩
       ·refine det_on 13 false rfl (by kernel_rfl) (fun V => by kernel_rfl) rfl (fun D V w5 hDi hpre hP K hK => ?_)
        have hpre := hpre.out
        have e15 : V 15 = Value.pointer (some ⟨wr.heap.size, 1, none⟩) := (hpre 15 (by kernel_rfl)).2
        have c1 := cell_of_row _ _ 1 _ _ _ hP.1.2
        have c2 := cell_of_row _ _ 2 _ _ _ hP.1.2
        have c3 := cell_of_row _ _ 3 _ _ _ hP.1.2
        have c4 := cell_of_row _ _ 4 _ _ _ hP.1.2
        have c5 := cell_of_row _ _ 5 _ _ _ hP.1.2
        have c6 := cell_of_row _ _ 6 _ _ _ hP.1.2
        go_simp
        exact put_is (by rw [e15]; kernel_rfl) (hK.out _ hP)
       refine ⟨?_, ?_⟩
       ·refine det_on 13 false rfl (by kernel_rfl) (fun V => by kernel_rfl) rfl (fun D V w5 hDi hpre hP K hK => ?_)
        have hpre := hpre.out
        go_simp
        exact put_is (by kernel_rfl) (hK.out _ hP)
       refine ⟨?_, ?_⟩
       ·refine det_on 13 false rfl (by kernel_rfl) (fun V => by kernel_rfl) rfl (fun D V w5 hDi hpre hP K hK => ?_)
        have hpre := hpre.out
        have e17 : V 17 = Value.int .i64 depth := (hpre 17 (by kernel_rfl)).2
        go_simp
        exact put_is (by rw [e17]; kernel_rfl) (hK.out _ hP)
       refine ⟨?_, ?_⟩
       ·refine det_on 13 false rfl (by kernel_rfl) (fun V => by kernel_rfl) rfl (fun D V w5 hDi hpre hP K hK => ?_)
        have hpre := hpre.out
        have e14 : V 14 = Value.pointer (some ⟨gm, 0, none⟩) := (hpre 14 (by kernel_rfl)).2
        have e16 : V 16 = Value.agg #[.int .i64 q1, .int .i64 q2, .string q3, .slice a1 n1 c1, .slice a2 n2 c2, .slice a3 n3 c3] := (hpre 16 (by kernel_rfl)).2
        have e18 : V 18 = Value.int .i64 (depth + 1) := (hpre 18 (by kernel_rfl)).2
        have h13 := (hpre 13 (by kernel_rfl)).1
        obtain ⟨hM5, hN5⟩ := hP.2.2.2.1 (hP.2.2.2.2.2.2.1 h13) hDi
        go_simp
        go_at_call 50
        refine (CV.out w5 hP.1.1 hM5).mono ?_
        rintro e w6 ⟨rfl, hg6, hM6⟩
        exact put_is (by rw [e14, e16, e18]; kernel_rfl) (hK.out _ (hP.call19 h13 (hP.1.grown hBm hg6) (fun e => ⟨hM6 e, hN5.metered hg6 hgl⟩)))
       refine ⟨?_, ?_⟩
       ·refine det_on 13 false rfl (by kernel_rfl) (fun V => by kernel_rfl) rfl (fun D V w5 hDi hpre hP K hK => ?_)
        have hpre := hpre.out
        have e19 : V 19 = Value.bool false := (hpre 19 (by kernel_rfl)).2
        go_simp
        exact put_is (by rw [e19]; kernel_rfl) (hK.out _ hP)
       refine ⟨?_, ?_⟩
       ·refine det_free rfl (fun D V w5 hDi hpre hP K hK => ?_)
        have hpre := hpre.out
        have e13 : V 13 = Value.bool false := (hpre 13 (by kernel_rfl)).2
        have e20 : V 20 = Value.bool (!false) := (hpre 20 (by kernel_rfl)).2
        go_simp
        exact put_is (by rw [e13, e20]; kernel_rfl) (hK.out _ hP)
       trivial
      intro D V w4 hD hI
      have e21 : V 21 = Value.bool (!false) := hI.1 21 (hD 21 (by decide))
      have HP := Lib.hid hI.2
      have hD19 := hD 19 (by decide)
      clear hI hD
      go_wp2_with fail
      go_ret
      refine ⟨false, rfl, HP.out.1.1, nofun, fun _ => ?_⟩
      rintro ⟨r, hr, hrl⟩
      unfold rowB at hr
      by_cases hnd : (f.map (·.1)).Nodup
      case neg => rw [if_neg hnd] at hr; cases hr
      rw [if_pos hnd] at hr
      obtain ⟨r0, hr0, hr0l⟩ := hR.out
      obtain ⟨h1, x, h2, h3⟩ := row_part _ _ k HK.out r r0 hr hr0
      rw [HNE2.out] at h1 h3
      rw [HYE2.out] at h2
      have h4 := (may_head HL0.out).2
      have h5 := HQH.out
      exact HNO.out ⟨x, h2, by omega⟩
   ·have HNO := Lib.hid hfit
    have CN : Hid (∀ W, w.grownBy W (some gm) → Mtr W gm q → Calls Tryd.prog 74 #[.pointer (some ⟨gm, 0, none⟩), .string nm] W fun e w' => e = .returned (.bool false) ∧ W.grownBy w' (some gm)) := fun W hg hM5 => (mname_any W gm q nm hM5 hql hnl (HTW.out W hg).t8).mono (fun e w' hh => mpost_false hh HNO.out)
    clear hfit
    refine wp_region_inv (fun V => { tmps := #[Value.pointer (some ⟨gm, 0, none⟩), .slice (some ⟨g, o, none⟩) n c, .int .i64 depth, undef, undef, undef, u6, .pointer (some ⟨w.heap.size, 0, none⟩), .int .i64 k, .pointer (some ⟨wr.heap.size, 0, none⟩), .slice (some ⟨g, o, none⟩) n c, .int .i64 n, .int .i64 k, .bool true, .int .i64 k, .pointer (some ⟨g, o + k * 7, none⟩), .agg #[.string nm, .int .i64 q1, .int .i64 q2, .string q3, .slice a1 n1 c1, .slice a2 n2 c2, .slice a3 n3 c3], V 0, V 1, V 2, V 3, V 4, V 5, V 6, V 7, V 8, V 9, V 10, V 11, V 12, V 13, V 14, V 15, V 16, V 17, V 18, V 19, V 20, V 21, u39], defers := [] }) (DInv [Value.pointer (some ⟨gm, 0, none⟩), .pointer (some ⟨wr.heap.size, 0, none⟩), .string nm, .bool false, .bool true, .bool true, undef, undef, undef, undef, undef, undef, .bool true, .bool true, undef, undef, undef, undef, undef, undef, undef, .bool true] (Ph3 (BoxBase w gm wr.heap.size #[.string nm, .int .i64 q1, .int .i64 q2, .string q3, .slice a1 n1 c1, .slice a2 n2 c2, .slice a3 n3 c3] 59) (fun W => Mtr W gm q ∧ Nms W w.heap.size (f.take k)) (fun _ => True) (fun _ => True) (fun _ => True))) (by kernel_rfl) (by kernel_rfl) (by kernel_rfl) (fun V => by kernel_rfl) ?_ (fun V => ⟨nofun, HBASE.out, fun _ => HP0.out, nofun, nofun, nofun, nofun, nofun, nofun, nofun⟩) ?_
    ·refine ⟨?_, ?_⟩
     ·refine det_free rfl (fun D V w5 hDi hpre hP K hK => ?_)
      have hpre := hpre.out
      go_simp
      exact put_is (by kernel_rfl) (hK.out _ hP)
     refine ⟨?_, ?_⟩
     ·refine det_free rfl (fun D V w5 hDi hpre hP K hK => ?_)
      have hpre := hpre.out
      go_simp
      exact put_is (by kernel_rfl) (hK.out _ hP)
     refine ⟨?_, ?_⟩
     ·refine det_free rfl (fun D V w5 hDi hpre hP K hK => ?_)
      have hpre := hpre.out
      have e1 : V 1 = Value.pointer (some ⟨wr.heap.size, 0, none⟩) := (hpre 1 (by kernel_rfl)).2
      have c0 := cell_of_row _ _ 0 _ _ _ hP.1.2
      go_simp
      exact put_is (by rw [e1]; kernel_rfl) (hK.out _ hP)
     refine ⟨?_, ?_⟩
     ·refine det_free rfl (fun D V w5 hDi hpre hP K hK => ?_)
      have hpre := hpre.out
      have e0 : V 0 = Value.pointer (some ⟨gm, 0, none⟩) := (hpre 0 (by kernel_rfl)).2
      have e2 : V 2 = Value.string nm := (hpre 2 (by kernel_rfl)).2
      obtain ⟨hM5, hN5⟩ := hP.2.1 hDi
      have hsz := hP.1.1.size
      go_simp
      go_at_call 74
      refine (CN.out w5 hP.1.1 hM5).mono ?_
      rintro e w6 ⟨rfl, hg6⟩
      exact put_is (by rw [e0, e2]; kernel_rfl) (hK.out _ (hP.call3 hDi (hP.1.grown hBm hg6) trivial))
     refine ⟨?_, ?_⟩
     ·refine det_free rfl (fun D V w5 hDi hpre hP K hK => ?_)
      have hpre := hpre.out
      have e3 : V 3 = Value.bool false := (hpre 3 (by kernel_rfl)).2
      go_simp
      exact put_is (by rw [e3]; kernel_rfl) (hK.out _ hP)
     refine ⟨?_, ?_⟩
     ·refine det_free rfl (fun D V w5 hDi hpre hP K hK => ?_)
      have hpre := hpre.out
      have e4 : V 4 = Value.bool true := (hpre 4 (by kernel_rfl)).2
      go_simp
      exact put_is (by rw [e4]; kernel_rfl) (hK.out _ (hP.at5 (hpre 3 (by kernel_rfl)).1))
     refine ⟨?_, ?_⟩
     ·exact det_off 5 false rfl (by kernel_rfl) (fun V => by kernel_rfl) rfl rfl (fun D w5 hDi hpre hP => hP)
     refine ⟨?_, ?_⟩
     ·exact det_off 5 false rfl (by kernel_rfl) (fun V => by kernel_rfl) rfl rfl (fun D w5 hDi hpre hP => hP)
     refine ⟨?_, ?_⟩
     ·exact det_off 5 false rfl (by kernel_rfl) (fun V => by kernel_rfl) rfl rfl (fun D w5 hDi hpre hP => hP)
     refine ⟨?_, ?_⟩
     ·exact det_off 5 false rfl (by kernel_rfl) (fun V => by kernel_rfl) rfl rfl (fun D w5 hDi hpre hP => hP)
     refine ⟨?_, ?_⟩
     ·exact det_off 5 false rfl (by kernel_rfl) (fun V => by kernel_rfl) rfl rfl (fun D w5 hDi hpre hP => hP)
     refine ⟨?_, ?_⟩
     ·exact det_off 5 false rfl (by kernel_rfl) (fun V => by kernel_rfl) rfl rfl (fun D w5 hDi hpre hP => hP.call11 (hpre.out 5 (by kernel_rfl)) hDi hP.1 trivial)
     refine ⟨?_, ?_⟩
     ·refine det_free rfl (fun D V w5 hDi hpre hP K hK => ?_)
      have hpre := hpre.out
      have e5 : V 5 = Value.bool true := (hpre 5 (by kernel_rfl)).2
      have e11 : V 11 = undef := (hpre 11 (by kernel_rfl)).2
      go_simp
      exact put_is (by rw [e5, e11]; kernel_rfl) (hK.out _ hP)
     refine ⟨?_, ?_⟩
     ·refine det_free rfl (fun D V w5 hDi hpre hP K hK => ?_)
      have hpre := hpre.out
      have e12 : V 12 = Value.bool true := (hpre 12 (by kernel_rfl)).2
      go_simp
      exact put_is (by rw [e12]; kernel_rfl) (hK.out _ (hP.at13 (hpre 11 (by kernel_rfl)).1))
     refine ⟨?_, ?_⟩
     ·exact det_off 13 false rfl (by kernel_rfl) (fun V => by kernel_rfl) rfl rfl (fun D w5 hDi hpre hP => hP)
     refine ⟨?_, ?_⟩
     ·exact det_off 13 false rfl (by kernel_rfl) (fun V => by kernel_rfl) rfl rfl (fun D w5 hDi hpre hP => hP)
     refine ⟨?_, ?_⟩
     ·exact det_off 13 false rfl (by kernel_rfl) (fun V => by kernel_rfl) rfl rfl (fun D w5 hDi hpre hP => hP)
     refine ⟨?_, ?_⟩
     ·exact det_off 13 false rfl (by kernel_rfl) (fun V => by kernel_rfl) rfl rfl (fun D w5 hDi hpre hP => hP)
     refine ⟨?_, ?_⟩
     ·exact det_off 13 false rfl (by kernel_rfl) (fun V => by kernel_rfl) rfl rfl (fun D w5 hDi hpre hP => hP)
     refine ⟨?_, ?_⟩
     ·exact det_off 13 false rfl (by kernel_rfl) (fun V => by kernel_rfl) rfl rfl (fun D w5 hDi hpre hP => hP.call19 (hpre.out 13 (by kernel_rfl)) hP.1 trivial)
     refine ⟨?_, ?_⟩
     ·exact det_off 13 false rfl (by kernel_rfl) (fun V => by kernel_rfl) rfl rfl (fun D w5 hDi hpre hP => hP)
     refine ⟨?_, ?_⟩
     ·refine det_free rfl (fun D V w5 hDi hpre hP K hK => ?_)
      have hpre := hpre.out
      have e13 : V 13 = Value.bool true := (hpre 13 (by kernel_rfl)).2
      have e20 : V 20 = undef := (hpre 20 (by kernel_rfl)).2
      go_simp
      exact put_is (by rw [e13, e20]; kernel_rfl) (hK.out _ hP)
     trivial
    intro D V w4 hD hI
    have e21 : V 21 = Value.bool true := hI.1 21 (hD 21 (by decide))
    have HP := Lib.hid hI.2
    have hD19 := hD 19 (by decide)
    clear hI hD
    go_wp2_with fail
    go_ret
    refine ⟨false, rfl, HP.out.1.1, nofun, fun _ => ?_⟩
    rintro ⟨r, hr, hrl⟩
    unfold rowB at hr
    by_cases hnd : (f.map (·.1)).Nodup
    case neg => rw [if_neg hnd] at hr; cases hr
    rw [if_pos hnd] at hr
    obtain ⟨r0, hr0, hr0l⟩ := hR.out
    obtain ⟨h1, x, h2, h3⟩ := row_part _ _ k HK.out r r0 hr hr0
    rw [HNE2.out] at h1 h3
    exact HNO.out ⟨_, head_may h1, by have := (may_head (head_may h1)).2; omega⟩
  ·obtain rfl : n = k := by omega
   go_wp2_with fail
   go_ret
   obtain ⟨r, hr, hrl⟩ := hR.out
   have ht : f.take n = f := List.take_of_length_le (by rw [HN.out]; exact Nat.le_refl _)
   have hD' := hD.out
   rw [ht] at hr hD'
   refine ⟨true, rfl, hGk.out, fun _ => ⟨r, ?_, by omega, ?_⟩, nofun⟩
   ·unfold rowB
    rw [if_pos hD', hr]
   ·rw [hrl, show left - (left - q) = q by omega]
    exact hMk.out
end Go.Proofs.YtngllchoiffniaaDoor
end
