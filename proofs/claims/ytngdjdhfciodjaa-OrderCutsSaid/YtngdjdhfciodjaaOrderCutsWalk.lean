/- aqueductlaw7.OrderCuts. -/
import Derived.Test.YtngdjdhfciodjaaOrderCut
import Derived.Test.YtngdjdhfciodjaaOrderAwake
import Derived.Test.YtngdjdhfciodjaaOrderFew
import Derived.Test.YtngdjdhfciodjaaRefSame
import Derived.Test.YtngdjdhfciodjaaRefCmp
import Derived.Deep.RegionHeld3
import Derived.Deep.CutRange
import Derived.Test.YtngdjdhfciodjaaBoxes
import Derived.Lib.QuietBelow
namespace Go.Proofs.Ytngdjdhfciodjaa
open Go.RowKit
open Seal
open Bson (Val)
open Go.Sort
theorem list_in {w : World} {Q : Nat → Prop} {h : Nat} {a : Option Addr} {c : Nat} {l : List Val} (hI : ItemsIn w Q (VIn w Q h) a l) (hlb : l.length ≤ 1353245080339) (hc : l.length ≤ c) (hcm : c ≤ 9223372036854775807) :
    VIn w Q (h + 1) (.mk 7 0 ⟨#[]⟩ [] [] l) (.agg #[.int .i64 7, .int .i64 0, .string ⟨#[]⟩, .slice none 0 0, .slice none 0 0, .slice a l.length c]) :=
  ⟨none, none, a, 0, 0, c, rfl, plain_lim 7 0 [] l (by omega) (by omega) (by simp) hlb, ⟨Nat.le_refl _, by omega⟩, ⟨Nat.le_refl _, by omega⟩, ⟨hc, hcm⟩, .inl rfl, .inl rfl, hI⟩
/-- A value that is read at a height elsewhere is read at that height here. -/
theorem VIn.lower {w w' : World} {Q Q' : Nat → Prop} : ∀ {h : Nat} {h' : Nat} {x : Val} {v v' : Value}, VIn w Q h x v → VIn w' Q' h' x v' → VIn w' Q' h x v'
  | 0, _, _, _, _, hv, _ => hv.elim
  | _ + 1, 0, _, _, _, _, hv => hv.elim
  | h + 1, h' + 1, x, v, v', ⟨_, _, _, _, _, _, _, _, _, _, _, _, hF0, hI0⟩, ⟨ba, fa, la, bc, fc, lc, e, h1, h2, h3, h4, hB, hF, hI⟩ => by
    refine ⟨ba, fa, la, bc, fc, lc, e, h1, h2, h3, h4, hB, ?_, ?_⟩
    · rcases hF with hF | ⟨g, o, e1, hq, hall⟩
      · exact .inl hF
      · refine .inr ⟨g, o, e1, hq, fun i hi => ?_⟩
        obtain ⟨a1, a2, v1, a3, a4⟩ := hall i hi
        rcases hF0 with hF0 | ⟨g0, o0, _, _, hall0⟩
        · rw [hF0] at hi; simp at hi
        · obtain ⟨_, _, v0, _, a40⟩ := hall0 i hi
          exact ⟨a1, a2, v1, a3, VIn.lower a40 a4⟩
    · rcases hI with hI | ⟨g, o, e1, hq, hall⟩
      · exact .inl hI
      · refine .inr ⟨g, o, e1, hq, fun i hi => ?_⟩
        obtain ⟨v1, a3, a4⟩ := hall i hi
        rcases hI0 with hI0 | ⟨g0, o0, _, _, hall0⟩
        · rw [hI0] at hi; simp at hi
        · obtain ⟨v0, _, a40⟩ := hall0 i hi
          exact ⟨v1, a3, VIn.lower a40 a4⟩
/-- What both calls of Cut have left, in two boxes. -/
def CutsAt (h : Nat) (x : Val) (w : World) (p4 p5 : Value) (W : World) : Prop :=
  ∃ (P4 P5 : Nat) (ya yb : Val) (a0 a1 a2 a3 a4 a5 b0 b1 b2 b3 b4 b5 : Value), p4 = .pointer (some ⟨P4, 0, none⟩) ∧ p5 = .pointer (some ⟨P5, 0, none⟩) ∧ Order.CutIs h false x ya ∧ Order.CutIs h true x yb ∧
    IsBox W P4 a0 a1 a2 a3 a4 a5 ∧ IsBox W P5 b0 b1 b2 b3 b4 b5 ∧ VIn W (fun _ => True) (h + 1) ya (.agg #[a0, a1, a2, a3, a4, a5]) ∧ VIn W (fun _ => True) (h + 1) yb (.agg #[b0, b1, b2, b3, b4, b5]) ∧ Below w.heap.size w W
set_option maxRecDepth 100000 in
set_option maxHeartbeats 20000000 in
theorem cuts_any (h : Nat) (Q : Nat → Prop) (a : Option Addr) (n c : Nat) (l : List Val) (w : World) (hn : l.length = n) (hlb : n ≤ 1353245080339) (hc : n ≤ c) (hcm : c ≤ 9223372036854775807) (hI : ItemsIn w Q (VIn w Q (h + 1)) a l) :
    Calls Try.prog 5 #[.slice a n c] w fun e w' => e = .returned (.bool true) ∧ Below w.heap.size w w' := by
  have HI := Lib.hid (fun (W : World) (hb : Below w.heap.size w W) => (hI.kept (Kept.of_below hb) (fun _ z => z) (fun _ _ z => VIn.keep (h := h + 1) hb z) : ItemsIn W Q (VIn W Q (h + 1)) a l))
  have HN := Lib.hid hn
  clear hI hn
  go_enter Try.func5, Try.ntmps5
  go_wp2_with fail
  go_at_call 9
  refine (awake_any _).mono ?_
  rintro e w1 ⟨rfl, hb1⟩
  have HB1 := Lib.hid hb1
  clear hb1
  go_wp2_with fail
  go_at_call 10
  refine (few_any Q h a n c l w1 HN.out hlb (HI.out w1 HB1.out)).mono ?_
  rintro e w2 ⟨f1, rfl, hb2⟩
  have HB2 := Lib.hid (HB1.out.trans (hb2.mono HB1.out.size))
  clear hb2
  cases f1 with
  | false =>
    go_wp2_with fail
    go_ret
    exact ⟨rfl, HB2.out⟩
  | true =>
  go_wp2_with fail
  have HX0 : Hid (VIn w (fun _ => True) (h + 2) (.mk 7 0 ⟨#[]⟩ [] [] l : Val) (.agg #[.int .i64 7, .int .i64 0, .string ⟨#[]⟩, .slice none 0 0, .slice none 0 0, .slice a n c])) := by
    have := list_in (c := c) (HI.out w (Below.refl _ _)) (by rw [HN.out]; exact hlb) (by rw [HN.out]; exact hc) hcm
    rw [HN.out] at this
    exact (VIn.any (h := h + 2) this)
  have HSV0 := Lib.hid (IsBox.new w2 (.int .i64 7) (.int .i64 0) (.string ⟨#[]⟩) (.slice none 0 0) (.slice none 0 0) (.slice a n c))
  have HBV : Hid (Below w.heap.size w (w2.alloc (.cells #[.int .i64 7, .int .i64 0, .string ⟨#[]⟩, .slice none 0 0, .slice none 0 0, .slice a n c] 26))) := HB2.out.alloc HB2.out.size _
  obtain ⟨V, hV⟩ : ∃ V, V = w2.heap.size := ⟨_, rfl⟩
  rw [← hV] at HSV0
  have HVV : Hid (w.heap.size ≤ V) := by rw [hV]; exact HB2.out.size
  rw [← hV]
  clear hV
  generalize hW : w2.alloc (.cells #[.int .i64 7, .int .i64 0, .string ⟨#[]⟩, .slice none 0 0, .slice none 0 0, .slice a n c] 26) = W0 at *
  clear hW
  go_cut [4, 5] from 16 to 19 (fun p4 p5 W => CutsAt (h + 1) (.mk 7 0 ⟨#[]⟩ [] [] l : Val) w p4 p5 W)
  case first =>
    have hdr : Below W0.heap.size W0 W0.drew := (Below.refl _ W0).drew
    have HSd := Lib.hid (HSV0.out.keep hdr)
    have HBd := Lib.hid (HBV.out.trans (hdr.mono HBV.out.size))
    clear hdr
    have hkeep := HSd.out.cells
    refine wp_region_held_drew (S := fun W => W.cell? ⟨V, 0, none⟩ = some (.int .i64 7) ∧ W.cell? ⟨V, 1, none⟩ = some (.int .i64 0) ∧ W.cell? ⟨V, 2, none⟩ = some (.string ⟨#[]⟩) ∧ W.cell? ⟨V, 3, none⟩ = some (.slice none 0 0) ∧ W.cell? ⟨V, 4, none⟩ = some (.slice none 0 0) ∧ W.cell? ⟨V, 5, none⟩ = some (.slice a n c)) (by kernel_rfl) (by exact hkeep) (fun hHeld => ?_)
    clear hkeep
    generalize W0.drew = wd at *
    refine wpAnyH_take (i := 0) (v := ?_) rfl (by kernel_rfl) (by kernel_rfl) (by kernel_rfl) (fun _ _ _ h => h) (Or.inl ⟨by kernel_rfl, ?_⟩) (by assumption) ?_
    rotate_left
    · intro wS hSw
      (try dsimp only at hSw)
      go_simp
      try (with_reducible rfl)
    try simp only [List.getElem_toArray, List.getElem_cons_succ, List.getElem_cons_zero, Act.put, List.setIfInBounds_toArray, List.set_cons_zero, List.set_cons_succ]
    refine wpAnyH_take (i := 2) (v := ?_) rfl (by kernel_rfl) (by kernel_rfl) (by kernel_rfl) (fun _ _ _ h => h) (Or.inl ⟨by kernel_rfl, ?_⟩) (by assumption) ?_
    rotate_left
    · intro wS hSw
      (try dsimp only at hSw)
      go_simp
      try (with_reducible rfl)
    try simp only [List.getElem_toArray, List.getElem_cons_succ, List.getElem_cons_zero, Act.put, List.setIfInBounds_toArray, List.set_cons_zero, List.set_cons_succ]
    refine wpAnyH_ready (rs := [1, 4, 5]) (by kernel_rfl) (by simp) ?_
    refine AllReadyH.cons rfl (fun K hK => ?_) (AllReadyH.cons rfl (fun K hK => ?_) (AllReadyH.cons rfl (fun K hK => ?_) (AllReadyH.nil)))
    · go_simp
      go_at_call 17
      refine (Cut_any (h + 1) (fun _ => True) false (.mk 7 0 ⟨#[]⟩ [] [] l : Val) _ wd (VIn.keep (h := h + 2) HBd.out HX0.out)).mono ?_
      rintro e u1 ⟨va, ya, rfl, hca, hva, hb1⟩
      have HB1 := Lib.hid (HBd.out.trans (hb1.mono HBd.out.size))
      have HS1 := Lib.hid (HSd.out.keep hb1)
      have HZ1 : Hid (wd.heap.size ≤ u1.heap.size) := hb1.size
      have HVay1 := Lib.hid (VIn.lt (h := h + 2) hva)
      have HCa := Lib.hid hca
      clear hva hca
      clear hb1
      refine hK.out _ _ (by exact HS1.out.cells) (fun hHeld => ?_)
      clear hK K
      try simp only [List.getElem_toArray, List.getElem_cons_succ, List.getElem_cons_zero, Act.put, List.setIfInBounds_toArray, List.set_cons_zero, List.set_cons_succ]
      refine wpAnyH_ready (rs := [3, 4, 5]) (by kernel_rfl) (by simp) ?_
      refine AllReadyH.cons rfl (fun K hK => ?_) (AllReadyH.cons rfl (fun K hK => ?_) (AllReadyH.cons rfl (fun K hK => ?_) (AllReadyH.nil)))
      · go_simp
        go_at_call 17
        refine (Cut_any (h + 1) (fun _ => True) true (.mk 7 0 ⟨#[]⟩ [] [] l : Val) _ u1 (VIn.keep (h := h + 2) HB1.out HX0.out)).mono ?_
        rintro e u2 ⟨vb, yb, rfl, hcb, hvb, hb2⟩
        have HB2 := Lib.hid (HB1.out.trans (hb2.mono HB1.out.size))
        have HS2 := Lib.hid (HS1.out.keep hb2)
        have HZ2 : Hid (u1.heap.size ≤ u2.heap.size) := hb2.size
        have HVby2 := Lib.hid (VIn.lt (h := h + 2) hvb)
        have HCb := Lib.hid hcb
        clear hvb hcb
        have HVax2 := Lib.hid (VIn.keep (h := h + 2) hb2 HVay1.out)
        clear hb2
        refine hK.out _ _ (by exact HS2.out.cells) (fun hHeld => ?_)
        clear hK K
        try simp only [List.getElem_toArray, List.getElem_cons_succ, List.getElem_cons_zero, Act.put, List.setIfInBounds_toArray, List.set_cons_zero, List.set_cons_succ]
        refine wpAnyH_ready (rs := [4, 5]) (by kernel_rfl) (by simp) ?_
        refine AllReadyH.cons rfl (fun K hK => ?_) (AllReadyH.cons rfl (fun K hK => ?_) (AllReadyH.nil))
        · go_simp
          have hb3 : Below u2.heap.size u2 (u2.alloc (.cells #[.int .i64 0, .int .i64 0, .string ⟨#[]⟩, .slice none 0 0, .slice none 0 0, .slice none 0 0] 26)) := (Below.refl _ _).alloc (Nat.le_refl _) _
          have HN3 := Lib.hid (IsBox.new u2 (.int .i64 0) (.int .i64 0) (.string ⟨#[]⟩) (.slice none 0 0) (.slice none 0 0) (.slice none 0 0))
          have HB3 := Lib.hid (HB2.out.trans (hb3.mono HB2.out.size))
          have HS3 := Lib.hid (HS2.out.keep hb3)
          have HZ3 : Hid ((u2.alloc (.cells #[.int .i64 0, .int .i64 0, .string ⟨#[]⟩, .slice none 0 0, .slice none 0 0, .slice none 0 0] 26)).heap.size = u2.heap.size + 1) := by show _ = _; simp
          have HG3 : Hid (V < u2.heap.size) := HS2.out.lt
          have HVax3 := Lib.hid (VIn.keep (h := h + 2) hb3 HVax2.out)
          have HVbx3 := Lib.hid (VIn.keep (h := h + 2) hb3 HVby2.out)
          clear hb3
          generalize u2.alloc (.cells #[.int .i64 0, .int .i64 0, .string ⟨#[]⟩, .slice none 0 0, .slice none 0 0, .slice none 0 0] 26) = u3 at *
          refine hK.out _ _ (by exact HS3.out.cells) (fun hHeld => ?_)
          clear hK K
          try simp only [List.getElem_toArray, List.getElem_cons_succ, List.getElem_cons_zero, Act.put, List.setIfInBounds_toArray, List.set_cons_zero, List.set_cons_succ]
          refine wpAnyH_ready (rs := [5]) (by kernel_rfl) (by simp) ?_
          refine AllReadyH.cons rfl (fun K hK => ?_) (AllReadyH.nil)
          go_simp
          have hb4 : Below u3.heap.size u3 (u3.alloc (.cells #[.int .i64 0, .int .i64 0, .string ⟨#[]⟩, .slice none 0 0, .slice none 0 0, .slice none 0 0] 26)) := (Below.refl _ _).alloc (Nat.le_refl _) _
          have HN4 := Lib.hid (IsBox.new u3 (.int .i64 0) (.int .i64 0) (.string ⟨#[]⟩) (.slice none 0 0) (.slice none 0 0) (.slice none 0 0))
          have HB4 := Lib.hid (HB3.out.trans (hb4.mono HB3.out.size))
          have HS4 := Lib.hid (HS3.out.keep hb4)
          have HZ4 : Hid ((u3.alloc (.cells #[.int .i64 0, .int .i64 0, .string ⟨#[]⟩, .slice none 0 0, .slice none 0 0, .slice none 0 0] 26)).heap.size = u3.heap.size + 1) := by show _ = _; simp
          have HG4 : Hid (V < u3.heap.size) := HS3.out.lt
          have HNE : Hid (u2.heap.size < u3.heap.size) := HN3.out.lt
          have H4x4 := Lib.hid (HN3.out.keep hb4)
          have HVax4 := Lib.hid (VIn.keep (h := h + 2) hb4 HVax3.out)
          have HVbx4 := Lib.hid (VIn.keep (h := h + 2) hb4 HVbx3.out)
          clear hb4
          generalize u3.alloc (.cells #[.int .i64 0, .int .i64 0, .string ⟨#[]⟩, .slice none 0 0, .slice none 0 0, .slice none 0 0] 26) = u4 at *
          refine hK.out _ _ (by exact HS4.out.cells) (fun hHeld => ?_)
          clear hK K
          try simp only [List.getElem_toArray, List.getElem_cons_succ, List.getElem_cons_zero, Act.put, List.setIfInBounds_toArray, List.set_cons_zero, List.set_cons_succ]
          obtain ⟨kd, nd, sd, bd, fd, ld, bld, bcd, fld, fcd, lld, lcd, rfl⟩ := VIn.shape (h := h + 2) HVax4.out
          obtain ⟨ke, ne, se, be, fe, le, ble, bce, fle, fce, lle, lce, rfl⟩ := VIn.shape (h := h + 2) HVbx4.out
          obtain ⟨Q4, hQ4⟩ : ∃ q, q = u2.heap.size := ⟨_, rfl⟩
          obtain ⟨Q5, hQ5⟩ : ∃ q, q = u3.heap.size := ⟨_, rfl⟩
          have h45 : ¬ Q4 = Q5 := by have := HNE.out; omega
          have h54 : ¬ Q5 = Q4 := by omega
          have hv4 : ¬ V = Q4 := by have := HG3.out; omega
          have hv5 : ¬ V = Q5 := by have := HG4.out; omega
          have HL4 : Hid (w.heap.size ≤ Q4) := by have := HG3.out; have := HVV.out; show _ ≤ _; omega
          have HL5 : Hid (w.heap.size ≤ Q5) := by have := HG4.out; have := HVV.out; show _ ≤ _; omega
          have HK4 : Hid (IsBox u4 Q4 (.int .i64 0) (.int .i64 0) (.string ⟨#[]⟩) (.slice none 0 0) (.slice none 0 0) (.slice none 0 0)) := by rw [hQ4]; exact H4x4.out
          have HK5 : Hid (IsBox u4 Q5 (.int .i64 0) (.int .i64 0) (.string ⟨#[]⟩) (.slice none 0 0) (.slice none 0 0) (.slice none 0 0)) := by rw [hQ5]; exact HN4.out
          rw [← hQ4, ← hQ5]
          have HNV := Lib.hid (And.intro h45 (And.intro h54 (And.intro hv4 hv5)))
          have HVA : Hid (∀ vs us, VIn (puts (puts u4 Q4 0 vs) Q5 0 us) (fun _ => True) (h + 2) ya (.agg #[.int .i64 kd, .int .i64 nd, .string sd, .slice bd bld bcd, .slice fd fld fcd, .slice ld lld lcd])) := fun vs us => (VIn.kept (Q' := fun _ => True) (puts_kept _ (by have := HZ1.out; have := HZ2.out; have := HZ3.out; have := HZ4.out; omega) 0 us) (fun _ _ => trivial) (VIn.kept (puts_kept _ (by have := HZ1.out; have := HZ2.out; have := HZ3.out; have := HZ4.out; omega) 0 vs) (fun _ hg => hg) HVax4.out))
          have HVB : Hid (∀ vs us, VIn (puts (puts u4 Q4 0 vs) Q5 0 us) (fun _ => True) (h + 2) yb (.agg #[.int .i64 ke, .int .i64 ne, .string se, .slice be ble bce, .slice fe fle fce, .slice le lle lce])) := fun vs us => (VIn.kept (Q' := fun _ => True) (puts_kept _ (by have := HZ1.out; have := HZ2.out; have := HZ3.out; have := HZ4.out; omega) 0 us) (fun _ _ => trivial) (VIn.kept (puts_kept _ (by have := HZ1.out; have := HZ2.out; have := HZ3.out; have := HZ4.out; omega) 0 vs) (fun _ hg => hg) HVbx4.out))
          clear hQ4 hQ5
          obtain ⟨z0, z1, z2, z3, z4, z5⟩ := HK4.out.cells
          obtain ⟨t0, t1, t2, t3, t4, t5⟩ := HK4.out.thaw
          obtain ⟨y0, y1, y2, y3, y4, y5⟩ := HK5.out.cells
          obtain ⟨q0, q1, q2, q3, q4, q5⟩ := HK5.out.thaw
          refine wpAnyH_ready (rs := [6]) (by kernel_rfl) (by simp) ?_
          refine AllReadyH.cons rfl (fun K hK => ?_) (AllReadyH.nil)
          go_simp
          refine hK.out _ _ (by exact (HS4.out.other hv4 0 [.int .i64 kd, .int .i64 nd, .string sd, .slice bd bld bcd, .slice fd fld fcd, .slice ld lld lcd]).cells) (fun hHeld => ?_)
          clear hK K
          try simp only [List.getElem_toArray, List.getElem_cons_succ, List.getElem_cons_zero, Act.put, List.setIfInBounds_toArray, List.set_cons_zero, List.set_cons_succ]
          refine wpAnyH_ready (rs := [7]) (by kernel_rfl) (by simp) ?_
          refine AllReadyH.cons rfl (fun K hK => ?_) (AllReadyH.nil)
          go_simp
          refine hK.out _ _ (by exact ((HS4.out.other hv4 0 [.int .i64 kd, .int .i64 nd, .string sd, .slice bd bld bcd, .slice fd fld fcd, .slice ld lld lcd]).other hv5 0 [.int .i64 ke, .int .i64 ne, .string se, .slice be ble bce, .slice fe fle fce, .slice le lle lce]).cells) (fun hHeld => ?_)
          clear hK K
          try simp only [List.getElem_toArray, List.getElem_cons_succ, List.getElem_cons_zero, Act.put, List.setIfInBounds_toArray, List.set_cons_zero, List.set_cons_succ]
          refine wpAnyH_done (by kernel_rfl) ?_ _
          go_wp2_with fail
          go_meet
          have F4 := (HK4.out.put (.int .i64 kd) (.int .i64 nd) (.string sd) (.slice bd bld bcd) (.slice fd fld fcd) (.slice ld lld lcd)).other h45 0 [.int .i64 ke, .int .i64 ne, .string se, .slice be ble bce, .slice fe fle fce, .slice le lle lce]
          have F5 := (HK5.out.other h54 0 [.int .i64 kd, .int .i64 nd, .string sd, .slice bd bld bcd, .slice fd fld fcd, .slice ld lld lcd]).put (.int .i64 ke) (.int .i64 ne) (.string se) (.slice be ble bce) (.slice fe fle fce) (.slice le lle lce)
          have F6 := HVA.out [.int .i64 kd, .int .i64 nd, .string sd, .slice bd bld bcd, .slice fd fld fcd, .slice ld lld lcd] [.int .i64 ke, .int .i64 ne, .string se, .slice be ble bce, .slice fe fle fce, .slice le lle lce]
          have F7 := HVB.out [.int .i64 kd, .int .i64 nd, .string sd, .slice bd bld bcd, .slice fd fld fcd, .slice ld lld lcd] [.int .i64 ke, .int .i64 ne, .string se, .slice be ble bce, .slice fe fle fce, .slice le lle lce]
          have F8 := puts_below (puts_below HB4.out HL4.out [.int .i64 kd, .int .i64 nd, .string sd, .slice bd bld bcd, .slice fd fld fcd, .slice ld lld lcd] 0) HL5.out [.int .i64 ke, .int .i64 ne, .string se, .slice be ble bce, .slice fe fle fce, .slice le lle lce] 0
          exact ⟨Q4, Q5, ya, yb, _, _, _, _, _, _, _, _, _, _, _, _, rfl, rfl, HCa.out, HCb.out, F4, F5, F6, F7, F8⟩
        · go_simp
          have hb5 : Below u2.heap.size u2 (u2.alloc (.cells #[.int .i64 0, .int .i64 0, .string ⟨#[]⟩, .slice none 0 0, .slice none 0 0, .slice none 0 0] 26)) := (Below.refl _ _).alloc (Nat.le_refl _) _
          have HN5 := Lib.hid (IsBox.new u2 (.int .i64 0) (.int .i64 0) (.string ⟨#[]⟩) (.slice none 0 0) (.slice none 0 0) (.slice none 0 0))
          have HB5 := Lib.hid (HB2.out.trans (hb5.mono HB2.out.size))
          have HS5 := Lib.hid (HS2.out.keep hb5)
          have HZ5 : Hid ((u2.alloc (.cells #[.int .i64 0, .int .i64 0, .string ⟨#[]⟩, .slice none 0 0, .slice none 0 0, .slice none 0 0] 26)).heap.size = u2.heap.size + 1) := by show _ = _; simp
          have HG5 : Hid (V < u2.heap.size) := HS2.out.lt
          have HVax5 := Lib.hid (VIn.keep (h := h + 2) hb5 HVax2.out)
          have HVbx5 := Lib.hid (VIn.keep (h := h + 2) hb5 HVby2.out)
          clear hb5
          generalize u2.alloc (.cells #[.int .i64 0, .int .i64 0, .string ⟨#[]⟩, .slice none 0 0, .slice none 0 0, .slice none 0 0] 26) = u5 at *
          refine hK.out _ _ (by exact HS5.out.cells) (fun hHeld => ?_)
          clear hK K
          try simp only [List.getElem_toArray, List.getElem_cons_succ, List.getElem_cons_zero, Act.put, List.setIfInBounds_toArray, List.set_cons_zero, List.set_cons_succ]
          refine wpAnyH_ready (rs := [4]) (by kernel_rfl) (by simp) ?_
          refine AllReadyH.cons rfl (fun K hK => ?_) (AllReadyH.nil)
          go_simp
          have hb6 : Below u5.heap.size u5 (u5.alloc (.cells #[.int .i64 0, .int .i64 0, .string ⟨#[]⟩, .slice none 0 0, .slice none 0 0, .slice none 0 0] 26)) := (Below.refl _ _).alloc (Nat.le_refl _) _
          have HN6 := Lib.hid (IsBox.new u5 (.int .i64 0) (.int .i64 0) (.string ⟨#[]⟩) (.slice none 0 0) (.slice none 0 0) (.slice none 0 0))
          have HB6 := Lib.hid (HB5.out.trans (hb6.mono HB5.out.size))
          have HS6 := Lib.hid (HS5.out.keep hb6)
          have HZ6 : Hid ((u5.alloc (.cells #[.int .i64 0, .int .i64 0, .string ⟨#[]⟩, .slice none 0 0, .slice none 0 0, .slice none 0 0] 26)).heap.size = u5.heap.size + 1) := by show _ = _; simp
          have HG6 : Hid (V < u5.heap.size) := HS5.out.lt
          have HNE : Hid (u2.heap.size < u5.heap.size) := HN5.out.lt
          have H5x6 := Lib.hid (HN5.out.keep hb6)
          have HVax6 := Lib.hid (VIn.keep (h := h + 2) hb6 HVax5.out)
          have HVbx6 := Lib.hid (VIn.keep (h := h + 2) hb6 HVbx5.out)
          clear hb6
          generalize u5.alloc (.cells #[.int .i64 0, .int .i64 0, .string ⟨#[]⟩, .slice none 0 0, .slice none 0 0, .slice none 0 0] 26) = u6 at *
          refine hK.out _ _ (by exact HS6.out.cells) (fun hHeld => ?_)
          clear hK K
          try simp only [List.getElem_toArray, List.getElem_cons_succ, List.getElem_cons_zero, Act.put, List.setIfInBounds_toArray, List.set_cons_zero, List.set_cons_succ]
          obtain ⟨kd, nd, sd, bd, fd, ld, bld, bcd, fld, fcd, lld, lcd, rfl⟩ := VIn.shape (h := h + 2) HVax6.out
          obtain ⟨ke, ne, se, be, fe, le, ble, bce, fle, fce, lle, lce, rfl⟩ := VIn.shape (h := h + 2) HVbx6.out
          obtain ⟨Q4, hQ4⟩ : ∃ q, q = u5.heap.size := ⟨_, rfl⟩
          obtain ⟨Q5, hQ5⟩ : ∃ q, q = u2.heap.size := ⟨_, rfl⟩
          have h45 : ¬ Q4 = Q5 := by have := HNE.out; omega
          have h54 : ¬ Q5 = Q4 := by omega
          have hv4 : ¬ V = Q4 := by have := HG6.out; omega
          have hv5 : ¬ V = Q5 := by have := HG5.out; omega
          have HL4 : Hid (w.heap.size ≤ Q4) := by have := HG6.out; have := HVV.out; show _ ≤ _; omega
          have HL5 : Hid (w.heap.size ≤ Q5) := by have := HG5.out; have := HVV.out; show _ ≤ _; omega
          have HK4 : Hid (IsBox u6 Q4 (.int .i64 0) (.int .i64 0) (.string ⟨#[]⟩) (.slice none 0 0) (.slice none 0 0) (.slice none 0 0)) := by rw [hQ4]; exact HN6.out
          have HK5 : Hid (IsBox u6 Q5 (.int .i64 0) (.int .i64 0) (.string ⟨#[]⟩) (.slice none 0 0) (.slice none 0 0) (.slice none 0 0)) := by rw [hQ5]; exact H5x6.out
          rw [← hQ4, ← hQ5]
          have HNV := Lib.hid (And.intro h45 (And.intro h54 (And.intro hv4 hv5)))
          have HVA : Hid (∀ vs us, VIn (puts (puts u6 Q4 0 vs) Q5 0 us) (fun _ => True) (h + 2) ya (.agg #[.int .i64 kd, .int .i64 nd, .string sd, .slice bd bld bcd, .slice fd fld fcd, .slice ld lld lcd])) := fun vs us => (VIn.kept (Q' := fun _ => True) (puts_kept _ (by have := HZ1.out; have := HZ2.out; have := HZ5.out; have := HZ6.out; omega) 0 us) (fun _ _ => trivial) (VIn.kept (puts_kept _ (by have := HZ1.out; have := HZ2.out; have := HZ5.out; have := HZ6.out; omega) 0 vs) (fun _ hg => hg) HVax6.out))
          have HVB : Hid (∀ vs us, VIn (puts (puts u6 Q4 0 vs) Q5 0 us) (fun _ => True) (h + 2) yb (.agg #[.int .i64 ke, .int .i64 ne, .string se, .slice be ble bce, .slice fe fle fce, .slice le lle lce])) := fun vs us => (VIn.kept (Q' := fun _ => True) (puts_kept _ (by have := HZ1.out; have := HZ2.out; have := HZ5.out; have := HZ6.out; omega) 0 us) (fun _ _ => trivial) (VIn.kept (puts_kept _ (by have := HZ1.out; have := HZ2.out; have := HZ5.out; have := HZ6.out; omega) 0 vs) (fun _ hg => hg) HVbx6.out))
          clear hQ4 hQ5
          obtain ⟨z0, z1, z2, z3, z4, z5⟩ := HK4.out.cells
          obtain ⟨t0, t1, t2, t3, t4, t5⟩ := HK4.out.thaw
          obtain ⟨y0, y1, y2, y3, y4, y5⟩ := HK5.out.cells
          obtain ⟨q0, q1, q2, q3, q4, q5⟩ := HK5.out.thaw
          refine wpAnyH_ready (rs := [6]) (by kernel_rfl) (by simp) ?_
          refine AllReadyH.cons rfl (fun K hK => ?_) (AllReadyH.nil)
          go_simp
          refine hK.out _ _ (by exact (HS6.out.other hv4 0 [.int .i64 kd, .int .i64 nd, .string sd, .slice bd bld bcd, .slice fd fld fcd, .slice ld lld lcd]).cells) (fun hHeld => ?_)
          clear hK K
          try simp only [List.getElem_toArray, List.getElem_cons_succ, List.getElem_cons_zero, Act.put, List.setIfInBounds_toArray, List.set_cons_zero, List.set_cons_succ]
          refine wpAnyH_ready (rs := [7]) (by kernel_rfl) (by simp) ?_
          refine AllReadyH.cons rfl (fun K hK => ?_) (AllReadyH.nil)
          go_simp
          refine hK.out _ _ (by exact ((HS6.out.other hv4 0 [.int .i64 kd, .int .i64 nd, .string sd, .slice bd bld bcd, .slice fd fld fcd, .slice ld lld lcd]).other hv5 0 [.int .i64 ke, .int .i64 ne, .string se, .slice be ble bce, .slice fe fle fce, .slice le lle lce]).cells) (fun hHeld => ?_)
          clear hK K
          try simp only [List.getElem_toArray, List.getElem_cons_succ, List.getElem_cons_zero, Act.put, List.setIfInBounds_toArray, List.set_cons_zero, List.set_cons_succ]
          refine wpAnyH_done (by kernel_rfl) ?_ _
          go_wp2_with fail
          go_meet
          have F4 := (HK4.out.put (.int .i64 kd) (.int .i64 nd) (.string sd) (.slice bd bld bcd) (.slice fd fld fcd) (.slice ld lld lcd)).other h45 0 [.int .i64 ke, .int .i64 ne, .string se, .slice be ble bce, .slice fe fle fce, .slice le lle lce]
          have F5 := (HK5.out.other h54 0 [.int .i64 kd, .int .i64 nd, .string sd, .slice bd bld bcd, .slice fd fld fcd, .slice ld lld lcd]).put (.int .i64 ke) (.int .i64 ne) (.string se) (.slice be ble bce) (.slice fe fle fce) (.slice le lle lce)
          have F6 := HVA.out [.int .i64 kd, .int .i64 nd, .string sd, .slice bd bld bcd, .slice fd fld fcd, .slice ld lld lcd] [.int .i64 ke, .int .i64 ne, .string se, .slice be ble bce, .slice fe fle fce, .slice le lle lce]
          have F7 := HVB.out [.int .i64 kd, .int .i64 nd, .string sd, .slice bd bld bcd, .slice fd fld fcd, .slice ld lld lcd] [.int .i64 ke, .int .i64 ne, .string se, .slice be ble bce, .slice fe fle fce, .slice le lle lce]
          have F8 := puts_below (puts_below HB6.out HL4.out [.int .i64 kd, .int .i64 nd, .string sd, .slice bd bld bcd, .slice fd fld fcd, .slice ld lld lcd] 0) HL5.out [.int .i64 ke, .int .i64 ne, .string se, .slice be ble bce, .slice fe fle fce, .slice le lle lce] 0
          exact ⟨Q4, Q5, ya, yb, _, _, _, _, _, _, _, _, _, _, _, _, rfl, rfl, HCa.out, HCb.out, F4, F5, F6, F7, F8⟩
      · go_simp
        have hb7 : Below u1.heap.size u1 (u1.alloc (.cells #[.int .i64 0, .int .i64 0, .string ⟨#[]⟩, .slice none 0 0, .slice none 0 0, .slice none 0 0] 26)) := (Below.refl _ _).alloc (Nat.le_refl _) _
        have HN7 := Lib.hid (IsBox.new u1 (.int .i64 0) (.int .i64 0) (.string ⟨#[]⟩) (.slice none 0 0) (.slice none 0 0) (.slice none 0 0))
        have HB7 := Lib.hid (HB1.out.trans (hb7.mono HB1.out.size))
        have HS7 := Lib.hid (HS1.out.keep hb7)
        have HZ7 : Hid ((u1.alloc (.cells #[.int .i64 0, .int .i64 0, .string ⟨#[]⟩, .slice none 0 0, .slice none 0 0, .slice none 0 0] 26)).heap.size = u1.heap.size + 1) := by show _ = _; simp
        have HG7 : Hid (V < u1.heap.size) := HS1.out.lt
        have HVax7 := Lib.hid (VIn.keep (h := h + 2) hb7 HVay1.out)
        clear hb7
        generalize u1.alloc (.cells #[.int .i64 0, .int .i64 0, .string ⟨#[]⟩, .slice none 0 0, .slice none 0 0, .slice none 0 0] 26) = u7 at *
        refine hK.out _ _ (by exact HS7.out.cells) (fun hHeld => ?_)
        clear hK K
        try simp only [List.getElem_toArray, List.getElem_cons_succ, List.getElem_cons_zero, Act.put, List.setIfInBounds_toArray, List.set_cons_zero, List.set_cons_succ]
        refine wpAnyH_ready (rs := [3, 5]) (by kernel_rfl) (by simp) ?_
        refine AllReadyH.cons rfl (fun K hK => ?_) (AllReadyH.cons rfl (fun K hK => ?_) (AllReadyH.nil))
        · go_simp
          go_at_call 17
          refine (Cut_any (h + 1) (fun _ => True) true (.mk 7 0 ⟨#[]⟩ [] [] l : Val) _ u7 (VIn.keep (h := h + 2) HB7.out HX0.out)).mono ?_
          rintro e u8 ⟨vb, yb, rfl, hcb, hvb, hb8⟩
          have HB8 := Lib.hid (HB7.out.trans (hb8.mono HB7.out.size))
          have HS8 := Lib.hid (HS7.out.keep hb8)
          have HZ8 : Hid (u7.heap.size ≤ u8.heap.size) := hb8.size
          have HVby8 := Lib.hid (VIn.lt (h := h + 2) hvb)
          have HCb := Lib.hid hcb
          clear hvb hcb
          have H4x8 := Lib.hid (HN7.out.keep hb8)
          have HVax8 := Lib.hid (VIn.keep (h := h + 2) hb8 HVax7.out)
          clear hb8
          refine hK.out _ _ (by exact HS8.out.cells) (fun hHeld => ?_)
          clear hK K
          try simp only [List.getElem_toArray, List.getElem_cons_succ, List.getElem_cons_zero, Act.put, List.setIfInBounds_toArray, List.set_cons_zero, List.set_cons_succ]
          refine wpAnyH_ready (rs := [5]) (by kernel_rfl) (by simp) ?_
          refine AllReadyH.cons rfl (fun K hK => ?_) (AllReadyH.nil)
          go_simp
          have hb9 : Below u8.heap.size u8 (u8.alloc (.cells #[.int .i64 0, .int .i64 0, .string ⟨#[]⟩, .slice none 0 0, .slice none 0 0, .slice none 0 0] 26)) := (Below.refl _ _).alloc (Nat.le_refl _) _
          have HN9 := Lib.hid (IsBox.new u8 (.int .i64 0) (.int .i64 0) (.string ⟨#[]⟩) (.slice none 0 0) (.slice none 0 0) (.slice none 0 0))
          have HB9 := Lib.hid (HB8.out.trans (hb9.mono HB8.out.size))
          have HS9 := Lib.hid (HS8.out.keep hb9)
          have HZ9 : Hid ((u8.alloc (.cells #[.int .i64 0, .int .i64 0, .string ⟨#[]⟩, .slice none 0 0, .slice none 0 0, .slice none 0 0] 26)).heap.size = u8.heap.size + 1) := by show _ = _; simp
          have HG9 : Hid (V < u8.heap.size) := HS8.out.lt
          have HNE : Hid (u1.heap.size < u8.heap.size) := H4x8.out.lt
          have H4x9 := Lib.hid (H4x8.out.keep hb9)
          have HVax9 := Lib.hid (VIn.keep (h := h + 2) hb9 HVax8.out)
          have HVbx9 := Lib.hid (VIn.keep (h := h + 2) hb9 HVby8.out)
          clear hb9
          generalize u8.alloc (.cells #[.int .i64 0, .int .i64 0, .string ⟨#[]⟩, .slice none 0 0, .slice none 0 0, .slice none 0 0] 26) = u9 at *
          refine hK.out _ _ (by exact HS9.out.cells) (fun hHeld => ?_)
          clear hK K
          try simp only [List.getElem_toArray, List.getElem_cons_succ, List.getElem_cons_zero, Act.put, List.setIfInBounds_toArray, List.set_cons_zero, List.set_cons_succ]
          obtain ⟨kd, nd, sd, bd, fd, ld, bld, bcd, fld, fcd, lld, lcd, rfl⟩ := VIn.shape (h := h + 2) HVax9.out
          obtain ⟨ke, ne, se, be, fe, le, ble, bce, fle, fce, lle, lce, rfl⟩ := VIn.shape (h := h + 2) HVbx9.out
          obtain ⟨Q4, hQ4⟩ : ∃ q, q = u1.heap.size := ⟨_, rfl⟩
          obtain ⟨Q5, hQ5⟩ : ∃ q, q = u8.heap.size := ⟨_, rfl⟩
          have h45 : ¬ Q4 = Q5 := by have := HNE.out; omega
          have h54 : ¬ Q5 = Q4 := by omega
          have hv4 : ¬ V = Q4 := by have := HG7.out; omega
          have hv5 : ¬ V = Q5 := by have := HG9.out; omega
          have HL4 : Hid (w.heap.size ≤ Q4) := by have := HG7.out; have := HVV.out; show _ ≤ _; omega
          have HL5 : Hid (w.heap.size ≤ Q5) := by have := HG9.out; have := HVV.out; show _ ≤ _; omega
          have HK4 : Hid (IsBox u9 Q4 (.int .i64 0) (.int .i64 0) (.string ⟨#[]⟩) (.slice none 0 0) (.slice none 0 0) (.slice none 0 0)) := by rw [hQ4]; exact H4x9.out
          have HK5 : Hid (IsBox u9 Q5 (.int .i64 0) (.int .i64 0) (.string ⟨#[]⟩) (.slice none 0 0) (.slice none 0 0) (.slice none 0 0)) := by rw [hQ5]; exact HN9.out
          rw [← hQ4, ← hQ5]
          have HNV := Lib.hid (And.intro h45 (And.intro h54 (And.intro hv4 hv5)))
          have HVA : Hid (∀ vs us, VIn (puts (puts u9 Q4 0 vs) Q5 0 us) (fun _ => True) (h + 2) ya (.agg #[.int .i64 kd, .int .i64 nd, .string sd, .slice bd bld bcd, .slice fd fld fcd, .slice ld lld lcd])) := fun vs us => (VIn.kept (Q' := fun _ => True) (puts_kept _ (by have := HZ1.out; have := HZ7.out; have := HZ8.out; have := HZ9.out; omega) 0 us) (fun _ _ => trivial) (VIn.kept (puts_kept _ (by have := HZ1.out; have := HZ7.out; have := HZ8.out; have := HZ9.out; omega) 0 vs) (fun _ hg => hg) HVax9.out))
          have HVB : Hid (∀ vs us, VIn (puts (puts u9 Q4 0 vs) Q5 0 us) (fun _ => True) (h + 2) yb (.agg #[.int .i64 ke, .int .i64 ne, .string se, .slice be ble bce, .slice fe fle fce, .slice le lle lce])) := fun vs us => (VIn.kept (Q' := fun _ => True) (puts_kept _ (by have := HZ1.out; have := HZ7.out; have := HZ8.out; have := HZ9.out; omega) 0 us) (fun _ _ => trivial) (VIn.kept (puts_kept _ (by have := HZ1.out; have := HZ7.out; have := HZ8.out; have := HZ9.out; omega) 0 vs) (fun _ hg => hg) HVbx9.out))
          clear hQ4 hQ5
          obtain ⟨z0, z1, z2, z3, z4, z5⟩ := HK4.out.cells
          obtain ⟨t0, t1, t2, t3, t4, t5⟩ := HK4.out.thaw
          obtain ⟨y0, y1, y2, y3, y4, y5⟩ := HK5.out.cells
          obtain ⟨q0, q1, q2, q3, q4, q5⟩ := HK5.out.thaw
          refine wpAnyH_ready (rs := [6]) (by kernel_rfl) (by simp) ?_
          refine AllReadyH.cons rfl (fun K hK => ?_) (AllReadyH.nil)
          go_simp
          refine hK.out _ _ (by exact (HS9.out.other hv4 0 [.int .i64 kd, .int .i64 nd, .string sd, .slice bd bld bcd, .slice fd fld fcd, .slice ld lld lcd]).cells) (fun hHeld => ?_)
          clear hK K
          try simp only [List.getElem_toArray, List.getElem_cons_succ, List.getElem_cons_zero, Act.put, List.setIfInBounds_toArray, List.set_cons_zero, List.set_cons_succ]
          refine wpAnyH_ready (rs := [7]) (by kernel_rfl) (by simp) ?_
          refine AllReadyH.cons rfl (fun K hK => ?_) (AllReadyH.nil)
          go_simp
          refine hK.out _ _ (by exact ((HS9.out.other hv4 0 [.int .i64 kd, .int .i64 nd, .string sd, .slice bd bld bcd, .slice fd fld fcd, .slice ld lld lcd]).other hv5 0 [.int .i64 ke, .int .i64 ne, .string se, .slice be ble bce, .slice fe fle fce, .slice le lle lce]).cells) (fun hHeld => ?_)
          clear hK K
          try simp only [List.getElem_toArray, List.getElem_cons_succ, List.getElem_cons_zero, Act.put, List.setIfInBounds_toArray, List.set_cons_zero, List.set_cons_succ]
          refine wpAnyH_done (by kernel_rfl) ?_ _
          go_wp2_with fail
          go_meet
          have F4 := (HK4.out.put (.int .i64 kd) (.int .i64 nd) (.string sd) (.slice bd bld bcd) (.slice fd fld fcd) (.slice ld lld lcd)).other h45 0 [.int .i64 ke, .int .i64 ne, .string se, .slice be ble bce, .slice fe fle fce, .slice le lle lce]
          have F5 := (HK5.out.other h54 0 [.int .i64 kd, .int .i64 nd, .string sd, .slice bd bld bcd, .slice fd fld fcd, .slice ld lld lcd]).put (.int .i64 ke) (.int .i64 ne) (.string se) (.slice be ble bce) (.slice fe fle fce) (.slice le lle lce)
          have F6 := HVA.out [.int .i64 kd, .int .i64 nd, .string sd, .slice bd bld bcd, .slice fd fld fcd, .slice ld lld lcd] [.int .i64 ke, .int .i64 ne, .string se, .slice be ble bce, .slice fe fle fce, .slice le lle lce]
          have F7 := HVB.out [.int .i64 kd, .int .i64 nd, .string sd, .slice bd bld bcd, .slice fd fld fcd, .slice ld lld lcd] [.int .i64 ke, .int .i64 ne, .string se, .slice be ble bce, .slice fe fle fce, .slice le lle lce]
          have F8 := puts_below (puts_below HB9.out HL4.out [.int .i64 kd, .int .i64 nd, .string sd, .slice bd bld bcd, .slice fd fld fcd, .slice ld lld lcd] 0) HL5.out [.int .i64 ke, .int .i64 ne, .string se, .slice be ble bce, .slice fe fle fce, .slice le lle lce] 0
          exact ⟨Q4, Q5, ya, yb, _, _, _, _, _, _, _, _, _, _, _, _, rfl, rfl, HCa.out, HCb.out, F4, F5, F6, F7, F8⟩
        · go_simp
          have hb10 : Below u7.heap.size u7 (u7.alloc (.cells #[.int .i64 0, .int .i64 0, .string ⟨#[]⟩, .slice none 0 0, .slice none 0 0, .slice none 0 0] 26)) := (Below.refl _ _).alloc (Nat.le_refl _) _
          have HN10 := Lib.hid (IsBox.new u7 (.int .i64 0) (.int .i64 0) (.string ⟨#[]⟩) (.slice none 0 0) (.slice none 0 0) (.slice none 0 0))
          have HB10 := Lib.hid (HB7.out.trans (hb10.mono HB7.out.size))
          have HS10 := Lib.hid (HS7.out.keep hb10)
          have HZ10 : Hid ((u7.alloc (.cells #[.int .i64 0, .int .i64 0, .string ⟨#[]⟩, .slice none 0 0, .slice none 0 0, .slice none 0 0] 26)).heap.size = u7.heap.size + 1) := by show _ = _; simp
          have HG10 : Hid (V < u7.heap.size) := HS7.out.lt
          have HNE : Hid (u1.heap.size < u7.heap.size) := HN7.out.lt
          have H4x10 := Lib.hid (HN7.out.keep hb10)
          have HVax10 := Lib.hid (VIn.keep (h := h + 2) hb10 HVax7.out)
          clear hb10
          generalize u7.alloc (.cells #[.int .i64 0, .int .i64 0, .string ⟨#[]⟩, .slice none 0 0, .slice none 0 0, .slice none 0 0] 26) = u10 at *
          refine hK.out _ _ (by exact HS10.out.cells) (fun hHeld => ?_)
          clear hK K
          try simp only [List.getElem_toArray, List.getElem_cons_succ, List.getElem_cons_zero, Act.put, List.setIfInBounds_toArray, List.set_cons_zero, List.set_cons_succ]
          refine wpAnyH_ready (rs := [3]) (by kernel_rfl) (by simp) ?_
          refine AllReadyH.cons rfl (fun K hK => ?_) (AllReadyH.nil)
          go_simp
          go_at_call 17
          refine (Cut_any (h + 1) (fun _ => True) true (.mk 7 0 ⟨#[]⟩ [] [] l : Val) _ u10 (VIn.keep (h := h + 2) HB10.out HX0.out)).mono ?_
          rintro e u11 ⟨vb, yb, rfl, hcb, hvb, hb11⟩
          have HB11 := Lib.hid (HB10.out.trans (hb11.mono HB10.out.size))
          have HS11 := Lib.hid (HS10.out.keep hb11)
          have HZ11 : Hid (u10.heap.size ≤ u11.heap.size) := hb11.size
          have HVby11 := Lib.hid (VIn.lt (h := h + 2) hvb)
          have HCb := Lib.hid hcb
          clear hvb hcb
          have H4x11 := Lib.hid (H4x10.out.keep hb11)
          have H5x11 := Lib.hid (HN10.out.keep hb11)
          have HVax11 := Lib.hid (VIn.keep (h := h + 2) hb11 HVax10.out)
          clear hb11
          refine hK.out _ _ (by exact HS11.out.cells) (fun hHeld => ?_)
          clear hK K
          try simp only [List.getElem_toArray, List.getElem_cons_succ, List.getElem_cons_zero, Act.put, List.setIfInBounds_toArray, List.set_cons_zero, List.set_cons_succ]
          obtain ⟨kd, nd, sd, bd, fd, ld, bld, bcd, fld, fcd, lld, lcd, rfl⟩ := VIn.shape (h := h + 2) HVax11.out
          obtain ⟨ke, ne, se, be, fe, le, ble, bce, fle, fce, lle, lce, rfl⟩ := VIn.shape (h := h + 2) HVby11.out
          obtain ⟨Q4, hQ4⟩ : ∃ q, q = u1.heap.size := ⟨_, rfl⟩
          obtain ⟨Q5, hQ5⟩ : ∃ q, q = u7.heap.size := ⟨_, rfl⟩
          have h45 : ¬ Q4 = Q5 := by have := HNE.out; omega
          have h54 : ¬ Q5 = Q4 := by omega
          have hv4 : ¬ V = Q4 := by have := HG7.out; omega
          have hv5 : ¬ V = Q5 := by have := HG10.out; omega
          have HL4 : Hid (w.heap.size ≤ Q4) := by have := HG7.out; have := HVV.out; show _ ≤ _; omega
          have HL5 : Hid (w.heap.size ≤ Q5) := by have := HG10.out; have := HVV.out; show _ ≤ _; omega
          have HK4 : Hid (IsBox u11 Q4 (.int .i64 0) (.int .i64 0) (.string ⟨#[]⟩) (.slice none 0 0) (.slice none 0 0) (.slice none 0 0)) := by rw [hQ4]; exact H4x11.out
          have HK5 : Hid (IsBox u11 Q5 (.int .i64 0) (.int .i64 0) (.string ⟨#[]⟩) (.slice none 0 0) (.slice none 0 0) (.slice none 0 0)) := by rw [hQ5]; exact H5x11.out
          rw [← hQ4, ← hQ5]
          have HNV := Lib.hid (And.intro h45 (And.intro h54 (And.intro hv4 hv5)))
          have HVA : Hid (∀ vs us, VIn (puts (puts u11 Q4 0 vs) Q5 0 us) (fun _ => True) (h + 2) ya (.agg #[.int .i64 kd, .int .i64 nd, .string sd, .slice bd bld bcd, .slice fd fld fcd, .slice ld lld lcd])) := fun vs us => (VIn.kept (Q' := fun _ => True) (puts_kept _ (by have := HZ1.out; have := HZ7.out; have := HZ10.out; have := HZ11.out; omega) 0 us) (fun _ _ => trivial) (VIn.kept (puts_kept _ (by have := HZ1.out; have := HZ7.out; have := HZ10.out; have := HZ11.out; omega) 0 vs) (fun _ hg => hg) HVax11.out))
          have HVB : Hid (∀ vs us, VIn (puts (puts u11 Q4 0 vs) Q5 0 us) (fun _ => True) (h + 2) yb (.agg #[.int .i64 ke, .int .i64 ne, .string se, .slice be ble bce, .slice fe fle fce, .slice le lle lce])) := fun vs us => (VIn.kept (Q' := fun _ => True) (puts_kept _ (by have := HZ1.out; have := HZ7.out; have := HZ10.out; have := HZ11.out; omega) 0 us) (fun _ _ => trivial) (VIn.kept (puts_kept _ (by have := HZ1.out; have := HZ7.out; have := HZ10.out; have := HZ11.out; omega) 0 vs) (fun _ hg => hg) HVby11.out))
          clear hQ4 hQ5
          obtain ⟨z0, z1, z2, z3, z4, z5⟩ := HK4.out.cells
          obtain ⟨t0, t1, t2, t3, t4, t5⟩ := HK4.out.thaw
          obtain ⟨y0, y1, y2, y3, y4, y5⟩ := HK5.out.cells
          obtain ⟨q0, q1, q2, q3, q4, q5⟩ := HK5.out.thaw
          refine wpAnyH_ready (rs := [6]) (by kernel_rfl) (by simp) ?_
          refine AllReadyH.cons rfl (fun K hK => ?_) (AllReadyH.nil)
          go_simp
          refine hK.out _ _ (by exact (HS11.out.other hv4 0 [.int .i64 kd, .int .i64 nd, .string sd, .slice bd bld bcd, .slice fd fld fcd, .slice ld lld lcd]).cells) (fun hHeld => ?_)
          clear hK K
          try simp only [List.getElem_toArray, List.getElem_cons_succ, List.getElem_cons_zero, Act.put, List.setIfInBounds_toArray, List.set_cons_zero, List.set_cons_succ]
          refine wpAnyH_ready (rs := [7]) (by kernel_rfl) (by simp) ?_
          refine AllReadyH.cons rfl (fun K hK => ?_) (AllReadyH.nil)
          go_simp
          refine hK.out _ _ (by exact ((HS11.out.other hv4 0 [.int .i64 kd, .int .i64 nd, .string sd, .slice bd bld bcd, .slice fd fld fcd, .slice ld lld lcd]).other hv5 0 [.int .i64 ke, .int .i64 ne, .string se, .slice be ble bce, .slice fe fle fce, .slice le lle lce]).cells) (fun hHeld => ?_)
          clear hK K
          try simp only [List.getElem_toArray, List.getElem_cons_succ, List.getElem_cons_zero, Act.put, List.setIfInBounds_toArray, List.set_cons_zero, List.set_cons_succ]
          refine wpAnyH_done (by kernel_rfl) ?_ _
          go_wp2_with fail
          go_meet
          have F4 := (HK4.out.put (.int .i64 kd) (.int .i64 nd) (.string sd) (.slice bd bld bcd) (.slice fd fld fcd) (.slice ld lld lcd)).other h45 0 [.int .i64 ke, .int .i64 ne, .string se, .slice be ble bce, .slice fe fle fce, .slice le lle lce]
          have F5 := (HK5.out.other h54 0 [.int .i64 kd, .int .i64 nd, .string sd, .slice bd bld bcd, .slice fd fld fcd, .slice ld lld lcd]).put (.int .i64 ke) (.int .i64 ne) (.string se) (.slice be ble bce) (.slice fe fle fce) (.slice le lle lce)
          have F6 := HVA.out [.int .i64 kd, .int .i64 nd, .string sd, .slice bd bld bcd, .slice fd fld fcd, .slice ld lld lcd] [.int .i64 ke, .int .i64 ne, .string se, .slice be ble bce, .slice fe fle fce, .slice le lle lce]
          have F7 := HVB.out [.int .i64 kd, .int .i64 nd, .string sd, .slice bd bld bcd, .slice fd fld fcd, .slice ld lld lcd] [.int .i64 ke, .int .i64 ne, .string se, .slice be ble bce, .slice fe fle fce, .slice le lle lce]
          have F8 := puts_below (puts_below HB11.out HL4.out [.int .i64 kd, .int .i64 nd, .string sd, .slice bd bld bcd, .slice fd fld fcd, .slice ld lld lcd] 0) HL5.out [.int .i64 ke, .int .i64 ne, .string se, .slice be ble bce, .slice fe fle fce, .slice le lle lce] 0
          exact ⟨Q4, Q5, ya, yb, _, _, _, _, _, _, _, _, _, _, _, _, rfl, rfl, HCa.out, HCb.out, F4, F5, F6, F7, F8⟩
      · go_simp
        have hb12 : Below u1.heap.size u1 (u1.alloc (.cells #[.int .i64 0, .int .i64 0, .string ⟨#[]⟩, .slice none 0 0, .slice none 0 0, .slice none 0 0] 26)) := (Below.refl _ _).alloc (Nat.le_refl _) _
        have HN12 := Lib.hid (IsBox.new u1 (.int .i64 0) (.int .i64 0) (.string ⟨#[]⟩) (.slice none 0 0) (.slice none 0 0) (.slice none 0 0))
        have HB12 := Lib.hid (HB1.out.trans (hb12.mono HB1.out.size))
        have HS12 := Lib.hid (HS1.out.keep hb12)
        have HZ12 : Hid ((u1.alloc (.cells #[.int .i64 0, .int .i64 0, .string ⟨#[]⟩, .slice none 0 0, .slice none 0 0, .slice none 0 0] 26)).heap.size = u1.heap.size + 1) := by show _ = _; simp
        have HG12 : Hid (V < u1.heap.size) := HS1.out.lt
        have HVax12 := Lib.hid (VIn.keep (h := h + 2) hb12 HVay1.out)
        clear hb12
        generalize u1.alloc (.cells #[.int .i64 0, .int .i64 0, .string ⟨#[]⟩, .slice none 0 0, .slice none 0 0, .slice none 0 0] 26) = u12 at *
        refine hK.out _ _ (by exact HS12.out.cells) (fun hHeld => ?_)
        clear hK K
        try simp only [List.getElem_toArray, List.getElem_cons_succ, List.getElem_cons_zero, Act.put, List.setIfInBounds_toArray, List.set_cons_zero, List.set_cons_succ]
        refine wpAnyH_ready (rs := [3, 4]) (by kernel_rfl) (by simp) ?_
        refine AllReadyH.cons rfl (fun K hK => ?_) (AllReadyH.cons rfl (fun K hK => ?_) (AllReadyH.nil))
        · go_simp
          go_at_call 17
          refine (Cut_any (h + 1) (fun _ => True) true (.mk 7 0 ⟨#[]⟩ [] [] l : Val) _ u12 (VIn.keep (h := h + 2) HB12.out HX0.out)).mono ?_
          rintro e u13 ⟨vb, yb, rfl, hcb, hvb, hb13⟩
          have HB13 := Lib.hid (HB12.out.trans (hb13.mono HB12.out.size))
          have HS13 := Lib.hid (HS12.out.keep hb13)
          have HZ13 : Hid (u12.heap.size ≤ u13.heap.size) := hb13.size
          have HVby13 := Lib.hid (VIn.lt (h := h + 2) hvb)
          have HCb := Lib.hid hcb
          clear hvb hcb
          have H5x13 := Lib.hid (HN12.out.keep hb13)
          have HVax13 := Lib.hid (VIn.keep (h := h + 2) hb13 HVax12.out)
          clear hb13
          refine hK.out _ _ (by exact HS13.out.cells) (fun hHeld => ?_)
          clear hK K
          try simp only [List.getElem_toArray, List.getElem_cons_succ, List.getElem_cons_zero, Act.put, List.setIfInBounds_toArray, List.set_cons_zero, List.set_cons_succ]
          refine wpAnyH_ready (rs := [4]) (by kernel_rfl) (by simp) ?_
          refine AllReadyH.cons rfl (fun K hK => ?_) (AllReadyH.nil)
          go_simp
          have hb14 : Below u13.heap.size u13 (u13.alloc (.cells #[.int .i64 0, .int .i64 0, .string ⟨#[]⟩, .slice none 0 0, .slice none 0 0, .slice none 0 0] 26)) := (Below.refl _ _).alloc (Nat.le_refl _) _
          have HN14 := Lib.hid (IsBox.new u13 (.int .i64 0) (.int .i64 0) (.string ⟨#[]⟩) (.slice none 0 0) (.slice none 0 0) (.slice none 0 0))
          have HB14 := Lib.hid (HB13.out.trans (hb14.mono HB13.out.size))
          have HS14 := Lib.hid (HS13.out.keep hb14)
          have HZ14 : Hid ((u13.alloc (.cells #[.int .i64 0, .int .i64 0, .string ⟨#[]⟩, .slice none 0 0, .slice none 0 0, .slice none 0 0] 26)).heap.size = u13.heap.size + 1) := by show _ = _; simp
          have HG14 : Hid (V < u13.heap.size) := HS13.out.lt
          have HNE : Hid (u1.heap.size < u13.heap.size) := H5x13.out.lt
          have H5x14 := Lib.hid (H5x13.out.keep hb14)
          have HVax14 := Lib.hid (VIn.keep (h := h + 2) hb14 HVax13.out)
          have HVbx14 := Lib.hid (VIn.keep (h := h + 2) hb14 HVby13.out)
          clear hb14
          generalize u13.alloc (.cells #[.int .i64 0, .int .i64 0, .string ⟨#[]⟩, .slice none 0 0, .slice none 0 0, .slice none 0 0] 26) = u14 at *
          refine hK.out _ _ (by exact HS14.out.cells) (fun hHeld => ?_)
          clear hK K
          try simp only [List.getElem_toArray, List.getElem_cons_succ, List.getElem_cons_zero, Act.put, List.setIfInBounds_toArray, List.set_cons_zero, List.set_cons_succ]
          obtain ⟨kd, nd, sd, bd, fd, ld, bld, bcd, fld, fcd, lld, lcd, rfl⟩ := VIn.shape (h := h + 2) HVax14.out
          obtain ⟨ke, ne, se, be, fe, le, ble, bce, fle, fce, lle, lce, rfl⟩ := VIn.shape (h := h + 2) HVbx14.out
          obtain ⟨Q4, hQ4⟩ : ∃ q, q = u13.heap.size := ⟨_, rfl⟩
          obtain ⟨Q5, hQ5⟩ : ∃ q, q = u1.heap.size := ⟨_, rfl⟩
          have h45 : ¬ Q4 = Q5 := by have := HNE.out; omega
          have h54 : ¬ Q5 = Q4 := by omega
          have hv4 : ¬ V = Q4 := by have := HG14.out; omega
          have hv5 : ¬ V = Q5 := by have := HG12.out; omega
          have HL4 : Hid (w.heap.size ≤ Q4) := by have := HG14.out; have := HVV.out; show _ ≤ _; omega
          have HL5 : Hid (w.heap.size ≤ Q5) := by have := HG12.out; have := HVV.out; show _ ≤ _; omega
          have HK4 : Hid (IsBox u14 Q4 (.int .i64 0) (.int .i64 0) (.string ⟨#[]⟩) (.slice none 0 0) (.slice none 0 0) (.slice none 0 0)) := by rw [hQ4]; exact HN14.out
          have HK5 : Hid (IsBox u14 Q5 (.int .i64 0) (.int .i64 0) (.string ⟨#[]⟩) (.slice none 0 0) (.slice none 0 0) (.slice none 0 0)) := by rw [hQ5]; exact H5x14.out
          rw [← hQ4, ← hQ5]
          have HNV := Lib.hid (And.intro h45 (And.intro h54 (And.intro hv4 hv5)))
          have HVA : Hid (∀ vs us, VIn (puts (puts u14 Q4 0 vs) Q5 0 us) (fun _ => True) (h + 2) ya (.agg #[.int .i64 kd, .int .i64 nd, .string sd, .slice bd bld bcd, .slice fd fld fcd, .slice ld lld lcd])) := fun vs us => (VIn.kept (Q' := fun _ => True) (puts_kept _ (by have := HZ1.out; have := HZ12.out; have := HZ13.out; have := HZ14.out; omega) 0 us) (fun _ _ => trivial) (VIn.kept (puts_kept _ (by have := HZ1.out; have := HZ12.out; have := HZ13.out; have := HZ14.out; omega) 0 vs) (fun _ hg => hg) HVax14.out))
          have HVB : Hid (∀ vs us, VIn (puts (puts u14 Q4 0 vs) Q5 0 us) (fun _ => True) (h + 2) yb (.agg #[.int .i64 ke, .int .i64 ne, .string se, .slice be ble bce, .slice fe fle fce, .slice le lle lce])) := fun vs us => (VIn.kept (Q' := fun _ => True) (puts_kept _ (by have := HZ1.out; have := HZ12.out; have := HZ13.out; have := HZ14.out; omega) 0 us) (fun _ _ => trivial) (VIn.kept (puts_kept _ (by have := HZ1.out; have := HZ12.out; have := HZ13.out; have := HZ14.out; omega) 0 vs) (fun _ hg => hg) HVbx14.out))
          clear hQ4 hQ5
          obtain ⟨z0, z1, z2, z3, z4, z5⟩ := HK4.out.cells
          obtain ⟨t0, t1, t2, t3, t4, t5⟩ := HK4.out.thaw
          obtain ⟨y0, y1, y2, y3, y4, y5⟩ := HK5.out.cells
          obtain ⟨q0, q1, q2, q3, q4, q5⟩ := HK5.out.thaw
          refine wpAnyH_ready (rs := [6]) (by kernel_rfl) (by simp) ?_
          refine AllReadyH.cons rfl (fun K hK => ?_) (AllReadyH.nil)
          go_simp
          refine hK.out _ _ (by exact (HS14.out.other hv4 0 [.int .i64 kd, .int .i64 nd, .string sd, .slice bd bld bcd, .slice fd fld fcd, .slice ld lld lcd]).cells) (fun hHeld => ?_)
          clear hK K
          try simp only [List.getElem_toArray, List.getElem_cons_succ, List.getElem_cons_zero, Act.put, List.setIfInBounds_toArray, List.set_cons_zero, List.set_cons_succ]
          refine wpAnyH_ready (rs := [7]) (by kernel_rfl) (by simp) ?_
          refine AllReadyH.cons rfl (fun K hK => ?_) (AllReadyH.nil)
          go_simp
          refine hK.out _ _ (by exact ((HS14.out.other hv4 0 [.int .i64 kd, .int .i64 nd, .string sd, .slice bd bld bcd, .slice fd fld fcd, .slice ld lld lcd]).other hv5 0 [.int .i64 ke, .int .i64 ne, .string se, .slice be ble bce, .slice fe fle fce, .slice le lle lce]).cells) (fun hHeld => ?_)
          clear hK K
          try simp only [List.getElem_toArray, List.getElem_cons_succ, List.getElem_cons_zero, Act.put, List.setIfInBounds_toArray, List.set_cons_zero, List.set_cons_succ]
          refine wpAnyH_done (by kernel_rfl) ?_ _
          go_wp2_with fail
          go_meet
          have F4 := (HK4.out.put (.int .i64 kd) (.int .i64 nd) (.string sd) (.slice bd bld bcd) (.slice fd fld fcd) (.slice ld lld lcd)).other h45 0 [.int .i64 ke, .int .i64 ne, .string se, .slice be ble bce, .slice fe fle fce, .slice le lle lce]
          have F5 := (HK5.out.other h54 0 [.int .i64 kd, .int .i64 nd, .string sd, .slice bd bld bcd, .slice fd fld fcd, .slice ld lld lcd]).put (.int .i64 ke) (.int .i64 ne) (.string se) (.slice be ble bce) (.slice fe fle fce) (.slice le lle lce)
          have F6 := HVA.out [.int .i64 kd, .int .i64 nd, .string sd, .slice bd bld bcd, .slice fd fld fcd, .slice ld lld lcd] [.int .i64 ke, .int .i64 ne, .string se, .slice be ble bce, .slice fe fle fce, .slice le lle lce]
          have F7 := HVB.out [.int .i64 kd, .int .i64 nd, .string sd, .slice bd bld bcd, .slice fd fld fcd, .slice ld lld lcd] [.int .i64 ke, .int .i64 ne, .string se, .slice be ble bce, .slice fe fle fce, .slice le lle lce]
          have F8 := puts_below (puts_below HB14.out HL4.out [.int .i64 kd, .int .i64 nd, .string sd, .slice bd bld bcd, .slice fd fld fcd, .slice ld lld lcd] 0) HL5.out [.int .i64 ke, .int .i64 ne, .string se, .slice be ble bce, .slice fe fle fce, .slice le lle lce] 0
          exact ⟨Q4, Q5, ya, yb, _, _, _, _, _, _, _, _, _, _, _, _, rfl, rfl, HCa.out, HCb.out, F4, F5, F6, F7, F8⟩
        · go_simp
          have hb15 : Below u12.heap.size u12 (u12.alloc (.cells #[.int .i64 0, .int .i64 0, .string ⟨#[]⟩, .slice none 0 0, .slice none 0 0, .slice none 0 0] 26)) := (Below.refl _ _).alloc (Nat.le_refl _) _
          have HN15 := Lib.hid (IsBox.new u12 (.int .i64 0) (.int .i64 0) (.string ⟨#[]⟩) (.slice none 0 0) (.slice none 0 0) (.slice none 0 0))
          have HB15 := Lib.hid (HB12.out.trans (hb15.mono HB12.out.size))
          have HS15 := Lib.hid (HS12.out.keep hb15)
          have HZ15 : Hid ((u12.alloc (.cells #[.int .i64 0, .int .i64 0, .string ⟨#[]⟩, .slice none 0 0, .slice none 0 0, .slice none 0 0] 26)).heap.size = u12.heap.size + 1) := by show _ = _; simp
          have HG15 : Hid (V < u12.heap.size) := HS12.out.lt
          have HNE : Hid (u1.heap.size < u12.heap.size) := HN12.out.lt
          have H5x15 := Lib.hid (HN12.out.keep hb15)
          have HVax15 := Lib.hid (VIn.keep (h := h + 2) hb15 HVax12.out)
          clear hb15
          generalize u12.alloc (.cells #[.int .i64 0, .int .i64 0, .string ⟨#[]⟩, .slice none 0 0, .slice none 0 0, .slice none 0 0] 26) = u15 at *
          refine hK.out _ _ (by exact HS15.out.cells) (fun hHeld => ?_)
          clear hK K
          try simp only [List.getElem_toArray, List.getElem_cons_succ, List.getElem_cons_zero, Act.put, List.setIfInBounds_toArray, List.set_cons_zero, List.set_cons_succ]
          refine wpAnyH_ready (rs := [3]) (by kernel_rfl) (by simp) ?_
          refine AllReadyH.cons rfl (fun K hK => ?_) (AllReadyH.nil)
          go_simp
          go_at_call 17
          refine (Cut_any (h + 1) (fun _ => True) true (.mk 7 0 ⟨#[]⟩ [] [] l : Val) _ u15 (VIn.keep (h := h + 2) HB15.out HX0.out)).mono ?_
          rintro e u16 ⟨vb, yb, rfl, hcb, hvb, hb16⟩
          have HB16 := Lib.hid (HB15.out.trans (hb16.mono HB15.out.size))
          have HS16 := Lib.hid (HS15.out.keep hb16)
          have HZ16 : Hid (u15.heap.size ≤ u16.heap.size) := hb16.size
          have HVby16 := Lib.hid (VIn.lt (h := h + 2) hvb)
          have HCb := Lib.hid hcb
          clear hvb hcb
          have H4x16 := Lib.hid (HN15.out.keep hb16)
          have H5x16 := Lib.hid (H5x15.out.keep hb16)
          have HVax16 := Lib.hid (VIn.keep (h := h + 2) hb16 HVax15.out)
          clear hb16
          refine hK.out _ _ (by exact HS16.out.cells) (fun hHeld => ?_)
          clear hK K
          try simp only [List.getElem_toArray, List.getElem_cons_succ, List.getElem_cons_zero, Act.put, List.setIfInBounds_toArray, List.set_cons_zero, List.set_cons_succ]
          obtain ⟨kd, nd, sd, bd, fd, ld, bld, bcd, fld, fcd, lld, lcd, rfl⟩ := VIn.shape (h := h + 2) HVax16.out
          obtain ⟨ke, ne, se, be, fe, le, ble, bce, fle, fce, lle, lce, rfl⟩ := VIn.shape (h := h + 2) HVby16.out
          obtain ⟨Q4, hQ4⟩ : ∃ q, q = u12.heap.size := ⟨_, rfl⟩
          obtain ⟨Q5, hQ5⟩ : ∃ q, q = u1.heap.size := ⟨_, rfl⟩
          have h45 : ¬ Q4 = Q5 := by have := HNE.out; omega
          have h54 : ¬ Q5 = Q4 := by omega
          have hv4 : ¬ V = Q4 := by have := HG15.out; omega
          have hv5 : ¬ V = Q5 := by have := HG12.out; omega
          have HL4 : Hid (w.heap.size ≤ Q4) := by have := HG15.out; have := HVV.out; show _ ≤ _; omega
          have HL5 : Hid (w.heap.size ≤ Q5) := by have := HG12.out; have := HVV.out; show _ ≤ _; omega
          have HK4 : Hid (IsBox u16 Q4 (.int .i64 0) (.int .i64 0) (.string ⟨#[]⟩) (.slice none 0 0) (.slice none 0 0) (.slice none 0 0)) := by rw [hQ4]; exact H4x16.out
          have HK5 : Hid (IsBox u16 Q5 (.int .i64 0) (.int .i64 0) (.string ⟨#[]⟩) (.slice none 0 0) (.slice none 0 0) (.slice none 0 0)) := by rw [hQ5]; exact H5x16.out
          rw [← hQ4, ← hQ5]
          have HNV := Lib.hid (And.intro h45 (And.intro h54 (And.intro hv4 hv5)))
          have HVA : Hid (∀ vs us, VIn (puts (puts u16 Q4 0 vs) Q5 0 us) (fun _ => True) (h + 2) ya (.agg #[.int .i64 kd, .int .i64 nd, .string sd, .slice bd bld bcd, .slice fd fld fcd, .slice ld lld lcd])) := fun vs us => (VIn.kept (Q' := fun _ => True) (puts_kept _ (by have := HZ1.out; have := HZ12.out; have := HZ15.out; have := HZ16.out; omega) 0 us) (fun _ _ => trivial) (VIn.kept (puts_kept _ (by have := HZ1.out; have := HZ12.out; have := HZ15.out; have := HZ16.out; omega) 0 vs) (fun _ hg => hg) HVax16.out))
          have HVB : Hid (∀ vs us, VIn (puts (puts u16 Q4 0 vs) Q5 0 us) (fun _ => True) (h + 2) yb (.agg #[.int .i64 ke, .int .i64 ne, .string se, .slice be ble bce, .slice fe fle fce, .slice le lle lce])) := fun vs us => (VIn.kept (Q' := fun _ => True) (puts_kept _ (by have := HZ1.out; have := HZ12.out; have := HZ15.out; have := HZ16.out; omega) 0 us) (fun _ _ => trivial) (VIn.kept (puts_kept _ (by have := HZ1.out; have := HZ12.out; have := HZ15.out; have := HZ16.out; omega) 0 vs) (fun _ hg => hg) HVby16.out))
          clear hQ4 hQ5
          obtain ⟨z0, z1, z2, z3, z4, z5⟩ := HK4.out.cells
          obtain ⟨t0, t1, t2, t3, t4, t5⟩ := HK4.out.thaw
          obtain ⟨y0, y1, y2, y3, y4, y5⟩ := HK5.out.cells
          obtain ⟨q0, q1, q2, q3, q4, q5⟩ := HK5.out.thaw
          refine wpAnyH_ready (rs := [6]) (by kernel_rfl) (by simp) ?_
          refine AllReadyH.cons rfl (fun K hK => ?_) (AllReadyH.nil)
          go_simp
          refine hK.out _ _ (by exact (HS16.out.other hv4 0 [.int .i64 kd, .int .i64 nd, .string sd, .slice bd bld bcd, .slice fd fld fcd, .slice ld lld lcd]).cells) (fun hHeld => ?_)
          clear hK K
          try simp only [List.getElem_toArray, List.getElem_cons_succ, List.getElem_cons_zero, Act.put, List.setIfInBounds_toArray, List.set_cons_zero, List.set_cons_succ]
          refine wpAnyH_ready (rs := [7]) (by kernel_rfl) (by simp) ?_
          refine AllReadyH.cons rfl (fun K hK => ?_) (AllReadyH.nil)
          go_simp
          refine hK.out _ _ (by exact ((HS16.out.other hv4 0 [.int .i64 kd, .int .i64 nd, .string sd, .slice bd bld bcd, .slice fd fld fcd, .slice ld lld lcd]).other hv5 0 [.int .i64 ke, .int .i64 ne, .string se, .slice be ble bce, .slice fe fle fce, .slice le lle lce]).cells) (fun hHeld => ?_)
          clear hK K
          try simp only [List.getElem_toArray, List.getElem_cons_succ, List.getElem_cons_zero, Act.put, List.setIfInBounds_toArray, List.set_cons_zero, List.set_cons_succ]
          refine wpAnyH_done (by kernel_rfl) ?_ _
          go_wp2_with fail
          go_meet
          have F4 := (HK4.out.put (.int .i64 kd) (.int .i64 nd) (.string sd) (.slice bd bld bcd) (.slice fd fld fcd) (.slice ld lld lcd)).other h45 0 [.int .i64 ke, .int .i64 ne, .string se, .slice be ble bce, .slice fe fle fce, .slice le lle lce]
          have F5 := (HK5.out.other h54 0 [.int .i64 kd, .int .i64 nd, .string sd, .slice bd bld bcd, .slice fd fld fcd, .slice ld lld lcd]).put (.int .i64 ke) (.int .i64 ne) (.string se) (.slice be ble bce) (.slice fe fle fce) (.slice le lle lce)
          have F6 := HVA.out [.int .i64 kd, .int .i64 nd, .string sd, .slice bd bld bcd, .slice fd fld fcd, .slice ld lld lcd] [.int .i64 ke, .int .i64 ne, .string se, .slice be ble bce, .slice fe fle fce, .slice le lle lce]
          have F7 := HVB.out [.int .i64 kd, .int .i64 nd, .string sd, .slice bd bld bcd, .slice fd fld fcd, .slice ld lld lcd] [.int .i64 ke, .int .i64 ne, .string se, .slice be ble bce, .slice fe fle fce, .slice le lle lce]
          have F8 := puts_below (puts_below HB16.out HL4.out [.int .i64 kd, .int .i64 nd, .string sd, .slice bd bld bcd, .slice fd fld fcd, .slice ld lld lcd] 0) HL5.out [.int .i64 ke, .int .i64 ne, .string se, .slice be ble bce, .slice fe fle fce, .slice le lle lce] 0
          exact ⟨Q4, Q5, ya, yb, _, _, _, _, _, _, _, _, _, _, _, _, rfl, rfl, HCa.out, HCb.out, F4, F5, F6, F7, F8⟩
    · go_simp
      have hb17 : Below wd.heap.size wd (wd.alloc (.cells #[.int .i64 0, .int .i64 0, .string ⟨#[]⟩, .slice none 0 0, .slice none 0 0, .slice none 0 0] 26)) := (Below.refl _ _).alloc (Nat.le_refl _) _
      have HN17 := Lib.hid (IsBox.new wd (.int .i64 0) (.int .i64 0) (.string ⟨#[]⟩) (.slice none 0 0) (.slice none 0 0) (.slice none 0 0))
      have HB17 := Lib.hid (HBd.out.trans (hb17.mono HBd.out.size))
      have HS17 := Lib.hid (HSd.out.keep hb17)
      have HZ17 : Hid ((wd.alloc (.cells #[.int .i64 0, .int .i64 0, .string ⟨#[]⟩, .slice none 0 0, .slice none 0 0, .slice none 0 0] 26)).heap.size = wd.heap.size + 1) := by show _ = _; simp
      have HG17 : Hid (V < wd.heap.size) := HSd.out.lt
      clear hb17
      generalize wd.alloc (.cells #[.int .i64 0, .int .i64 0, .string ⟨#[]⟩, .slice none 0 0, .slice none 0 0, .slice none 0 0] 26) = u17 at *
      refine hK.out _ _ (by exact HS17.out.cells) (fun hHeld => ?_)
      clear hK K
      try simp only [List.getElem_toArray, List.getElem_cons_succ, List.getElem_cons_zero, Act.put, List.setIfInBounds_toArray, List.set_cons_zero, List.set_cons_succ]
      refine wpAnyH_ready (rs := [1, 5]) (by kernel_rfl) (by simp) ?_
      refine AllReadyH.cons rfl (fun K hK => ?_) (AllReadyH.cons rfl (fun K hK => ?_) (AllReadyH.nil))
      · go_simp
        go_at_call 17
        refine (Cut_any (h + 1) (fun _ => True) false (.mk 7 0 ⟨#[]⟩ [] [] l : Val) _ u17 (VIn.keep (h := h + 2) HB17.out HX0.out)).mono ?_
        rintro e u18 ⟨va, ya, rfl, hca, hva, hb18⟩
        have HB18 := Lib.hid (HB17.out.trans (hb18.mono HB17.out.size))
        have HS18 := Lib.hid (HS17.out.keep hb18)
        have HZ18 : Hid (u17.heap.size ≤ u18.heap.size) := hb18.size
        have HVay18 := Lib.hid (VIn.lt (h := h + 2) hva)
        have HCa := Lib.hid hca
        clear hva hca
        have H4x18 := Lib.hid (HN17.out.keep hb18)
        clear hb18
        refine hK.out _ _ (by exact HS18.out.cells) (fun hHeld => ?_)
        clear hK K
        try simp only [List.getElem_toArray, List.getElem_cons_succ, List.getElem_cons_zero, Act.put, List.setIfInBounds_toArray, List.set_cons_zero, List.set_cons_succ]
        refine wpAnyH_ready (rs := [3, 5]) (by kernel_rfl) (by simp) ?_
        refine AllReadyH.cons rfl (fun K hK => ?_) (AllReadyH.cons rfl (fun K hK => ?_) (AllReadyH.nil))
        · go_simp
          go_at_call 17
          refine (Cut_any (h + 1) (fun _ => True) true (.mk 7 0 ⟨#[]⟩ [] [] l : Val) _ u18 (VIn.keep (h := h + 2) HB18.out HX0.out)).mono ?_
          rintro e u19 ⟨vb, yb, rfl, hcb, hvb, hb19⟩
          have HB19 := Lib.hid (HB18.out.trans (hb19.mono HB18.out.size))
          have HS19 := Lib.hid (HS18.out.keep hb19)
          have HZ19 : Hid (u18.heap.size ≤ u19.heap.size) := hb19.size
          have HVby19 := Lib.hid (VIn.lt (h := h + 2) hvb)
          have HCb := Lib.hid hcb
          clear hvb hcb
          have H4x19 := Lib.hid (H4x18.out.keep hb19)
          have HVax19 := Lib.hid (VIn.keep (h := h + 2) hb19 HVay18.out)
          clear hb19
          refine hK.out _ _ (by exact HS19.out.cells) (fun hHeld => ?_)
          clear hK K
          try simp only [List.getElem_toArray, List.getElem_cons_succ, List.getElem_cons_zero, Act.put, List.setIfInBounds_toArray, List.set_cons_zero, List.set_cons_succ]
          refine wpAnyH_ready (rs := [5]) (by kernel_rfl) (by simp) ?_
          refine AllReadyH.cons rfl (fun K hK => ?_) (AllReadyH.nil)
          go_simp
          have hb20 : Below u19.heap.size u19 (u19.alloc (.cells #[.int .i64 0, .int .i64 0, .string ⟨#[]⟩, .slice none 0 0, .slice none 0 0, .slice none 0 0] 26)) := (Below.refl _ _).alloc (Nat.le_refl _) _
          have HN20 := Lib.hid (IsBox.new u19 (.int .i64 0) (.int .i64 0) (.string ⟨#[]⟩) (.slice none 0 0) (.slice none 0 0) (.slice none 0 0))
          have HB20 := Lib.hid (HB19.out.trans (hb20.mono HB19.out.size))
          have HS20 := Lib.hid (HS19.out.keep hb20)
          have HZ20 : Hid ((u19.alloc (.cells #[.int .i64 0, .int .i64 0, .string ⟨#[]⟩, .slice none 0 0, .slice none 0 0, .slice none 0 0] 26)).heap.size = u19.heap.size + 1) := by show _ = _; simp
          have HG20 : Hid (V < u19.heap.size) := HS19.out.lt
          have HNE : Hid (wd.heap.size < u19.heap.size) := H4x19.out.lt
          have H4x20 := Lib.hid (H4x19.out.keep hb20)
          have HVax20 := Lib.hid (VIn.keep (h := h + 2) hb20 HVax19.out)
          have HVbx20 := Lib.hid (VIn.keep (h := h + 2) hb20 HVby19.out)
          clear hb20
          generalize u19.alloc (.cells #[.int .i64 0, .int .i64 0, .string ⟨#[]⟩, .slice none 0 0, .slice none 0 0, .slice none 0 0] 26) = u20 at *
          refine hK.out _ _ (by exact HS20.out.cells) (fun hHeld => ?_)
          clear hK K
          try simp only [List.getElem_toArray, List.getElem_cons_succ, List.getElem_cons_zero, Act.put, List.setIfInBounds_toArray, List.set_cons_zero, List.set_cons_succ]
          obtain ⟨kd, nd, sd, bd, fd, ld, bld, bcd, fld, fcd, lld, lcd, rfl⟩ := VIn.shape (h := h + 2) HVax20.out
          obtain ⟨ke, ne, se, be, fe, le, ble, bce, fle, fce, lle, lce, rfl⟩ := VIn.shape (h := h + 2) HVbx20.out
          obtain ⟨Q4, hQ4⟩ : ∃ q, q = wd.heap.size := ⟨_, rfl⟩
          obtain ⟨Q5, hQ5⟩ : ∃ q, q = u19.heap.size := ⟨_, rfl⟩
          have h45 : ¬ Q4 = Q5 := by have := HNE.out; omega
          have h54 : ¬ Q5 = Q4 := by omega
          have hv4 : ¬ V = Q4 := by have := HG17.out; omega
          have hv5 : ¬ V = Q5 := by have := HG20.out; omega
          have HL4 : Hid (w.heap.size ≤ Q4) := by have := HG17.out; have := HVV.out; show _ ≤ _; omega
          have HL5 : Hid (w.heap.size ≤ Q5) := by have := HG20.out; have := HVV.out; show _ ≤ _; omega
          have HK4 : Hid (IsBox u20 Q4 (.int .i64 0) (.int .i64 0) (.string ⟨#[]⟩) (.slice none 0 0) (.slice none 0 0) (.slice none 0 0)) := by rw [hQ4]; exact H4x20.out
          have HK5 : Hid (IsBox u20 Q5 (.int .i64 0) (.int .i64 0) (.string ⟨#[]⟩) (.slice none 0 0) (.slice none 0 0) (.slice none 0 0)) := by rw [hQ5]; exact HN20.out
          rw [← hQ4, ← hQ5]
          have HNV := Lib.hid (And.intro h45 (And.intro h54 (And.intro hv4 hv5)))
          have HVA : Hid (∀ vs us, VIn (puts (puts u20 Q4 0 vs) Q5 0 us) (fun _ => True) (h + 2) ya (.agg #[.int .i64 kd, .int .i64 nd, .string sd, .slice bd bld bcd, .slice fd fld fcd, .slice ld lld lcd])) := fun vs us => (VIn.kept (Q' := fun _ => True) (puts_kept _ (by have := HZ17.out; have := HZ18.out; have := HZ19.out; have := HZ20.out; omega) 0 us) (fun _ _ => trivial) (VIn.kept (puts_kept _ (by have := HZ17.out; have := HZ18.out; have := HZ19.out; have := HZ20.out; omega) 0 vs) (fun _ hg => hg) HVax20.out))
          have HVB : Hid (∀ vs us, VIn (puts (puts u20 Q4 0 vs) Q5 0 us) (fun _ => True) (h + 2) yb (.agg #[.int .i64 ke, .int .i64 ne, .string se, .slice be ble bce, .slice fe fle fce, .slice le lle lce])) := fun vs us => (VIn.kept (Q' := fun _ => True) (puts_kept _ (by have := HZ17.out; have := HZ18.out; have := HZ19.out; have := HZ20.out; omega) 0 us) (fun _ _ => trivial) (VIn.kept (puts_kept _ (by have := HZ17.out; have := HZ18.out; have := HZ19.out; have := HZ20.out; omega) 0 vs) (fun _ hg => hg) HVbx20.out))
          clear hQ4 hQ5
          obtain ⟨z0, z1, z2, z3, z4, z5⟩ := HK4.out.cells
          obtain ⟨t0, t1, t2, t3, t4, t5⟩ := HK4.out.thaw
          obtain ⟨y0, y1, y2, y3, y4, y5⟩ := HK5.out.cells
          obtain ⟨q0, q1, q2, q3, q4, q5⟩ := HK5.out.thaw
          refine wpAnyH_ready (rs := [6]) (by kernel_rfl) (by simp) ?_
          refine AllReadyH.cons rfl (fun K hK => ?_) (AllReadyH.nil)
          go_simp
          refine hK.out _ _ (by exact (HS20.out.other hv4 0 [.int .i64 kd, .int .i64 nd, .string sd, .slice bd bld bcd, .slice fd fld fcd, .slice ld lld lcd]).cells) (fun hHeld => ?_)
          clear hK K
          try simp only [List.getElem_toArray, List.getElem_cons_succ, List.getElem_cons_zero, Act.put, List.setIfInBounds_toArray, List.set_cons_zero, List.set_cons_succ]
          refine wpAnyH_ready (rs := [7]) (by kernel_rfl) (by simp) ?_
          refine AllReadyH.cons rfl (fun K hK => ?_) (AllReadyH.nil)
          go_simp
          refine hK.out _ _ (by exact ((HS20.out.other hv4 0 [.int .i64 kd, .int .i64 nd, .string sd, .slice bd bld bcd, .slice fd fld fcd, .slice ld lld lcd]).other hv5 0 [.int .i64 ke, .int .i64 ne, .string se, .slice be ble bce, .slice fe fle fce, .slice le lle lce]).cells) (fun hHeld => ?_)
          clear hK K
          try simp only [List.getElem_toArray, List.getElem_cons_succ, List.getElem_cons_zero, Act.put, List.setIfInBounds_toArray, List.set_cons_zero, List.set_cons_succ]
          refine wpAnyH_done (by kernel_rfl) ?_ _
          go_wp2_with fail
          go_meet
          have F4 := (HK4.out.put (.int .i64 kd) (.int .i64 nd) (.string sd) (.slice bd bld bcd) (.slice fd fld fcd) (.slice ld lld lcd)).other h45 0 [.int .i64 ke, .int .i64 ne, .string se, .slice be ble bce, .slice fe fle fce, .slice le lle lce]
          have F5 := (HK5.out.other h54 0 [.int .i64 kd, .int .i64 nd, .string sd, .slice bd bld bcd, .slice fd fld fcd, .slice ld lld lcd]).put (.int .i64 ke) (.int .i64 ne) (.string se) (.slice be ble bce) (.slice fe fle fce) (.slice le lle lce)
          have F6 := HVA.out [.int .i64 kd, .int .i64 nd, .string sd, .slice bd bld bcd, .slice fd fld fcd, .slice ld lld lcd] [.int .i64 ke, .int .i64 ne, .string se, .slice be ble bce, .slice fe fle fce, .slice le lle lce]
          have F7 := HVB.out [.int .i64 kd, .int .i64 nd, .string sd, .slice bd bld bcd, .slice fd fld fcd, .slice ld lld lcd] [.int .i64 ke, .int .i64 ne, .string se, .slice be ble bce, .slice fe fle fce, .slice le lle lce]
          have F8 := puts_below (puts_below HB20.out HL4.out [.int .i64 kd, .int .i64 nd, .string sd, .slice bd bld bcd, .slice fd fld fcd, .slice ld lld lcd] 0) HL5.out [.int .i64 ke, .int .i64 ne, .string se, .slice be ble bce, .slice fe fle fce, .slice le lle lce] 0
          exact ⟨Q4, Q5, ya, yb, _, _, _, _, _, _, _, _, _, _, _, _, rfl, rfl, HCa.out, HCb.out, F4, F5, F6, F7, F8⟩
        · go_simp
          have hb21 : Below u18.heap.size u18 (u18.alloc (.cells #[.int .i64 0, .int .i64 0, .string ⟨#[]⟩, .slice none 0 0, .slice none 0 0, .slice none 0 0] 26)) := (Below.refl _ _).alloc (Nat.le_refl _) _
          have HN21 := Lib.hid (IsBox.new u18 (.int .i64 0) (.int .i64 0) (.string ⟨#[]⟩) (.slice none 0 0) (.slice none 0 0) (.slice none 0 0))
          have HB21 := Lib.hid (HB18.out.trans (hb21.mono HB18.out.size))
          have HS21 := Lib.hid (HS18.out.keep hb21)
          have HZ21 : Hid ((u18.alloc (.cells #[.int .i64 0, .int .i64 0, .string ⟨#[]⟩, .slice none 0 0, .slice none 0 0, .slice none 0 0] 26)).heap.size = u18.heap.size + 1) := by show _ = _; simp
          have HG21 : Hid (V < u18.heap.size) := HS18.out.lt
          have HNE : Hid (wd.heap.size < u18.heap.size) := H4x18.out.lt
          have H4x21 := Lib.hid (H4x18.out.keep hb21)
          have HVax21 := Lib.hid (VIn.keep (h := h + 2) hb21 HVay18.out)
          clear hb21
          generalize u18.alloc (.cells #[.int .i64 0, .int .i64 0, .string ⟨#[]⟩, .slice none 0 0, .slice none 0 0, .slice none 0 0] 26) = u21 at *
          refine hK.out _ _ (by exact HS21.out.cells) (fun hHeld => ?_)
          clear hK K
          try simp only [List.getElem_toArray, List.getElem_cons_succ, List.getElem_cons_zero, Act.put, List.setIfInBounds_toArray, List.set_cons_zero, List.set_cons_succ]
          refine wpAnyH_ready (rs := [3]) (by kernel_rfl) (by simp) ?_
          refine AllReadyH.cons rfl (fun K hK => ?_) (AllReadyH.nil)
          go_simp
          go_at_call 17
          refine (Cut_any (h + 1) (fun _ => True) true (.mk 7 0 ⟨#[]⟩ [] [] l : Val) _ u21 (VIn.keep (h := h + 2) HB21.out HX0.out)).mono ?_
          rintro e u22 ⟨vb, yb, rfl, hcb, hvb, hb22⟩
          have HB22 := Lib.hid (HB21.out.trans (hb22.mono HB21.out.size))
          have HS22 := Lib.hid (HS21.out.keep hb22)
          have HZ22 : Hid (u21.heap.size ≤ u22.heap.size) := hb22.size
          have HVby22 := Lib.hid (VIn.lt (h := h + 2) hvb)
          have HCb := Lib.hid hcb
          clear hvb hcb
          have H4x22 := Lib.hid (H4x21.out.keep hb22)
          have H5x22 := Lib.hid (HN21.out.keep hb22)
          have HVax22 := Lib.hid (VIn.keep (h := h + 2) hb22 HVax21.out)
          clear hb22
          refine hK.out _ _ (by exact HS22.out.cells) (fun hHeld => ?_)
          clear hK K
          try simp only [List.getElem_toArray, List.getElem_cons_succ, List.getElem_cons_zero, Act.put, List.setIfInBounds_toArray, List.set_cons_zero, List.set_cons_succ]
          obtain ⟨kd, nd, sd, bd, fd, ld, bld, bcd, fld, fcd, lld, lcd, rfl⟩ := VIn.shape (h := h + 2) HVax22.out
          obtain ⟨ke, ne, se, be, fe, le, ble, bce, fle, fce, lle, lce, rfl⟩ := VIn.shape (h := h + 2) HVby22.out
          obtain ⟨Q4, hQ4⟩ : ∃ q, q = wd.heap.size := ⟨_, rfl⟩
          obtain ⟨Q5, hQ5⟩ : ∃ q, q = u18.heap.size := ⟨_, rfl⟩
          have h45 : ¬ Q4 = Q5 := by have := HNE.out; omega
          have h54 : ¬ Q5 = Q4 := by omega
          have hv4 : ¬ V = Q4 := by have := HG17.out; omega
          have hv5 : ¬ V = Q5 := by have := HG21.out; omega
          have HL4 : Hid (w.heap.size ≤ Q4) := by have := HG17.out; have := HVV.out; show _ ≤ _; omega
          have HL5 : Hid (w.heap.size ≤ Q5) := by have := HG21.out; have := HVV.out; show _ ≤ _; omega
          have HK4 : Hid (IsBox u22 Q4 (.int .i64 0) (.int .i64 0) (.string ⟨#[]⟩) (.slice none 0 0) (.slice none 0 0) (.slice none 0 0)) := by rw [hQ4]; exact H4x22.out
          have HK5 : Hid (IsBox u22 Q5 (.int .i64 0) (.int .i64 0) (.string ⟨#[]⟩) (.slice none 0 0) (.slice none 0 0) (.slice none 0 0)) := by rw [hQ5]; exact H5x22.out
          rw [← hQ4, ← hQ5]
          have HNV := Lib.hid (And.intro h45 (And.intro h54 (And.intro hv4 hv5)))
          have HVA : Hid (∀ vs us, VIn (puts (puts u22 Q4 0 vs) Q5 0 us) (fun _ => True) (h + 2) ya (.agg #[.int .i64 kd, .int .i64 nd, .string sd, .slice bd bld bcd, .slice fd fld fcd, .slice ld lld lcd])) := fun vs us => (VIn.kept (Q' := fun _ => True) (puts_kept _ (by have := HZ17.out; have := HZ18.out; have := HZ21.out; have := HZ22.out; omega) 0 us) (fun _ _ => trivial) (VIn.kept (puts_kept _ (by have := HZ17.out; have := HZ18.out; have := HZ21.out; have := HZ22.out; omega) 0 vs) (fun _ hg => hg) HVax22.out))
          have HVB : Hid (∀ vs us, VIn (puts (puts u22 Q4 0 vs) Q5 0 us) (fun _ => True) (h + 2) yb (.agg #[.int .i64 ke, .int .i64 ne, .string se, .slice be ble bce, .slice fe fle fce, .slice le lle lce])) := fun vs us => (VIn.kept (Q' := fun _ => True) (puts_kept _ (by have := HZ17.out; have := HZ18.out; have := HZ21.out; have := HZ22.out; omega) 0 us) (fun _ _ => trivial) (VIn.kept (puts_kept _ (by have := HZ17.out; have := HZ18.out; have := HZ21.out; have := HZ22.out; omega) 0 vs) (fun _ hg => hg) HVby22.out))
          clear hQ4 hQ5
          obtain ⟨z0, z1, z2, z3, z4, z5⟩ := HK4.out.cells
          obtain ⟨t0, t1, t2, t3, t4, t5⟩ := HK4.out.thaw
          obtain ⟨y0, y1, y2, y3, y4, y5⟩ := HK5.out.cells
          obtain ⟨q0, q1, q2, q3, q4, q5⟩ := HK5.out.thaw
          refine wpAnyH_ready (rs := [6]) (by kernel_rfl) (by simp) ?_
          refine AllReadyH.cons rfl (fun K hK => ?_) (AllReadyH.nil)
          go_simp
          refine hK.out _ _ (by exact (HS22.out.other hv4 0 [.int .i64 kd, .int .i64 nd, .string sd, .slice bd bld bcd, .slice fd fld fcd, .slice ld lld lcd]).cells) (fun hHeld => ?_)
          clear hK K
          try simp only [List.getElem_toArray, List.getElem_cons_succ, List.getElem_cons_zero, Act.put, List.setIfInBounds_toArray, List.set_cons_zero, List.set_cons_succ]
          refine wpAnyH_ready (rs := [7]) (by kernel_rfl) (by simp) ?_
          refine AllReadyH.cons rfl (fun K hK => ?_) (AllReadyH.nil)
          go_simp
          refine hK.out _ _ (by exact ((HS22.out.other hv4 0 [.int .i64 kd, .int .i64 nd, .string sd, .slice bd bld bcd, .slice fd fld fcd, .slice ld lld lcd]).other hv5 0 [.int .i64 ke, .int .i64 ne, .string se, .slice be ble bce, .slice fe fle fce, .slice le lle lce]).cells) (fun hHeld => ?_)
          clear hK K
          try simp only [List.getElem_toArray, List.getElem_cons_succ, List.getElem_cons_zero, Act.put, List.setIfInBounds_toArray, List.set_cons_zero, List.set_cons_succ]
          refine wpAnyH_done (by kernel_rfl) ?_ _
          go_wp2_with fail
          go_meet
          have F4 := (HK4.out.put (.int .i64 kd) (.int .i64 nd) (.string sd) (.slice bd bld bcd) (.slice fd fld fcd) (.slice ld lld lcd)).other h45 0 [.int .i64 ke, .int .i64 ne, .string se, .slice be ble bce, .slice fe fle fce, .slice le lle lce]
          have F5 := (HK5.out.other h54 0 [.int .i64 kd, .int .i64 nd, .string sd, .slice bd bld bcd, .slice fd fld fcd, .slice ld lld lcd]).put (.int .i64 ke) (.int .i64 ne) (.string se) (.slice be ble bce) (.slice fe fle fce) (.slice le lle lce)
          have F6 := HVA.out [.int .i64 kd, .int .i64 nd, .string sd, .slice bd bld bcd, .slice fd fld fcd, .slice ld lld lcd] [.int .i64 ke, .int .i64 ne, .string se, .slice be ble bce, .slice fe fle fce, .slice le lle lce]
          have F7 := HVB.out [.int .i64 kd, .int .i64 nd, .string sd, .slice bd bld bcd, .slice fd fld fcd, .slice ld lld lcd] [.int .i64 ke, .int .i64 ne, .string se, .slice be ble bce, .slice fe fle fce, .slice le lle lce]
          have F8 := puts_below (puts_below HB22.out HL4.out [.int .i64 kd, .int .i64 nd, .string sd, .slice bd bld bcd, .slice fd fld fcd, .slice ld lld lcd] 0) HL5.out [.int .i64 ke, .int .i64 ne, .string se, .slice be ble bce, .slice fe fle fce, .slice le lle lce] 0
          exact ⟨Q4, Q5, ya, yb, _, _, _, _, _, _, _, _, _, _, _, _, rfl, rfl, HCa.out, HCb.out, F4, F5, F6, F7, F8⟩
      · go_simp
        have hb23 : Below u17.heap.size u17 (u17.alloc (.cells #[.int .i64 0, .int .i64 0, .string ⟨#[]⟩, .slice none 0 0, .slice none 0 0, .slice none 0 0] 26)) := (Below.refl _ _).alloc (Nat.le_refl _) _
        have HN23 := Lib.hid (IsBox.new u17 (.int .i64 0) (.int .i64 0) (.string ⟨#[]⟩) (.slice none 0 0) (.slice none 0 0) (.slice none 0 0))
        have HB23 := Lib.hid (HB17.out.trans (hb23.mono HB17.out.size))
        have HS23 := Lib.hid (HS17.out.keep hb23)
        have HZ23 : Hid ((u17.alloc (.cells #[.int .i64 0, .int .i64 0, .string ⟨#[]⟩, .slice none 0 0, .slice none 0 0, .slice none 0 0] 26)).heap.size = u17.heap.size + 1) := by show _ = _; simp
        have HG23 : Hid (V < u17.heap.size) := HS17.out.lt
        have HNE : Hid (wd.heap.size < u17.heap.size) := HN17.out.lt
        have H4x23 := Lib.hid (HN17.out.keep hb23)
        clear hb23
        generalize u17.alloc (.cells #[.int .i64 0, .int .i64 0, .string ⟨#[]⟩, .slice none 0 0, .slice none 0 0, .slice none 0 0] 26) = u23 at *
        refine hK.out _ _ (by exact HS23.out.cells) (fun hHeld => ?_)
        clear hK K
        try simp only [List.getElem_toArray, List.getElem_cons_succ, List.getElem_cons_zero, Act.put, List.setIfInBounds_toArray, List.set_cons_zero, List.set_cons_succ]
        refine wpAnyH_ready (rs := [1]) (by kernel_rfl) (by simp) ?_
        refine AllReadyH.cons rfl (fun K hK => ?_) (AllReadyH.nil)
        go_simp
        go_at_call 17
        refine (Cut_any (h + 1) (fun _ => True) false (.mk 7 0 ⟨#[]⟩ [] [] l : Val) _ u23 (VIn.keep (h := h + 2) HB23.out HX0.out)).mono ?_
        rintro e u24 ⟨va, ya, rfl, hca, hva, hb24⟩
        have HB24 := Lib.hid (HB23.out.trans (hb24.mono HB23.out.size))
        have HS24 := Lib.hid (HS23.out.keep hb24)
        have HZ24 : Hid (u23.heap.size ≤ u24.heap.size) := hb24.size
        have HVay24 := Lib.hid (VIn.lt (h := h + 2) hva)
        have HCa := Lib.hid hca
        clear hva hca
        have H4x24 := Lib.hid (H4x23.out.keep hb24)
        have H5x24 := Lib.hid (HN23.out.keep hb24)
        clear hb24
        refine hK.out _ _ (by exact HS24.out.cells) (fun hHeld => ?_)
        clear hK K
        try simp only [List.getElem_toArray, List.getElem_cons_succ, List.getElem_cons_zero, Act.put, List.setIfInBounds_toArray, List.set_cons_zero, List.set_cons_succ]
        refine wpAnyH_ready (rs := [3]) (by kernel_rfl) (by simp) ?_
        refine AllReadyH.cons rfl (fun K hK => ?_) (AllReadyH.nil)
        go_simp
        go_at_call 17
        refine (Cut_any (h + 1) (fun _ => True) true (.mk 7 0 ⟨#[]⟩ [] [] l : Val) _ u24 (VIn.keep (h := h + 2) HB24.out HX0.out)).mono ?_
        rintro e u25 ⟨vb, yb, rfl, hcb, hvb, hb25⟩
        have HB25 := Lib.hid (HB24.out.trans (hb25.mono HB24.out.size))
        have HS25 := Lib.hid (HS24.out.keep hb25)
        have HZ25 : Hid (u24.heap.size ≤ u25.heap.size) := hb25.size
        have HVby25 := Lib.hid (VIn.lt (h := h + 2) hvb)
        have HCb := Lib.hid hcb
        clear hvb hcb
        have H4x25 := Lib.hid (H4x24.out.keep hb25)
        have H5x25 := Lib.hid (H5x24.out.keep hb25)
        have HVax25 := Lib.hid (VIn.keep (h := h + 2) hb25 HVay24.out)
        clear hb25
        refine hK.out _ _ (by exact HS25.out.cells) (fun hHeld => ?_)
        clear hK K
        try simp only [List.getElem_toArray, List.getElem_cons_succ, List.getElem_cons_zero, Act.put, List.setIfInBounds_toArray, List.set_cons_zero, List.set_cons_succ]
        obtain ⟨kd, nd, sd, bd, fd, ld, bld, bcd, fld, fcd, lld, lcd, rfl⟩ := VIn.shape (h := h + 2) HVax25.out
        obtain ⟨ke, ne, se, be, fe, le, ble, bce, fle, fce, lle, lce, rfl⟩ := VIn.shape (h := h + 2) HVby25.out
        obtain ⟨Q4, hQ4⟩ : ∃ q, q = wd.heap.size := ⟨_, rfl⟩
        obtain ⟨Q5, hQ5⟩ : ∃ q, q = u17.heap.size := ⟨_, rfl⟩
        have h45 : ¬ Q4 = Q5 := by have := HNE.out; omega
        have h54 : ¬ Q5 = Q4 := by omega
        have hv4 : ¬ V = Q4 := by have := HG17.out; omega
        have hv5 : ¬ V = Q5 := by have := HG23.out; omega
        have HL4 : Hid (w.heap.size ≤ Q4) := by have := HG17.out; have := HVV.out; show _ ≤ _; omega
        have HL5 : Hid (w.heap.size ≤ Q5) := by have := HG23.out; have := HVV.out; show _ ≤ _; omega
        have HK4 : Hid (IsBox u25 Q4 (.int .i64 0) (.int .i64 0) (.string ⟨#[]⟩) (.slice none 0 0) (.slice none 0 0) (.slice none 0 0)) := by rw [hQ4]; exact H4x25.out
        have HK5 : Hid (IsBox u25 Q5 (.int .i64 0) (.int .i64 0) (.string ⟨#[]⟩) (.slice none 0 0) (.slice none 0 0) (.slice none 0 0)) := by rw [hQ5]; exact H5x25.out
        rw [← hQ4, ← hQ5]
        have HNV := Lib.hid (And.intro h45 (And.intro h54 (And.intro hv4 hv5)))
        have HVA : Hid (∀ vs us, VIn (puts (puts u25 Q4 0 vs) Q5 0 us) (fun _ => True) (h + 2) ya (.agg #[.int .i64 kd, .int .i64 nd, .string sd, .slice bd bld bcd, .slice fd fld fcd, .slice ld lld lcd])) := fun vs us => (VIn.kept (Q' := fun _ => True) (puts_kept _ (by have := HZ17.out; have := HZ23.out; have := HZ24.out; have := HZ25.out; omega) 0 us) (fun _ _ => trivial) (VIn.kept (puts_kept _ (by have := HZ17.out; have := HZ23.out; have := HZ24.out; have := HZ25.out; omega) 0 vs) (fun _ hg => hg) HVax25.out))
        have HVB : Hid (∀ vs us, VIn (puts (puts u25 Q4 0 vs) Q5 0 us) (fun _ => True) (h + 2) yb (.agg #[.int .i64 ke, .int .i64 ne, .string se, .slice be ble bce, .slice fe fle fce, .slice le lle lce])) := fun vs us => (VIn.kept (Q' := fun _ => True) (puts_kept _ (by have := HZ17.out; have := HZ23.out; have := HZ24.out; have := HZ25.out; omega) 0 us) (fun _ _ => trivial) (VIn.kept (puts_kept _ (by have := HZ17.out; have := HZ23.out; have := HZ24.out; have := HZ25.out; omega) 0 vs) (fun _ hg => hg) HVby25.out))
        clear hQ4 hQ5
        obtain ⟨z0, z1, z2, z3, z4, z5⟩ := HK4.out.cells
        obtain ⟨t0, t1, t2, t3, t4, t5⟩ := HK4.out.thaw
        obtain ⟨y0, y1, y2, y3, y4, y5⟩ := HK5.out.cells
        obtain ⟨q0, q1, q2, q3, q4, q5⟩ := HK5.out.thaw
        refine wpAnyH_ready (rs := [6]) (by kernel_rfl) (by simp) ?_
        refine AllReadyH.cons rfl (fun K hK => ?_) (AllReadyH.nil)
        go_simp
        refine hK.out _ _ (by exact (HS25.out.other hv4 0 [.int .i64 kd, .int .i64 nd, .string sd, .slice bd bld bcd, .slice fd fld fcd, .slice ld lld lcd]).cells) (fun hHeld => ?_)
        clear hK K
        try simp only [List.getElem_toArray, List.getElem_cons_succ, List.getElem_cons_zero, Act.put, List.setIfInBounds_toArray, List.set_cons_zero, List.set_cons_succ]
        refine wpAnyH_ready (rs := [7]) (by kernel_rfl) (by simp) ?_
        refine AllReadyH.cons rfl (fun K hK => ?_) (AllReadyH.nil)
        go_simp
        refine hK.out _ _ (by exact ((HS25.out.other hv4 0 [.int .i64 kd, .int .i64 nd, .string sd, .slice bd bld bcd, .slice fd fld fcd, .slice ld lld lcd]).other hv5 0 [.int .i64 ke, .int .i64 ne, .string se, .slice be ble bce, .slice fe fle fce, .slice le lle lce]).cells) (fun hHeld => ?_)
        clear hK K
        try simp only [List.getElem_toArray, List.getElem_cons_succ, List.getElem_cons_zero, Act.put, List.setIfInBounds_toArray, List.set_cons_zero, List.set_cons_succ]
        refine wpAnyH_done (by kernel_rfl) ?_ _
        go_wp2_with fail
        go_meet
        have F4 := (HK4.out.put (.int .i64 kd) (.int .i64 nd) (.string sd) (.slice bd bld bcd) (.slice fd fld fcd) (.slice ld lld lcd)).other h45 0 [.int .i64 ke, .int .i64 ne, .string se, .slice be ble bce, .slice fe fle fce, .slice le lle lce]
        have F5 := (HK5.out.other h54 0 [.int .i64 kd, .int .i64 nd, .string sd, .slice bd bld bcd, .slice fd fld fcd, .slice ld lld lcd]).put (.int .i64 ke) (.int .i64 ne) (.string se) (.slice be ble bce) (.slice fe fle fce) (.slice le lle lce)
        have F6 := HVA.out [.int .i64 kd, .int .i64 nd, .string sd, .slice bd bld bcd, .slice fd fld fcd, .slice ld lld lcd] [.int .i64 ke, .int .i64 ne, .string se, .slice be ble bce, .slice fe fle fce, .slice le lle lce]
        have F7 := HVB.out [.int .i64 kd, .int .i64 nd, .string sd, .slice bd bld bcd, .slice fd fld fcd, .slice ld lld lcd] [.int .i64 ke, .int .i64 ne, .string se, .slice be ble bce, .slice fe fle fce, .slice le lle lce]
        have F8 := puts_below (puts_below HB25.out HL4.out [.int .i64 kd, .int .i64 nd, .string sd, .slice bd bld bcd, .slice fd fld fcd, .slice ld lld lcd] 0) HL5.out [.int .i64 ke, .int .i64 ne, .string se, .slice be ble bce, .slice fe fle fce, .slice le lle lce] 0
        exact ⟨Q4, Q5, ya, yb, _, _, _, _, _, _, _, _, _, _, _, _, rfl, rfl, HCa.out, HCb.out, F4, F5, F6, F7, F8⟩
    · go_simp
      have hb26 : Below wd.heap.size wd (wd.alloc (.cells #[.int .i64 0, .int .i64 0, .string ⟨#[]⟩, .slice none 0 0, .slice none 0 0, .slice none 0 0] 26)) := (Below.refl _ _).alloc (Nat.le_refl _) _
      have HN26 := Lib.hid (IsBox.new wd (.int .i64 0) (.int .i64 0) (.string ⟨#[]⟩) (.slice none 0 0) (.slice none 0 0) (.slice none 0 0))
      have HB26 := Lib.hid (HBd.out.trans (hb26.mono HBd.out.size))
      have HS26 := Lib.hid (HSd.out.keep hb26)
      have HZ26 : Hid ((wd.alloc (.cells #[.int .i64 0, .int .i64 0, .string ⟨#[]⟩, .slice none 0 0, .slice none 0 0, .slice none 0 0] 26)).heap.size = wd.heap.size + 1) := by show _ = _; simp
      have HG26 : Hid (V < wd.heap.size) := HSd.out.lt
      clear hb26
      generalize wd.alloc (.cells #[.int .i64 0, .int .i64 0, .string ⟨#[]⟩, .slice none 0 0, .slice none 0 0, .slice none 0 0] 26) = u26 at *
      refine hK.out _ _ (by exact HS26.out.cells) (fun hHeld => ?_)
      clear hK K
      try simp only [List.getElem_toArray, List.getElem_cons_succ, List.getElem_cons_zero, Act.put, List.setIfInBounds_toArray, List.set_cons_zero, List.set_cons_succ]
      refine wpAnyH_ready (rs := [1, 4]) (by kernel_rfl) (by simp) ?_
      refine AllReadyH.cons rfl (fun K hK => ?_) (AllReadyH.cons rfl (fun K hK => ?_) (AllReadyH.nil))
      · go_simp
        go_at_call 17
        refine (Cut_any (h + 1) (fun _ => True) false (.mk 7 0 ⟨#[]⟩ [] [] l : Val) _ u26 (VIn.keep (h := h + 2) HB26.out HX0.out)).mono ?_
        rintro e u27 ⟨va, ya, rfl, hca, hva, hb27⟩
        have HB27 := Lib.hid (HB26.out.trans (hb27.mono HB26.out.size))
        have HS27 := Lib.hid (HS26.out.keep hb27)
        have HZ27 : Hid (u26.heap.size ≤ u27.heap.size) := hb27.size
        have HVay27 := Lib.hid (VIn.lt (h := h + 2) hva)
        have HCa := Lib.hid hca
        clear hva hca
        have H5x27 := Lib.hid (HN26.out.keep hb27)
        clear hb27
        refine hK.out _ _ (by exact HS27.out.cells) (fun hHeld => ?_)
        clear hK K
        try simp only [List.getElem_toArray, List.getElem_cons_succ, List.getElem_cons_zero, Act.put, List.setIfInBounds_toArray, List.set_cons_zero, List.set_cons_succ]
        refine wpAnyH_ready (rs := [3, 4]) (by kernel_rfl) (by simp) ?_
        refine AllReadyH.cons rfl (fun K hK => ?_) (AllReadyH.cons rfl (fun K hK => ?_) (AllReadyH.nil))
        · go_simp
          go_at_call 17
          refine (Cut_any (h + 1) (fun _ => True) true (.mk 7 0 ⟨#[]⟩ [] [] l : Val) _ u27 (VIn.keep (h := h + 2) HB27.out HX0.out)).mono ?_
          rintro e u28 ⟨vb, yb, rfl, hcb, hvb, hb28⟩
          have HB28 := Lib.hid (HB27.out.trans (hb28.mono HB27.out.size))
          have HS28 := Lib.hid (HS27.out.keep hb28)
          have HZ28 : Hid (u27.heap.size ≤ u28.heap.size) := hb28.size
          have HVby28 := Lib.hid (VIn.lt (h := h + 2) hvb)
          have HCb := Lib.hid hcb
          clear hvb hcb
          have H5x28 := Lib.hid (H5x27.out.keep hb28)
          have HVax28 := Lib.hid (VIn.keep (h := h + 2) hb28 HVay27.out)
          clear hb28
          refine hK.out _ _ (by exact HS28.out.cells) (fun hHeld => ?_)
          clear hK K
          try simp only [List.getElem_toArray, List.getElem_cons_succ, List.getElem_cons_zero, Act.put, List.setIfInBounds_toArray, List.set_cons_zero, List.set_cons_succ]
          refine wpAnyH_ready (rs := [4]) (by kernel_rfl) (by simp) ?_
          refine AllReadyH.cons rfl (fun K hK => ?_) (AllReadyH.nil)
          go_simp
          have hb29 : Below u28.heap.size u28 (u28.alloc (.cells #[.int .i64 0, .int .i64 0, .string ⟨#[]⟩, .slice none 0 0, .slice none 0 0, .slice none 0 0] 26)) := (Below.refl _ _).alloc (Nat.le_refl _) _
          have HN29 := Lib.hid (IsBox.new u28 (.int .i64 0) (.int .i64 0) (.string ⟨#[]⟩) (.slice none 0 0) (.slice none 0 0) (.slice none 0 0))
          have HB29 := Lib.hid (HB28.out.trans (hb29.mono HB28.out.size))
          have HS29 := Lib.hid (HS28.out.keep hb29)
          have HZ29 : Hid ((u28.alloc (.cells #[.int .i64 0, .int .i64 0, .string ⟨#[]⟩, .slice none 0 0, .slice none 0 0, .slice none 0 0] 26)).heap.size = u28.heap.size + 1) := by show _ = _; simp
          have HG29 : Hid (V < u28.heap.size) := HS28.out.lt
          have HNE : Hid (wd.heap.size < u28.heap.size) := H5x28.out.lt
          have H5x29 := Lib.hid (H5x28.out.keep hb29)
          have HVax29 := Lib.hid (VIn.keep (h := h + 2) hb29 HVax28.out)
          have HVbx29 := Lib.hid (VIn.keep (h := h + 2) hb29 HVby28.out)
          clear hb29
          generalize u28.alloc (.cells #[.int .i64 0, .int .i64 0, .string ⟨#[]⟩, .slice none 0 0, .slice none 0 0, .slice none 0 0] 26) = u29 at *
          refine hK.out _ _ (by exact HS29.out.cells) (fun hHeld => ?_)
          clear hK K
          try simp only [List.getElem_toArray, List.getElem_cons_succ, List.getElem_cons_zero, Act.put, List.setIfInBounds_toArray, List.set_cons_zero, List.set_cons_succ]
          obtain ⟨kd, nd, sd, bd, fd, ld, bld, bcd, fld, fcd, lld, lcd, rfl⟩ := VIn.shape (h := h + 2) HVax29.out
          obtain ⟨ke, ne, se, be, fe, le, ble, bce, fle, fce, lle, lce, rfl⟩ := VIn.shape (h := h + 2) HVbx29.out
          obtain ⟨Q4, hQ4⟩ : ∃ q, q = u28.heap.size := ⟨_, rfl⟩
          obtain ⟨Q5, hQ5⟩ : ∃ q, q = wd.heap.size := ⟨_, rfl⟩
          have h45 : ¬ Q4 = Q5 := by have := HNE.out; omega
          have h54 : ¬ Q5 = Q4 := by omega
          have hv4 : ¬ V = Q4 := by have := HG29.out; omega
          have hv5 : ¬ V = Q5 := by have := HG26.out; omega
          have HL4 : Hid (w.heap.size ≤ Q4) := by have := HG29.out; have := HVV.out; show _ ≤ _; omega
          have HL5 : Hid (w.heap.size ≤ Q5) := by have := HG26.out; have := HVV.out; show _ ≤ _; omega
          have HK4 : Hid (IsBox u29 Q4 (.int .i64 0) (.int .i64 0) (.string ⟨#[]⟩) (.slice none 0 0) (.slice none 0 0) (.slice none 0 0)) := by rw [hQ4]; exact HN29.out
          have HK5 : Hid (IsBox u29 Q5 (.int .i64 0) (.int .i64 0) (.string ⟨#[]⟩) (.slice none 0 0) (.slice none 0 0) (.slice none 0 0)) := by rw [hQ5]; exact H5x29.out
          rw [← hQ4, ← hQ5]
          have HNV := Lib.hid (And.intro h45 (And.intro h54 (And.intro hv4 hv5)))
          have HVA : Hid (∀ vs us, VIn (puts (puts u29 Q4 0 vs) Q5 0 us) (fun _ => True) (h + 2) ya (.agg #[.int .i64 kd, .int .i64 nd, .string sd, .slice bd bld bcd, .slice fd fld fcd, .slice ld lld lcd])) := fun vs us => (VIn.kept (Q' := fun _ => True) (puts_kept _ (by have := HZ26.out; have := HZ27.out; have := HZ28.out; have := HZ29.out; omega) 0 us) (fun _ _ => trivial) (VIn.kept (puts_kept _ (by have := HZ26.out; have := HZ27.out; have := HZ28.out; have := HZ29.out; omega) 0 vs) (fun _ hg => hg) HVax29.out))
          have HVB : Hid (∀ vs us, VIn (puts (puts u29 Q4 0 vs) Q5 0 us) (fun _ => True) (h + 2) yb (.agg #[.int .i64 ke, .int .i64 ne, .string se, .slice be ble bce, .slice fe fle fce, .slice le lle lce])) := fun vs us => (VIn.kept (Q' := fun _ => True) (puts_kept _ (by have := HZ26.out; have := HZ27.out; have := HZ28.out; have := HZ29.out; omega) 0 us) (fun _ _ => trivial) (VIn.kept (puts_kept _ (by have := HZ26.out; have := HZ27.out; have := HZ28.out; have := HZ29.out; omega) 0 vs) (fun _ hg => hg) HVbx29.out))
          clear hQ4 hQ5
          obtain ⟨z0, z1, z2, z3, z4, z5⟩ := HK4.out.cells
          obtain ⟨t0, t1, t2, t3, t4, t5⟩ := HK4.out.thaw
          obtain ⟨y0, y1, y2, y3, y4, y5⟩ := HK5.out.cells
          obtain ⟨q0, q1, q2, q3, q4, q5⟩ := HK5.out.thaw
          refine wpAnyH_ready (rs := [6]) (by kernel_rfl) (by simp) ?_
          refine AllReadyH.cons rfl (fun K hK => ?_) (AllReadyH.nil)
          go_simp
          refine hK.out _ _ (by exact (HS29.out.other hv4 0 [.int .i64 kd, .int .i64 nd, .string sd, .slice bd bld bcd, .slice fd fld fcd, .slice ld lld lcd]).cells) (fun hHeld => ?_)
          clear hK K
          try simp only [List.getElem_toArray, List.getElem_cons_succ, List.getElem_cons_zero, Act.put, List.setIfInBounds_toArray, List.set_cons_zero, List.set_cons_succ]
          refine wpAnyH_ready (rs := [7]) (by kernel_rfl) (by simp) ?_
          refine AllReadyH.cons rfl (fun K hK => ?_) (AllReadyH.nil)
          go_simp
          refine hK.out _ _ (by exact ((HS29.out.other hv4 0 [.int .i64 kd, .int .i64 nd, .string sd, .slice bd bld bcd, .slice fd fld fcd, .slice ld lld lcd]).other hv5 0 [.int .i64 ke, .int .i64 ne, .string se, .slice be ble bce, .slice fe fle fce, .slice le lle lce]).cells) (fun hHeld => ?_)
          clear hK K
          try simp only [List.getElem_toArray, List.getElem_cons_succ, List.getElem_cons_zero, Act.put, List.setIfInBounds_toArray, List.set_cons_zero, List.set_cons_succ]
          refine wpAnyH_done (by kernel_rfl) ?_ _
          go_wp2_with fail
          go_meet
          have F4 := (HK4.out.put (.int .i64 kd) (.int .i64 nd) (.string sd) (.slice bd bld bcd) (.slice fd fld fcd) (.slice ld lld lcd)).other h45 0 [.int .i64 ke, .int .i64 ne, .string se, .slice be ble bce, .slice fe fle fce, .slice le lle lce]
          have F5 := (HK5.out.other h54 0 [.int .i64 kd, .int .i64 nd, .string sd, .slice bd bld bcd, .slice fd fld fcd, .slice ld lld lcd]).put (.int .i64 ke) (.int .i64 ne) (.string se) (.slice be ble bce) (.slice fe fle fce) (.slice le lle lce)
          have F6 := HVA.out [.int .i64 kd, .int .i64 nd, .string sd, .slice bd bld bcd, .slice fd fld fcd, .slice ld lld lcd] [.int .i64 ke, .int .i64 ne, .string se, .slice be ble bce, .slice fe fle fce, .slice le lle lce]
          have F7 := HVB.out [.int .i64 kd, .int .i64 nd, .string sd, .slice bd bld bcd, .slice fd fld fcd, .slice ld lld lcd] [.int .i64 ke, .int .i64 ne, .string se, .slice be ble bce, .slice fe fle fce, .slice le lle lce]
          have F8 := puts_below (puts_below HB29.out HL4.out [.int .i64 kd, .int .i64 nd, .string sd, .slice bd bld bcd, .slice fd fld fcd, .slice ld lld lcd] 0) HL5.out [.int .i64 ke, .int .i64 ne, .string se, .slice be ble bce, .slice fe fle fce, .slice le lle lce] 0
          exact ⟨Q4, Q5, ya, yb, _, _, _, _, _, _, _, _, _, _, _, _, rfl, rfl, HCa.out, HCb.out, F4, F5, F6, F7, F8⟩
        · go_simp
          have hb30 : Below u27.heap.size u27 (u27.alloc (.cells #[.int .i64 0, .int .i64 0, .string ⟨#[]⟩, .slice none 0 0, .slice none 0 0, .slice none 0 0] 26)) := (Below.refl _ _).alloc (Nat.le_refl _) _
          have HN30 := Lib.hid (IsBox.new u27 (.int .i64 0) (.int .i64 0) (.string ⟨#[]⟩) (.slice none 0 0) (.slice none 0 0) (.slice none 0 0))
          have HB30 := Lib.hid (HB27.out.trans (hb30.mono HB27.out.size))
          have HS30 := Lib.hid (HS27.out.keep hb30)
          have HZ30 : Hid ((u27.alloc (.cells #[.int .i64 0, .int .i64 0, .string ⟨#[]⟩, .slice none 0 0, .slice none 0 0, .slice none 0 0] 26)).heap.size = u27.heap.size + 1) := by show _ = _; simp
          have HG30 : Hid (V < u27.heap.size) := HS27.out.lt
          have HNE : Hid (wd.heap.size < u27.heap.size) := H5x27.out.lt
          have H5x30 := Lib.hid (H5x27.out.keep hb30)
          have HVax30 := Lib.hid (VIn.keep (h := h + 2) hb30 HVay27.out)
          clear hb30
          generalize u27.alloc (.cells #[.int .i64 0, .int .i64 0, .string ⟨#[]⟩, .slice none 0 0, .slice none 0 0, .slice none 0 0] 26) = u30 at *
          refine hK.out _ _ (by exact HS30.out.cells) (fun hHeld => ?_)
          clear hK K
          try simp only [List.getElem_toArray, List.getElem_cons_succ, List.getElem_cons_zero, Act.put, List.setIfInBounds_toArray, List.set_cons_zero, List.set_cons_succ]
          refine wpAnyH_ready (rs := [3]) (by kernel_rfl) (by simp) ?_
          refine AllReadyH.cons rfl (fun K hK => ?_) (AllReadyH.nil)
          go_simp
          go_at_call 17
          refine (Cut_any (h + 1) (fun _ => True) true (.mk 7 0 ⟨#[]⟩ [] [] l : Val) _ u30 (VIn.keep (h := h + 2) HB30.out HX0.out)).mono ?_
          rintro e u31 ⟨vb, yb, rfl, hcb, hvb, hb31⟩
          have HB31 := Lib.hid (HB30.out.trans (hb31.mono HB30.out.size))
          have HS31 := Lib.hid (HS30.out.keep hb31)
          have HZ31 : Hid (u30.heap.size ≤ u31.heap.size) := hb31.size
          have HVby31 := Lib.hid (VIn.lt (h := h + 2) hvb)
          have HCb := Lib.hid hcb
          clear hvb hcb
          have H4x31 := Lib.hid (HN30.out.keep hb31)
          have H5x31 := Lib.hid (H5x30.out.keep hb31)
          have HVax31 := Lib.hid (VIn.keep (h := h + 2) hb31 HVax30.out)
          clear hb31
          refine hK.out _ _ (by exact HS31.out.cells) (fun hHeld => ?_)
          clear hK K
          try simp only [List.getElem_toArray, List.getElem_cons_succ, List.getElem_cons_zero, Act.put, List.setIfInBounds_toArray, List.set_cons_zero, List.set_cons_succ]
          obtain ⟨kd, nd, sd, bd, fd, ld, bld, bcd, fld, fcd, lld, lcd, rfl⟩ := VIn.shape (h := h + 2) HVax31.out
          obtain ⟨ke, ne, se, be, fe, le, ble, bce, fle, fce, lle, lce, rfl⟩ := VIn.shape (h := h + 2) HVby31.out
          obtain ⟨Q4, hQ4⟩ : ∃ q, q = u27.heap.size := ⟨_, rfl⟩
          obtain ⟨Q5, hQ5⟩ : ∃ q, q = wd.heap.size := ⟨_, rfl⟩
          have h45 : ¬ Q4 = Q5 := by have := HNE.out; omega
          have h54 : ¬ Q5 = Q4 := by omega
          have hv4 : ¬ V = Q4 := by have := HG30.out; omega
          have hv5 : ¬ V = Q5 := by have := HG26.out; omega
          have HL4 : Hid (w.heap.size ≤ Q4) := by have := HG30.out; have := HVV.out; show _ ≤ _; omega
          have HL5 : Hid (w.heap.size ≤ Q5) := by have := HG26.out; have := HVV.out; show _ ≤ _; omega
          have HK4 : Hid (IsBox u31 Q4 (.int .i64 0) (.int .i64 0) (.string ⟨#[]⟩) (.slice none 0 0) (.slice none 0 0) (.slice none 0 0)) := by rw [hQ4]; exact H4x31.out
          have HK5 : Hid (IsBox u31 Q5 (.int .i64 0) (.int .i64 0) (.string ⟨#[]⟩) (.slice none 0 0) (.slice none 0 0) (.slice none 0 0)) := by rw [hQ5]; exact H5x31.out
          rw [← hQ4, ← hQ5]
          have HNV := Lib.hid (And.intro h45 (And.intro h54 (And.intro hv4 hv5)))
          have HVA : Hid (∀ vs us, VIn (puts (puts u31 Q4 0 vs) Q5 0 us) (fun _ => True) (h + 2) ya (.agg #[.int .i64 kd, .int .i64 nd, .string sd, .slice bd bld bcd, .slice fd fld fcd, .slice ld lld lcd])) := fun vs us => (VIn.kept (Q' := fun _ => True) (puts_kept _ (by have := HZ26.out; have := HZ27.out; have := HZ30.out; have := HZ31.out; omega) 0 us) (fun _ _ => trivial) (VIn.kept (puts_kept _ (by have := HZ26.out; have := HZ27.out; have := HZ30.out; have := HZ31.out; omega) 0 vs) (fun _ hg => hg) HVax31.out))
          have HVB : Hid (∀ vs us, VIn (puts (puts u31 Q4 0 vs) Q5 0 us) (fun _ => True) (h + 2) yb (.agg #[.int .i64 ke, .int .i64 ne, .string se, .slice be ble bce, .slice fe fle fce, .slice le lle lce])) := fun vs us => (VIn.kept (Q' := fun _ => True) (puts_kept _ (by have := HZ26.out; have := HZ27.out; have := HZ30.out; have := HZ31.out; omega) 0 us) (fun _ _ => trivial) (VIn.kept (puts_kept _ (by have := HZ26.out; have := HZ27.out; have := HZ30.out; have := HZ31.out; omega) 0 vs) (fun _ hg => hg) HVby31.out))
          clear hQ4 hQ5
          obtain ⟨z0, z1, z2, z3, z4, z5⟩ := HK4.out.cells
          obtain ⟨t0, t1, t2, t3, t4, t5⟩ := HK4.out.thaw
          obtain ⟨y0, y1, y2, y3, y4, y5⟩ := HK5.out.cells
          obtain ⟨q0, q1, q2, q3, q4, q5⟩ := HK5.out.thaw
          refine wpAnyH_ready (rs := [6]) (by kernel_rfl) (by simp) ?_
          refine AllReadyH.cons rfl (fun K hK => ?_) (AllReadyH.nil)
          go_simp
          refine hK.out _ _ (by exact (HS31.out.other hv4 0 [.int .i64 kd, .int .i64 nd, .string sd, .slice bd bld bcd, .slice fd fld fcd, .slice ld lld lcd]).cells) (fun hHeld => ?_)
          clear hK K
          try simp only [List.getElem_toArray, List.getElem_cons_succ, List.getElem_cons_zero, Act.put, List.setIfInBounds_toArray, List.set_cons_zero, List.set_cons_succ]
          refine wpAnyH_ready (rs := [7]) (by kernel_rfl) (by simp) ?_
          refine AllReadyH.cons rfl (fun K hK => ?_) (AllReadyH.nil)
          go_simp
          refine hK.out _ _ (by exact ((HS31.out.other hv4 0 [.int .i64 kd, .int .i64 nd, .string sd, .slice bd bld bcd, .slice fd fld fcd, .slice ld lld lcd]).other hv5 0 [.int .i64 ke, .int .i64 ne, .string se, .slice be ble bce, .slice fe fle fce, .slice le lle lce]).cells) (fun hHeld => ?_)
          clear hK K
          try simp only [List.getElem_toArray, List.getElem_cons_succ, List.getElem_cons_zero, Act.put, List.setIfInBounds_toArray, List.set_cons_zero, List.set_cons_succ]
          refine wpAnyH_done (by kernel_rfl) ?_ _
          go_wp2_with fail
          go_meet
          have F4 := (HK4.out.put (.int .i64 kd) (.int .i64 nd) (.string sd) (.slice bd bld bcd) (.slice fd fld fcd) (.slice ld lld lcd)).other h45 0 [.int .i64 ke, .int .i64 ne, .string se, .slice be ble bce, .slice fe fle fce, .slice le lle lce]
          have F5 := (HK5.out.other h54 0 [.int .i64 kd, .int .i64 nd, .string sd, .slice bd bld bcd, .slice fd fld fcd, .slice ld lld lcd]).put (.int .i64 ke) (.int .i64 ne) (.string se) (.slice be ble bce) (.slice fe fle fce) (.slice le lle lce)
          have F6 := HVA.out [.int .i64 kd, .int .i64 nd, .string sd, .slice bd bld bcd, .slice fd fld fcd, .slice ld lld lcd] [.int .i64 ke, .int .i64 ne, .string se, .slice be ble bce, .slice fe fle fce, .slice le lle lce]
          have F7 := HVB.out [.int .i64 kd, .int .i64 nd, .string sd, .slice bd bld bcd, .slice fd fld fcd, .slice ld lld lcd] [.int .i64 ke, .int .i64 ne, .string se, .slice be ble bce, .slice fe fle fce, .slice le lle lce]
          have F8 := puts_below (puts_below HB31.out HL4.out [.int .i64 kd, .int .i64 nd, .string sd, .slice bd bld bcd, .slice fd fld fcd, .slice ld lld lcd] 0) HL5.out [.int .i64 ke, .int .i64 ne, .string se, .slice be ble bce, .slice fe fle fce, .slice le lle lce] 0
          exact ⟨Q4, Q5, ya, yb, _, _, _, _, _, _, _, _, _, _, _, _, rfl, rfl, HCa.out, HCb.out, F4, F5, F6, F7, F8⟩
      · go_simp
        have hb32 : Below u26.heap.size u26 (u26.alloc (.cells #[.int .i64 0, .int .i64 0, .string ⟨#[]⟩, .slice none 0 0, .slice none 0 0, .slice none 0 0] 26)) := (Below.refl _ _).alloc (Nat.le_refl _) _
        have HN32 := Lib.hid (IsBox.new u26 (.int .i64 0) (.int .i64 0) (.string ⟨#[]⟩) (.slice none 0 0) (.slice none 0 0) (.slice none 0 0))
        have HB32 := Lib.hid (HB26.out.trans (hb32.mono HB26.out.size))
        have HS32 := Lib.hid (HS26.out.keep hb32)
        have HZ32 : Hid ((u26.alloc (.cells #[.int .i64 0, .int .i64 0, .string ⟨#[]⟩, .slice none 0 0, .slice none 0 0, .slice none 0 0] 26)).heap.size = u26.heap.size + 1) := by show _ = _; simp
        have HG32 : Hid (V < u26.heap.size) := HS26.out.lt
        have HNE : Hid (wd.heap.size < u26.heap.size) := HN26.out.lt
        have H5x32 := Lib.hid (HN26.out.keep hb32)
        clear hb32
        generalize u26.alloc (.cells #[.int .i64 0, .int .i64 0, .string ⟨#[]⟩, .slice none 0 0, .slice none 0 0, .slice none 0 0] 26) = u32 at *
        refine hK.out _ _ (by exact HS32.out.cells) (fun hHeld => ?_)
        clear hK K
        try simp only [List.getElem_toArray, List.getElem_cons_succ, List.getElem_cons_zero, Act.put, List.setIfInBounds_toArray, List.set_cons_zero, List.set_cons_succ]
        refine wpAnyH_ready (rs := [1]) (by kernel_rfl) (by simp) ?_
        refine AllReadyH.cons rfl (fun K hK => ?_) (AllReadyH.nil)
        go_simp
        go_at_call 17
        refine (Cut_any (h + 1) (fun _ => True) false (.mk 7 0 ⟨#[]⟩ [] [] l : Val) _ u32 (VIn.keep (h := h + 2) HB32.out HX0.out)).mono ?_
        rintro e u33 ⟨va, ya, rfl, hca, hva, hb33⟩
        have HB33 := Lib.hid (HB32.out.trans (hb33.mono HB32.out.size))
        have HS33 := Lib.hid (HS32.out.keep hb33)
        have HZ33 : Hid (u32.heap.size ≤ u33.heap.size) := hb33.size
        have HVay33 := Lib.hid (VIn.lt (h := h + 2) hva)
        have HCa := Lib.hid hca
        clear hva hca
        have H4x33 := Lib.hid (HN32.out.keep hb33)
        have H5x33 := Lib.hid (H5x32.out.keep hb33)
        clear hb33
        refine hK.out _ _ (by exact HS33.out.cells) (fun hHeld => ?_)
        clear hK K
        try simp only [List.getElem_toArray, List.getElem_cons_succ, List.getElem_cons_zero, Act.put, List.setIfInBounds_toArray, List.set_cons_zero, List.set_cons_succ]
        refine wpAnyH_ready (rs := [3]) (by kernel_rfl) (by simp) ?_
        refine AllReadyH.cons rfl (fun K hK => ?_) (AllReadyH.nil)
        go_simp
        go_at_call 17
        refine (Cut_any (h + 1) (fun _ => True) true (.mk 7 0 ⟨#[]⟩ [] [] l : Val) _ u33 (VIn.keep (h := h + 2) HB33.out HX0.out)).mono ?_
        rintro e u34 ⟨vb, yb, rfl, hcb, hvb, hb34⟩
        have HB34 := Lib.hid (HB33.out.trans (hb34.mono HB33.out.size))
        have HS34 := Lib.hid (HS33.out.keep hb34)
        have HZ34 : Hid (u33.heap.size ≤ u34.heap.size) := hb34.size
        have HVby34 := Lib.hid (VIn.lt (h := h + 2) hvb)
        have HCb := Lib.hid hcb
        clear hvb hcb
        have H4x34 := Lib.hid (H4x33.out.keep hb34)
        have H5x34 := Lib.hid (H5x33.out.keep hb34)
        have HVax34 := Lib.hid (VIn.keep (h := h + 2) hb34 HVay33.out)
        clear hb34
        refine hK.out _ _ (by exact HS34.out.cells) (fun hHeld => ?_)
        clear hK K
        try simp only [List.getElem_toArray, List.getElem_cons_succ, List.getElem_cons_zero, Act.put, List.setIfInBounds_toArray, List.set_cons_zero, List.set_cons_succ]
        obtain ⟨kd, nd, sd, bd, fd, ld, bld, bcd, fld, fcd, lld, lcd, rfl⟩ := VIn.shape (h := h + 2) HVax34.out
        obtain ⟨ke, ne, se, be, fe, le, ble, bce, fle, fce, lle, lce, rfl⟩ := VIn.shape (h := h + 2) HVby34.out
        obtain ⟨Q4, hQ4⟩ : ∃ q, q = u26.heap.size := ⟨_, rfl⟩
        obtain ⟨Q5, hQ5⟩ : ∃ q, q = wd.heap.size := ⟨_, rfl⟩
        have h45 : ¬ Q4 = Q5 := by have := HNE.out; omega
        have h54 : ¬ Q5 = Q4 := by omega
        have hv4 : ¬ V = Q4 := by have := HG32.out; omega
        have hv5 : ¬ V = Q5 := by have := HG26.out; omega
        have HL4 : Hid (w.heap.size ≤ Q4) := by have := HG32.out; have := HVV.out; show _ ≤ _; omega
        have HL5 : Hid (w.heap.size ≤ Q5) := by have := HG26.out; have := HVV.out; show _ ≤ _; omega
        have HK4 : Hid (IsBox u34 Q4 (.int .i64 0) (.int .i64 0) (.string ⟨#[]⟩) (.slice none 0 0) (.slice none 0 0) (.slice none 0 0)) := by rw [hQ4]; exact H4x34.out
        have HK5 : Hid (IsBox u34 Q5 (.int .i64 0) (.int .i64 0) (.string ⟨#[]⟩) (.slice none 0 0) (.slice none 0 0) (.slice none 0 0)) := by rw [hQ5]; exact H5x34.out
        rw [← hQ4, ← hQ5]
        have HNV := Lib.hid (And.intro h45 (And.intro h54 (And.intro hv4 hv5)))
        have HVA : Hid (∀ vs us, VIn (puts (puts u34 Q4 0 vs) Q5 0 us) (fun _ => True) (h + 2) ya (.agg #[.int .i64 kd, .int .i64 nd, .string sd, .slice bd bld bcd, .slice fd fld fcd, .slice ld lld lcd])) := fun vs us => (VIn.kept (Q' := fun _ => True) (puts_kept _ (by have := HZ26.out; have := HZ32.out; have := HZ33.out; have := HZ34.out; omega) 0 us) (fun _ _ => trivial) (VIn.kept (puts_kept _ (by have := HZ26.out; have := HZ32.out; have := HZ33.out; have := HZ34.out; omega) 0 vs) (fun _ hg => hg) HVax34.out))
        have HVB : Hid (∀ vs us, VIn (puts (puts u34 Q4 0 vs) Q5 0 us) (fun _ => True) (h + 2) yb (.agg #[.int .i64 ke, .int .i64 ne, .string se, .slice be ble bce, .slice fe fle fce, .slice le lle lce])) := fun vs us => (VIn.kept (Q' := fun _ => True) (puts_kept _ (by have := HZ26.out; have := HZ32.out; have := HZ33.out; have := HZ34.out; omega) 0 us) (fun _ _ => trivial) (VIn.kept (puts_kept _ (by have := HZ26.out; have := HZ32.out; have := HZ33.out; have := HZ34.out; omega) 0 vs) (fun _ hg => hg) HVby34.out))
        clear hQ4 hQ5
        obtain ⟨z0, z1, z2, z3, z4, z5⟩ := HK4.out.cells
        obtain ⟨t0, t1, t2, t3, t4, t5⟩ := HK4.out.thaw
        obtain ⟨y0, y1, y2, y3, y4, y5⟩ := HK5.out.cells
        obtain ⟨q0, q1, q2, q3, q4, q5⟩ := HK5.out.thaw
        refine wpAnyH_ready (rs := [6]) (by kernel_rfl) (by simp) ?_
        refine AllReadyH.cons rfl (fun K hK => ?_) (AllReadyH.nil)
        go_simp
        refine hK.out _ _ (by exact (HS34.out.other hv4 0 [.int .i64 kd, .int .i64 nd, .string sd, .slice bd bld bcd, .slice fd fld fcd, .slice ld lld lcd]).cells) (fun hHeld => ?_)
        clear hK K
        try simp only [List.getElem_toArray, List.getElem_cons_succ, List.getElem_cons_zero, Act.put, List.setIfInBounds_toArray, List.set_cons_zero, List.set_cons_succ]
        refine wpAnyH_ready (rs := [7]) (by kernel_rfl) (by simp) ?_
        refine AllReadyH.cons rfl (fun K hK => ?_) (AllReadyH.nil)
        go_simp
        refine hK.out _ _ (by exact ((HS34.out.other hv4 0 [.int .i64 kd, .int .i64 nd, .string sd, .slice bd bld bcd, .slice fd fld fcd, .slice ld lld lcd]).other hv5 0 [.int .i64 ke, .int .i64 ne, .string se, .slice be ble bce, .slice fe fle fce, .slice le lle lce]).cells) (fun hHeld => ?_)
        clear hK K
        try simp only [List.getElem_toArray, List.getElem_cons_succ, List.getElem_cons_zero, Act.put, List.setIfInBounds_toArray, List.set_cons_zero, List.set_cons_succ]
        refine wpAnyH_done (by kernel_rfl) ?_ _
        go_wp2_with fail
        go_meet
        have F4 := (HK4.out.put (.int .i64 kd) (.int .i64 nd) (.string sd) (.slice bd bld bcd) (.slice fd fld fcd) (.slice ld lld lcd)).other h45 0 [.int .i64 ke, .int .i64 ne, .string se, .slice be ble bce, .slice fe fle fce, .slice le lle lce]
        have F5 := (HK5.out.other h54 0 [.int .i64 kd, .int .i64 nd, .string sd, .slice bd bld bcd, .slice fd fld fcd, .slice ld lld lcd]).put (.int .i64 ke) (.int .i64 ne) (.string se) (.slice be ble bce) (.slice fe fle fce) (.slice le lle lce)
        have F6 := HVA.out [.int .i64 kd, .int .i64 nd, .string sd, .slice bd bld bcd, .slice fd fld fcd, .slice ld lld lcd] [.int .i64 ke, .int .i64 ne, .string se, .slice be ble bce, .slice fe fle fce, .slice le lle lce]
        have F7 := HVB.out [.int .i64 kd, .int .i64 nd, .string sd, .slice bd bld bcd, .slice fd fld fcd, .slice ld lld lcd] [.int .i64 ke, .int .i64 ne, .string se, .slice be ble bce, .slice fe fle fce, .slice le lle lce]
        have F8 := puts_below (puts_below HB34.out HL4.out [.int .i64 kd, .int .i64 nd, .string sd, .slice bd bld bcd, .slice fd fld fcd, .slice ld lld lcd] 0) HL5.out [.int .i64 ke, .int .i64 ne, .string se, .slice be ble bce, .slice fe fle fce, .slice le lle lce] 0
        exact ⟨Q4, Q5, ya, yb, _, _, _, _, _, _, _, _, _, _, _, _, rfl, rfl, HCa.out, HCb.out, F4, F5, F6, F7, F8⟩
  case rest =>
    obtain ⟨P4, P5, ya, yb, a0, a1, a2, a3, a4, a5, b0, b1, b2, b3, b4, b5, rfl, rfl, hca, hcb, hb4, hb5, hva, hvb, hbw⟩ := hcut
    obtain ⟨kd, nd, sd, bd, fd, ld, bld, bcd, fld, fcd, lld, lcd, hm⟩ := VIn.shape (h := h + 2) hva
    injection hm with hm
    injection hm with hm
    injection hm with x0 hm; injection hm with x1 hm; injection hm with x2 hm; injection hm with x3 hm; injection hm with x4 hm; injection hm with x5 hm
    subst x0 x1 x2 x3 x4 x5
    clear hm
    obtain ⟨ke, ne, se, be, fe, le, ble, bce, fle, fce, lle, lce, hm⟩ := VIn.shape (h := h + 2) hvb
    injection hm with hm
    injection hm with hm
    injection hm with x0 hm; injection hm with x1 hm; injection hm with x2 hm; injection hm with x3 hm; injection hm with x4 hm; injection hm with x5 hm
    subst x0 x1 x2 x3 x4 x5
    clear hm
    have H4 := Lib.hid hb4
    have H5 := Lib.hid hb5
    have HCA := Lib.hid hca
    have HCB := Lib.hid hcb
    have HBW := Lib.hid hbw
    have HKA := Lib.hid (VIn.kind_is (h := h + 2) hva)
    have HKB := Lib.hid (VIn.kind_is (h := h + 2) hvb)
    have HVA2 := Lib.hid hva
    have HVB2 := Lib.hid hvb
    clear hb4 hb5 hca hcb hbw hva hvb
    by_cases hn0 : n = 0
    · have hln : l = [] := List.eq_nil_of_length_eq_zero (by have := HN.out; omega)
      have hka : kd = 0 := by
        rw [HKA.out]
        rcases HCA.out with ⟨e, _⟩ | ⟨_, _, e⟩ | ⟨_, kk, hb, _⟩
        · exact absurd rfl e
        · rw [e]; rfl
        · have := hb.lt; rw [show (Bson.Val.mk 7 0 ⟨#[]⟩ [] [] l).l = l from rfl, hln] at this; simp at this
      have hkb : ke = 0 := by
        rw [HKB.out]
        rcases HCB.out with ⟨e, _⟩ | ⟨_, _, e⟩ | ⟨_, kk, hb, _⟩
        · exact absurd rfl e
        · rw [e]; rfl
        · have := hb.lt; rw [show (Bson.Val.mk 7 0 ⟨#[]⟩ [] [] l).l = l from rfl, hln] at this; simp at this
      subst hka hkb
      subst hn0
      clear hln
      obtain ⟨p0, p1, p2, p3, p4, p5⟩ := H4.out.cells
      obtain ⟨t0, t1, t2, t3, t4, t5⟩ := H5.out.cells
      go_wp2_with fail
      go_ret
      exact ⟨rfl, HBW.out⟩
    · have hnb : ((n : Int) == 0) = false := by rw [beq_eq_false_iff_ne]; omega
      obtain ⟨kka, hba, hya⟩ : ∃ kk, Order.Best (Order.turned (Order.cmp (h + 1)) false) Bson.zero l n kk ∧ ya = l.getD kk Bson.zero := by
        rcases HCA.out with ⟨e, _⟩ | ⟨_, e, _⟩ | ⟨_, kk, hb, e⟩
        · exact absurd rfl e
        · have e2 : l = [] := e
          have := HN.out; rw [e2] at this; simp at this; omega
        · exact ⟨kk, by have e3 : (Bson.Val.mk 7 0 ⟨#[]⟩ [] [] l).l.length = n := HN.out; rw [e3] at hb; exact hb, e⟩
      obtain ⟨kkb, hbb, hyb⟩ : ∃ kk, Order.Best (Order.turned (Order.cmp (h + 1)) true) Bson.zero l n kk ∧ yb = l.getD kk Bson.zero := by
        rcases HCB.out with ⟨e, _⟩ | ⟨_, e, _⟩ | ⟨_, kk, hb, e⟩
        · exact absurd rfl e
        · have e2 : l = [] := e
          have := HN.out; rw [e2] at this; simp at this; omega
        · exact ⟨kk, by have e3 : (Bson.Val.mk 7 0 ⟨#[]⟩ [] [] l).l.length = n := HN.out; rw [e3] at hb; exact hb, e⟩
      have HIC := Lib.hid (HI.out wc HBW.out)
      obtain ⟨g, o, hla, _, hall⟩ := HIC.out.resolve_left (fun e => by have := HN.out; rw [e] at this; simp at this; omega)
      obtain rfl := hla
      have HALL := Lib.hid hall
      have HVA : Hid (VIn wc (fun _ => True) (h + 1) ya (.agg #[.int .i64 kd, .int .i64 nd, .string sd, .slice bd bld bcd, .slice fd fld fcd, .slice ld lld lcd])) := by
        obtain ⟨v, _, hv⟩ := hall kka (by have := hba.lt; have := HN.out; omega)
        have e : ya = l[kka]'(by have := hba.lt; have := HN.out; omega) := by rw [hya, getD_at (by have := hba.lt; have := HN.out; omega)]
        exact VIn.lower (h := h + 1) (by rw [e]; exact hv) HVA2.out
      have HVB : Hid (VIn wc (fun _ => True) (h + 1) yb (.agg #[.int .i64 ke, .int .i64 ne, .string se, .slice be ble bce, .slice fe fle fce, .slice le lle lce])) := by
        obtain ⟨v, _, hv⟩ := hall kkb (by have := hbb.lt; have := HN.out; omega)
        have e : yb = l[kkb]'(by have := hbb.lt; have := HN.out; omega) := by rw [hyb, getD_at (by have := hbb.lt; have := HN.out; omega)]
        exact VIn.lower (h := h + 1) (by rw [e]; exact hv) HVB2.out
      have HBA := Lib.hid hba
      have HBB := Lib.hid hbb
      have HYA := Lib.hid hya
      have HYB := Lib.hid hyb
      have HLA : Hid (kka < n) := hba.lt
      have HLB : Hid (kkb < n) := hbb.lt
      clear hall hba hbb hya hyb hn0 HVA2 HVB2 HIC
      go_wp2_with fail
      clear hnb
      go_loopw [6, 7, 8] (fun f1 f2 i wr => ∃ (k : Nat) (c1 c2 : Bool), f1 = .bool c1 ∧ f2 = .bool c2 ∧ i = .int .i64 k ∧ k ≤ n ∧ Hid (c1 = decide (kka < k)) ∧ Hid (c2 = decide (kkb < k)) ∧ Hid (Below wc.heap.size wc wr)) (fun _ _ i _ => n - (intOf i).toNat)
      case atStart => exact ⟨0, false, false, rfl, rfl, rfl, Nat.zero_le _, by show false = _; simp, by show false = _; simp, Below.refl _ _⟩
      case round =>
        obtain ⟨k, c1, c2, rfl, rfl, rfl, hk, HC1, HC2, HB⟩ := hrel
        by_cases hlt : k < n
        case neg =>
          obtain rfl : c1 = true := by rw [HC1.out, decide_eq_true_eq]; have := HLA.out; omega
          obtain rfl : c2 = true := by rw [HC2.out, decide_eq_true_eq]; have := HLB.out; omega
          go_wp2_with fail
          go_ret
          exact ⟨rfl, HBW.out.trans (HB.out.mono HBW.out.size)⟩
        obtain ⟨v1, hsix, hVI⟩ := HALL.out k (by have := HN.out; omega)
        obtain ⟨ki, ni, si, bi, fi, li, bli, bci, fli, fci, lli, lci, rfl⟩ := VIn.shape (h := h + 1) hVI
        have HSX := Lib.hid hsix
        have HVI : Hid (VIn wc Q (h + 1) (l.getD k Bson.zero) (.agg #[.int .i64 ki, .int .i64 ni, .string si, .slice bi bli bci, .slice fi fli fci, .slice li lli lci])) := by
          show VIn wc Q (h + 1) _ _
          rw [getD_at (by have := HN.out; omega)]; exact hVI
        clear hsix hVI
        obtain ⟨r1, hr1⟩ : ∃ r, r = Order.cmp (h + 1) (l.getD k Bson.zero) ya := ⟨_, rfl⟩
        obtain ⟨r2, hr2⟩ : ∃ r, r = Order.cmp (h + 1) (l.getD k Bson.zero) yb := ⟨_, rfl⟩
        have h1 : ¬ r1 < 0 := by
          have := Order.Best.all (Order.turned_cmp (Order.cmp_cmp (h + 1)) false) HBA.out k hlt
          rw [← HYA.out] at this
          have e : Order.turned (Order.cmp (h + 1)) false (l.getD k Bson.zero) ya = r1 := by rw [hr1]; rfl
          omega
        have h2 : ¬ 0 < r2 := by
          have := Order.Best.all (Order.turned_cmp (Order.cmp_cmp (h + 1)) true) HBB.out k hlt
          rw [← HYB.out] at this
          have e : Order.turned (Order.cmp (h + 1)) true (l.getD k Bson.zero) yb = - r2 := by rw [hr2]; rfl
          omega
        have HFA : Hid (¬ kka < k → r1 = 0 → k = kka) := fun hh h0 => by
          by_cases e : k < kka
          · have := HBA.out.ahead k e
            rw [← HYA.out] at this
            have e2 : Order.turned (Order.cmp (h + 1)) false (l.getD k Bson.zero) ya = r1 := by rw [hr1]; rfl
            omega
          · omega
        have HFB : Hid (¬ kkb < k → r2 = 0 → k = kkb) := fun hh h0 => by
          by_cases e : k < kkb
          · have := HBB.out.ahead k e
            rw [← HYB.out] at this
            have e2 : Order.turned (Order.cmp (h + 1)) true (l.getD k Bson.zero) yb = - r2 := by rw [hr2]; rfl
            omega
          · omega
        have HGA : Hid (k = kka → r1 = 0) := fun e => by rw [hr1, e, ← HYA.out]; exact (Order.cmp_cmp (h + 1)).refl _
        have HGB : Hid (k = kkb → r2 = 0) := fun e => by rw [hr2, e, ← HYB.out]; exact (Order.cmp_cmp (h + 1)).refl _
        have hd1 : decide (r1 < 0) = false := decide_eq_false h1
        have hd2 : decide (0 < r2) = false := decide_eq_false h2
        have hd3 : decide (r2 > 0) = false := decide_eq_false h2
        clear h1 h2
        have HR1 := Lib.hid hr1
        have HR2 := Lib.hid hr2
        clear hr1 hr2
        obtain ⟨s0, s1, s2, s3, s4, s5⟩ := (HSX.out.keep HB.out).cells
        obtain ⟨p0, p1, p2, p3, p4, p5⟩ := (H4.out.keep HB.out).cells
        obtain ⟨t0, t1, t2, t3, t4, t5⟩ := (H5.out.keep HB.out).cells
        have qs0 := fun d os => cell_regrown s0 d os
        have qs1 := fun d os => cell_regrown s1 d os
        have qs2 := fun d os => cell_regrown s2 d os
        have qs3 := fun d os => cell_regrown s3 d os
        have qs4 := fun d os => cell_regrown s4 d os
        have qs5 := fun d os => cell_regrown s5 d os
        have qp0 := fun d os => cell_regrown p0 d os
        have qp1 := fun d os => cell_regrown p1 d os
        have qp2 := fun d os => cell_regrown p2 d os
        have qp3 := fun d os => cell_regrown p3 d os
        have qp4 := fun d os => cell_regrown p4 d os
        have qp5 := fun d os => cell_regrown p5 d os
        have qt0 := fun d os => cell_regrown t0 d os
        have qt1 := fun d os => cell_regrown t1 d os
        have qt2 := fun d os => cell_regrown t2 d os
        have qt3 := fun d os => cell_regrown t3 d os
        have qt4 := fun d os => cell_regrown t4 d os
        have qt5 := fun d os => cell_regrown t5 d os
        have HQ1 := fun d os => Calls.regrown_of (P := Try.prog) (d := d) (os := os) (v := .int .i64 r1) ((refCompare_any (h + 1) _ _ _ ya _ _ (grow (redrawn wr d) os) (VIn.keep (h := h + 1) (HB.out.trans ((below_regrown wr d os).mono HB.out.size)) HVI.out) (VIn.keep (h := h + 1) (HB.out.trans ((below_regrown wr d os).mono HB.out.size)) HVA.out)).mono fun e w3 ⟨he, hbx⟩ => ⟨by rw [he, HR1.out], hbx⟩)
        have HQ2 := fun d os => Calls.regrown_of (P := Try.prog) (d := d) (os := os) (v := .int .i64 r2) ((refCompare_any (h + 1) _ _ _ yb _ _ (grow (redrawn wr d) os) (VIn.keep (h := h + 1) (HB.out.trans ((below_regrown wr d os).mono HB.out.size)) HVI.out) (VIn.keep (h := h + 1) (HB.out.trans ((below_regrown wr d os).mono HB.out.size)) HVB.out)).mono fun e w3 ⟨he, hbx⟩ => ⟨by rw [he, HR2.out], hbx⟩)
        go_wp2_with fail
        refine wp_region_quiet_below (by kernel_rfl) (by kernel_rfl) ?_
        repeat (go_big_quiet_step ((go_at_call 12; first | (with_reducible exact HQ1 _ _) | (with_reducible exact HQ2 _ _))))
        refine wpQuiet_nil ?_
        intro w13 hw'
        have HB13 : Hid (Below wc.heap.size wc w13) := by
          obtain ⟨dq, hw''⟩ := hw'
          rw [hw'']
          exact HB.out.trans ((below_regrown wr dq.d dq.os).mono HB.out.size)
        clear hw' HQ1 HQ2 s0 qs0 s1 qs1 s2 qs2 s3 qs3 s4 qs4 s5 qs5 p0 qp0 p1 qp1 p2 qp2 p3 qp3 p4 qp4 p5 qp5 t0 qt0 t1 qt1 t2 qt2 t3 qt3 t4 qt4 t5 qt5
        cases c1 with
        | true =>
          have HN1 : Hid (true = decide (kka < k + 1)) := by show true = _; have := HC1.out; rw [eq_comm, decide_eq_true_eq] at this ⊢; omega
          go_wp2_with fail
          refine wp_region_quiet_below (by kernel_rfl) (by kernel_rfl) ?_
          repeat (go_big_quiet_step (fail))
          refine wpQuiet_nil ?_
          intro w15 hw'
          have HB15 : Hid (Below wc.heap.size wc w15) := by
            obtain ⟨dq, hw''⟩ := hw'
            rw [hw'']
            exact HB13.out.trans ((below_regrown w13 dq.d dq.os).mono HB13.out.size)
          clear hw'  
          go_wp2_with fail
          cases c2 with
          | true =>
            have HN2 : Hid (true = decide (kkb < k + 1)) := by show true = _; have := HC2.out; rw [eq_comm, decide_eq_true_eq] at this ⊢; omega
            go_wp2_with fail
            refine wp_region_quiet_below (by kernel_rfl) (by kernel_rfl) ?_
            repeat (go_big_quiet_step (fail))
            refine wpQuiet_nil ?_
            intro w19 hw'
            have HB19 : Hid (Below wc.heap.size wc w19) := by
              obtain ⟨dq, hw''⟩ := hw'
              rw [hw'']
              exact HB15.out.trans ((below_regrown w15 dq.d dq.os).mono HB15.out.size)
            clear hw'  
            go_wp2_with fail
            go_roundw
            case rel => exact ⟨k + 1, _, _, rfl, rfl, by go_num, by omega, HN1, HN2, HB19⟩
            case measure => simp [intOf]; omega
          | false =>
            have hkb : ¬ kkb < k := by have := HC2.out; rw [eq_comm, decide_eq_false_iff_not] at this; exact this
            have HKB2 := Lib.hid hkb
            clear hkb
            by_cases e0 : r2 = 0
            · have HEQ : Hid (l.getD k Bson.zero = yb) := by show l.getD k Bson.zero = yb; rw [HFB.out HKB2.out e0, ← HYB.out]
              have HN2 : Hid (true = decide (kkb < k + 1)) := by show true = _; rw [eq_comm, decide_eq_true_eq]; have := HFB.out HKB2.out e0; omega
              have he0 : (r2 == 0) = true := by rw [e0]; rfl
              clear e0
              obtain ⟨s0, s1, s2, s3, s4, s5⟩ := (HSX.out.keep HB15.out).cells
              obtain ⟨t0, t1, t2, t3, t4, t5⟩ := (H5.out.keep HB15.out).cells
              have qs0 := fun d os => cell_regrown s0 d os
              have qs1 := fun d os => cell_regrown s1 d os
              have qs2 := fun d os => cell_regrown s2 d os
              have qs3 := fun d os => cell_regrown s3 d os
              have qs4 := fun d os => cell_regrown s4 d os
              have qs5 := fun d os => cell_regrown s5 d os
              have qt0 := fun d os => cell_regrown t0 d os
              have qt1 := fun d os => cell_regrown t1 d os
              have qt2 := fun d os => cell_regrown t2 d os
              have qt3 := fun d os => cell_regrown t3 d os
              have qt4 := fun d os => cell_regrown t4 d os
              have qt5 := fun d os => cell_regrown t5 d os
              have HQ2 := fun d os => Calls.regrown_of (P := Try.prog) (d := d) (os := os) (v := .int .i64 r2) ((refCompare_any (h + 1) _ _ _ yb _ _ (grow (redrawn w15 d) os) (VIn.keep (h := h + 1) (HB15.out.trans ((below_regrown w15 d os).mono HB15.out.size)) HVI.out) (VIn.keep (h := h + 1) (HB15.out.trans ((below_regrown w15 d os).mono HB15.out.size)) HVB.out)).mono fun e w3 ⟨he, hbx⟩ => ⟨by rw [he, HR2.out], hbx⟩)
              go_wp2_with fail
              refine wp_region_quiet_below (by kernel_rfl) (by kernel_rfl) ?_
              repeat (go_big_quiet_step ((go_at_call 12; with_reducible exact HQ2 _ _)))
              refine wpQuiet_nil ?_
              intro w19 hw'
              have HB19 : Hid (Below wc.heap.size wc w19) := by
                obtain ⟨dq, hw''⟩ := hw'
                rw [hw'']
                exact HB15.out.trans ((below_regrown w15 dq.d dq.os).mono HB15.out.size)
              clear hw' HQ2 s0 qs0 s1 qs1 s2 qs2 s3 qs3 s4 qs4 s5 qs5 t0 qt0 t1 qt1 t2 qt2 t3 qt3 t4 qt4 t5 qt5
              obtain ⟨s0, s1, s2, s3, s4, s5⟩ := (HSX.out.keep HB19.out).cells
              obtain ⟨t0, t1, t2, t3, t4, t5⟩ := (H5.out.keep HB19.out).cells
              have qs0 := fun d os => cell_regrown s0 d os
              have qs1 := fun d os => cell_regrown s1 d os
              have qs2 := fun d os => cell_regrown s2 d os
              have qs3 := fun d os => cell_regrown s3 d os
              have qs4 := fun d os => cell_regrown s4 d os
              have qs5 := fun d os => cell_regrown s5 d os
              have qt0 := fun d os => cell_regrown t0 d os
              have qt1 := fun d os => cell_regrown t1 d os
              have qt2 := fun d os => cell_regrown t2 d os
              have qt3 := fun d os => cell_regrown t3 d os
              have qt4 := fun d os => cell_regrown t4 d os
              have qt5 := fun d os => cell_regrown t5 d os
              have HQ3 := fun d os => Calls.regrown_of (P := Try.prog) (d := d) (os := os) (v := .bool true) ((same_any (h + 1) (h + 1) _ _ _ yb _ _ (grow (redrawn w19 d) os) (VIn.keep (h := h + 1) (HB19.out.trans ((below_regrown w19 d os).mono HB19.out.size)) HVI.out) (VIn.keep (h := h + 1) (HB19.out.trans ((below_regrown w19 d os).mono HB19.out.size)) HVB.out)).mono fun e w3 ⟨rr, he, hiff, hbx⟩ => ⟨by rw [he, hiff.2 HEQ.out], hbx⟩)
              go_wp2_with fail
              refine wp_region_quiet_below (by kernel_rfl) (by kernel_rfl) ?_
              repeat (go_big_quiet_step ((go_at_call 16; with_reducible exact HQ3 _ _)))
              refine wpQuiet_nil ?_
              intro w20 hw'
              have HB20 : Hid (Below wc.heap.size wc w20) := by
                obtain ⟨dq, hw''⟩ := hw'
                rw [hw'']
                exact HB19.out.trans ((below_regrown w19 dq.d dq.os).mono HB19.out.size)
              clear hw' HQ3 s0 qs0 s1 qs1 s2 qs2 s3 qs3 s4 qs4 s5 qs5 t0 qt0 t1 qt1 t2 qt2 t3 qt3 t4 qt4 t5 qt5
              go_wp2_with fail
              go_roundw
              case rel => exact ⟨k + 1, _, _, rfl, rfl, by go_num, by omega, HN1, HN2, HB20⟩
              case measure => simp [intOf]; omega
            · have HN2 : Hid (false = decide (kkb < k + 1)) := by show false = _; rw [eq_comm, decide_eq_false_iff_not]; have := HKB2.out; have := HGB.out; omega
              have he0 : (r2 == 0) = false := by rw [beq_eq_false_iff_ne]; exact e0
              clear e0
              obtain ⟨s0, s1, s2, s3, s4, s5⟩ := (HSX.out.keep HB15.out).cells
              obtain ⟨t0, t1, t2, t3, t4, t5⟩ := (H5.out.keep HB15.out).cells
              have qs0 := fun d os => cell_regrown s0 d os
              have qs1 := fun d os => cell_regrown s1 d os
              have qs2 := fun d os => cell_regrown s2 d os
              have qs3 := fun d os => cell_regrown s3 d os
              have qs4 := fun d os => cell_regrown s4 d os
              have qs5 := fun d os => cell_regrown s5 d os
              have qt0 := fun d os => cell_regrown t0 d os
              have qt1 := fun d os => cell_regrown t1 d os
              have qt2 := fun d os => cell_regrown t2 d os
              have qt3 := fun d os => cell_regrown t3 d os
              have qt4 := fun d os => cell_regrown t4 d os
              have qt5 := fun d os => cell_regrown t5 d os
              have HQ2 := fun d os => Calls.regrown_of (P := Try.prog) (d := d) (os := os) (v := .int .i64 r2) ((refCompare_any (h + 1) _ _ _ yb _ _ (grow (redrawn w15 d) os) (VIn.keep (h := h + 1) (HB15.out.trans ((below_regrown w15 d os).mono HB15.out.size)) HVI.out) (VIn.keep (h := h + 1) (HB15.out.trans ((below_regrown w15 d os).mono HB15.out.size)) HVB.out)).mono fun e w3 ⟨he, hbx⟩ => ⟨by rw [he, HR2.out], hbx⟩)
              go_wp2_with fail
              refine wp_region_quiet_below (by kernel_rfl) (by kernel_rfl) ?_
              repeat (go_big_quiet_step ((go_at_call 12; with_reducible exact HQ2 _ _)))
              refine wpQuiet_nil ?_
              intro w19 hw'
              have HB19 : Hid (Below wc.heap.size wc w19) := by
                obtain ⟨dq, hw''⟩ := hw'
                rw [hw'']
                exact HB15.out.trans ((below_regrown w15 dq.d dq.os).mono HB15.out.size)
              clear hw' HQ2 s0 qs0 s1 qs1 s2 qs2 s3 qs3 s4 qs4 s5 qs5 t0 qt0 t1 qt1 t2 qt2 t3 qt3 t4 qt4 t5 qt5
              go_wp2_with fail
              go_roundw
              case rel => exact ⟨k + 1, _, _, rfl, rfl, by go_num, by omega, HN1, HN2, HB19⟩
              case measure => simp [intOf]; omega
        | false =>
          have hka : ¬ kka < k := by have := HC1.out; rw [eq_comm, decide_eq_false_iff_not] at this; exact this
          have HKA2 := Lib.hid hka
          clear hka
          by_cases e0 : r1 = 0
          · have HEQ1 : Hid (l.getD k Bson.zero = ya) := by show l.getD k Bson.zero = ya; rw [HFA.out HKA2.out e0, ← HYA.out]
            have HN1 : Hid (true = decide (kka < k + 1)) := by show true = _; rw [eq_comm, decide_eq_true_eq]; have := HFA.out HKA2.out e0; omega
            have he1 : (r1 == 0) = true := by rw [e0]; rfl
            clear e0
            obtain ⟨s0, s1, s2, s3, s4, s5⟩ := (HSX.out.keep HB13.out).cells
            obtain ⟨p0, p1, p2, p3, p4, p5⟩ := (H4.out.keep HB13.out).cells
            have qs0 := fun d os => cell_regrown s0 d os
            have qs1 := fun d os => cell_regrown s1 d os
            have qs2 := fun d os => cell_regrown s2 d os
            have qs3 := fun d os => cell_regrown s3 d os
            have qs4 := fun d os => cell_regrown s4 d os
            have qs5 := fun d os => cell_regrown s5 d os
            have qp0 := fun d os => cell_regrown p0 d os
            have qp1 := fun d os => cell_regrown p1 d os
            have qp2 := fun d os => cell_regrown p2 d os
            have qp3 := fun d os => cell_regrown p3 d os
            have qp4 := fun d os => cell_regrown p4 d os
            have qp5 := fun d os => cell_regrown p5 d os
            have HQ1 := fun d os => Calls.regrown_of (P := Try.prog) (d := d) (os := os) (v := .int .i64 r1) ((refCompare_any (h + 1) _ _ _ ya _ _ (grow (redrawn w13 d) os) (VIn.keep (h := h + 1) (HB13.out.trans ((below_regrown w13 d os).mono HB13.out.size)) HVI.out) (VIn.keep (h := h + 1) (HB13.out.trans ((below_regrown w13 d os).mono HB13.out.size)) HVA.out)).mono fun e w3 ⟨he, hbx⟩ => ⟨by rw [he, HR1.out], hbx⟩)
            go_wp2_with fail
            refine wp_region_quiet_below (by kernel_rfl) (by kernel_rfl) ?_
            repeat (go_big_quiet_step ((go_at_call 12; with_reducible exact HQ1 _ _)))
            refine wpQuiet_nil ?_
            intro w15 hw'
            have HB15 : Hid (Below wc.heap.size wc w15) := by
              obtain ⟨dq, hw''⟩ := hw'
              rw [hw'']
              exact HB13.out.trans ((below_regrown w13 dq.d dq.os).mono HB13.out.size)
            clear hw' HQ1 s0 qs0 s1 qs1 s2 qs2 s3 qs3 s4 qs4 s5 qs5 p0 qp0 p1 qp1 p2 qp2 p3 qp3 p4 qp4 p5 qp5
            obtain ⟨s0, s1, s2, s3, s4, s5⟩ := (HSX.out.keep HB15.out).cells
            obtain ⟨p0, p1, p2, p3, p4, p5⟩ := (H4.out.keep HB15.out).cells
            have qs0 := fun d os => cell_regrown s0 d os
            have qs1 := fun d os => cell_regrown s1 d os
            have qs2 := fun d os => cell_regrown s2 d os
            have qs3 := fun d os => cell_regrown s3 d os
            have qs4 := fun d os => cell_regrown s4 d os
            have qs5 := fun d os => cell_regrown s5 d os
            have qp0 := fun d os => cell_regrown p0 d os
            have qp1 := fun d os => cell_regrown p1 d os
            have qp2 := fun d os => cell_regrown p2 d os
            have qp3 := fun d os => cell_regrown p3 d os
            have qp4 := fun d os => cell_regrown p4 d os
            have qp5 := fun d os => cell_regrown p5 d os
            have HQ3 := fun d os => Calls.regrown_of (P := Try.prog) (d := d) (os := os) (v := .bool true) ((same_any (h + 1) (h + 1) _ _ _ ya _ _ (grow (redrawn w15 d) os) (VIn.keep (h := h + 1) (HB15.out.trans ((below_regrown w15 d os).mono HB15.out.size)) HVI.out) (VIn.keep (h := h + 1) (HB15.out.trans ((below_regrown w15 d os).mono HB15.out.size)) HVA.out)).mono fun e w3 ⟨rr, he, hiff, hbx⟩ => ⟨by rw [he, hiff.2 HEQ1.out], hbx⟩)
            go_wp2_with fail
            refine wp_region_quiet_below (by kernel_rfl) (by kernel_rfl) ?_
            repeat (go_big_quiet_step ((go_at_call 16; with_reducible exact HQ3 _ _)))
            refine wpQuiet_nil ?_
            intro w16 hw'
            have HB16 : Hid (Below wc.heap.size wc w16) := by
              obtain ⟨dq, hw''⟩ := hw'
              rw [hw'']
              exact HB15.out.trans ((below_regrown w15 dq.d dq.os).mono HB15.out.size)
            clear hw' HQ3 s0 qs0 s1 qs1 s2 qs2 s3 qs3 s4 qs4 s5 qs5 p0 qp0 p1 qp1 p2 qp2 p3 qp3 p4 qp4 p5 qp5
            go_wp2_with fail
            cases c2 with
            | true =>
              have HN2 : Hid (true = decide (kkb < k + 1)) := by show true = _; have := HC2.out; rw [eq_comm, decide_eq_true_eq] at this ⊢; omega
              go_wp2_with fail
              refine wp_region_quiet_below (by kernel_rfl) (by kernel_rfl) ?_
              repeat (go_big_quiet_step (fail))
              refine wpQuiet_nil ?_
              intro w19 hw'
              have HB19 : Hid (Below wc.heap.size wc w19) := by
                obtain ⟨dq, hw''⟩ := hw'
                rw [hw'']
                exact HB16.out.trans ((below_regrown w16 dq.d dq.os).mono HB16.out.size)
              clear hw'  
              go_wp2_with fail
              go_roundw
              case rel => exact ⟨k + 1, _, _, rfl, rfl, by go_num, by omega, HN1, HN2, HB19⟩
              case measure => simp [intOf]; omega
            | false =>
              have hkb : ¬ kkb < k := by have := HC2.out; rw [eq_comm, decide_eq_false_iff_not] at this; exact this
              have HKB2 := Lib.hid hkb
              clear hkb
              by_cases e0 : r2 = 0
              · have HEQ : Hid (l.getD k Bson.zero = yb) := by show l.getD k Bson.zero = yb; rw [HFB.out HKB2.out e0, ← HYB.out]
                have HN2 : Hid (true = decide (kkb < k + 1)) := by show true = _; rw [eq_comm, decide_eq_true_eq]; have := HFB.out HKB2.out e0; omega
                have he0 : (r2 == 0) = true := by rw [e0]; rfl
                clear e0
                obtain ⟨s0, s1, s2, s3, s4, s5⟩ := (HSX.out.keep HB16.out).cells
                obtain ⟨t0, t1, t2, t3, t4, t5⟩ := (H5.out.keep HB16.out).cells
                have qs0 := fun d os => cell_regrown s0 d os
                have qs1 := fun d os => cell_regrown s1 d os
                have qs2 := fun d os => cell_regrown s2 d os
                have qs3 := fun d os => cell_regrown s3 d os
                have qs4 := fun d os => cell_regrown s4 d os
                have qs5 := fun d os => cell_regrown s5 d os
                have qt0 := fun d os => cell_regrown t0 d os
                have qt1 := fun d os => cell_regrown t1 d os
                have qt2 := fun d os => cell_regrown t2 d os
                have qt3 := fun d os => cell_regrown t3 d os
                have qt4 := fun d os => cell_regrown t4 d os
                have qt5 := fun d os => cell_regrown t5 d os
                have HQ2 := fun d os => Calls.regrown_of (P := Try.prog) (d := d) (os := os) (v := .int .i64 r2) ((refCompare_any (h + 1) _ _ _ yb _ _ (grow (redrawn w16 d) os) (VIn.keep (h := h + 1) (HB16.out.trans ((below_regrown w16 d os).mono HB16.out.size)) HVI.out) (VIn.keep (h := h + 1) (HB16.out.trans ((below_regrown w16 d os).mono HB16.out.size)) HVB.out)).mono fun e w3 ⟨he, hbx⟩ => ⟨by rw [he, HR2.out], hbx⟩)
                go_wp2_with fail
                refine wp_region_quiet_below (by kernel_rfl) (by kernel_rfl) ?_
                repeat (go_big_quiet_step ((go_at_call 12; with_reducible exact HQ2 _ _)))
                refine wpQuiet_nil ?_
                intro w19 hw'
                have HB19 : Hid (Below wc.heap.size wc w19) := by
                  obtain ⟨dq, hw''⟩ := hw'
                  rw [hw'']
                  exact HB16.out.trans ((below_regrown w16 dq.d dq.os).mono HB16.out.size)
                clear hw' HQ2 s0 qs0 s1 qs1 s2 qs2 s3 qs3 s4 qs4 s5 qs5 t0 qt0 t1 qt1 t2 qt2 t3 qt3 t4 qt4 t5 qt5
                obtain ⟨s0, s1, s2, s3, s4, s5⟩ := (HSX.out.keep HB19.out).cells
                obtain ⟨t0, t1, t2, t3, t4, t5⟩ := (H5.out.keep HB19.out).cells
                have qs0 := fun d os => cell_regrown s0 d os
                have qs1 := fun d os => cell_regrown s1 d os
                have qs2 := fun d os => cell_regrown s2 d os
                have qs3 := fun d os => cell_regrown s3 d os
                have qs4 := fun d os => cell_regrown s4 d os
                have qs5 := fun d os => cell_regrown s5 d os
                have qt0 := fun d os => cell_regrown t0 d os
                have qt1 := fun d os => cell_regrown t1 d os
                have qt2 := fun d os => cell_regrown t2 d os
                have qt3 := fun d os => cell_regrown t3 d os
                have qt4 := fun d os => cell_regrown t4 d os
                have qt5 := fun d os => cell_regrown t5 d os
                have HQ3 := fun d os => Calls.regrown_of (P := Try.prog) (d := d) (os := os) (v := .bool true) ((same_any (h + 1) (h + 1) _ _ _ yb _ _ (grow (redrawn w19 d) os) (VIn.keep (h := h + 1) (HB19.out.trans ((below_regrown w19 d os).mono HB19.out.size)) HVI.out) (VIn.keep (h := h + 1) (HB19.out.trans ((below_regrown w19 d os).mono HB19.out.size)) HVB.out)).mono fun e w3 ⟨rr, he, hiff, hbx⟩ => ⟨by rw [he, hiff.2 HEQ.out], hbx⟩)
                go_wp2_with fail
                refine wp_region_quiet_below (by kernel_rfl) (by kernel_rfl) ?_
                repeat (go_big_quiet_step ((go_at_call 16; with_reducible exact HQ3 _ _)))
                refine wpQuiet_nil ?_
                intro w20 hw'
                have HB20 : Hid (Below wc.heap.size wc w20) := by
                  obtain ⟨dq, hw''⟩ := hw'
                  rw [hw'']
                  exact HB19.out.trans ((below_regrown w19 dq.d dq.os).mono HB19.out.size)
                clear hw' HQ3 s0 qs0 s1 qs1 s2 qs2 s3 qs3 s4 qs4 s5 qs5 t0 qt0 t1 qt1 t2 qt2 t3 qt3 t4 qt4 t5 qt5
                go_wp2_with fail
                go_roundw
                case rel => exact ⟨k + 1, _, _, rfl, rfl, by go_num, by omega, HN1, HN2, HB20⟩
                case measure => simp [intOf]; omega
              · have HN2 : Hid (false = decide (kkb < k + 1)) := by show false = _; rw [eq_comm, decide_eq_false_iff_not]; have := HKB2.out; have := HGB.out; omega
                have he0 : (r2 == 0) = false := by rw [beq_eq_false_iff_ne]; exact e0
                clear e0
                obtain ⟨s0, s1, s2, s3, s4, s5⟩ := (HSX.out.keep HB16.out).cells
                obtain ⟨t0, t1, t2, t3, t4, t5⟩ := (H5.out.keep HB16.out).cells
                have qs0 := fun d os => cell_regrown s0 d os
                have qs1 := fun d os => cell_regrown s1 d os
                have qs2 := fun d os => cell_regrown s2 d os
                have qs3 := fun d os => cell_regrown s3 d os
                have qs4 := fun d os => cell_regrown s4 d os
                have qs5 := fun d os => cell_regrown s5 d os
                have qt0 := fun d os => cell_regrown t0 d os
                have qt1 := fun d os => cell_regrown t1 d os
                have qt2 := fun d os => cell_regrown t2 d os
                have qt3 := fun d os => cell_regrown t3 d os
                have qt4 := fun d os => cell_regrown t4 d os
                have qt5 := fun d os => cell_regrown t5 d os
                have HQ2 := fun d os => Calls.regrown_of (P := Try.prog) (d := d) (os := os) (v := .int .i64 r2) ((refCompare_any (h + 1) _ _ _ yb _ _ (grow (redrawn w16 d) os) (VIn.keep (h := h + 1) (HB16.out.trans ((below_regrown w16 d os).mono HB16.out.size)) HVI.out) (VIn.keep (h := h + 1) (HB16.out.trans ((below_regrown w16 d os).mono HB16.out.size)) HVB.out)).mono fun e w3 ⟨he, hbx⟩ => ⟨by rw [he, HR2.out], hbx⟩)
                go_wp2_with fail
                refine wp_region_quiet_below (by kernel_rfl) (by kernel_rfl) ?_
                repeat (go_big_quiet_step ((go_at_call 12; with_reducible exact HQ2 _ _)))
                refine wpQuiet_nil ?_
                intro w19 hw'
                have HB19 : Hid (Below wc.heap.size wc w19) := by
                  obtain ⟨dq, hw''⟩ := hw'
                  rw [hw'']
                  exact HB16.out.trans ((below_regrown w16 dq.d dq.os).mono HB16.out.size)
                clear hw' HQ2 s0 qs0 s1 qs1 s2 qs2 s3 qs3 s4 qs4 s5 qs5 t0 qt0 t1 qt1 t2 qt2 t3 qt3 t4 qt4 t5 qt5
                go_wp2_with fail
                go_roundw
                case rel => exact ⟨k + 1, _, _, rfl, rfl, by go_num, by omega, HN1, HN2, HB19⟩
                case measure => simp [intOf]; omega
          · have HN1 : Hid (false = decide (kka < k + 1)) := by show false = _; rw [eq_comm, decide_eq_false_iff_not]; have := HKA2.out; have := HGA.out; omega
            have he1 : (r1 == 0) = false := by rw [beq_eq_false_iff_ne]; exact e0
            clear e0
            obtain ⟨s0, s1, s2, s3, s4, s5⟩ := (HSX.out.keep HB13.out).cells
            obtain ⟨p0, p1, p2, p3, p4, p5⟩ := (H4.out.keep HB13.out).cells
            have qs0 := fun d os => cell_regrown s0 d os
            have qs1 := fun d os => cell_regrown s1 d os
            have qs2 := fun d os => cell_regrown s2 d os
            have qs3 := fun d os => cell_regrown s3 d os
            have qs4 := fun d os => cell_regrown s4 d os
            have qs5 := fun d os => cell_regrown s5 d os
            have qp0 := fun d os => cell_regrown p0 d os
            have qp1 := fun d os => cell_regrown p1 d os
            have qp2 := fun d os => cell_regrown p2 d os
            have qp3 := fun d os => cell_regrown p3 d os
            have qp4 := fun d os => cell_regrown p4 d os
            have qp5 := fun d os => cell_regrown p5 d os
            have HQ1 := fun d os => Calls.regrown_of (P := Try.prog) (d := d) (os := os) (v := .int .i64 r1) ((refCompare_any (h + 1) _ _ _ ya _ _ (grow (redrawn w13 d) os) (VIn.keep (h := h + 1) (HB13.out.trans ((below_regrown w13 d os).mono HB13.out.size)) HVI.out) (VIn.keep (h := h + 1) (HB13.out.trans ((below_regrown w13 d os).mono HB13.out.size)) HVA.out)).mono fun e w3 ⟨he, hbx⟩ => ⟨by rw [he, HR1.out], hbx⟩)
            go_wp2_with fail
            refine wp_region_quiet_below (by kernel_rfl) (by kernel_rfl) ?_
            repeat (go_big_quiet_step ((go_at_call 12; with_reducible exact HQ1 _ _)))
            refine wpQuiet_nil ?_
            intro w15 hw'
            have HB15 : Hid (Below wc.heap.size wc w15) := by
              obtain ⟨dq, hw''⟩ := hw'
              rw [hw'']
              exact HB13.out.trans ((below_regrown w13 dq.d dq.os).mono HB13.out.size)
            clear hw' HQ1 s0 qs0 s1 qs1 s2 qs2 s3 qs3 s4 qs4 s5 qs5 p0 qp0 p1 qp1 p2 qp2 p3 qp3 p4 qp4 p5 qp5
            go_wp2_with fail
            cases c2 with
            | true =>
              have HN2 : Hid (true = decide (kkb < k + 1)) := by show true = _; have := HC2.out; rw [eq_comm, decide_eq_true_eq] at this ⊢; omega
              go_wp2_with fail
              refine wp_region_quiet_below (by kernel_rfl) (by kernel_rfl) ?_
              repeat (go_big_quiet_step (fail))
              refine wpQuiet_nil ?_
              intro w19 hw'
              have HB19 : Hid (Below wc.heap.size wc w19) := by
                obtain ⟨dq, hw''⟩ := hw'
                rw [hw'']
                exact HB15.out.trans ((below_regrown w15 dq.d dq.os).mono HB15.out.size)
              clear hw'  
              go_wp2_with fail
              go_roundw
              case rel => exact ⟨k + 1, _, _, rfl, rfl, by go_num, by omega, HN1, HN2, HB19⟩
              case measure => simp [intOf]; omega
            | false =>
              have hkb : ¬ kkb < k := by have := HC2.out; rw [eq_comm, decide_eq_false_iff_not] at this; exact this
              have HKB2 := Lib.hid hkb
              clear hkb
              by_cases e0 : r2 = 0
              · have HEQ : Hid (l.getD k Bson.zero = yb) := by show l.getD k Bson.zero = yb; rw [HFB.out HKB2.out e0, ← HYB.out]
                have HN2 : Hid (true = decide (kkb < k + 1)) := by show true = _; rw [eq_comm, decide_eq_true_eq]; have := HFB.out HKB2.out e0; omega
                have he0 : (r2 == 0) = true := by rw [e0]; rfl
                clear e0
                obtain ⟨s0, s1, s2, s3, s4, s5⟩ := (HSX.out.keep HB15.out).cells
                obtain ⟨t0, t1, t2, t3, t4, t5⟩ := (H5.out.keep HB15.out).cells
                have qs0 := fun d os => cell_regrown s0 d os
                have qs1 := fun d os => cell_regrown s1 d os
                have qs2 := fun d os => cell_regrown s2 d os
                have qs3 := fun d os => cell_regrown s3 d os
                have qs4 := fun d os => cell_regrown s4 d os
                have qs5 := fun d os => cell_regrown s5 d os
                have qt0 := fun d os => cell_regrown t0 d os
                have qt1 := fun d os => cell_regrown t1 d os
                have qt2 := fun d os => cell_regrown t2 d os
                have qt3 := fun d os => cell_regrown t3 d os
                have qt4 := fun d os => cell_regrown t4 d os
                have qt5 := fun d os => cell_regrown t5 d os
                have HQ2 := fun d os => Calls.regrown_of (P := Try.prog) (d := d) (os := os) (v := .int .i64 r2) ((refCompare_any (h + 1) _ _ _ yb _ _ (grow (redrawn w15 d) os) (VIn.keep (h := h + 1) (HB15.out.trans ((below_regrown w15 d os).mono HB15.out.size)) HVI.out) (VIn.keep (h := h + 1) (HB15.out.trans ((below_regrown w15 d os).mono HB15.out.size)) HVB.out)).mono fun e w3 ⟨he, hbx⟩ => ⟨by rw [he, HR2.out], hbx⟩)
                go_wp2_with fail
                refine wp_region_quiet_below (by kernel_rfl) (by kernel_rfl) ?_
                repeat (go_big_quiet_step ((go_at_call 12; with_reducible exact HQ2 _ _)))
                refine wpQuiet_nil ?_
                intro w19 hw'
                have HB19 : Hid (Below wc.heap.size wc w19) := by
                  obtain ⟨dq, hw''⟩ := hw'
                  rw [hw'']
                  exact HB15.out.trans ((below_regrown w15 dq.d dq.os).mono HB15.out.size)
                clear hw' HQ2 s0 qs0 s1 qs1 s2 qs2 s3 qs3 s4 qs4 s5 qs5 t0 qt0 t1 qt1 t2 qt2 t3 qt3 t4 qt4 t5 qt5
                obtain ⟨s0, s1, s2, s3, s4, s5⟩ := (HSX.out.keep HB19.out).cells
                obtain ⟨t0, t1, t2, t3, t4, t5⟩ := (H5.out.keep HB19.out).cells
                have qs0 := fun d os => cell_regrown s0 d os
                have qs1 := fun d os => cell_regrown s1 d os
                have qs2 := fun d os => cell_regrown s2 d os
                have qs3 := fun d os => cell_regrown s3 d os
                have qs4 := fun d os => cell_regrown s4 d os
                have qs5 := fun d os => cell_regrown s5 d os
                have qt0 := fun d os => cell_regrown t0 d os
                have qt1 := fun d os => cell_regrown t1 d os
                have qt2 := fun d os => cell_regrown t2 d os
                have qt3 := fun d os => cell_regrown t3 d os
                have qt4 := fun d os => cell_regrown t4 d os
                have qt5 := fun d os => cell_regrown t5 d os
                have HQ3 := fun d os => Calls.regrown_of (P := Try.prog) (d := d) (os := os) (v := .bool true) ((same_any (h + 1) (h + 1) _ _ _ yb _ _ (grow (redrawn w19 d) os) (VIn.keep (h := h + 1) (HB19.out.trans ((below_regrown w19 d os).mono HB19.out.size)) HVI.out) (VIn.keep (h := h + 1) (HB19.out.trans ((below_regrown w19 d os).mono HB19.out.size)) HVB.out)).mono fun e w3 ⟨rr, he, hiff, hbx⟩ => ⟨by rw [he, hiff.2 HEQ.out], hbx⟩)
                go_wp2_with fail
                refine wp_region_quiet_below (by kernel_rfl) (by kernel_rfl) ?_
                repeat (go_big_quiet_step ((go_at_call 16; with_reducible exact HQ3 _ _)))
                refine wpQuiet_nil ?_
                intro w20 hw'
                have HB20 : Hid (Below wc.heap.size wc w20) := by
                  obtain ⟨dq, hw''⟩ := hw'
                  rw [hw'']
                  exact HB19.out.trans ((below_regrown w19 dq.d dq.os).mono HB19.out.size)
                clear hw' HQ3 s0 qs0 s1 qs1 s2 qs2 s3 qs3 s4 qs4 s5 qs5 t0 qt0 t1 qt1 t2 qt2 t3 qt3 t4 qt4 t5 qt5
                go_wp2_with fail
                go_roundw
                case rel => exact ⟨k + 1, _, _, rfl, rfl, by go_num, by omega, HN1, HN2, HB20⟩
                case measure => simp [intOf]; omega
              · have HN2 : Hid (false = decide (kkb < k + 1)) := by show false = _; rw [eq_comm, decide_eq_false_iff_not]; have := HKB2.out; have := HGB.out; omega
                have he0 : (r2 == 0) = false := by rw [beq_eq_false_iff_ne]; exact e0
                clear e0
                obtain ⟨s0, s1, s2, s3, s4, s5⟩ := (HSX.out.keep HB15.out).cells
                obtain ⟨t0, t1, t2, t3, t4, t5⟩ := (H5.out.keep HB15.out).cells
                have qs0 := fun d os => cell_regrown s0 d os
                have qs1 := fun d os => cell_regrown s1 d os
                have qs2 := fun d os => cell_regrown s2 d os
                have qs3 := fun d os => cell_regrown s3 d os
                have qs4 := fun d os => cell_regrown s4 d os
                have qs5 := fun d os => cell_regrown s5 d os
                have qt0 := fun d os => cell_regrown t0 d os
                have qt1 := fun d os => cell_regrown t1 d os
                have qt2 := fun d os => cell_regrown t2 d os
                have qt3 := fun d os => cell_regrown t3 d os
                have qt4 := fun d os => cell_regrown t4 d os
                have qt5 := fun d os => cell_regrown t5 d os
                have HQ2 := fun d os => Calls.regrown_of (P := Try.prog) (d := d) (os := os) (v := .int .i64 r2) ((refCompare_any (h + 1) _ _ _ yb _ _ (grow (redrawn w15 d) os) (VIn.keep (h := h + 1) (HB15.out.trans ((below_regrown w15 d os).mono HB15.out.size)) HVI.out) (VIn.keep (h := h + 1) (HB15.out.trans ((below_regrown w15 d os).mono HB15.out.size)) HVB.out)).mono fun e w3 ⟨he, hbx⟩ => ⟨by rw [he, HR2.out], hbx⟩)
                go_wp2_with fail
                refine wp_region_quiet_below (by kernel_rfl) (by kernel_rfl) ?_
                repeat (go_big_quiet_step ((go_at_call 12; with_reducible exact HQ2 _ _)))
                refine wpQuiet_nil ?_
                intro w19 hw'
                have HB19 : Hid (Below wc.heap.size wc w19) := by
                  obtain ⟨dq, hw''⟩ := hw'
                  rw [hw'']
                  exact HB15.out.trans ((below_regrown w15 dq.d dq.os).mono HB15.out.size)
                clear hw' HQ2 s0 qs0 s1 qs1 s2 qs2 s3 qs3 s4 qs4 s5 qs5 t0 qt0 t1 qt1 t2 qt2 t3 qt3 t4 qt4 t5 qt5
                go_wp2_with fail
                go_roundw
                case rel => exact ⟨k + 1, _, _, rfl, rfl, by go_num, by omega, HN1, HN2, HB19⟩
                case measure => simp [intOf]; omega
end Go.Proofs.Ytngdjdhfciodjaa
