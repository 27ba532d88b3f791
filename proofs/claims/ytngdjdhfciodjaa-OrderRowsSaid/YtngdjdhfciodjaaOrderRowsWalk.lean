/- aqueductlaw7.OrderRows. -/
import Derived.Test.YtngdjdhfciodjaaOrderRefCut
import Derived.Test.YtngdjdhfciodjaaOrderRefBy
import Derived.Test.YtngdjdhfciodjaaOrderAwake
import Derived.Test.YtngdjdhfciodjaaOrderFew
import Derived.Test.YtngdjdhfciodjaaRefSame
import Derived.Deep.RegionHeld3
namespace Go.Proofs.Ytngdjdhfciodjaa
open Go.RowKit
open Seal
open Bson (Val)
theorem rows_three (h : Nat) (l l2 : List Val) (bl : List Bool) : Order.rows (Order.cmp h) Bson.zero l l2 bl = -1 ∨ Order.rows (Order.cmp h) Bson.zero l l2 bl = 0 ∨ Order.rows (Order.cmp h) Bson.zero l l2 bl = 1 := by
  have := Order.byFrom_bd (Order.cmp_cmp h) Bson.zero l l2 bl (max l.length l2.length) 0
  unfold Order.rows
  omega
set_option maxRecDepth 100000 in
set_option maxHeartbeats 8000000 in
theorem rows_any (h : Nat) (Q : Nat → Prop) (a b : Option Addr) (n c m d : Nat) (l l2 : List Val) (s : Option Addr) (nd cd : Nat) (bl : List Bool) (w : World) (hn : l.length = n) (hm : l2.length = m) (hnb : n ≤ 1353245080339) (hmb : m ≤ 1353245080339) (hI : ItemsIn w Q (VIn w Q (h + 2)) a l) (hJ : ItemsIn w Q (VIn w Q (h + 2)) b l2)
    (hd : bl.length = nd) (hD : BoolsIn w Q s bl) :
    Calls Try.prog 4 #[.slice a n c, .slice b m d, .slice s nd cd] w fun e w' => e = .returned (.bool true) ∧ Below w.heap.size w w' := by
  have HI := Lib.hid (fun (W : World) (hb : Below w.heap.size w W) => (hI.kept (Kept.of_below hb) (fun _ z => z) (fun _ _ z => VIn.keep (h := h + 2) hb z) : ItemsIn W Q (VIn W Q (h + 2)) a l))
  have HJ := Lib.hid (fun (W : World) (hb : Below w.heap.size w W) => (hJ.kept (Kept.of_below hb) (fun _ z => z) (fun _ _ z => VIn.keep (h := h + 2) hb z) : ItemsIn W Q (VIn W Q (h + 2)) b l2))
  have HD := Lib.hid (fun (W : World) (hb : Below w.heap.size w W) => BoolsIn.keep hb hD)
  have HN := Lib.hid hn
  have HM := Lib.hid hm
  have HND := Lib.hid hd
  obtain ⟨r, hr⟩ : ∃ r, r = Order.rows (Order.cmp (h + 2)) Bson.zero l l2 bl := ⟨_, rfl⟩
  have HBY := Lib.hid (fun (W : World) (hb : Below w.heap.size w W) => (by_any (h + 1) Q a b n c m d l l2 s nd cd bl W hn hm hnb hmb (HI.out W hb) (HJ.out W hb) hd (HD.out W hb)).mono (fun e w2 (hp : CmpPost _ _ _ _) => (by rw [hr]; exact hp : CmpPost r W e w2)))
  have HRB := Lib.hid (fun (W : World) (hb : Below w.heap.size w W) => (refBy_any (h + 1) Q a b n c m d l l2 s nd cd bl W hn hm hnb hmb (HI.out W hb) (HJ.out W hb) hd (HD.out W hb)).mono (fun e w2 (hp : CmpPost _ _ _ _) => (by rw [hr]; exact hp : CmpPost r W e w2)))
  have HYB := Lib.hid (fun (W : World) (hb : Below w.heap.size w W) => (by_any (h + 1) Q b a m d n c l2 l s nd cd bl W hm hn hmb hnb (HJ.out W hb) (HI.out W hb) hd (HD.out W hb)).mono (fun e w2 (hp : CmpPost _ _ _ _) => (by rw [hr, Order.rows_anti (Order.cmp_cmp (h + 2)), Int.neg_neg]; exact hp : CmpPost (- r) W e w2)))
  have HAA := Lib.hid (fun (W : World) (hb : Below w.heap.size w W) => (by_any (h + 1) Q a a n c n c l l s nd cd bl W hn hn hnb hnb (HI.out W hb) (HI.out W hb) hd (HD.out W hb)).mono (fun e w2 (hp : CmpPost _ _ _ _) => (by rw [Order.rows_self (Order.cmp_cmp (h + 1 + 1))] at hp; exact hp : CmpPost 0 W e w2)))
  have h3 : r = -1 ∨ r = 0 ∨ r = 1 := by rw [hr]; exact rows_three (h + 2) l l2 bl
  clear hI hJ hD hn hm hd hr
  go_enter Try.func4, Try.ntmps4
  go_wp2_with fail
  go_at_call 9
  refine (awake_any _).mono ?_
  rintro e w1 ⟨rfl, hb1⟩
  have HB1 := Lib.hid hb1
  clear hb1
  go_wp2_with fail
  go_at_call 10
  refine (few_any Q (h + 1) a n c l w1 HN.out hnb (HI.out w1 HB1.out)).mono ?_
  rintro e w2 ⟨f1, rfl, hb2⟩
  have HB2 := Lib.hid (HB1.out.trans (hb2.mono HB1.out.size))
  clear hb2
  cases f1 with
  | false =>
    go_wp2_with fail
    go_ret
    exact ⟨rfl, HB2.out⟩
  | true =>
  go_wp2_with fail
  go_at_call 10
  refine (few_any Q (h + 1) b m d l2 w2 HM.out hmb (HJ.out w2 HB2.out)).mono ?_
  rintro e w3 ⟨f2, rfl, hb3⟩
  have HB3 := Lib.hid (HB2.out.trans (hb3.mono HB2.out.size))
  clear hb3
  cases f2 with
  | false =>
    go_wp2_with fail
    go_ret
    exact ⟨rfl, HB3.out⟩
  | true =>
  by_cases hnd : 50 < nd
  case pos =>
    have hdd : decide ((nd : Int) > 50) = true := by rw [decide_eq_true_eq]; omega
    go_wp2_with fail
    go_ret
    exact ⟨rfl, HB3.out⟩
  have hdd : decide ((nd : Int) > 50) = false := by rw [decide_eq_false_iff_not]; omega
  go_wp2_with fail
  go_at_call 15
  refine (HBY.out w3 HB3.out).mono ?_
  rintro e w4 ⟨rfl, hb4⟩
  have HB4 := Lib.hid (HB3.out.trans (hb4.mono HB3.out.size))
  clear hb4
  go_wp2_with fail
  clear hdd
  go_loopw [8] (fun i wr => ∃ k : Nat, i = .int .i64 k ∧ k ≤ n ∧ Hid (Below w.heap.size w wr)) (fun i _ => n - (intOf i).toNat)
  case atStart => exact ⟨0, rfl, Nat.zero_le _, HB4⟩
  case round =>
    obtain ⟨k, rfl, hk, HB⟩ := hrel
    by_cases hlt : k < n
    case neg =>
      rcases h3 with rfl | rfl | rfl
      · go_wp2_with fail
        go_at_call 19
        refine (HRB.out wr HB.out).mono ?_
        rintro e x1 ⟨rfl, hc1⟩
        have HC1 := Lib.hid (HB.out.trans (hc1.mono HB.out.size))
        clear hc1
        go_wp2_with fail
        go_at_call 15
        refine (HYB.out x1 HC1.out).mono ?_
        rintro e x2 ⟨rfl, hc2⟩
        have HC2 := Lib.hid (HC1.out.trans (hc2.mono HC1.out.size))
        clear hc2
        go_wp2_with fail
        go_at_call 15
        refine (HAA.out x2 HC2.out).mono ?_
        rintro e x3 ⟨rfl, hc3⟩
        have HC3 := Lib.hid (HC2.out.trans (hc3.mono HC2.out.size))
        clear hc3
        go_wp2_with fail
        go_ret
        exact ⟨rfl, HC3.out⟩
      · go_wp2_with fail
        go_at_call 19
        refine (HRB.out wr HB.out).mono ?_
        rintro e x1 ⟨rfl, hc1⟩
        have HC1 := Lib.hid (HB.out.trans (hc1.mono HB.out.size))
        clear hc1
        go_wp2_with fail
        go_at_call 15
        refine (HYB.out x1 HC1.out).mono ?_
        rintro e x2 ⟨rfl, hc2⟩
        have HC2 := Lib.hid (HC1.out.trans (hc2.mono HC1.out.size))
        clear hc2
        go_wp2_with fail
        go_at_call 15
        refine (HAA.out x2 HC2.out).mono ?_
        rintro e x3 ⟨rfl, hc3⟩
        have HC3 := Lib.hid (HC2.out.trans (hc3.mono HC2.out.size))
        clear hc3
        go_wp2_with fail
        go_ret
        exact ⟨rfl, HC3.out⟩
      · go_wp2_with fail
        go_at_call 19
        refine (HRB.out wr HB.out).mono ?_
        rintro e x1 ⟨rfl, hc1⟩
        have HC1 := Lib.hid (HB.out.trans (hc1.mono HB.out.size))
        clear hc1
        go_wp2_with fail
        go_at_call 15
        refine (HYB.out x1 HC1.out).mono ?_
        rintro e x2 ⟨rfl, hc2⟩
        have HC2 := Lib.hid (HC1.out.trans (hc2.mono HC1.out.size))
        clear hc2
        go_wp2_with fail
        go_at_call 15
        refine (HAA.out x2 HC2.out).mono ?_
        rintro e x3 ⟨rfl, hc3⟩
        have HC3 := Lib.hid (HC2.out.trans (hc3.mono HC2.out.size))
        clear hc3
        go_wp2_with fail
        go_ret
        exact ⟨rfl, HC3.out⟩
    have HIT := Lib.hid (HI.out wr HB.out)
    obtain ⟨g, o, hla, _, hall⟩ := HIT.out.resolve_left (fun e => by have := HN.out; rw [e] at this; simp at this; omega)
    obtain ⟨v1, hsix, hV⟩ := hall k (by have := HN.out; omega)
    obtain ⟨ka, na, sa, ba, fa, la, bl', bc, fl, fc, ll, lc, rfl⟩ := VIn.shape (h := h + 2) hV
    obtain rfl := hla
    obtain ⟨x, hx⟩ : ∃ x, x = l[k]'(by have := HN.out; omega) := ⟨_, rfl⟩
    rw [← hx] at hV
    have HV : Hid (VIn wr Q (h + 2) x (.agg #[.int .i64 ka, .int .i64 na, .string sa, .slice ba bl' bc, .slice fa fl fc, .slice la ll lc])) := hV
    have HSX := Lib.hid hsix
    have hdr : Below wr.heap.size wr wr.drew := (Below.refl _ wr).drew
    have HDR := Lib.hid hdr
    obtain ⟨s0, s1, s2, s3, s4, s5⟩ := (hsix.keep hdr).cells
    have HP0 := Lib.hid (And.intro s0 (And.intro s1 (And.intro s2 (And.intro s3 (And.intro s4 s5)))))
    clear hall hsix hV hx hdr s0 s1 s2 s3 s4 s5 HIT
    go_wp2_with fail
    refine wp_region_held_drew (S := fun W => W.cell? ⟨g, o + k * 6, none⟩ = some (.int .i64 ka) ∧ W.cell? ⟨g, o + k * 6 + 1, none⟩ = some (.int .i64 na) ∧ W.cell? ⟨g, o + k * 6 + 2, none⟩ = some (.string sa) ∧ W.cell? ⟨g, o + k * 6 + 3, none⟩ = some (.slice ba bl' bc) ∧ W.cell? ⟨g, o + k * 6 + 4, none⟩ = some (.slice fa fl fc) ∧ W.cell? ⟨g, o + k * 6 + 5, none⟩ = some (.slice la ll lc)) (by kernel_rfl) (by exact HP0.out) (fun hHeld => ?_)
    refine wpAnyH_take (i := 0) (v := ?_) rfl (by kernel_rfl) (by kernel_rfl) (by kernel_rfl) (fun _ _ _ h => h) (Or.inl ⟨by kernel_rfl, ?_⟩) (by assumption) ?_
    rotate_left
    · intro wS hSw
      (try dsimp only at hSw)
      go_simp
      try (with_reducible rfl)
    try simp only [List.getElem_toArray, List.getElem_cons_succ, List.getElem_cons_zero, Act.put, List.setIfInBounds_toArray, List.set_cons_zero, List.set_cons_succ]
    refine wpAnyH_take (i := 1) (v := ?_) rfl (by kernel_rfl) (by kernel_rfl) (by kernel_rfl) (fun _ _ _ h => h) (Or.inl ⟨by kernel_rfl, ?_⟩) (by assumption) ?_
    rotate_left
    · intro wS hSw
      (try dsimp only at hSw)
      go_simp
      try (with_reducible rfl)
    try simp only [List.getElem_toArray, List.getElem_cons_succ, List.getElem_cons_zero, Act.put, List.setIfInBounds_toArray, List.set_cons_zero, List.set_cons_succ]
    refine wpAnyH_take (i := 2) (v := ?_) rfl (by kernel_rfl) (by kernel_rfl) (by kernel_rfl) (fun _ _ _ h => h) (Or.inl ⟨by kernel_rfl, ?_⟩) (by assumption) ?_
    rotate_left
    · intro wS hSw
      (try dsimp only at hSw)
      go_simp
      try (with_reducible rfl)
    try simp only [List.getElem_toArray, List.getElem_cons_succ, List.getElem_cons_zero, Act.put, List.setIfInBounds_toArray, List.set_cons_zero, List.set_cons_succ]
    refine wpAnyH_take (i := 3) (v := ?_) rfl (by kernel_rfl) (by kernel_rfl) (by kernel_rfl) (fun _ _ _ h => h) (Or.inl ⟨by kernel_rfl, ?_⟩) (by assumption) ?_
    rotate_left
    · intro wS hSw
      (try dsimp only at hSw)
      go_simp
      try (with_reducible rfl)
    try simp only [List.getElem_toArray, List.getElem_cons_succ, List.getElem_cons_zero, Act.put, List.setIfInBounds_toArray, List.set_cons_zero, List.set_cons_succ]
    refine wpAnyH_take (i := 5) (v := ?_) rfl (by kernel_rfl) (by kernel_rfl) (by kernel_rfl) (fun _ _ _ h => h) (Or.inl ⟨by kernel_rfl, ?_⟩) (by assumption) ?_
    rotate_left
    · intro wS hSw
      (try dsimp only at hSw)
      go_simp
      try (with_reducible rfl)
    try simp only [List.getElem_toArray, List.getElem_cons_succ, List.getElem_cons_zero, Act.put, List.setIfInBounds_toArray, List.set_cons_zero, List.set_cons_succ]
    refine wpAnyH_take (i := 6) (v := ?_) rfl (by kernel_rfl) (by kernel_rfl) (by kernel_rfl) (fun _ _ _ h => h) (Or.inl ⟨by kernel_rfl, ?_⟩) (by assumption) ?_
    rotate_left
    · intro wS hSw
      (try dsimp only at hSw)
      go_simp
      try (with_reducible rfl)
    try simp only [List.getElem_toArray, List.getElem_cons_succ, List.getElem_cons_zero, Act.put, List.setIfInBounds_toArray, List.set_cons_zero, List.set_cons_succ]
    refine wpAnyH_take (i := 7) (v := ?_) rfl (by kernel_rfl) (by kernel_rfl) (by kernel_rfl) (fun _ _ _ h => h) (Or.inl ⟨by kernel_rfl, ?_⟩) (by assumption) ?_
    rotate_left
    · intro wS hSw
      (try dsimp only at hSw)
      go_simp
      try (with_reducible rfl)
    try simp only [List.getElem_toArray, List.getElem_cons_succ, List.getElem_cons_zero, Act.put, List.setIfInBounds_toArray, List.set_cons_zero, List.set_cons_succ]
    refine wpAnyH_take (i := 8) (v := ?_) rfl (by kernel_rfl) (by kernel_rfl) (by kernel_rfl) (fun _ _ _ h => h) (Or.inl ⟨by kernel_rfl, ?_⟩) (by assumption) ?_
    rotate_left
    · intro wS hSw
      (try dsimp only at hSw)
      go_simp
      try (with_reducible rfl)
    try simp only [List.getElem_toArray, List.getElem_cons_succ, List.getElem_cons_zero, Act.put, List.setIfInBounds_toArray, List.set_cons_zero, List.set_cons_succ]
    refine wpAnyH_ready (rs := [4]) (by kernel_rfl) (by simp) ?_
    refine AllReadyH.cons rfl (fun K hK => ?_) AllReadyH.nil
    go_simp
    go_at_call 17
    refine (Cut_any (h + 1) Q true x _ wr.drew (VIn.keep (h := h + 2) HDR.out HV.out)).mono ?_
    rintro e u1 ⟨v1, y1, rfl, hc1, hv1, hb1⟩
    have HU1 : Hid (Below wr.heap.size wr u1) := HDR.out.trans (hb1.mono HDR.out.size)
    have HC1 := Lib.hid hc1
    have HW1 := Lib.hid hv1
    clear hc1 hv1 hb1
    obtain ⟨p0, p1, p2, p3, p4, p5⟩ := (HSX.out.keep HU1.out).cells
    have HP1 := Lib.hid (And.intro p0 (And.intro p1 (And.intro p2 (And.intro p3 (And.intro p4 p5)))))
    clear p0 p1 p2 p3 p4 p5
    refine hK.out _ _ (by exact HP1.out) (fun hHeld => ?_)
    clear hK K
    try simp only [List.getElem_toArray, List.getElem_cons_succ, List.getElem_cons_zero, Act.put, List.setIfInBounds_toArray, List.set_cons_zero, List.set_cons_succ]
    refine wpAnyH_ready (rs := [9]) (by kernel_rfl) (by simp) ?_
    refine AllReadyH.cons rfl (fun K hK => ?_) AllReadyH.nil
    go_simp
    go_at_call 18
    refine (refCut_any h Q true x _ u1 (VIn.keep (h := h + 2) HU1.out HV.out)).mono ?_
    rintro e u2 ⟨v2, y2, rfl, hc2, hv2, hb2⟩
    have HU2 : Hid (Below wr.heap.size wr u2) := HU1.out.trans (hb2.mono HU1.out.size)
    have HW1' := Lib.hid (VIn.keep (h := h + 2) hb2 HW1.out)
    have HEQ1 := Lib.hid (Order.CutIs.same HC1.out hc2)
    have HW2 := Lib.hid hv2
    clear hc2 hv2 hb2
    obtain ⟨p0, p1, p2, p3, p4, p5⟩ := (HSX.out.keep HU2.out).cells
    have HP2 := Lib.hid (And.intro p0 (And.intro p1 (And.intro p2 (And.intro p3 (And.intro p4 p5)))))
    clear p0 p1 p2 p3 p4 p5
    refine hK.out _ _ (by exact HP2.out) (fun hHeld => ?_)
    clear hK K
    try simp only [List.getElem_toArray, List.getElem_cons_succ, List.getElem_cons_zero, Act.put, List.setIfInBounds_toArray, List.set_cons_zero, List.set_cons_succ]
    refine wpAnyH_ready (rs := [10]) (by kernel_rfl) (by simp) ?_
    refine AllReadyH.cons rfl (fun K hK => ?_) AllReadyH.nil
    go_simp
    go_at_call 16
    refine (same_any (h + 2) (h + 2) _ _ y1 y2 v1 v2 u2 HW1'.out HW2.out).mono ?_
    rintro e u3 ⟨rr3, rfl, hrr3, hb3⟩
    obtain rfl : rr3 = true := hrr3.2 HEQ1.out
    clear hrr3
    have HU3 : Hid (Below wr.heap.size wr u3) := HU2.out.trans (hb3.mono HU2.out.size)
    clear hb3
    obtain ⟨p0, p1, p2, p3, p4, p5⟩ := (HSX.out.keep HU3.out).cells
    have HP3 := Lib.hid (And.intro p0 (And.intro p1 (And.intro p2 (And.intro p3 (And.intro p4 p5)))))
    clear p0 p1 p2 p3 p4 p5
    refine hK.out _ _ (by exact HP3.out) (fun hHeld => ?_)
    clear hK K
    try simp only [List.getElem_toArray, List.getElem_cons_succ, List.getElem_cons_zero, Act.put, List.setIfInBounds_toArray, List.set_cons_zero, List.set_cons_succ]
    refine wpAnyH_take (i := 11) (v := ?_) rfl (by kernel_rfl) (by kernel_rfl) (by kernel_rfl) (fun _ _ _ h => h) (Or.inl ⟨by kernel_rfl, ?_⟩) (by assumption) ?_
    rotate_left
    · intro wS hSw
      (try dsimp only at hSw)
      go_simp
      try (with_reducible rfl)
    try simp only [List.getElem_toArray, List.getElem_cons_succ, List.getElem_cons_zero, Act.put, List.setIfInBounds_toArray, List.set_cons_zero, List.set_cons_succ]
    refine wpAnyH_take (i := 12) (v := ?_) rfl (by kernel_rfl) (by kernel_rfl) (by kernel_rfl) (fun _ _ _ h => h) (Or.inl ⟨by kernel_rfl, ?_⟩) (by assumption) ?_
    rotate_left
    · intro wS hSw
      (try dsimp only at hSw)
      go_simp
      try (with_reducible rfl)
    try simp only [List.getElem_toArray, List.getElem_cons_succ, List.getElem_cons_zero, Act.put, List.setIfInBounds_toArray, List.set_cons_zero, List.set_cons_succ]
    refine wpAnyH_take (i := 13) (v := ?_) rfl (by kernel_rfl) (by kernel_rfl) (by kernel_rfl) (fun _ _ _ h => h) (Or.inl ⟨by kernel_rfl, ?_⟩) (by assumption) ?_
    rotate_left
    · intro wS hSw
      (try dsimp only at hSw)
      go_simp
      try (with_reducible rfl)
    try simp only [List.getElem_toArray, List.getElem_cons_succ, List.getElem_cons_zero, Act.put, List.setIfInBounds_toArray, List.set_cons_zero, List.set_cons_succ]
    refine wpAnyH_take (i := 14) (v := ?_) rfl (by kernel_rfl) (by kernel_rfl) (by kernel_rfl) (fun _ _ _ h => h) (Or.inl ⟨by kernel_rfl, ?_⟩) (by assumption) ?_
    rotate_left
    · intro wS hSw
      (try dsimp only at hSw)
      go_simp
      try (with_reducible rfl)
    try simp only [List.getElem_toArray, List.getElem_cons_succ, List.getElem_cons_zero, Act.put, List.setIfInBounds_toArray, List.set_cons_zero, List.set_cons_succ]
    refine wpAnyH_take (i := 15) (v := ?_) rfl (by kernel_rfl) (by kernel_rfl) (by kernel_rfl) (fun _ _ _ h => h) (Or.inl ⟨by kernel_rfl, ?_⟩) (by assumption) ?_
    rotate_left
    · intro wS hSw
      (try dsimp only at hSw)
      go_simp
      try (with_reducible rfl)
    try simp only [List.getElem_toArray, List.getElem_cons_succ, List.getElem_cons_zero, Act.put, List.setIfInBounds_toArray, List.set_cons_zero, List.set_cons_succ]
    refine wpAnyH_take (i := 16) (v := ?_) rfl (by kernel_rfl) (by kernel_rfl) (by kernel_rfl) (fun _ _ _ h => h) (Or.inl ⟨by kernel_rfl, ?_⟩) (by assumption) ?_
    rotate_left
    · intro wS hSw
      (try dsimp only at hSw)
      go_simp
      try (with_reducible rfl)
    try simp only [List.getElem_toArray, List.getElem_cons_succ, List.getElem_cons_zero, Act.put, List.setIfInBounds_toArray, List.set_cons_zero, List.set_cons_succ]
    refine wpAnyH_take (i := 18) (v := ?_) rfl (by kernel_rfl) (by kernel_rfl) (by kernel_rfl) (fun _ _ _ h => h) (Or.inl ⟨by kernel_rfl, ?_⟩) (by assumption) ?_
    rotate_left
    · intro wS hSw
      (try dsimp only at hSw)
      go_simp
      try (with_reducible rfl)
    try simp only [List.getElem_toArray, List.getElem_cons_succ, List.getElem_cons_zero, Act.put, List.setIfInBounds_toArray, List.set_cons_zero, List.set_cons_succ]
    refine wpAnyH_take (i := 19) (v := ?_) rfl (by kernel_rfl) (by kernel_rfl) (by kernel_rfl) (fun _ _ _ h => h) (Or.inl ⟨by kernel_rfl, ?_⟩) (by assumption) ?_
    rotate_left
    · intro wS hSw
      (try dsimp only at hSw)
      go_simp
      try (with_reducible rfl)
    try simp only [List.getElem_toArray, List.getElem_cons_succ, List.getElem_cons_zero, Act.put, List.setIfInBounds_toArray, List.set_cons_zero, List.set_cons_succ]
    refine wpAnyH_take (i := 20) (v := ?_) rfl (by kernel_rfl) (by kernel_rfl) (by kernel_rfl) (fun _ _ _ h => h) (Or.inl ⟨by kernel_rfl, ?_⟩) (by assumption) ?_
    rotate_left
    · intro wS hSw
      (try dsimp only at hSw)
      go_simp
      try (with_reducible rfl)
    try simp only [List.getElem_toArray, List.getElem_cons_succ, List.getElem_cons_zero, Act.put, List.setIfInBounds_toArray, List.set_cons_zero, List.set_cons_succ]
    refine wpAnyH_take (i := 21) (v := ?_) rfl (by kernel_rfl) (by kernel_rfl) (by kernel_rfl) (fun _ _ _ h => h) (Or.inl ⟨by kernel_rfl, ?_⟩) (by assumption) ?_
    rotate_left
    · intro wS hSw
      (try dsimp only at hSw)
      go_simp
      try (with_reducible rfl)
    try simp only [List.getElem_toArray, List.getElem_cons_succ, List.getElem_cons_zero, Act.put, List.setIfInBounds_toArray, List.set_cons_zero, List.set_cons_succ]
    refine wpAnyH_ready (rs := [17]) (by kernel_rfl) (by simp) ?_
    refine AllReadyH.cons rfl (fun K hK => ?_) AllReadyH.nil
    go_simp
    go_at_call 17
    refine (Cut_any (h + 1) Q false x _ u3 (VIn.keep (h := h + 2) HU3.out HV.out)).mono ?_
    rintro e u4 ⟨v4, y4, rfl, hc4, hv4, hb4⟩
    have HU4 : Hid (Below wr.heap.size wr u4) := HU3.out.trans (hb4.mono HU3.out.size)
    have HC4 := Lib.hid hc4
    have HW4 := Lib.hid hv4
    clear hc4 hv4 hb4
    obtain ⟨p0, p1, p2, p3, p4, p5⟩ := (HSX.out.keep HU4.out).cells
    have HP4 := Lib.hid (And.intro p0 (And.intro p1 (And.intro p2 (And.intro p3 (And.intro p4 p5)))))
    clear p0 p1 p2 p3 p4 p5
    refine hK.out _ _ (by exact HP4.out) (fun hHeld => ?_)
    clear hK K
    try simp only [List.getElem_toArray, List.getElem_cons_succ, List.getElem_cons_zero, Act.put, List.setIfInBounds_toArray, List.set_cons_zero, List.set_cons_succ]
    refine wpAnyH_ready (rs := [22]) (by kernel_rfl) (by simp) ?_
    refine AllReadyH.cons rfl (fun K hK => ?_) AllReadyH.nil
    go_simp
    go_at_call 18
    refine (refCut_any h Q false x _ u4 (VIn.keep (h := h + 2) HU4.out HV.out)).mono ?_
    rintro e u5 ⟨v5, y5, rfl, hc5, hv5, hb5⟩
    have HU5 : Hid (Below wr.heap.size wr u5) := HU4.out.trans (hb5.mono HU4.out.size)
    have HW4' := Lib.hid (VIn.keep (h := h + 2) hb5 HW4.out)
    have HEQ4 := Lib.hid (Order.CutIs.same HC4.out hc5)
    have HW5 := Lib.hid hv5
    clear hc5 hv5 hb5
    obtain ⟨p0, p1, p2, p3, p4, p5⟩ := (HSX.out.keep HU5.out).cells
    have HP5 := Lib.hid (And.intro p0 (And.intro p1 (And.intro p2 (And.intro p3 (And.intro p4 p5)))))
    clear p0 p1 p2 p3 p4 p5
    refine hK.out _ _ (by exact HP5.out) (fun hHeld => ?_)
    clear hK K
    try simp only [List.getElem_toArray, List.getElem_cons_succ, List.getElem_cons_zero, Act.put, List.setIfInBounds_toArray, List.set_cons_zero, List.set_cons_succ]
    refine wpAnyH_ready (rs := [23]) (by kernel_rfl) (by simp) ?_
    refine AllReadyH.cons rfl (fun K hK => ?_) AllReadyH.nil
    go_simp
    go_at_call 16
    refine (same_any (h + 2) (h + 2) _ _ y4 y5 v4 v5 u5 HW4'.out HW5.out).mono ?_
    rintro e u6 ⟨rr6, rfl, hrr6, hb6⟩
    obtain rfl : rr6 = true := hrr6.2 HEQ4.out
    clear hrr6
    have HU6 : Hid (Below wr.heap.size wr u6) := HU5.out.trans (hb6.mono HU5.out.size)
    clear hb6
    obtain ⟨p0, p1, p2, p3, p4, p5⟩ := (HSX.out.keep HU6.out).cells
    have HP6 := Lib.hid (And.intro p0 (And.intro p1 (And.intro p2 (And.intro p3 (And.intro p4 p5)))))
    clear p0 p1 p2 p3 p4 p5
    refine hK.out _ _ (by exact HP6.out) (fun hHeld => ?_)
    clear hK K
    try simp only [List.getElem_toArray, List.getElem_cons_succ, List.getElem_cons_zero, Act.put, List.setIfInBounds_toArray, List.set_cons_zero, List.set_cons_succ]
    refine wpAnyH_take (i := 24) (v := ?_) rfl (by kernel_rfl) (by kernel_rfl) (by kernel_rfl) (fun _ _ _ h => h) (Or.inl ⟨by kernel_rfl, ?_⟩) (by assumption) ?_
    rotate_left
    · intro wS hSw
      (try dsimp only at hSw)
      go_simp
      try (with_reducible rfl)
    try simp only [List.getElem_toArray, List.getElem_cons_succ, List.getElem_cons_zero, Act.put, List.setIfInBounds_toArray, List.set_cons_zero, List.set_cons_succ]
    refine wpAnyH_take (i := 25) (v := ?_) rfl (by kernel_rfl) (by kernel_rfl) (by kernel_rfl) (fun _ _ _ h => h) (Or.inl ⟨by kernel_rfl, ?_⟩) (by assumption) ?_
    rotate_left
    · intro wS hSw
      (try dsimp only at hSw)
      go_simp
      try (with_reducible rfl)
    try simp only [List.getElem_toArray, List.getElem_cons_succ, List.getElem_cons_zero, Act.put, List.setIfInBounds_toArray, List.set_cons_zero, List.set_cons_succ]
    refine wpAnyH_done (by kernel_rfl) ?_ _
    go_wp2_with fail
    have HBZ : Hid (Below w.heap.size w u6) := HB.out.trans (HU6.out.mono HB.out.size)
    go_roundw
    case rel => exact ⟨k + 1, by go_num, by omega, HBZ⟩
    case measure => simp [intOf]; omega
end Go.Proofs.Ytngdjdhfciodjaa
