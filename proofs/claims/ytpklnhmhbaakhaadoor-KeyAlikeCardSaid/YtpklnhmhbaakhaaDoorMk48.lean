/- KeyAlikeWalk. -/
import Derived.Test.YtpklnhmhbaakhaaDoorMk47
import Derived.Test.YtpklnhmhbaakhaaDoorMk9
import Derived.Test.YtpklnhmhbaakhaaDoorMk29
import Derived.Test.YtpklnhmhbaakhaaDoorMk11
set_option maxRecDepth 100000
section
namespace Go.Proofs.YtpklnhmhbaakhaaDoor
open Go.RowKit
open Seal
open Bson (Val)
set_option maxRecDepth 100000 in
set_option maxHeartbeats 8000000 in
theorem alike_any (Q : Nat → Prop) (h : Nat) (hh : 34 ≤ h) (n : Int) (hn0 : -2147483648 ≤ n) (hn1 : n ≤ 2147483647) (la : Option Addr) (m lc : Nat) (l : List Val) (x y : Val) (ux uy : Value) (w : World) (hm : l.length = m) (hI : ItemsIn w Q (VIn w Q (h + 1)) la l) (hx : VIn w Q (h + 1) x ux) (hy : VIn w Q (h + 1) y uy) (hQ : ∀ g, Q g → g < w.heap.size) (hX : Maxl w w.heap.size) (hmb : m ≤ 1353245080339) :
    Calls Tryd.prog 16 #[.int .i32 n, .slice la m lc, ux, uy] w fun e w' => e = .returned (.bool true) ∧ Below w.heap.size w w' := by
  obtain ⟨xk, xn, xs, b1, f1, l1, bl1, bc1, fl1, fc1, ll1, lc1, rfl, -⟩ := hx.letters
  obtain ⟨yk, yn, ys, b2, f2, l2, bl2, bc2, fl2, fc2, ll2, lc2, rfl, -⟩ := hy.letters
  have HX := Lib.hid hX
  have HQ := Lib.hid hQ
  have HM := Lib.hid hm
  have HIK : Hid (∀ W, Below w.heap.size w W → ItemsIn W Q (VIn W Q (h + 1)) la l) := fun W hb => hI.kept (Kept.of_below hb) (fun _ z => z) (fun _ _ z => VIn.keep (h := h + 1) hb z)
  have HXK : Hid (∀ W, Below w.heap.size w W → VIn W Q (h + 1) x (.agg #[.int .i64 xk, .int .i64 xn, .string xs, .slice b1 bl1 bc1, .slice f1 fl1 fc1, .slice l1 ll1 lc1])) := fun W hb => VIn.keep (h := h + 1) hb hx
  have HYK : Hid (∀ W, Below w.heap.size w W → VIn W Q (h + 1) y (.agg #[.int .i64 yk, .int .i64 yn, .string ys, .slice b2 bl2 bc2, .slice f2 fl2 fc2, .slice l2 ll2 lc2])) := fun W hb => VIn.keep (h := h + 1) hb hy
  clear hI hx hy hQ hX hm
  have GA0 := Lib.hid (show IsBox ((w.alloc (.cells #[Value.int .i64 xk, .int .i64 xn, .string xs, .slice b1 bl1 bc1, .slice f1 fl1 fc1, .slice l1 ll1 lc1] 27)).alloc (.cells #[Value.int .i64 yk, .int .i64 yn, .string ys, .slice b2 bl2 bc2, .slice f2 fl2 fc2, .slice l2 ll2 lc2] 27)) w.heap.size (.int .i64 xk) (.int .i64 xn) (.string xs) (.slice b1 bl1 bc1) (.slice f1 fl1 fc1) (.slice l1 ll1 lc1) from (IsBox.new w (.int .i64 xk) (.int .i64 xn) (.string xs) (.slice b1 bl1 bc1) (.slice f1 fl1 fc1) (.slice l1 ll1 lc1)).keep ((Below.refl _ _).alloc (Nat.le_refl _) _))
  have GB0 := Lib.hid (IsBox.new2 w (.cells #[Value.int .i64 xk, .int .i64 xn, .string xs, .slice b1 bl1 bc1, .slice f1 fl1 fc1, .slice l1 ll1 lc1] 27) (.int .i64 yk) (.int .i64 yn) (.string ys) (.slice b2 bl2 bc2) (.slice f2 fl2 fc2) (.slice l2 ll2 lc2))
  have HB0 : Hid (Below w.heap.size w ((w.alloc (.cells #[Value.int .i64 xk, .int .i64 xn, .string xs, .slice b1 bl1 bc1, .slice f1 fl1 fc1, .slice l1 ll1 lc1] 27)).alloc (.cells #[Value.int .i64 yk, .int .i64 yn, .string ys, .slice b2 bl2 bc2, .slice f2 fl2 fc2, .slice l2 ll2 lc2] 27))) := ((Below.refl _ w).alloc (Nat.le_refl _) _).alloc (by simp) _
  have HAK : Hid (∀ W, Below w.heap.size w W → Calls Tryd.prog 15 #[] W fun e w' => e = .returned (.bool true) ∧ Below W.heap.size W w') := fun W hb => key_awake W ((HX.out.keep hb).mono hb.size)
  go_enter Tryd.func16, Tryd.ntmps16
  go_wp2_with fail
  generalize hW : ((w.alloc (.cells #[Value.int .i64 xk, .int .i64 xn, .string xs, .slice b1 bl1 bc1, .slice f1 fl1 fc1, .slice l1 ll1 lc1] 27)).alloc (.cells #[Value.int .i64 yk, .int .i64 yn, .string ys, .slice b2 bl2 bc2, .slice f2 fl2 fc2, .slice l2 ll2 lc2] 27)) = V0 at *
  clear hW
  go_at_call 28
  refine (plain_any Q h la m lc l V0 HM.out hmb (HIK.out V0 HB0.out)).mono ?_
  rintro e w1 ⟨p1, rfl, hp1, hb⟩
  have HB1 := Lib.hid (HB0.out.trans (hb.mono HB0.out.size))
  have GA1 := Lib.hid (GA0.out.keep hb)
  have GB1 := Lib.hid (GB0.out.keep hb)
  have HP1 := Lib.hid hp1
  clear hb hp1
  cases p1 with
  | false =>
    go_wp2_with fail
    go_at_call 15
    refine (HAK.out _ HB1.out).mono ?_
    rintro e v1 ⟨rfl, hb⟩
    have HV := Lib.hid (HB1.out.trans (hb.mono HB1.out.size))
    clear hb
    go_wp2_with fail
    go_ret
    exact ⟨rfl, HV.out⟩
  | true =>
  obtain ⟨a0, a1, a2, a3, a4, a5⟩ := GA1.out.cells
  obtain ⟨d0, d1, d2, d3, d4, d5⟩ := GB1.out.cells
  have HC2 : Hid (Calls Tryd.prog 28 #[.slice (some ⟨w1.heap.size, 0, none⟩) 2 2] (w1.alloc (.cells #[Value.int .i64 xk, .int .i64 xn, .string xs, .slice b1 bl1 bc1, .slice f1 fl1 fc1, .slice l1 ll1 lc1, .int .i64 yk, .int .i64 yn, .string ys, .slice b2 bl2 bc2, .slice f2 fl2 fc2, .slice l2 ll2 lc2] 27)) (PlainPost (h + 1) 2 [x, y] (w1.alloc (.cells #[Value.int .i64 xk, .int .i64 xn, .string xs, .slice b1 bl1 bc1, .slice f1 fl1 fc1, .slice l1 ll1 lc1, .int .i64 yk, .int .i64 yn, .string ys, .slice b2 bl2 bc2, .slice f2 fl2 fc2, .slice l2 ll2 lc2] 27)))) := by
    have hb2 : Below w1.heap.size w1 (w1.alloc (.cells #[Value.int .i64 xk, .int .i64 xn, .string xs, .slice b1 bl1 bc1, .slice f1 fl1 fc1, .slice l1 ll1 lc1, .int .i64 yk, .int .i64 yn, .string ys, .slice b2 bl2 bc2, .slice f2 fl2 fc2, .slice l2 ll2 lc2] 27)) := (Below.refl _ w1).alloc (Nat.le_refl _) _
    have hb3 := HB1.out.trans (hb2.mono HB1.out.size)
    exact plain_any (fun g => Q g ∨ g = w1.heap.size) h _ 2 2 [x, y] _ rfl (by decide) (two_items (heap_alloc_new w1 _) (.inr rfl) ((HXK.out _ hb3).kept (h := h + 1) (Kept.of_below (Below.refl _ _)) (fun g hg => .inl hg)) ((HYK.out _ hb3).kept (h := h + 1) (Kept.of_below (Below.refl _ _)) (fun g hg => .inl hg)))
  go_wp2_with fail
  go_at_call 28
  refine HC2.out.mono ?_
  rintro e w2 ⟨p2, rfl, hp2, hb⟩
  clear a0 a1 a2 a3 a4 a5 d0 d1 d2 d3 d4 d5
  have hc : Below w1.heap.size w1 w2 := ((Below.refl _ w1).alloc (Nat.le_refl _) _).trans (hb.mono (by simp))
  have HB2 := Lib.hid (HB1.out.trans (hc.mono HB1.out.size))
  have GA2 := Lib.hid (GA1.out.keep hc)
  have GB2 := Lib.hid (GB1.out.keep hc)
  have HP2 := Lib.hid hp2
  clear hb hc hp2 HC2
  cases p2 with
  | false =>
    go_wp2_with fail
    go_at_call 15
    refine (HAK.out _ HB2.out).mono ?_
    rintro e v1 ⟨rfl, hb⟩
    have HV := Lib.hid (HB2.out.trans (hb.mono HB2.out.size))
    clear hb
    go_wp2_with fail
    go_ret
    exact ⟨rfl, HV.out⟩
  | true =>
  obtain ⟨pa1, pa2, pa3⟩ := HP1.out (by trivial)
  obtain ⟨-, pb2, pb3⟩ := HP2.out (by trivial)
  have HPA := Lib.hid (And.intro pa1 (And.intro pa2 pa3))
  have HPB := Lib.hid (And.intro pb2 pb3)
  clear pa1 pa2 pa3 pb2 pb3 HP1 HP2
  go_wp2_with fail
  go_at_call 24
  refine (enc_num 3 n (by decide) (by omega) (by omega) w _ HB2.out HX.out).mono ?_
  rintro e w3 ⟨e3, ce3, rfl, hs, hb⟩
  have HB3 := Lib.hid (HB2.out.trans (hb.mono HB2.out.size))
  have GA3 := Lib.hid (GA2.out.keep hb)
  have GB3 := Lib.hid (GB2.out.keep hb)
  have HS3 := Lib.hid hs
  clear hb hs
  go_wp2_with fail
  go_at_call 24
  refine (enc_num 4 n (by decide) (by omega) (by omega) w _ HB3.out HX.out).mono ?_
  rintro e w4 ⟨e4, ce4, rfl, hs, hb⟩
  have HB4 := Lib.hid (HB3.out.trans (hb.mono HB3.out.size))
  have GA4 := Lib.hid (GA3.out.keep hb)
  have GB4 := Lib.hid (GB3.out.keep hb)
  have HS4 := Lib.hid hs
  have HS3c : Hid (SliceIs w4 e3 (numK 3 n)) := HS3.out.keep hb
  clear HS3
  clear hb hs
  obtain ⟨pm, pw, pf⟩ := HPA.out
  have HPM := Lib.hid pm
  clear pm pw pf
  obtain ⟨news, hn1, hn2, hn3, hn4⟩ := items_src' (HIK.out w4 HB4.out) (Nat.le_refl (h + 1))
  rw [HM.out] at hn2
  have HN1 := Lib.hid hn1
  have HN2 := Lib.hid hn2
  have HN3 := Lib.hid hn3
  have HN4 := Lib.hid hn4
  clear hn1 hn2 hn3 hn4
  have HXC : Hid (VIn w4 Q (h + 1) x (.agg #[.int .i64 xk, .int .i64 xn, .string xs, .slice b1 bl1 bc1, .slice f1 fl1 fc1, .slice l1 ll1 lc1])) := HXK.out w4 HB4.out
  have HYC : Hid (VIn w4 Q (h + 1) y (.agg #[.int .i64 yk, .int .i64 yn, .string ys, .slice b2 bl2 bc2, .slice f2 fl2 fc2, .slice l2 ll2 lc2])) := HYK.out w4 HB4.out
  obtain ⟨i0, hi, hz0, hz1, hz2⟩ := info_parts infoV6
  go_upto_region 5 with fail
  skip
  refine wp_region_inv (fun V => { tmps := #[Value.int .i32 n, .slice la m lc, .agg #[.int .i64 xk, .int .i64 xn, .string xs, .slice b1 bl1 bc1, .slice f1 fl1 fc1, .slice l1 ll1 lc1], .agg #[.int .i64 yk, .int .i64 yn, .string ys, .slice b2 bl2 bc2, .slice f2 fl2 fc2, .slice l2 ll2 lc2], undef, undef, .pointer (some ⟨w.heap.size, 0, none⟩), .pointer (some ⟨w.heap.size + 1, 0, none⟩), .bool false, .slice e3 9 ce3, .slice e4 9 ce4, V 12, V 13, undef, undef, .slice la m lc, .bool true, .bool false, .bool false, .agg #[.int .i64 xk, .int .i64 xn, .string xs, .slice b1 bl1 bc1, .slice f1 fl1 fc1, .slice l1 ll1 lc1], .agg #[.int .i64 yk, .int .i64 yn, .string ys, .slice b2 bl2 bc2, .slice f2 fl2 fc2, .slice l2 ll2 lc2], .slice (some ⟨w1.heap.size, 0, none⟩) 2 2, .bool true, .bool false, .bool false, undef, .int .i32 n, .int .i64 n, .agg #[.int .i64 3, .int .i64 n, .string ⟨#[]⟩, .slice none 0 0, .slice none 0 0, .slice none 0 0], .slice (some ⟨w2.heap.size, 0, none⟩) 1 1, .slice e3 9 ce3, .int .i32 n, .int .i64 n, .agg #[.int .i64 4, .int .i64 n, .string ⟨#[]⟩, .slice none 0 0, .slice none 0 0, .slice none 0 0], .slice (some ⟨w3.heap.size, 0, none⟩) 1 1, .slice e4 9 ce4, V 0, V 1, V 2, V 3, V 4, V 5, V 6, V 7, V 8, V 9, V 10, V 11, undef, undef, undef, undef, undef, undef, undef, undef, undef, undef, undef, undef, undef, undef, undef, undef, undef, undef, undef, undef, undef, undef, undef, undef, undef, undef, undef, undef, undef, undef, undef, undef, undef, undef, undef, undef, undef, undef, undef], defers := [] }) (OInv w4.heap.size w4 (alFs w4.heap.size m (.slice la m lc) news [Value.int .i64 xk, .int .i64 xn, .string xs, .slice b1 bl1 bc1, .slice f1 fl1 fc1, .slice l1 ll1 lc1] [Value.int .i64 yk, .int .i64 yn, .string ys, .slice b2 bl2 bc2, .slice f2 fl2 fc2, .slice l2 ll2 lc2]) alRet) (by kernel_rfl) (by kernel_rfl) (by kernel_rfl) (fun V => by kernel_rfl) ?_ (fun V => ⟨⟨rfl, rfl, rfl, Nat.le_refl _, fun _ _ => rfl⟩, Nat.le_refl _, fun _ => 0, fun j h => (by cases h), fun j k h => (by cases h)⟩) ?_
  · refine ⟨?_, ?_⟩
    · refine OStep.inv (c := none) (al_keeps _ _ _ _ _ _) rfl (fun j h => by cases h) (al_ret 0 none (by decide)) (fun V B w hB hsz hF K hK => ?_)
      go_simp
      exact put_is (by kernel_rfl) (hK.out _ w.heap.size _ (World.grownBy_alloc w _ none) (fun _ => ⟨.inl (Nat.le_refl _), by simp⟩) ⟨World.ownsRow_made w #[] 0 hsz (by unfold maxLen; omega) rfl, rfl⟩)
    refine ⟨?_, ?_⟩
    · refine OStep.inv (c := none) (al_keeps _ _ _ _ _ _) rfl (fun j h => by cases h) (al_ret 1 none (by decide)) (fun V B w hB hsz hF K hK => ?_)
      go_simp
      exact put_is (by kernel_rfl) (hK.out _ 0 _ (World.grownBy.refl w _) (fun h => by cases h) rfl)
    refine ⟨?_, ?_⟩
    · refine OStep.inv (c := some 0) (al_keeps _ _ _ _ _ _) rfl (fun j h => by cases h; exact ⟨rfl, rfl, by kernel_rfl⟩) (al_ret 2 (some 0) (by decide)) (fun V B w hB hsz hF K hK => ?_)
      have hc := hF.out 0 (by kernel_rfl) (.inr rfl)
      have h1 : V 1 = .slice la m lc := (hF.out 1 (by kernel_rfl) (.inl rfl)).1
      refine oper_append_any (.tmp 36) (.tmp 37) 25 rfl w4.heap.size 27 i0 (.agg #[.int .i64 0, .int .i64 0, .string ⟨#[]⟩, .slice none 0 0, .slice none 0 0, .slice none 0 0]) 6 104 Tryd.underlying25 hi hz0 hz1 hz2 rfl (V 0) 0 [] rfl hc.1.1 la m lc news h1 (by rw [HN1.out, HM.out]) (by decide) (src_keep hB HN2.out) HN3.out (by have := HPM.out; unfold maxLen; omega) (by have := HPM.out; omega) hsz ?_
      intro v6 w6 hown6 hw6
      obtain ⟨g6, hg1, hg2, hg3⟩ := wrote_own hw6 hc.1.2 hown6
      exact hK.out v6 g6 w6 (by have := hw6.1; rw [hc.1.2] at this; exact this) (fun _ => ⟨hg2, hg3⟩) ⟨by simpa only [Nat.zero_add, List.nil_append] using hown6, hg1⟩
    refine ⟨?_, ?_⟩
    · refine OStep.inv (c := none) (al_keeps _ _ _ _ _ _) rfl (fun j h => by cases h) (al_ret 3 none (by decide)) (fun V B w hB hsz hF K hK => ?_)
      obtain ⟨a0, a1, a2, a3, a4, a5⟩ := (GA4.out.keep hB).cells
      go_simp
      exact put_is (by kernel_rfl) (hK.out _ 0 _ (World.grownBy.refl w _) (fun h => by cases h) rfl)
    refine ⟨?_, ?_⟩
    · refine OStep.inv (c := none) (al_keeps _ _ _ _ _ _) rfl (fun j h => by cases h) (al_ret 4 none (by decide)) (fun V B w hB hsz hF K hK => ?_)
      have h3 : V 3 = .agg #[.int .i64 xk, .int .i64 xn, .string xs, .slice b1 bl1 bc1, .slice f1 fl1 fc1, .slice l1 ll1 lc1] := (hF.out 3 (by kernel_rfl) (.inl rfl)).1
      go_simp
      exact put_is (by rw [h3]; kernel_rfl) (hK.out _ w.heap.size _ (World.grownBy_alloc w _ none) (fun _ => ⟨.inl (Nat.le_refl _), by simp⟩) ⟨rfl, heap_alloc_new w _⟩)
    refine ⟨?_, ?_⟩
    · refine OStep.inv (c := some 2) (al_keeps _ _ _ _ _ _) rfl (fun j h => by cases h; exact ⟨rfl, rfl, by kernel_rfl⟩) (al_ret 5 (some 2) (by decide)) (fun V B w hB hsz hF K hK => ?_)
      have hc := hF.out 2 (by kernel_rfl) (.inr rfl)
      obtain ⟨⟨hv4, hr4⟩, -⟩ := hF.out 4 (by kernel_rfl) (.inl rfl)
      refine oper_append_any (.tmp 38) (.tmp 40) 25 rfl w4.heap.size 27 i0 (.agg #[.int .i64 0, .int .i64 0, .string ⟨#[]⟩, .slice none 0 0, .slice none 0 0, .slice none 0 0]) 6 104 Tryd.underlying25 hi hz0 hz1 hz2 rfl (V 2) m news rfl hc.1.1 (some ⟨B 4, 0, none⟩) 1 1 [Value.int .i64 xk, .int .i64 xn, .string xs, .slice b1 bl1 bc1, .slice f1 fl1 fc1, .slice l1 ll1 lc1] hv4 rfl (by decide) (.inr ⟨_, rfl, fun j u hu => by rw [Addr.add_mid, Nat.zero_add, cell_of_row _ _ j _ _ _ hr4]; simpa using hu⟩) (by intro u hu; simp only [List.mem_cons, List.not_mem_nil, or_false] at hu; rcases hu with rfl | rfl | rfl | rfl | rfl | rfl <;> rfl) (by have := HPM.out; unfold maxLen; omega) (by have := HPM.out; omega) hsz ?_
      intro v6 w6 hown6 hw6
      obtain ⟨g6, hg1, hg2, hg3⟩ := wrote_own hw6 hc.1.2 hown6
      exact hK.out v6 g6 w6 (by have := hw6.1; rw [hc.1.2] at this; exact this) (fun _ => ⟨hg2, hg3⟩) ⟨by simpa only [Nat.zero_add, List.nil_append] using hown6, hg1⟩
    refine ⟨?_, ?_⟩
    · refine OStep.inv (c := none) (al_keeps _ _ _ _ _ _) rfl (fun j h => by cases h) (al_ret 6 none (by decide)) (fun V B w hB hsz hF K hK => ?_)
      go_simp
      exact put_is (by kernel_rfl) (hK.out _ w.heap.size _ (World.grownBy_alloc w _ none) (fun _ => ⟨.inl (Nat.le_refl _), by simp⟩) ⟨World.ownsRow_made w #[] 0 hsz (by unfold maxLen; omega) rfl, rfl⟩)
    refine ⟨?_, ?_⟩
    · refine OStep.inv (c := none) (al_keeps _ _ _ _ _ _) rfl (fun j h => by cases h) (al_ret 7 none (by decide)) (fun V B w hB hsz hF K hK => ?_)
      go_simp
      exact put_is (by kernel_rfl) (hK.out _ 0 _ (World.grownBy.refl w _) (fun h => by cases h) rfl)
    refine ⟨?_, ?_⟩
    · refine OStep.inv (c := some 6) (al_keeps _ _ _ _ _ _) rfl (fun j h => by cases h; exact ⟨rfl, rfl, by kernel_rfl⟩) (al_ret 8 (some 6) (by decide)) (fun V B w hB hsz hF K hK => ?_)
      have hc := hF.out 6 (by kernel_rfl) (.inr rfl)
      have h7 : V 7 = .slice la m lc := (hF.out 7 (by kernel_rfl) (.inl rfl)).1
      refine oper_append_any (.tmp 42) (.tmp 43) 25 rfl w4.heap.size 27 i0 (.agg #[.int .i64 0, .int .i64 0, .string ⟨#[]⟩, .slice none 0 0, .slice none 0 0, .slice none 0 0]) 6 104 Tryd.underlying25 hi hz0 hz1 hz2 rfl (V 6) 0 [] rfl hc.1.1 la m lc news h7 (by rw [HN1.out, HM.out]) (by decide) (src_keep hB HN2.out) HN3.out (by have := HPM.out; unfold maxLen; omega) (by have := HPM.out; omega) hsz ?_
      intro v6 w6 hown6 hw6
      obtain ⟨g6, hg1, hg2, hg3⟩ := wrote_own hw6 hc.1.2 hown6
      exact hK.out v6 g6 w6 (by have := hw6.1; rw [hc.1.2] at this; exact this) (fun _ => ⟨hg2, hg3⟩) ⟨by simpa only [Nat.zero_add, List.nil_append] using hown6, hg1⟩
    refine ⟨?_, ?_⟩
    · refine OStep.inv (c := none) (al_keeps _ _ _ _ _ _) rfl (fun j h => by cases h) (al_ret 9 none (by decide)) (fun V B w hB hsz hF K hK => ?_)
      obtain ⟨a0, a1, a2, a3, a4, a5⟩ := (GB4.out.keep hB).cells
      go_simp
      exact put_is (by kernel_rfl) (hK.out _ 0 _ (World.grownBy.refl w _) (fun h => by cases h) rfl)
    refine ⟨?_, ?_⟩
    · refine OStep.inv (c := none) (al_keeps _ _ _ _ _ _) rfl (fun j h => by cases h) (al_ret 10 none (by decide)) (fun V B w hB hsz hF K hK => ?_)
      have h3 : V 9 = .agg #[.int .i64 yk, .int .i64 yn, .string ys, .slice b2 bl2 bc2, .slice f2 fl2 fc2, .slice l2 ll2 lc2] := (hF.out 9 (by kernel_rfl) (.inl rfl)).1
      go_simp
      exact put_is (by rw [h3]; kernel_rfl) (hK.out _ w.heap.size _ (World.grownBy_alloc w _ none) (fun _ => ⟨.inl (Nat.le_refl _), by simp⟩) ⟨rfl, heap_alloc_new w _⟩)
    refine ⟨?_, ?_⟩
    · refine OStep.inv (c := some 8) (al_keeps _ _ _ _ _ _) rfl (fun j h => by cases h; exact ⟨rfl, rfl, by kernel_rfl⟩) (al_ret 11 (some 8) (by decide)) (fun V B w hB hsz hF K hK => ?_)
      have hc := hF.out 8 (by kernel_rfl) (.inr rfl)
      obtain ⟨⟨hv4, hr4⟩, -⟩ := hF.out 10 (by kernel_rfl) (.inl rfl)
      refine oper_append_any (.tmp 44) (.tmp 46) 25 rfl w4.heap.size 27 i0 (.agg #[.int .i64 0, .int .i64 0, .string ⟨#[]⟩, .slice none 0 0, .slice none 0 0, .slice none 0 0]) 6 104 Tryd.underlying25 hi hz0 hz1 hz2 rfl (V 8) m news rfl hc.1.1 (some ⟨B 10, 0, none⟩) 1 1 [Value.int .i64 yk, .int .i64 yn, .string ys, .slice b2 bl2 bc2, .slice f2 fl2 fc2, .slice l2 ll2 lc2] hv4 rfl (by decide) (.inr ⟨_, rfl, fun j u hu => by rw [Addr.add_mid, Nat.zero_add, cell_of_row _ _ j _ _ _ hr4]; simpa using hu⟩) (by intro u hu; simp only [List.mem_cons, List.not_mem_nil, or_false] at hu; rcases hu with rfl | rfl | rfl | rfl | rfl | rfl <;> rfl) (by have := HPM.out; unfold maxLen; omega) (by have := HPM.out; omega) hsz ?_
      intro v6 w6 hown6 hw6
      obtain ⟨g6, hg1, hg2, hg3⟩ := wrote_own hw6 hc.1.2 hown6
      exact hK.out v6 g6 w6 (by have := hw6.1; rw [hc.1.2] at this; exact this) (fun _ => ⟨hg2, hg3⟩) ⟨by simpa only [Nat.zero_add, List.nil_append] using hown6, hg1⟩
    refine ⟨?_, ?_⟩
    · refine OStep.inv (c := some 5) (al_keeps _ _ _ _ _ _) rfl (fun j h => by cases h; exact ⟨rfl, rfl, by kernel_rfl⟩) (al_ret 12 (some 5) (by decide)) (fun V B w hB hsz hF K hK => ?_)
      have hc := hF.out 5 (by kernel_rfl) (.inr rfl)
      go_simp
      exact put_is (by kernel_rfl) (hK.out _ (B 5) _ (World.grownBy.refl w _) (fun _ => ⟨.inr rfl, (hc.2 rfl).2⟩) hc.1)
    refine ⟨?_, ?_⟩
    · refine OStep.inv (c := some 11) (al_keeps _ _ _ _ _ _) rfl (fun j h => by cases h; exact ⟨rfl, rfl, by kernel_rfl⟩) (al_ret 13 (some 11) (by decide)) (fun V B w hB hsz hF K hK => ?_)
      have hc := hF.out 11 (by kernel_rfl) (.inr rfl)
      go_simp
      exact put_is (by kernel_rfl) (hK.out _ (B 11) _ (World.grownBy.refl w _) (fun _ => ⟨.inr rfl, (hc.2 rfl).2⟩) hc.1)
    trivial
  intro D V w5 hD hI
  obtain ⟨hb5, hs5, B, hf, -⟩ := hI
  obtain ⟨⟨hu5, -⟩, -⟩ := hf 12 (hD 12 (by decide)) rfl
  obtain ⟨⟨hv5, -⟩, -⟩ := hf 13 (hD 13 (by decide)) rfl
  clear hf hD
  obtain ⟨au, cu, eu, -, hiu⟩ := (acc_of hb5 (fun g hg => Nat.lt_of_lt_of_le (HQ.out g hg) HB4.out.size) HN4.out HN1.out HXC.out (by rw [HM.out]; exact hu5)).items (Q' := fun g => g < w5.heap.size) (fun g hg => by have := HQ.out g hg; have := HB4.out.size; omega) (fun g _ h => h)
  obtain ⟨av, cv, ev, -, hiv⟩ := (acc_of hb5 (fun g hg => Nat.lt_of_lt_of_le (HQ.out g hg) HB4.out.size) HN4.out HN1.out HYC.out (by rw [HM.out]; exact hv5)).items (Q' := fun g => g < w5.heap.size) (fun g hg => by have := HQ.out g hg; have := HB4.out.size; omega) (fun g _ h => h)
  have HEU := Lib.hid eu
  have HEV := Lib.hid ev
  have HIU := Lib.hid hiu
  have HIV := Lib.hid hiv
  have HB5 := Lib.hid (HB4.out.trans (hb5.mono HB4.out.size))
  have GA5 := Lib.hid (GA4.out.keep hb5)
  have GB5 := Lib.hid (GB4.out.keep hb5)
  have HS3d : Hid (SliceIs w5 e3 (numK 3 n)) := HS3c.out.keep hb5
  have HS4d : Hid (SliceIs w5 e4 (numK 4 n)) := HS4.out.keep hb5
  clear eu ev hiu hiv hb5 hs5 hu5 hv5 HS3c HS4 HN1 HN2 HN3 HN4 HXC HYC i0 hi hz0 hz1 hz2
  obtain ⟨N, hN⟩ : ∃ N, N = m + 1 := ⟨_, rfl⟩
  have HLU : Hid ((l ++ [x]).length = N) := by show _ = _; rw [List.length_append, HM.out, hN]; rfl
  have HLV : Hid ((l ++ [y]).length = N) := by show _ = _; rw [List.length_append, HM.out, hN]; rfl
  have hu12 : V 12 = .slice au N cu := by rw [HEU.out, HLU.out]
  have hv13 : V 13 = .slice av N cv := by rw [HEV.out, HLV.out]
  rw [hu12, hv13]
  clear hu12 hv13 HEU HEV
  have hmN : m < N := by omega
  have hN31 : N ≤ 31 := by have := HPM.out; omega
  clear hN
  have hmi : (m : Int) < (N : Int) := by omega
  have hmk := run_makeBoolsK N (by omega) w5
  obtain ⟨hfl1, q0, q1⟩ := bools_flag w5 N m hmN
  have HFL := Lib.hid hfl1
  have HB6 : Hid (Below w5.heap.size w5 (w5.alloc (.cells ((madeCells #[.bool false] N).setIfInBounds m (.bool true)) 4))) := (Below.refl _ w5).alloc (Nat.le_refl _) _
  clear hfl1
  have hsz6 : w5.heap.size < (w5.alloc (.cells ((madeCells #[.bool false] N).setIfInBounds m (.bool true)) 4)).heap.size := by simp
  have HSZ6 := Lib.hid hsz6
  clear hsz6
  go_upto_region 8 with fail
  clear hmk q0 q1
  generalize w5.alloc (.cells ((madeCells #[.bool false] N).setIfInBounds m (.bool true)) 4) = w6 at *
  have HB6w : Hid (Below w.heap.size w w6) := HB5.out.trans (HB6.out.mono HB5.out.size)
  obtain ⟨dn, hdn⟩ : ∃ dn, dn = (List.replicate N false).set m true := ⟨_, rfl⟩
  have HDL : Hid (dn.length = N) := by show _ = _; rw [hdn, List.length_set, List.length_replicate]
  rw [← hdn] at HFL
  have hgd : dn.getD (l.length) false = true := by rw [HM.out, hdn, List.getD_eq_getElem?_getD, List.getElem?_set_self (by rw [List.length_replicate]; exact hmN)]; rfl
  have HGD := Lib.hid hgd
  clear hgd hdn
  have HFU : Hid (∀ z ∈ l ++ [x], Fine 34 z) := fun z hz => by
    obtain ⟨v, hv⟩ := HIU.out.mem hz
    exact ⟨(app_all HPA.out.2.2 (HPB.out.2 x (by simp))) z hz, VIn.okay hv 34, VIn.octsIn hv 34⟩
  have HFV : Hid (∀ z ∈ l ++ [y], Fine 34 z) := fun z hz => by
    obtain ⟨v, hv⟩ := HIV.out.mem hz
    exact ⟨(app_all HPA.out.2.2 (HPB.out.2 y (by simp))) z hz, VIn.okay hv 34, VIn.octsIn hv 34⟩
  obtain ⟨s, hs⟩ : ∃ s, s = Order.cmp (h + 1) x y := ⟨_, rfl⟩
  have HQ1 : Hid (Order.octs (Key.encB 34 [] (l ++ [x]) 0) (Key.encB 34 [] (l ++ [y]) 0) = s) := by show _ = _; rw [key_rows 34 (h + 1) (by omega) [] Bson.zero _ _ (HLU.out.trans HLV.out.symm) HFU.out HFV.out, Order.rows_last (Order.cmp_cmp _), hs]; rfl
  have HQ2 : Hid (Order.octs (Key.encB 34 dn (l ++ [x]) 0) (Key.encB 34 dn (l ++ [y]) 0) = -s) := by show _ = _; rw [key_rows 34 (h + 1) (by omega) dn Bson.zero _ _ (HLU.out.trans HLV.out.symm) HFU.out HFV.out, Order.rows_last (Order.cmp_cmp _), HGD.out, hs]; rfl
  have hsb := (Order.cmp_cmp (h + 1)).one x y
  rw [← hs] at hsb
  have hs0 : -1 ≤ s := by omega
  have hs1 : s ≤ 1 := by omega
  have HS := Lib.hid hs
  clear hs hsb
  have HFLQ : Hid (BoolsIn w6 (fun g => g < w6.heap.size) (some ⟨w5.heap.size, 0, none⟩) dn) := by
    rcases HFL.out with z | ⟨g, o, z1, z2, z3⟩
    · exact .inl z
    · exact .inr ⟨g, o, z1, by rw [z2]; exact HSZ6.out, z3⟩
  have HE1 : Hid (∀ W, Below w6.heap.size w6 W → Calls Tryd.prog 24 #[.slice au N cu, .slice none 0 0] W fun e w' => ∃ (a' : Option Addr) (c' m : Nat), e = .returned (.slice a' m c') ∧ SliceIs w' a' (Key.encB 34 [] (l ++ [x]) 0) ∧ m = (Key.encB 34 [] (l ++ [x]) 0).length ∧ m ≤ 1030000 ∧ Below W.heap.size W w') := fun W hb => encode_more (h + 1) (fun g => g < w6.heap.size) au N cu (l ++ [x]) none 0 0 [] w W (HB6w.out.trans (hb.mono HB6w.out.size)) HLU.out hN31 (HIU.out.kept (Q' := fun g => g < w6.heap.size) (Kept.of_below (HB6.out.trans (hb.mono HB6.out.size))) (fun g hg => Nat.lt_of_lt_of_le hg HB6.out.size) (fun _ _ z => VIn.kept (h := h + 1) (Kept.of_below (HB6.out.trans (hb.mono HB6.out.size))) (fun g hg => Nat.lt_of_lt_of_le hg HB6.out.size) z)) rfl (.inl rfl) (by omega) (fun g hg => Nat.lt_of_lt_of_le hg hb.size) HX.out (app_all HPA.out.2.1 (HPB.out.1 x (by simp))) (app_all HPA.out.2.2 (HPB.out.2 x (by simp)))
  have HE2 : Hid (∀ W, Below w6.heap.size w6 W → Calls Tryd.prog 24 #[.slice av N cv, .slice none 0 0] W fun e w' => ∃ (a' : Option Addr) (c' m : Nat), e = .returned (.slice a' m c') ∧ SliceIs w' a' (Key.encB 34 [] (l ++ [y]) 0) ∧ m = (Key.encB 34 [] (l ++ [y]) 0).length ∧ m ≤ 1030000 ∧ Below W.heap.size W w') := fun W hb => encode_more (h + 1) (fun g => g < w6.heap.size) av N cv (l ++ [y]) none 0 0 [] w W (HB6w.out.trans (hb.mono HB6w.out.size)) HLV.out hN31 (HIV.out.kept (Q' := fun g => g < w6.heap.size) (Kept.of_below (HB6.out.trans (hb.mono HB6.out.size))) (fun g hg => Nat.lt_of_lt_of_le hg HB6.out.size) (fun _ _ z => VIn.kept (h := h + 1) (Kept.of_below (HB6.out.trans (hb.mono HB6.out.size))) (fun g hg => Nat.lt_of_lt_of_le hg HB6.out.size) z)) rfl (.inl rfl) (by omega) (fun g hg => Nat.lt_of_lt_of_le hg hb.size) HX.out (app_all HPA.out.2.1 (HPB.out.1 y (by simp))) (app_all HPA.out.2.2 (HPB.out.2 y (by simp)))
  have HE3 : Hid (∀ W, Below w6.heap.size w6 W → Calls Tryd.prog 24 #[.slice au N cu, .slice (some ⟨w5.heap.size, 0, none⟩) N N] W fun e w' => ∃ (a' : Option Addr) (c' m : Nat), e = .returned (.slice a' m c') ∧ SliceIs w' a' (Key.encB 34 dn (l ++ [x]) 0) ∧ m = (Key.encB 34 dn (l ++ [x]) 0).length ∧ m ≤ 1030000 ∧ Below W.heap.size W w') := fun W hb => encode_more (h + 1) (fun g => g < w6.heap.size) au N cu (l ++ [x]) (some ⟨w5.heap.size, 0, none⟩) N N dn w W (HB6w.out.trans (hb.mono HB6w.out.size)) HLU.out hN31 (HIU.out.kept (Q' := fun g => g < w6.heap.size) (Kept.of_below (HB6.out.trans (hb.mono HB6.out.size))) (fun g hg => Nat.lt_of_lt_of_le hg HB6.out.size) (fun _ _ z => VIn.kept (h := h + 1) (Kept.of_below (HB6.out.trans (hb.mono HB6.out.size))) (fun g hg => Nat.lt_of_lt_of_le hg HB6.out.size) z)) HDL.out (BoolsIn.keep hb (HFLQ.out)) (by omega) (fun g hg => Nat.lt_of_lt_of_le hg hb.size) HX.out (app_all HPA.out.2.1 (HPB.out.1 x (by simp))) (app_all HPA.out.2.2 (HPB.out.2 x (by simp)))
  have HE4 : Hid (∀ W, Below w6.heap.size w6 W → Calls Tryd.prog 24 #[.slice av N cv, .slice (some ⟨w5.heap.size, 0, none⟩) N N] W fun e w' => ∃ (a' : Option Addr) (c' m : Nat), e = .returned (.slice a' m c') ∧ SliceIs w' a' (Key.encB 34 dn (l ++ [y]) 0) ∧ m = (Key.encB 34 dn (l ++ [y]) 0).length ∧ m ≤ 1030000 ∧ Below W.heap.size W w') := fun W hb => encode_more (h + 1) (fun g => g < w6.heap.size) av N cv (l ++ [y]) (some ⟨w5.heap.size, 0, none⟩) N N dn w W (HB6w.out.trans (hb.mono HB6w.out.size)) HLV.out hN31 (HIV.out.kept (Q' := fun g => g < w6.heap.size) (Kept.of_below (HB6.out.trans (hb.mono HB6.out.size))) (fun g hg => Nat.lt_of_lt_of_le hg HB6.out.size) (fun _ _ z => VIn.kept (h := h + 1) (Kept.of_below (HB6.out.trans (hb.mono HB6.out.size))) (fun g hg => Nat.lt_of_lt_of_le hg HB6.out.size) z)) HDL.out (BoolsIn.keep hb (HFLQ.out)) (by omega) (fun g hg => Nat.lt_of_lt_of_le hg hb.size) HX.out (app_all HPA.out.2.1 (HPB.out.1 y (by simp))) (app_all HPA.out.2.2 (HPB.out.2 y (by simp)))
  generalize Key.encB 34 [] (l ++ [x]) 0 = r1 at *
  generalize Key.encB 34 [] (l ++ [y]) 0 = r2 at *
  generalize Key.encB 34 dn (l ++ [x]) 0 = r3 at *
  generalize Key.encB 34 dn (l ++ [y]) 0 = r4 at *
  have GA6 := Lib.hid (GA5.out.keep HB6.out)
  have GB6 := Lib.hid (GB5.out.keep HB6.out)
  have HX3 := Lib.hid (HS3d.out.keep HB6.out)
  have HX4 := Lib.hid (HS4d.out.keep HB6.out)
  clear HFU HFV HIU HIV HFL HFLQ HDL HGD HLU HLV GA5 GB5 HS3d HS4d HPA HPB
  go_wp2_with fail
  go_at_call 24
  refine (HE1.out w6 (Below.refl _ _)).mono ?_
  rintro e w7 ⟨ea, ca, ma, rfl, hsa, hma, hma2, hb⟩
  have HB7 := Lib.hid hb
  have HSA := Lib.hid (And.intro hsa hma)
  clear hb hsa hma HE1
  go_wp2_with fail
  go_at_call 24
  refine (HE2.out w7 HB7.out).mono ?_
  rintro e w8 ⟨eb, cb, mb, rfl, hsb, hmb2, hmb3, hb⟩
  have HB8 := Lib.hid (HB7.out.trans (hb.mono HB7.out.size))
  have HSB := Lib.hid (And.intro hsb hmb2)
  have HSA2 : Hid (SliceIs w8 ea r1) := HSA.out.1.keep hb
  clear hb hsb hmb2 HE2
  go_wp2_with fail
  go_at_call 25
  refine (sign_key w8 ea eb ma ca mb cb r1 r2 HSA.out.2.symm HSB.out.2.symm HSA2.out HSB.out.1 (by omega) (by omega)).mono ?_
  rw [HQ1.out]
  rintro e w9 ⟨rfl, qd, rfl⟩
  have HB9 : Hid (Below w6.heap.size w6 (w8.drewN qd)) := below_dr HB8.out _
  clear HSA HSB HSA2 hma2 hmb3 HB7 HB8
  generalize w8.drewN qd = w9 at *
  go_wp2_with fail
  go_at_call 15
  refine (HAK.out w9 (HB6w.out.trans (HB9.out.mono HB6w.out.size))).mono ?_
  rintro e w10 ⟨rfl, hb⟩
  have HB10 := Lib.hid (HB9.out.trans (hb.mono HB9.out.size))
  clear hb HB9
  obtain ⟨sb, hsb⟩ : ∃ sb, sb = strB (numK 4 n) := ⟨_, rfl⟩
  have hcv3 := conv_str w10 e3 9 ce3 (numK 3 n) (numK_length 3 n) (HX3.out.keep HB10.out)
  have hcv4 := conv_str w10 e4 9 ce4 (numK 4 n) (numK_length 4 n) (HX4.out.keep HB10.out)
  rw [numK_alike, ← hsb] at hcv3
  rw [← hsb] at hcv4
  clear hsb
  have hbb : (sb.toList == sb.toList) = true := by simp
  obtain ⟨a0, a1, a2, a3, a4, a5⟩ := (GA6.out.keep HB10.out).cells
  obtain ⟨d0, d1, d2, d3, d4, d5⟩ := (GB6.out.keep HB10.out).cells
  have hw10 : Below w.heap.size w w10 := HB6w.out.trans (HB10.out.mono HB6w.out.size)
  have HW10 := Lib.hid hw10
  clear hw10
  go_wp2_with fail
  go_at_call 29
  refine (refCompare_any (h + 1) Q Q x y _ _ w10 (HXK.out w10 HW10.out) (HYK.out w10 HW10.out)).mono ?_
  rw [← HS.out]
  rintro e w11 ⟨rfl, hb⟩
  have HB11 := Lib.hid (HB10.out.trans (hb.mono HB10.out.size))
  clear hb a0 a1 a2 a3 a4 a5 d0 d1 d2 d3 d4 d5 hcv3 hcv4
  have hss : ((s : Int) == s) = true := beq_self_eq_true s
  go_wp2_with fail
  go_at_call 24
  refine (HE3.out w11 HB11.out).mono ?_
  rintro e w12 ⟨ec, cc, mc, rfl, hsa, hma, hma2, hb⟩
  have HB12 := Lib.hid (HB11.out.trans (hb.mono HB11.out.size))
  have HSA := Lib.hid (And.intro hsa hma)
  clear hb hsa hma HE3
  go_wp2_with fail
  go_at_call 24
  refine (HE4.out w12 HB12.out).mono ?_
  rintro e w13 ⟨ed, cd, md, rfl, hsb, hmb2, hmb3, hb⟩
  have HB13 := Lib.hid (HB12.out.trans (hb.mono HB12.out.size))
  have HSB := Lib.hid (And.intro hsb hmb2)
  have HSA2 : Hid (SliceIs w13 ec r3) := HSA.out.1.keep hb
  clear hb hsb hmb2 HE4
  go_wp2_with fail
  go_at_call 25
  refine (sign_key w13 ec ed mc cc md cd r3 r4 HSA.out.2.symm HSB.out.2.symm HSA2.out HSB.out.1 (by omega) (by omega)).mono ?_
  rw [HQ2.out]
  rintro e w14 ⟨rfl, qe, rfl⟩
  have HB14 : Hid (Below w6.heap.size w6 (w13.drewN qe)) := below_dr HB13.out _
  have hnn : ((-s : Int) == -s) = true := beq_self_eq_true (-s)
  go_wp2_with fail
  go_ret
  exact ⟨rfl, HB6w.out.trans (HB14.out.mono HB6w.out.size)⟩
end Go.Proofs.YtpklnhmhbaakhaaDoor
end
