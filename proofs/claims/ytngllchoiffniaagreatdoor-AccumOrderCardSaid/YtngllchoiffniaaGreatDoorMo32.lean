/- RefOwnL. -/
import Derived.Test.YtngllchoiffniaaGreatDoorMo31
import Derived.Test.YtngllchoiffniaaGreatDoorMo13
import Derived.Test.YtngllchoiffniaaGreatDoorMo1
import Derived.Test.YtngllchoiffniaaGreatDoorMo30
import Derived.Test.YtngllchoiffniaaGreatDoorMo3
set_option maxRecDepth 100000
set_option maxHeartbeats 20000000
open List renaming getElem_toArray → zA, getElem_cons_succ → zB, getElem_cons_zero → zC, setIfInBounds_toArray → zD, set_cons_zero → zE, set_cons_succ → zF
section
namespace Go.Proofs.YtngllchoiffniaaGreatDoor
open Go.RowKit
open Seal
open Bson (Val)
theorem own_list (Q : Nat → Prop) (h : Nat) (x : Val) (u : Value) (w : World) (d : Int) (hk : x.kind = 7) (hv : VIn w Q (h + 1) x u) (HF : d ≤ 32 → ∀ f, FieldsDo h f d) :
  Calls Tryz.prog 52 #[u, .int .i64 d] w (OwnPostN Q w (Key.legal (33 - d).toNat x)) := by
 obtain ⟨xk, xn, xs, ba, fa, la, bn, bc, fn, fc, ln, lc, rfl, hxk, hxn, hxs, hbn, hfn, hln, hL, hF, hI⟩ := hv.letters
 obtain rfl : xk = 7 := by rw [hxk, hk]
 have HV0 : Hid (VIn (w.alloc (.cells #[.int .i64 7, .int .i64 xn, .string xs, .slice ba bn bc, .slice fa fn fc, .slice la ln lc] 35)) Q (h + 1) x (.agg #[.int .i64 7, .int .i64 xn, .string xs, .slice ba bn bc, .slice fa fn fc, .slice la ln lc])) := VIn.keep ((Below.refl _ w).alloc (Nat.le_refl _) _) hv
 have HB0 : Hid (Below w.heap.size w (w.alloc (.cells #[.int .i64 7, .int .i64 xn, .string xs, .slice ba bn bc, .slice fa fn fc, .slice la ln lc] 35))) := (Below.refl _ w).alloc (Nat.le_refl _) _
 have hS := SixIs.new w (.int .i64 7) (.int .i64 xn) (.string xs) (.slice ba bn bc) (.slice fa fn fc) (.slice la ln lc) 35
 have HS0 := Lib.hid hS
 have HK := Lib.hid hk
 have HLN : Hid (ln = x.l.length) := hln
 have HI : Hid (ItemsIn (w.alloc (.cells #[.int .i64 7, .int .i64 xn, .string xs, .slice ba bn bc, .slice fa fn fc, .slice la ln lc] 35)) Q (VIn (w.alloc (.cells #[.int .i64 7, .int .i64 xn, .string xs, .slice ba bn bc, .slice fa fn fc, .slice la ln lc] 35)) Q h) la x.l) := hI.kept (Kept.of_below ((Below.refl _ w).alloc (Nat.le_refl _) _)) (fun _ h => h) (fun _ _ hh => VIn.keep ((Below.refl _ w).alloc (Nat.le_refl _) _) hh)
 clear hv hxk hk hS hxn hxs hbn hfn hln hL hF hI
 generalize hW : w.alloc (.cells #[.int .i64 7, .int .i64 xn, .string xs, .slice ba bn bc, .slice fa fn fc, .slice la ln lc] 35) = W0 at *
 obtain ⟨e0, e1, e2, e3, e4, e5⟩ := HS0.out
 have hf : W0.cell? ⟨w.heap.size, 0, none⟩ = some (.int .i64 7) ∧ W0.cell? ⟨w.heap.size, 1, none⟩ = some (.int .i64 xn) ∧ W0.cell? ⟨w.heap.size, 2, none⟩ = some (.string xs) ∧ W0.cell? ⟨w.heap.size, 3, none⟩ = some (.slice ba bn bc) ∧ W0.cell? ⟨w.heap.size, 4, none⟩ = some (.slice fa fn fc) ∧ W0.cell? ⟨w.heap.size, 5, none⟩ = some (.slice la ln lc) := HS0.out
 have HDR : Hid (Below W0.heap.size W0 W0.drew) := (Below.refl _ W0).drew
 obtain ⟨i0, hi, hz0, hz1, hz2⟩ := info_parts infoField
 obtain ⟨b2, hb2⟩ : ∃ b2, b2 = Bson.bare x false false false false true := ⟨_, rfl⟩
 have HBARE : Hid (∀ wx, VIn wx Q (h + 1) x (.agg #[.int .i64 7, .int .i64 xn, .string xs, .slice ba bn bc, .slice fa fn fc, .slice la ln lc]) → Calls Tryz.prog 69 #[.agg #[.int .i64 7, .int .i64 xn, .string xs, .slice ba bn bc, .slice fa fn fc, .slice la ln lc], .bool false, .bool false, .bool false, .bool false, .bool true] wx fun e w' => e = .returned (.bool b2) ∧ Below wx.heap.size wx w') := fun wx hx => by rw [hb2]; exact bare_some5 Q (h + 1) x _ wx hx
 clear hb2
 by_cases hd : 32 < d
 ·have dd : decide (32 < d) = true := decide_eq_true (by omega)
  cases b2
  ·go_enter Tryz.func52, Tryz.ntmps52
   go_wp2_with fail
   clear hW
   go_at_call 69
   refine (HBARE.out W0 HV0.out).mono ?_
   rintro e w2 ⟨rfl, hb2⟩
   have HB2 : Hid (Below W0.heap.size W0 w2) := hb2
   have hs2 := HS0.out.keep hb2
   obtain ⟨g0, g1, g2, g3, g4, g5⟩ := hs2
   clear hb2
   go_wp2_with fail
   refine bodyPost_ret (v := .tuple #[.slice none 0 0, .bool false]) (by simp [results, Tryz.results52, go_sem]) rfl ?_
   exact ⟨_, false, 0, rfl, BytesAt.none _ _, nofun, HB0.out.trans (HB2.out.mono HB0.out.size)⟩
  ·go_enter Tryz.func52, Tryz.ntmps52
   go_wp2_with fail
   clear hW
   go_at_call 69
   refine (HBARE.out W0 HV0.out).mono ?_
   rintro e w2 ⟨rfl, hb2⟩
   have HB2 : Hid (Below W0.heap.size W0 w2) := hb2
   have hs2 := HS0.out.keep hb2
   obtain ⟨g0, g1, g2, g3, g4, g5⟩ := hs2
   clear hb2
   go_wp2_with fail
   refine bodyPost_ret (v := .tuple #[.slice none 0 0, .bool false]) (by simp [results, Tryz.results52, go_sem]) rfl ?_
   exact ⟨_, false, 0, rfl, BytesAt.none _ _, nofun, HB0.out.trans (HB2.out.mono HB0.out.size)⟩
 ·have dd : decide (32 < d) = false := decide_eq_false (by omega)
  cases b2
  ·go_enter Tryz.func52, Tryz.ntmps52
   go_wp2_with fail
   clear hW
   go_at_call 69
   refine (HBARE.out W0 HV0.out).mono ?_
   rintro e w2 ⟨rfl, hb2⟩
   have HB2 : Hid (Below W0.heap.size W0 w2) := hb2
   have hs2 := HS0.out.keep hb2
   obtain ⟨g0, g1, g2, g3, g4, g5⟩ := hs2
   clear hb2
   go_wp2_with fail
   refine bodyPost_ret (v := .tuple #[.slice none 0 0, .bool false]) (by simp [results, Tryz.results52, go_sem]) rfl ?_
   exact ⟨_, false, 0, rfl, BytesAt.none _ _, nofun, HB0.out.trans (HB2.out.mono HB0.out.size)⟩
  ·go_enter Tryz.func52, Tryz.ntmps52
   go_wp2_with fail
   clear hW
   go_at_call 69
   refine (HBARE.out W0 HV0.out).mono ?_
   rintro e w2 ⟨rfl, hb2⟩
   have HB2 : Hid (Below W0.heap.size W0 w2) := hb2
   have hs2 := HS0.out.keep hb2
   obtain ⟨g0, g1, g2, g3, g4, g5⟩ := hs2
   clear hb2
   by_cases hln : 65536 < ln
   ·have dz : decide ((65536 : Int) < (ln : Int)) = true := decide_eq_true (by omega)
    go_wp2_with fail
    refine bodyPost_ret (v := .tuple #[.slice none 0 0, .bool false]) (by simp [results, Tryz.results52, go_sem]) rfl ?_
    exact ⟨_, false, 0, rfl, BytesAt.none _ _, nofun, HB0.out.trans (HB2.out.mono HB0.out.size)⟩
   have dz : decide ((65536 : Int) < (ln : Int)) = false := decide_eq_false (by omega)
   go_wp2_with fail
   go_loopw [6, 7] (fun f i wr => ∃ (k : Nat) (v : Value) (fl : List (ByteArray × Val)) (xs7 : List Value), k ≤ ln ∧ i = .int .i64 k ∧ v = f ∧ fl.length = k ∧ Hid (fl.map (·.2) = x.l.take k) ∧ Hid (FAcc wr W0.heap.size v (fun g => Q g ∧ g < W0.heap.size) h fl xs7) ∧ Hid (Below W0.heap.size W0 wr)) (fun _ i _ => ln - (intOf i).toNat)
   case atStart => exact ⟨0, _, [], [], Nat.zero_le _, rfl, rfl, rfl, Lib.hid (by simp), FAcc.nil _ _ _ _, HB2.out⟩
   case round =>
    obtain ⟨k, v, fl, xs7, hk, rfl, rfl, hfl, HMP, HA, HB⟩ := hrel
    by_cases hlt : k < ln
    ·obtain ⟨g, o, hla, _, hall⟩ := HI.out.resolve_left (fun e => by have := HLN.out; rw [e] at this; simp at this; omega)
     obtain ⟨v', hsix, hV⟩ := hall k (by have := HLN.out; omega)
     subst hla
     obtain ⟨ka, na, sa, ya, za, xa, yn, yc, zn, zc, xm, xc, rfl⟩ := hV.shape
     obtain ⟨y, hy⟩ : ∃ y, y = x.l[k]'(by have := HLN.out; omega) := ⟨_, rfl⟩
     rw [← hy] at hV
     have HMQ : Hid ((fl.map (·.2)) ++ [y] = x.l.take (k + 1)) := by rw [HMP.out, hy]; exact (List.take_succ_eq_append_getElem _).symm
     have HV := Lib.hid hV.lt
     have HSIX := Lib.hid hsix
     have hs : (wr.cell? ⟨w.heap.size, 0, none⟩ = some (.int .i64 7) ∧ wr.cell? ⟨w.heap.size, 1, none⟩ = some (.int .i64 xn) ∧ wr.cell? ⟨w.heap.size, 2, none⟩ = some (.string xs) ∧ wr.cell? ⟨w.heap.size, 3, none⟩ = some (.slice ba bn bc) ∧ wr.cell? ⟨w.heap.size, 4, none⟩ = some (.slice fa fn fc) ∧ wr.cell? ⟨w.heap.size, 5, none⟩ = some (.slice (some ⟨g, o, none⟩) ln lc)) ∧ wr.cell? ⟨g, o + k * 6, none⟩ = some (.int .i64 ka) ∧ wr.cell? ⟨g, o + k * 6 + 1, none⟩ = some (.int .i64 na) ∧ wr.cell? ⟨g, o + k * 6 + 2, none⟩ = some (.string sa) ∧ wr.cell? ⟨g, o + k * 6 + 3, none⟩ = some (.slice ya yn yc) ∧ wr.cell? ⟨g, o + k * 6 + 4, none⟩ = some (.slice za zn zc) ∧ wr.cell? ⟨g, o + k * 6 + 5, none⟩ = some (.slice xa xm xc) := ⟨HS0.out.keep HB.out, (HSIX.out.keep HB.out).cells⟩
     have HDW : Hid (Below W0.heap.size W0 wr.drew) := HB.out.drew
     have HAD : Hid (FAcc wr.drew W0.heap.size v (fun g => Q g ∧ g < W0.heap.size) h fl xs7) := HA.out.keep (Below.refl _ wr).drew
     obtain ⟨p0, p1, p2, p3, p4, p5⟩ := HS0.out.keep HB.out
     have hkz : (0 : Int) ≤ (k : Int) := by omega
     have hkl : (k : Int) < (ln : Int) := by omega
     clear hall hsix hV hy HA
     go_wp2_with fail
     refine wp_region_held_drew (S := fun W => (W.cell? ⟨w.heap.size, 0, none⟩ = some (.int .i64 7) ∧ W.cell? ⟨w.heap.size, 1, none⟩ = some (.int .i64 xn) ∧ W.cell? ⟨w.heap.size, 2, none⟩ = some (.string xs) ∧ W.cell? ⟨w.heap.size, 3, none⟩ = some (.slice ba bn bc) ∧ W.cell? ⟨w.heap.size, 4, none⟩ = some (.slice fa fn fc) ∧ W.cell? ⟨w.heap.size, 5, none⟩ = some (.slice (some ⟨g, o, none⟩) ln lc)) ∧ W.cell? ⟨g, o + k * 6, none⟩ = some (.int .i64 ka) ∧ W.cell? ⟨g, o + k * 6 + 1, none⟩ = some (.int .i64 na) ∧ W.cell? ⟨g, o + k * 6 + 2, none⟩ = some (.string sa) ∧ W.cell? ⟨g, o + k * 6 + 3, none⟩ = some (.slice ya yn yc) ∧ W.cell? ⟨g, o + k * 6 + 4, none⟩ = some (.slice za zn zc) ∧ W.cell? ⟨g, o + k * 6 + 5, none⟩ = some (.slice xa xm xc)) (by kernel_rfl) (by exact hs) (fun hHeld => ?_)
     generalize wr.drew = wd at *
     refine wpAnyH_take (i := 0) (v := ?_) rfl (by kernel_rfl) (by kernel_rfl) (by kernel_rfl) (fun _ _ _ h => h) (Or.inl ⟨by kernel_rfl, ?_⟩) (by assumption) ?_
     rotate_left
     ·intro wS hSw
      (try dsimp only at hSw)
      go_simp
      try (with_reducible rfl)
     try simp only [zA, zC, Act.put, zD, zE, zF]
     refine wpAnyH_take (i := 1) (v := ?_) rfl (by kernel_rfl) (by kernel_rfl) (by kernel_rfl) (fun _ _ _ h => h) (Or.inl ⟨by kernel_rfl, ?_⟩) (by assumption) ?_
     rotate_left
     ·intro wS hSw
      (try dsimp only at hSw)
      go_simp
      try (with_reducible rfl)
     try simp only [zA, zB, zC, Act.put, zD, zE, zF]
     refine wpAnyH_take (i := 3) (v := ?_) rfl (by kernel_rfl) (by kernel_rfl) (by kernel_rfl) (fun _ _ _ h => h) (Or.inl ⟨by kernel_rfl, ?_⟩) (by assumption) ?_
     rotate_left
     ·intro wS hSw
      (try dsimp only at hSw)
      go_simp
      try (with_reducible rfl)
     try simp only [zA, zB, zC, Act.put, zD, zE, zF]
     refine wpAnyH_take (i := 4) (v := ?_) rfl (by kernel_rfl) (by kernel_rfl) (by kernel_rfl) (fun _ _ _ h => h) (Or.inl ⟨by kernel_rfl, ?_⟩) (by assumption) ?_
     rotate_left
     ·intro wS hSw
      (try dsimp only at hSw)
      go_simp
      try (with_reducible rfl)
     try simp only [zA, zB, zC, Act.put, zD, zE, zF]
     refine wpAnyH_take (i := 5) (v := ?_) rfl (by kernel_rfl) (by kernel_rfl) (by kernel_rfl) (fun _ _ _ h => h) (Or.inl ⟨by kernel_rfl, ?_⟩) (by assumption) ?_
     rotate_left
     ·intro wS hSw
      (try dsimp only at hSw)
      go_simp
      try (with_reducible rfl)
     try simp only [zA, zB, zC, Act.put, zD, zE, zF]
     refine wpAnyH_take (i := 6) (v := ?_) rfl (by kernel_rfl) (by kernel_rfl) (by kernel_rfl) (fun _ _ _ h => h) (Or.inl ⟨by kernel_rfl, ?_⟩) (by assumption) ?_
     rotate_left
     ·intro wS hSw
      (try dsimp only at hSw)
      go_simp
      try (with_reducible rfl)
     try simp only [zA, zB, zC, Act.put, zD, zE, zF]
     refine wpAnyH_take (i := 7) (v := ?_) rfl (by kernel_rfl) (by kernel_rfl) (by kernel_rfl) (fun _ _ _ h => h) (Or.inl ⟨by kernel_rfl, ?_⟩) (by assumption) ?_
     rotate_left
     ·intro wS hSw
      (try dsimp only at hSw)
      go_simp
      try (with_reducible rfl)
     try simp only [zA, zB, zC, Act.put, zD, zE, zF]
     refine wpAnyH_ready (rs := [2]) (by kernel_rfl) (by simp) ?_
     refine AllReadyH.cons rfl (fun K hK => ?_) (AllReadyH.nil)
     go_simp
     go_at_call 73
     refine (digits_some k wd (by omega)).mono ?_
     rintro e w3 ⟨s2, rfl, hsz2, hb3⟩
     have HB3 : Hid (Below W0.heap.size W0 w3) := HDW.out.trans (hb3.mono HDW.out.size)
     have HA3 := Lib.hid (HAD.out.keep hb3)
     have hs3 : (w3.cell? ⟨w.heap.size, 0, none⟩ = some (.int .i64 7) ∧ w3.cell? ⟨w.heap.size, 1, none⟩ = some (.int .i64 xn) ∧ w3.cell? ⟨w.heap.size, 2, none⟩ = some (.string xs) ∧ w3.cell? ⟨w.heap.size, 3, none⟩ = some (.slice ba bn bc) ∧ w3.cell? ⟨w.heap.size, 4, none⟩ = some (.slice fa fn fc) ∧ w3.cell? ⟨w.heap.size, 5, none⟩ = some (.slice (some ⟨g, o, none⟩) ln lc)) ∧ w3.cell? ⟨g, o + k * 6, none⟩ = some (.int .i64 ka) ∧ w3.cell? ⟨g, o + k * 6 + 1, none⟩ = some (.int .i64 na) ∧ w3.cell? ⟨g, o + k * 6 + 2, none⟩ = some (.string sa) ∧ w3.cell? ⟨g, o + k * 6 + 3, none⟩ = some (.slice ya yn yc) ∧ w3.cell? ⟨g, o + k * 6 + 4, none⟩ = some (.slice za zn zc) ∧ w3.cell? ⟨g, o + k * 6 + 5, none⟩ = some (.slice xa xm xc) := ⟨HS0.out.keep HB3.out, (HSIX.out.keep HB3.out).cells⟩
     clear hb3 HAD
     refine hK.out _ _ (by exact hs3) (fun hHeld => ?_)
     clear hK K
     try simp only [zA, zB, zC, Act.put, zD, zE, zF]
     refine wpAnyH_take (i := 8) (v := ?_) rfl (by kernel_rfl) (by kernel_rfl) (by kernel_rfl) (fun _ _ _ h => h) (Or.inl ⟨by kernel_rfl, ?_⟩) (by assumption) ?_
     rotate_left
     ·intro wS hSw
      (try dsimp only at hSw)
      go_simp
      try (with_reducible rfl)
     try simp only [zA, zB, zC, Act.put, zD, zE, zF]
     refine wpAnyH_ready (rs := [9]) (by kernel_rfl) (by simp) ?_
     refine AllReadyH.cons rfl (fun K hK => ?_) (AllReadyH.nil)
     go_simp
     have HB4 : Hid (Below W0.heap.size W0 (w3.alloc (.cells #[.string s2, .int .i64 ka, .int .i64 na, .string sa, .slice ya yn yc, .slice za zn zc, .slice xa xm xc] 38))) := HB3.out.alloc HB3.out.size _
     have HA4 : Hid (FAcc (w3.alloc (.cells #[.string s2, .int .i64 ka, .int .i64 na, .string sa, .slice ya yn yc, .slice za zn zc, .slice xa xm xc] 38)) W0.heap.size v (fun g => Q g ∧ g < W0.heap.size) h fl xs7) := HA3.out.keep ((Below.refl _ _).alloc (Nat.le_refl _) _)
     have HNW := Lib.hid (seven_new w3 (.string s2) (.int .i64 ka) (.int .i64 na) (.string sa) (.slice ya yn yc) (.slice za zn zc) (.slice xa xm xc) 38)
     generalize w3.alloc (.cells #[.string s2, .int .i64 ka, .int .i64 na, .string sa, .slice ya yn yc, .slice za zn zc, .slice xa xm xc] 38) = w4 at *
     have hs4 : (w4.cell? ⟨w.heap.size, 0, none⟩ = some (.int .i64 7) ∧ w4.cell? ⟨w.heap.size, 1, none⟩ = some (.int .i64 xn) ∧ w4.cell? ⟨w.heap.size, 2, none⟩ = some (.string xs) ∧ w4.cell? ⟨w.heap.size, 3, none⟩ = some (.slice ba bn bc) ∧ w4.cell? ⟨w.heap.size, 4, none⟩ = some (.slice fa fn fc) ∧ w4.cell? ⟨w.heap.size, 5, none⟩ = some (.slice (some ⟨g, o, none⟩) ln lc)) ∧ w4.cell? ⟨g, o + k * 6, none⟩ = some (.int .i64 ka) ∧ w4.cell? ⟨g, o + k * 6 + 1, none⟩ = some (.int .i64 na) ∧ w4.cell? ⟨g, o + k * 6 + 2, none⟩ = some (.string sa) ∧ w4.cell? ⟨g, o + k * 6 + 3, none⟩ = some (.slice ya yn yc) ∧ w4.cell? ⟨g, o + k * 6 + 4, none⟩ = some (.slice za zn zc) ∧ w4.cell? ⟨g, o + k * 6 + 5, none⟩ = some (.slice xa xm xc) := ⟨HS0.out.keep HB4.out, (HSIX.out.keep HB4.out).cells⟩
     clear HA3
     refine hK.out _ _ (by exact hs4) (fun hHeld => ?_)
     clear hK K
     try simp only [zA, zB, zC, Act.put, zD, zE, zF]
     refine wpAnyH_ready (rs := [10]) (by kernel_rfl) (by simp) ?_
     refine AllReadyH.cons rfl (fun K hK => ?_) (AllReadyH.nil)
     have hown4 := HA4.out.own
     refine step_append_lies rfl (.tmp 147) (.tmp 156) 33 rfl W0.heap.size 38 i0 (.agg #[.string ⟨#[]⟩, .int .i64 0, .int .i64 0, .string ⟨#[]⟩, .slice none 0 0, .slice none 0 0, .slice none 0 0]) 7 120 Tryz.underlying33 hi hz0 hz1 hz2 rfl (by decide) v fl.length xs7 rfl hown4 ⟨w3.heap.size, 0, none⟩ 1 1 [.string s2, .int .i64 ka, .int .i64 na, .string sa, .slice ya yn yc, .slice za zn zc, .slice xa xm xc] rfl rfl (by decide) HNW.out (seven_one _ _ _ _ _ _ _ _ _ _ _ _ _) (by unfold maxLen; omega) (by omega) HB4.out.size ?_
     intro v5 w5 hown5 hlies5
     have hw5 := Wrote.of_lies hlies5
     have HB5 : Hid (Below W0.heap.size W0 w5) := HB4.out.grown hw5.1 HB4.out.size (fun j hj => (owns_block hown4 hj).1)
     have HA5 : Hid (FAcc w5 W0.heap.size v5 (fun g => Q g ∧ g < W0.heap.size) h (fl ++ [(s2, y)]) (xs7 ++ [.string s2, .int .i64 ka, .int .i64 na, .string sa, .slice ya yn yc, .slice za zn zc, .slice xa xm xc])) := HA4.out.push hw5 hown5 (by omega) ((VIn.keep HB4.out HV.out).kept (Kept.of_below (Below.refl _ _)) (fun q hq => ⟨hq, fun e => by have := (owns_block hown4 e).1; have := hq.2; omega⟩))
     have hs5 : (w5.cell? ⟨w.heap.size, 0, none⟩ = some (.int .i64 7) ∧ w5.cell? ⟨w.heap.size, 1, none⟩ = some (.int .i64 xn) ∧ w5.cell? ⟨w.heap.size, 2, none⟩ = some (.string xs) ∧ w5.cell? ⟨w.heap.size, 3, none⟩ = some (.slice ba bn bc) ∧ w5.cell? ⟨w.heap.size, 4, none⟩ = some (.slice fa fn fc) ∧ w5.cell? ⟨w.heap.size, 5, none⟩ = some (.slice (some ⟨g, o, none⟩) ln lc)) ∧ w5.cell? ⟨g, o + k * 6, none⟩ = some (.int .i64 ka) ∧ w5.cell? ⟨g, o + k * 6 + 1, none⟩ = some (.int .i64 na) ∧ w5.cell? ⟨g, o + k * 6 + 2, none⟩ = some (.string sa) ∧ w5.cell? ⟨g, o + k * 6 + 3, none⟩ = some (.slice ya yn yc) ∧ w5.cell? ⟨g, o + k * 6 + 4, none⟩ = some (.slice za zn zc) ∧ w5.cell? ⟨g, o + k * 6 + 5, none⟩ = some (.slice xa xm xc) := ⟨HS0.out.keep HB5.out, (HSIX.out.keep HB5.out).cells⟩
     clear hown4 hown5 hlies5 hw5 HA4 HNW
     refine hK.out _ _ (by exact hs5) (fun hHeld => ?_)
     clear hK K
     try simp only [zA, zB, zC, Act.put, zD, zE, zF]
     refine wpAnyH_take (i := 11) (v := ?_) rfl (by kernel_rfl) (by kernel_rfl) (by kernel_rfl) (fun _ _ _ h => h) (Or.inl ⟨by kernel_rfl, ?_⟩) (by assumption) ?_
     rotate_left
     ·intro wS hSw
      (try dsimp only at hSw)
      go_simp
      try (with_reducible rfl)
     try simp only [zA, zB, zC, Act.put, zD, zE, zF]
     refine wpAnyH_done (by kernel_rfl) ?_ _
     go_wp2_with fail
     go_roundw
     case rel => exact ⟨k + 1, _, _, _, by omega, by go_num, rfl, by simp [hfl], (by rw [List.map_append]; exact HMQ.out), HA5, HB5⟩
     case measure => simp [intOf]; omega
    ·have hkk : k = ln := by omega
     obtain ⟨p0, p1, p2, p3, p4, p5⟩ := HS0.out.keep HB.out
     obtain ⟨a', c', rfl, hc, hit⟩ := HA.out.fields (Q' := fun g => Q g ∨ W0.heap.size ≤ g) (fun g hg => .inl hg.1) (fun g hg _ => .inr hg)
     have HIT := Lib.hid hit
     have hkl : ¬ (k : Int) < (ln : Int) := by omega
     clear hc hit HA
     subst hkk
     go_wp2_with fail
     go_at_call 72
     subst hfl
     refine (HF (by omega) fl _ wr a' c' (by omega) HIT.out).mono ?_
     rintro e w3 ⟨v, b, n, rfl, hv, hn, hb⟩
     have HBY := Lib.hid hv
     have HBB := Lib.hid hb
     clear hv hb
     go_wp2_with fail
     refine bodyPost_ret (v := .tuple #[v, .bool b]) (by simp [results, Tryz.results52, go_sem]) rfl ?_
     exact ⟨v, b, n, rfl, HBY.out.mono (fun g hg => by have h1 := HB0.out.size; have h2 := HB.out.size; rcases hg with (hg | hg) | hg; exact .inl hg; exact .inr (by omega); exact .inr (by omega)), fun z => ⟨(hn z).1, by rw [show (33 - d).toNat = (32 - d).toNat + 1 by omega]; exact ⟨by rw [HK.out]; decide, fun e => absurd e (by rw [HK.out]; decide), fun _ u hu => by have hm := HMP.out; rw [List.take_of_length_le (by rw [← HLN.out]; exact Nat.le_refl _)] at hm; rw [← hm] at hu; obtain ⟨p, hp, rfl⟩ := List.mem_map.1 hu; exact (hn z).2 p hp⟩⟩, (HB0.out.trans (HB.out.mono HB0.out.size)).trans (HBB.out.mono (HB0.out.trans (HB.out.mono HB0.out.size)).size)⟩
end Go.Proofs.YtngllchoiffniaaGreatDoor
end
