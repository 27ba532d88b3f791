/- RefOwnB. -/
import Derived.Deep.RegionHeld3
import Derived.Test.YtngllchoiffniaaGreatDoorMo28
set_option maxRecDepth 100000
set_option maxHeartbeats 20000000
open List renaming getElem_toArray → zA, getElem_cons_succ → zB, getElem_cons_zero → zC, setIfInBounds_toArray → zD, set_cons_zero → zE, set_cons_succ → zF
section
namespace Go.Proofs.YtngllchoiffniaaGreatDoor
open Go.RowKit
open Seal
open Bson (Val)
theorem VIn.bytes_at {w : World} {Q : Nat → Prop} {h : Nat} {x : Val} {c0 c1 c2 c4 c5 : Value} {ba : Option Addr} {bn bc : Nat} (hv : VIn w Q (h + 1) x (.agg #[c0, c1, c2, .slice ba bn bc, c4, c5])) : BytesAt w Q (.slice ba bn bc) bn ∧ bn = x.b.length := by
 obtain ⟨ba', fa', la', bc', fc', lc', e, hL, _, _, _, hB, _, _⟩ := hv
 unfold agg at e
 injection e with e
 simp only [Array.mk.injEq, List.cons.injEq, Value.slice.injEq, and_true] at e
 obtain ⟨_, _, _, ⟨rfl, rfl, rfl⟩, _, _⟩ := e
 exact ⟨⟨_, _, x.b, rfl, rfl, hL.o, hB⟩, rfl⟩
theorem own_least (Q : Nat → Prop) (h : Nat) (x : Val) (u : Value) (w : World) (d : Int) (hk : x.kind = 1) (hv : VIn w Q (h + 1) x u) :
  Calls Tryz.prog 52 #[u, .int .i64 d] w (OwnPost Q w) := by
 obtain ⟨xk, xn, xs, ba, fa, la, bn, bc, fn, fc, ln, lc, rfl, hxk, hxn, hxs, hbn, hfn, hln, hL, hF, hI⟩ := hv.letters
 obtain rfl : xk = 1 := by rw [hxk, hk]
 have HV0 : Hid (VIn (w.alloc (.cells #[.int .i64 1, .int .i64 xn, .string xs, .slice ba bn bc, .slice fa fn fc, .slice la ln lc] 35)) Q (h + 1) x (.agg #[.int .i64 1, .int .i64 xn, .string xs, .slice ba bn bc, .slice fa fn fc, .slice la ln lc])) := VIn.keep ((Below.refl _ w).alloc (Nat.le_refl _) _) hv
 have HB0 : Hid (Below w.heap.size w (w.alloc (.cells #[.int .i64 1, .int .i64 xn, .string xs, .slice ba bn bc, .slice fa fn fc, .slice la ln lc] 35))) := (Below.refl _ w).alloc (Nat.le_refl _) _
 have hS := SixIs.new w (.int .i64 1) (.int .i64 xn) (.string xs) (.slice ba bn bc) (.slice fa fn fc) (.slice la ln lc) 35
 have HS0 := Lib.hid hS
 clear hv hxk hk hS hxn hxs hbn hfn hln hL hF hI
 generalize hW : w.alloc (.cells #[.int .i64 1, .int .i64 xn, .string xs, .slice ba bn bc, .slice fa fn fc, .slice la ln lc] 35) = W0 at *
 obtain ⟨e0, e1, e2, e3, e4, e5⟩ := HS0.out
 have hf : W0.cell? ⟨w.heap.size, 0, none⟩ = some (.int .i64 1) ∧ W0.cell? ⟨w.heap.size, 1, none⟩ = some (.int .i64 xn) ∧ W0.cell? ⟨w.heap.size, 2, none⟩ = some (.string xs) ∧ W0.cell? ⟨w.heap.size, 3, none⟩ = some (.slice ba bn bc) ∧ W0.cell? ⟨w.heap.size, 4, none⟩ = some (.slice fa fn fc) ∧ W0.cell? ⟨w.heap.size, 5, none⟩ = some (.slice la ln lc) := HS0.out
 have HD : Hid (Below W0.heap.size W0 W0.drew) := (Below.refl _ W0).drew
 obtain ⟨b2, hb2⟩ : ∃ b2, b2 = Bson.bare x false false false false false := ⟨_, rfl⟩
 have HBARE : Hid (∀ wx, VIn wx Q (h + 1) x (.agg #[.int .i64 1, .int .i64 xn, .string xs, .slice ba bn bc, .slice fa fn fc, .slice la ln lc]) → Calls Tryz.prog 69 #[.agg #[.int .i64 1, .int .i64 xn, .string xs, .slice ba bn bc, .slice fa fn fc, .slice la ln lc], .bool false, .bool false, .bool false, .bool false, .bool false] wx fun e w' => e = .returned (.bool b2) ∧ Below wx.heap.size wx w') := fun wx hx => by rw [hb2]; exact bare_some0 Q (h + 1) x _ wx hx
 clear hb2
 go_enter Tryz.func52, Tryz.ntmps52
 go_wp2_with fail
 clear hW
 go_at_call 69
 refine (HBARE.out W0 HV0.out).mono ?_
 rintro e w2 ⟨rfl, hb2⟩
 have HB2 : Hid (Below W0.heap.size W0 w2) := hb2
 clear hb2
 go_wp2_with fail
 refine bodyPost_ret (v := .tuple #[.slice none 0 0, .bool b2]) (by simp [results, Tryz.results52, go_sem]) rfl ?_
 exact ⟨_, b2, 0, rfl, BytesAt.none _ _, fun _ => by omega, HB0.out.trans (HB2.out.mono HB0.out.size)⟩
theorem own_null (Q : Nat → Prop) (h : Nat) (x : Val) (u : Value) (w : World) (d : Int) (hk : x.kind = 2) (hv : VIn w Q (h + 1) x u) :
  Calls Tryz.prog 52 #[u, .int .i64 d] w (OwnPost Q w) := by
 obtain ⟨xk, xn, xs, ba, fa, la, bn, bc, fn, fc, ln, lc, rfl, hxk, hxn, hxs, hbn, hfn, hln, hL, hF, hI⟩ := hv.letters
 obtain rfl : xk = 2 := by rw [hxk, hk]
 have HV0 : Hid (VIn (w.alloc (.cells #[.int .i64 2, .int .i64 xn, .string xs, .slice ba bn bc, .slice fa fn fc, .slice la ln lc] 35)) Q (h + 1) x (.agg #[.int .i64 2, .int .i64 xn, .string xs, .slice ba bn bc, .slice fa fn fc, .slice la ln lc])) := VIn.keep ((Below.refl _ w).alloc (Nat.le_refl _) _) hv
 have HB0 : Hid (Below w.heap.size w (w.alloc (.cells #[.int .i64 2, .int .i64 xn, .string xs, .slice ba bn bc, .slice fa fn fc, .slice la ln lc] 35))) := (Below.refl _ w).alloc (Nat.le_refl _) _
 have hS := SixIs.new w (.int .i64 2) (.int .i64 xn) (.string xs) (.slice ba bn bc) (.slice fa fn fc) (.slice la ln lc) 35
 have HS0 := Lib.hid hS
 clear hv hxk hk hS hxn hxs hbn hfn hln hL hF hI
 generalize hW : w.alloc (.cells #[.int .i64 2, .int .i64 xn, .string xs, .slice ba bn bc, .slice fa fn fc, .slice la ln lc] 35) = W0 at *
 obtain ⟨e0, e1, e2, e3, e4, e5⟩ := HS0.out
 have hf : W0.cell? ⟨w.heap.size, 0, none⟩ = some (.int .i64 2) ∧ W0.cell? ⟨w.heap.size, 1, none⟩ = some (.int .i64 xn) ∧ W0.cell? ⟨w.heap.size, 2, none⟩ = some (.string xs) ∧ W0.cell? ⟨w.heap.size, 3, none⟩ = some (.slice ba bn bc) ∧ W0.cell? ⟨w.heap.size, 4, none⟩ = some (.slice fa fn fc) ∧ W0.cell? ⟨w.heap.size, 5, none⟩ = some (.slice la ln lc) := HS0.out
 have HD : Hid (Below W0.heap.size W0 W0.drew) := (Below.refl _ W0).drew
 obtain ⟨b2, hb2⟩ : ∃ b2, b2 = Bson.bare x false false false false false := ⟨_, rfl⟩
 have HBARE : Hid (∀ wx, VIn wx Q (h + 1) x (.agg #[.int .i64 2, .int .i64 xn, .string xs, .slice ba bn bc, .slice fa fn fc, .slice la ln lc]) → Calls Tryz.prog 69 #[.agg #[.int .i64 2, .int .i64 xn, .string xs, .slice ba bn bc, .slice fa fn fc, .slice la ln lc], .bool false, .bool false, .bool false, .bool false, .bool false] wx fun e w' => e = .returned (.bool b2) ∧ Below wx.heap.size wx w') := fun wx hx => by rw [hb2]; exact bare_some0 Q (h + 1) x _ wx hx
 clear hb2
 go_enter Tryz.func52, Tryz.ntmps52
 go_wp2_with fail
 clear hW
 go_at_call 69
 refine (HBARE.out W0 HV0.out).mono ?_
 rintro e w2 ⟨rfl, hb2⟩
 have HB2 : Hid (Below W0.heap.size W0 w2) := hb2
 clear hb2
 go_wp2_with fail
 refine bodyPost_ret (v := .tuple #[.slice none 0 0, .bool b2]) (by simp [results, Tryz.results52, go_sem]) rfl ?_
 exact ⟨_, b2, 0, rfl, BytesAt.none _ _, fun _ => by omega, HB0.out.trans (HB2.out.mono HB0.out.size)⟩
theorem own_greatest (Q : Nat → Prop) (h : Nat) (x : Val) (u : Value) (w : World) (d : Int) (hk : x.kind = 12) (hv : VIn w Q (h + 1) x u) :
  Calls Tryz.prog 52 #[u, .int .i64 d] w (OwnPost Q w) := by
 obtain ⟨xk, xn, xs, ba, fa, la, bn, bc, fn, fc, ln, lc, rfl, hxk, hxn, hxs, hbn, hfn, hln, hL, hF, hI⟩ := hv.letters
 obtain rfl : xk = 12 := by rw [hxk, hk]
 have HV0 : Hid (VIn (w.alloc (.cells #[.int .i64 12, .int .i64 xn, .string xs, .slice ba bn bc, .slice fa fn fc, .slice la ln lc] 35)) Q (h + 1) x (.agg #[.int .i64 12, .int .i64 xn, .string xs, .slice ba bn bc, .slice fa fn fc, .slice la ln lc])) := VIn.keep ((Below.refl _ w).alloc (Nat.le_refl _) _) hv
 have HB0 : Hid (Below w.heap.size w (w.alloc (.cells #[.int .i64 12, .int .i64 xn, .string xs, .slice ba bn bc, .slice fa fn fc, .slice la ln lc] 35))) := (Below.refl _ w).alloc (Nat.le_refl _) _
 have hS := SixIs.new w (.int .i64 12) (.int .i64 xn) (.string xs) (.slice ba bn bc) (.slice fa fn fc) (.slice la ln lc) 35
 have HS0 := Lib.hid hS
 clear hv hxk hk hS hxn hxs hbn hfn hln hL hF hI
 generalize hW : w.alloc (.cells #[.int .i64 12, .int .i64 xn, .string xs, .slice ba bn bc, .slice fa fn fc, .slice la ln lc] 35) = W0 at *
 obtain ⟨e0, e1, e2, e3, e4, e5⟩ := HS0.out
 have hf : W0.cell? ⟨w.heap.size, 0, none⟩ = some (.int .i64 12) ∧ W0.cell? ⟨w.heap.size, 1, none⟩ = some (.int .i64 xn) ∧ W0.cell? ⟨w.heap.size, 2, none⟩ = some (.string xs) ∧ W0.cell? ⟨w.heap.size, 3, none⟩ = some (.slice ba bn bc) ∧ W0.cell? ⟨w.heap.size, 4, none⟩ = some (.slice fa fn fc) ∧ W0.cell? ⟨w.heap.size, 5, none⟩ = some (.slice la ln lc) := HS0.out
 have HD : Hid (Below W0.heap.size W0 W0.drew) := (Below.refl _ W0).drew
 obtain ⟨b2, hb2⟩ : ∃ b2, b2 = Bson.bare x false false false false false := ⟨_, rfl⟩
 have HBARE : Hid (∀ wx, VIn wx Q (h + 1) x (.agg #[.int .i64 12, .int .i64 xn, .string xs, .slice ba bn bc, .slice fa fn fc, .slice la ln lc]) → Calls Tryz.prog 69 #[.agg #[.int .i64 12, .int .i64 xn, .string xs, .slice ba bn bc, .slice fa fn fc, .slice la ln lc], .bool false, .bool false, .bool false, .bool false, .bool false] wx fun e w' => e = .returned (.bool b2) ∧ Below wx.heap.size wx w') := fun wx hx => by rw [hb2]; exact bare_some0 Q (h + 1) x _ wx hx
 clear hb2
 go_enter Tryz.func52, Tryz.ntmps52
 go_wp2_with fail
 clear hW
 go_at_call 69
 refine (HBARE.out W0 HV0.out).mono ?_
 rintro e w2 ⟨rfl, hb2⟩
 have HB2 : Hid (Below W0.heap.size W0 w2) := hb2
 clear hb2
 go_wp2_with fail
 refine bodyPost_ret (v := .tuple #[.slice none 0 0, .bool b2]) (by simp [results, Tryz.results52, go_sem]) rfl ?_
 exact ⟨_, b2, 0, rfl, BytesAt.none _ _, fun _ => by omega, HB0.out.trans (HB2.out.mono HB0.out.size)⟩
theorem own_id (Q : Nat → Prop) (h : Nat) (x : Val) (u : Value) (w : World) (d : Int) (hk : x.kind = 9) (hv : VIn w Q (h + 1) x u) :
  Calls Tryz.prog 52 #[u, .int .i64 d] w (OwnPost Q w) := by
 obtain ⟨xk, xn, xs, ba, fa, la, bn, bc, fn, fc, ln, lc, rfl, hxk, hxn, hxs, hbn, hfn, hln, hL, hF, hI⟩ := hv.letters
 obtain rfl : xk = 9 := by rw [hxk, hk]
 have HV0 : Hid (VIn (w.alloc (.cells #[.int .i64 9, .int .i64 xn, .string xs, .slice ba bn bc, .slice fa fn fc, .slice la ln lc] 35)) Q (h + 1) x (.agg #[.int .i64 9, .int .i64 xn, .string xs, .slice ba bn bc, .slice fa fn fc, .slice la ln lc])) := VIn.keep ((Below.refl _ w).alloc (Nat.le_refl _) _) hv
 have HB0 : Hid (Below w.heap.size w (w.alloc (.cells #[.int .i64 9, .int .i64 xn, .string xs, .slice ba bn bc, .slice fa fn fc, .slice la ln lc] 35))) := (Below.refl _ w).alloc (Nat.le_refl _) _
 have hS := SixIs.new w (.int .i64 9) (.int .i64 xn) (.string xs) (.slice ba bn bc) (.slice fa fn fc) (.slice la ln lc) 35
 have HS0 := Lib.hid hS
 have HY : Hid (BytesAt w Q (.slice ba bn bc) bn) := hv.bytes_at.1
 clear hv hxk hk hS hxn hxs hbn hfn hln hL hF hI
 generalize hW : w.alloc (.cells #[.int .i64 9, .int .i64 xn, .string xs, .slice ba bn bc, .slice fa fn fc, .slice la ln lc] 35) = W0 at *
 obtain ⟨e0, e1, e2, e3, e4, e5⟩ := HS0.out
 have hf : W0.cell? ⟨w.heap.size, 0, none⟩ = some (.int .i64 9) ∧ W0.cell? ⟨w.heap.size, 1, none⟩ = some (.int .i64 xn) ∧ W0.cell? ⟨w.heap.size, 2, none⟩ = some (.string xs) ∧ W0.cell? ⟨w.heap.size, 3, none⟩ = some (.slice ba bn bc) ∧ W0.cell? ⟨w.heap.size, 4, none⟩ = some (.slice fa fn fc) ∧ W0.cell? ⟨w.heap.size, 5, none⟩ = some (.slice la ln lc) := HS0.out
 have HD : Hid (Below W0.heap.size W0 W0.drew) := (Below.refl _ W0).drew
 obtain ⟨b2, hb2⟩ : ∃ b2, b2 = Bson.bare x false false true false false := ⟨_, rfl⟩
 have HBARE : Hid (∀ wx, VIn wx Q (h + 1) x (.agg #[.int .i64 9, .int .i64 xn, .string xs, .slice ba bn bc, .slice fa fn fc, .slice la ln lc]) → Calls Tryz.prog 69 #[.agg #[.int .i64 9, .int .i64 xn, .string xs, .slice ba bn bc, .slice fa fn fc, .slice la ln lc], .bool false, .bool false, .bool true, .bool false, .bool false] wx fun e w' => e = .returned (.bool b2) ∧ Below wx.heap.size wx w') := fun wx hx => by rw [hb2]; exact bare_some3 Q (h + 1) x _ wx hx
 clear hb2
 cases b2
 ·go_enter Tryz.func52, Tryz.ntmps52
  go_wp2_with fail
  clear hW
  refine wp_region_held_drew (S := fun W => W.cell? ⟨w.heap.size, 0, none⟩ = some (.int .i64 9) ∧ W.cell? ⟨w.heap.size, 1, none⟩ = some (.int .i64 xn) ∧ W.cell? ⟨w.heap.size, 2, none⟩ = some (.string xs) ∧ W.cell? ⟨w.heap.size, 3, none⟩ = some (.slice ba bn bc) ∧ W.cell? ⟨w.heap.size, 4, none⟩ = some (.slice fa fn fc) ∧ W.cell? ⟨w.heap.size, 5, none⟩ = some (.slice la ln lc)) (by kernel_rfl) (by exact hf) (fun hHeld => ?_)
  refine wpAnyH_take (i := 0) (v := ?_) rfl (by kernel_rfl) (by kernel_rfl) (by kernel_rfl) (fun _ _ _ h => h) (Or.inl ⟨by kernel_rfl, ?_⟩) (by assumption) ?_
  rotate_left
  ·intro wS hSw
   (try dsimp only at hSw)
   go_simp
   try (with_reducible rfl)
  try simp only [zA, zC, Act.put, zD, zE, zF]
  refine wpAnyH_take (i := 1) (v := ?_) rfl (by kernel_rfl) (by kernel_rfl) (by kernel_rfl) (fun _ _ _ h => h) (Or.inl ⟨by kernel_rfl, ?_⟩) (by assumption) ?_
  rotate_left
  ·intro wS hSw
   (try dsimp only at hSw)
   go_simp
   try (with_reducible rfl)
  try simp only [zA, zB, zC, Act.put, zD, zE, zF]
  refine wpAnyH_take (i := 2) (v := ?_) rfl (by kernel_rfl) (by kernel_rfl) (by kernel_rfl) (fun _ _ _ h => h) (Or.inl ⟨by kernel_rfl, ?_⟩) (by assumption) ?_
  rotate_left
  ·intro wS hSw
   (try dsimp only at hSw)
   go_simp
   try (with_reducible rfl)
  try simp only [zA, zB, zC, Act.put, zD, zE, zF]
  refine wpAnyH_ready (rs := [3]) (by kernel_rfl) (by simp) ?_
  refine AllReadyH.cons rfl (fun K hK => ?_) AllReadyH.nil
  go_simp
  go_at_call 69
  refine (HBARE.out W0.drew (VIn.keep HD.out HV0.out)).mono ?_
  rintro e w2 ⟨rfl, hb2⟩
  have HB2 : Hid (Below W0.heap.size W0 w2) := HD.out.trans hb2
  have hf2 := HS0.out.keep HB2.out
  unfold SixIs at hf2
  clear hb2
  refine hK.out _ _ (by exact hf2) (fun hHeld => ?_)
  clear hK K
  try simp only [zA, zB, zC, Act.put, zD, zE, zF]
  refine wpAnyH_take (i := 4) (v := ?_) rfl (by kernel_rfl) (by kernel_rfl) (by kernel_rfl) (fun _ _ _ h => h) (Or.inl ⟨by kernel_rfl, ?_⟩) (by assumption) ?_
  rotate_left
  ·intro wS hSw
   (try dsimp only at hSw)
   go_simp
   try (with_reducible rfl)
  try simp only [zA, zB, zC, Act.put, zD, zE, zF]
  refine wpAnyH_take (i := 5) (v := undef) rfl (by kernel_rfl) (by kernel_rfl) (by kernel_rfl) (fun _ _ _ h => h) (Or.inr ⟨by kernel_rfl, rfl⟩) (by assumption) ?_
  try simp only [zA, zB, zC, Act.put, zD, zE, zF]
  refine wpAnyH_take (i := 6) (v := undef) rfl (by kernel_rfl) (by kernel_rfl) (by kernel_rfl) (fun _ _ _ h => h) (Or.inr ⟨by kernel_rfl, rfl⟩) (by assumption) ?_
  try simp only [zA, zB, zC, Act.put, zD, zE, zF]
  refine wpAnyH_take (i := 7) (v := undef) rfl (by kernel_rfl) (by kernel_rfl) (by kernel_rfl) (fun _ _ _ h => h) (Or.inr ⟨by kernel_rfl, rfl⟩) (by assumption) ?_
  try simp only [zA, zB, zC, Act.put, zD, zE, zF]
  refine wpAnyH_take (i := 8) (v := undef) rfl (by kernel_rfl) (by kernel_rfl) (by kernel_rfl) (fun _ _ _ h => h) (Or.inr ⟨by kernel_rfl, rfl⟩) (by assumption) ?_
  try simp only [zA, zB, zC, Act.put, zD, zE, zF]
  refine wpAnyH_take (i := 9) (v := ?_) rfl (by kernel_rfl) (by kernel_rfl) (by kernel_rfl) (fun _ _ _ h => h) (Or.inl ⟨by kernel_rfl, ?_⟩) (by assumption) ?_
  rotate_left
  ·intro wS hSw
   (try dsimp only at hSw)
   go_simp
   try (with_reducible rfl)
  try simp only [zA, zB, zC, Act.put, zD, zE, zF]
  refine wpAnyH_take (i := 10) (v := ?_) rfl (by kernel_rfl) (by kernel_rfl) (by kernel_rfl) (fun _ _ _ h => h) (Or.inl ⟨by kernel_rfl, ?_⟩) (by assumption) ?_
  rotate_left
  ·intro wS hSw
   (try dsimp only at hSw)
   go_simp
   try (with_reducible rfl)
  try simp only [zA, zB, zC, Act.put, zD, zE, zF]
  refine wpAnyH_take (i := 11) (v := ?_) rfl (by kernel_rfl) (by kernel_rfl) (by kernel_rfl) (fun _ _ _ h => h) (Or.inl ⟨by kernel_rfl, ?_⟩) (by assumption) ?_
  rotate_left
  ·intro wS hSw
   (try dsimp only at hSw)
   go_simp
   try (with_reducible rfl)
  try simp only [zA, zB, zC, Act.put, zD, zE, zF]
  refine wpAnyH_done (by kernel_rfl) ?_ _
  go_wp2_with fail
  refine bodyPost_ret (v := .tuple #[.slice ba bn bc, .bool _]) (by simp [results, Tryz.results52, go_sem]; rfl) rfl ?_
  exact ⟨_, _, bn, rfl, (HY.out.keep (HB0.out.trans (HB2.out.mono HB0.out.size))).mono (fun g hg => .inl hg), (fun hb => by cases hb), HB0.out.trans (HB2.out.mono HB0.out.size)⟩
 ·go_enter Tryz.func52, Tryz.ntmps52
  go_wp2_with fail
  clear hW
  refine wp_region_held_drew (S := fun W => W.cell? ⟨w.heap.size, 0, none⟩ = some (.int .i64 9) ∧ W.cell? ⟨w.heap.size, 1, none⟩ = some (.int .i64 xn) ∧ W.cell? ⟨w.heap.size, 2, none⟩ = some (.string xs) ∧ W.cell? ⟨w.heap.size, 3, none⟩ = some (.slice ba bn bc) ∧ W.cell? ⟨w.heap.size, 4, none⟩ = some (.slice fa fn fc) ∧ W.cell? ⟨w.heap.size, 5, none⟩ = some (.slice la ln lc)) (by kernel_rfl) (by exact hf) (fun hHeld => ?_)
  refine wpAnyH_take (i := 0) (v := ?_) rfl (by kernel_rfl) (by kernel_rfl) (by kernel_rfl) (fun _ _ _ h => h) (Or.inl ⟨by kernel_rfl, ?_⟩) (by assumption) ?_
  rotate_left
  ·intro wS hSw
   (try dsimp only at hSw)
   go_simp
   try (with_reducible rfl)
  try simp only [zA, zC, Act.put, zD, zE, zF]
  refine wpAnyH_take (i := 1) (v := ?_) rfl (by kernel_rfl) (by kernel_rfl) (by kernel_rfl) (fun _ _ _ h => h) (Or.inl ⟨by kernel_rfl, ?_⟩) (by assumption) ?_
  rotate_left
  ·intro wS hSw
   (try dsimp only at hSw)
   go_simp
   try (with_reducible rfl)
  try simp only [zA, zB, zC, Act.put, zD, zE, zF]
  refine wpAnyH_take (i := 2) (v := ?_) rfl (by kernel_rfl) (by kernel_rfl) (by kernel_rfl) (fun _ _ _ h => h) (Or.inl ⟨by kernel_rfl, ?_⟩) (by assumption) ?_
  rotate_left
  ·intro wS hSw
   (try dsimp only at hSw)
   go_simp
   try (with_reducible rfl)
  try simp only [zA, zB, zC, Act.put, zD, zE, zF]
  refine wpAnyH_ready (rs := [3]) (by kernel_rfl) (by simp) ?_
  refine AllReadyH.cons rfl (fun K hK => ?_) AllReadyH.nil
  go_simp
  go_at_call 69
  refine (HBARE.out W0.drew (VIn.keep HD.out HV0.out)).mono ?_
  rintro e w2 ⟨rfl, hb2⟩
  have HB2 : Hid (Below W0.heap.size W0 w2) := HD.out.trans hb2
  have hf2 := HS0.out.keep HB2.out
  unfold SixIs at hf2
  clear hb2
  refine hK.out _ _ (by exact hf2) (fun hHeld => ?_)
  clear hK K
  try simp only [zA, zB, zC, Act.put, zD, zE, zF]
  refine wpAnyH_take (i := 4) (v := ?_) rfl (by kernel_rfl) (by kernel_rfl) (by kernel_rfl) (fun _ _ _ h => h) (Or.inl ⟨by kernel_rfl, ?_⟩) (by assumption) ?_
  rotate_left
  ·intro wS hSw
   (try dsimp only at hSw)
   go_simp
   try (with_reducible rfl)
  try simp only [zA, zB, zC, Act.put, zD, zE, zF]
  refine wpAnyH_take (i := 5) (v := ?_) rfl (by kernel_rfl) (by kernel_rfl) (by kernel_rfl) (fun _ _ _ h => h) (Or.inl ⟨by kernel_rfl, ?_⟩) (by assumption) ?_
  rotate_left
  ·intro wS hSw
   (try dsimp only at hSw)
   go_simp
   try (with_reducible rfl)
  try simp only [zA, zB, zC, Act.put, zD, zE, zF]
  refine wpAnyH_take (i := 6) (v := ?_) rfl (by kernel_rfl) (by kernel_rfl) (by kernel_rfl) (fun _ _ _ h => h) (Or.inl ⟨by kernel_rfl, ?_⟩) (by assumption) ?_
  rotate_left
  ·intro wS hSw
   (try dsimp only at hSw)
   go_simp
   try (with_reducible rfl)
  try simp only [zA, zB, zC, Act.put, zD, zE, zF]
  refine wpAnyH_take (i := 7) (v := ?_) rfl (by kernel_rfl) (by kernel_rfl) (by kernel_rfl) (fun _ _ _ h => h) (Or.inl ⟨by kernel_rfl, ?_⟩) (by assumption) ?_
  rotate_left
  ·intro wS hSw
   (try dsimp only at hSw)
   go_simp
   try (with_reducible rfl)
  try simp only [zA, zB, zC, Act.put, zD, zE, zF]
  refine wpAnyH_take (i := 8) (v := ?_) rfl (by kernel_rfl) (by kernel_rfl) (by kernel_rfl) (fun _ _ _ h => h) (Or.inl ⟨by kernel_rfl, ?_⟩) (by assumption) ?_
  rotate_left
  ·intro wS hSw
   (try dsimp only at hSw)
   go_simp
   try (with_reducible rfl)
  try simp only [zA, zB, zC, Act.put, zD, zE, zF]
  refine wpAnyH_take (i := 9) (v := ?_) rfl (by kernel_rfl) (by kernel_rfl) (by kernel_rfl) (fun _ _ _ h => h) (Or.inl ⟨by kernel_rfl, ?_⟩) (by assumption) ?_
  rotate_left
  ·intro wS hSw
   (try dsimp only at hSw)
   go_simp
   try (with_reducible rfl)
  try simp only [zA, zB, zC, Act.put, zD, zE, zF]
  refine wpAnyH_take (i := 10) (v := ?_) rfl (by kernel_rfl) (by kernel_rfl) (by kernel_rfl) (fun _ _ _ h => h) (Or.inl ⟨by kernel_rfl, ?_⟩) (by assumption) ?_
  rotate_left
  ·intro wS hSw
   (try dsimp only at hSw)
   go_simp
   try (with_reducible rfl)
  try simp only [zA, zB, zC, Act.put, zD, zE, zF]
  refine wpAnyH_take (i := 11) (v := ?_) rfl (by kernel_rfl) (by kernel_rfl) (by kernel_rfl) (fun _ _ _ h => h) (Or.inl ⟨by kernel_rfl, ?_⟩) (by assumption) ?_
  rotate_left
  ·intro wS hSw
   (try dsimp only at hSw)
   go_simp
   try (with_reducible rfl)
  try simp only [zA, zB, zC, Act.put, zD, zE, zF]
  refine wpAnyH_done (by kernel_rfl) ?_ _
  go_wp2_with fail
  refine bodyPost_ret (v := .tuple #[.slice ba bn bc, .bool _]) (by simp [results, Tryz.results52, go_sem]; rfl) rfl ?_
  exact ⟨_, _, bn, rfl, (HY.out.keep (HB0.out.trans (HB2.out.mono HB0.out.size))).mono (fun g hg => .inl hg), (fun hb => by have h12 : (bn : Int) = 12 := (by simpa using hb); omega), HB0.out.trans (HB2.out.mono HB0.out.size)⟩
theorem own_other (Q : Nat → Prop) (h : Nat) (x : Val) (u : Value) (w : World) (d : Int) (hk : ∀ c : Int, 1 ≤ c → c ≤ 12 → x.kind ≠ c) (hv : VIn w Q (h + 1) x u) :
  Calls Tryz.prog 52 #[u, .int .i64 d] w fun e w' => ∃ v n, e = .returned (.tuple #[v, .bool false]) ∧ BytesAt w' (fun g => Q g ∨ w.heap.size ≤ g) v n ∧ Below w.heap.size w w' := by
 obtain ⟨xk, xn, xs, ba, fa, la, bn, bc, fn, fc, ln, lc, rfl, hxk, hxn, hxs, hbn, hfn, hln, hL, hF, hI⟩ := hv.letters
 have d1 : (xk == 1) = false := by rw [beq_eq_false_iff_ne, hxk]; exact hk 1 (by decide) (by decide)
 have d2 : (xk == 2) = false := by rw [beq_eq_false_iff_ne, hxk]; exact hk 2 (by decide) (by decide)
 have d3 : (xk == 3) = false := by rw [beq_eq_false_iff_ne, hxk]; exact hk 3 (by decide) (by decide)
 have d4 : (xk == 4) = false := by rw [beq_eq_false_iff_ne, hxk]; exact hk 4 (by decide) (by decide)
 have d5 : (xk == 5) = false := by rw [beq_eq_false_iff_ne, hxk]; exact hk 5 (by decide) (by decide)
 have d6 : (xk == 6) = false := by rw [beq_eq_false_iff_ne, hxk]; exact hk 6 (by decide) (by decide)
 have d7 : (xk == 7) = false := by rw [beq_eq_false_iff_ne, hxk]; exact hk 7 (by decide) (by decide)
 have d8 : (xk == 8) = false := by rw [beq_eq_false_iff_ne, hxk]; exact hk 8 (by decide) (by decide)
 have d9 : (xk == 9) = false := by rw [beq_eq_false_iff_ne, hxk]; exact hk 9 (by decide) (by decide)
 have d10 : (xk == 10) = false := by rw [beq_eq_false_iff_ne, hxk]; exact hk 10 (by decide) (by decide)
 have d11 : (xk == 11) = false := by rw [beq_eq_false_iff_ne, hxk]; exact hk 11 (by decide) (by decide)
 have d12 : (xk == 12) = false := by rw [beq_eq_false_iff_ne, hxk]; exact hk 12 (by decide) (by decide)
 have HV0 : Hid (VIn (w.alloc (.cells #[.int .i64 xk, .int .i64 xn, .string xs, .slice ba bn bc, .slice fa fn fc, .slice la ln lc] 35)) Q (h + 1) x (.agg #[.int .i64 xk, .int .i64 xn, .string xs, .slice ba bn bc, .slice fa fn fc, .slice la ln lc])) := VIn.keep ((Below.refl _ w).alloc (Nat.le_refl _) _) hv
 have HB0 : Hid (Below w.heap.size w (w.alloc (.cells #[.int .i64 xk, .int .i64 xn, .string xs, .slice ba bn bc, .slice fa fn fc, .slice la ln lc] 35))) := (Below.refl _ w).alloc (Nat.le_refl _) _
 have hS := SixIs.new w (.int .i64 xk) (.int .i64 xn) (.string xs) (.slice ba bn bc) (.slice fa fn fc) (.slice la ln lc) 35
 have HS0 := Lib.hid hS
 clear hv hxk hk hS hxn hxs hbn hfn hln hL hF hI
 generalize hW : w.alloc (.cells #[.int .i64 xk, .int .i64 xn, .string xs, .slice ba bn bc, .slice fa fn fc, .slice la ln lc] 35) = W0 at *
 obtain ⟨e0, e1, e2, e3, e4, e5⟩ := HS0.out
 have hf : W0.cell? ⟨w.heap.size, 0, none⟩ = some (.int .i64 xk) ∧ W0.cell? ⟨w.heap.size, 1, none⟩ = some (.int .i64 xn) ∧ W0.cell? ⟨w.heap.size, 2, none⟩ = some (.string xs) ∧ W0.cell? ⟨w.heap.size, 3, none⟩ = some (.slice ba bn bc) ∧ W0.cell? ⟨w.heap.size, 4, none⟩ = some (.slice fa fn fc) ∧ W0.cell? ⟨w.heap.size, 5, none⟩ = some (.slice la ln lc) := HS0.out
 have HD : Hid (Below W0.heap.size W0 W0.drew) := (Below.refl _ W0).drew
 go_enter Tryz.func52, Tryz.ntmps52
 go_wp2_with fail
 refine bodyPost_ret (v := .tuple #[.slice none 0 0, .bool false]) (by simp [results, Tryz.results52, go_sem]) rfl ?_
 exact ⟨_, 0, rfl, BytesAt.none _ _, HB0.out⟩
end Go.Proofs.YtngllchoiffniaaGreatDoor
end
