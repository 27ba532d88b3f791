/- RefOwnA. -/
import Derived.Deep.RegionHeld3
import Derived.Test.YtngllchoiffniaaGreatDoorMo3
import Derived.Test.YtngllchoiffniaaGreatDoorMo27
set_option maxRecDepth 100000
set_option maxHeartbeats 20000000
open List renaming getElem_toArray → zA, getElem_cons_succ → zB, getElem_cons_zero → zC, setIfInBounds_toArray → zD, set_cons_zero → zE, set_cons_succ → zF
section
namespace Go.Proofs.YtngllchoiffniaaGreatDoor
open Go.RowKit
open Seal
open Bson (Val)
theorem BytesAt.keep {w w' : World} {Q : Nat → Prop} {v : Value} {n : Nat} (h : BytesAt w Q v n) (hb : Below w.heap.size w w') : BytesAt w' Q v n := by
 obtain ⟨a, c, l, e, h1, h2, h3⟩ := h
 refine ⟨a, c, l, e, h1, h2, ?_⟩
 rcases h3 with h3 | ⟨g, o, e2, hq, hr⟩
 ·exact .inl h3
 ·exact .inr ⟨g, o, e2, hq, fun j hj => cell_keep hb (hr j hj)⟩
theorem BytesAt.mono {w : World} {Q Q' : Nat → Prop} {v : Value} {n : Nat} (h : BytesAt w Q v n) (hq : ∀ g, Q g → Q' g) : BytesAt w Q' v n := by
 obtain ⟨a, c, l, e, h1, h2, h3⟩ := h
 refine ⟨a, c, l, e, h1, h2, ?_⟩
 rcases h3 with h3 | ⟨g, o, e2, hg, hr⟩
 ·exact .inl h3
 ·exact .inr ⟨g, o, e2, hq g hg, hr⟩
theorem BytesAt.none (w : World) (Q : Nat → Prop) : BytesAt w Q (.slice none 0 0) 0 := ⟨Option.none, 0, [], rfl, rfl, fun c hc => (by cases hc), Or.inl rfl⟩
def OwnPost (Q : Nat → Prop) (w : World) (e : Ending) (w' : World) : Prop := ∃ v b n, e = .returned (.tuple #[v, .bool b]) ∧ BytesAt w' (fun g => Q g ∨ w.heap.size ≤ g) v n ∧ (b = true → n ≤ 70000) ∧ Below w.heap.size w w'
theorem own_i64 (Q : Nat → Prop) (h : Nat) (x : Val) (u : Value) (w : World) (d : Int) (hk : x.kind = 4) (hv : VIn w Q (h + 1) x u) :
  Calls Tryz.prog 52 #[u, .int .i64 d] w (OwnPost Q w) := by
 obtain ⟨xk, xn, xs, ba, fa, la, bn, bc, fn, fc, ln, lc, rfl, hxk, hxn, hxs, hbn, hfn, hln, hL, hF, hI⟩ := hv.letters
 obtain rfl : xk = 4 := by rw [hxk, hk]
 have HV0 : Hid (VIn (w.alloc (.cells #[.int .i64 4, .int .i64 xn, .string xs, .slice ba bn bc, .slice fa fn fc, .slice la ln lc] 35)) Q (h + 1) x (.agg #[.int .i64 4, .int .i64 xn, .string xs, .slice ba bn bc, .slice fa fn fc, .slice la ln lc])) := VIn.keep ((Below.refl _ w).alloc (Nat.le_refl _) _) hv
 have HB0 : Hid (Below w.heap.size w (w.alloc (.cells #[.int .i64 4, .int .i64 xn, .string xs, .slice ba bn bc, .slice fa fn fc, .slice la ln lc] 35))) := (Below.refl _ w).alloc (Nat.le_refl _) _
 have hS := SixIs.new w (.int .i64 4) (.int .i64 xn) (.string xs) (.slice ba bn bc) (.slice fa fn fc) (.slice la ln lc) 35
 have HS0 := Lib.hid hS
 clear hv hxk hk hS hxn hxs hbn hfn hln hL hF hI
 generalize hW : w.alloc (.cells #[.int .i64 4, .int .i64 xn, .string xs, .slice ba bn bc, .slice fa fn fc, .slice la ln lc] 35) = W0 at *
 obtain ⟨e0, e1, e2, e3, e4, e5⟩ := HS0.out
 have hf : W0.cell? ⟨w.heap.size, 0, none⟩ = some (.int .i64 4) ∧ W0.cell? ⟨w.heap.size, 1, none⟩ = some (.int .i64 xn) ∧ W0.cell? ⟨w.heap.size, 2, none⟩ = some (.string xs) ∧ W0.cell? ⟨w.heap.size, 3, none⟩ = some (.slice ba bn bc) ∧ W0.cell? ⟨w.heap.size, 4, none⟩ = some (.slice fa fn fc) ∧ W0.cell? ⟨w.heap.size, 5, none⟩ = some (.slice la ln lc) := HS0.out
 have HD : Hid (Below W0.heap.size W0 W0.drew) := (Below.refl _ W0).drew
 obtain ⟨b2, hb2⟩ : ∃ b2, b2 = Bson.bare x true false false false false := ⟨_, rfl⟩
 have HBARE : Hid (∀ wx, VIn wx Q (h + 1) x (.agg #[.int .i64 4, .int .i64 xn, .string xs, .slice ba bn bc, .slice fa fn fc, .slice la ln lc]) → Calls Tryz.prog 69 #[.agg #[.int .i64 4, .int .i64 xn, .string xs, .slice ba bn bc, .slice fa fn fc, .slice la ln lc], .bool true, .bool false, .bool false, .bool false, .bool false] wx fun e w' => e = .returned (.bool b2) ∧ Below wx.heap.size wx w') := fun wx hx => by rw [hb2]; exact bare_some1 Q (h + 1) x _ wx hx
 clear hb2
 go_enter Tryz.func52, Tryz.ntmps52
 go_wp2_with fail
 clear hW
 first | (go_region_held3 (fun W => W.cell? ⟨w.heap.size, 0, none⟩ = some (.int .i64 4) ∧ W.cell? ⟨w.heap.size, 1, none⟩ = some (.int .i64 xn) ∧ W.cell? ⟨w.heap.size, 2, none⟩ = some (.string xs) ∧ W.cell? ⟨w.heap.size, 3, none⟩ = some (.slice ba bn bc) ∧ W.cell? ⟨w.heap.size, 4, none⟩ = some (.slice fa fn fc) ∧ W.cell? ⟨w.heap.size, 5, none⟩ = some (.slice la ln lc))
  (first | with_reducible exact hf | with_reducible exact hf1 | with_reducible exact hf2 | go_keep)
  ((first
   | (go_at_call 70; refine (num_some xn 8 W0.drew (by decide)).mono ?_; rintro e w1 ⟨v1, rfl, hv1, hb1⟩; have HB1 : Hid (Below W0.heap.size W0 w1) := HD.out.trans hb1; have HV1 : Hid (BytesAt w1 (fun g => W0.heap.size ≤ g) v1 8) := hv1; have hf1 := HS0.out.keep HB1.out; unfold SixIs at hf1; clear hv1 hb1)
   | (go_at_call 69; refine (HBARE.out w1 (VIn.keep HB1.out HV0.out)).mono ?_; rintro e w2 ⟨rfl, hb2⟩; have HB2 : Hid (Below W0.heap.size W0 w2) := HB1.out.trans (hb2.mono HB1.out.size); have HV2 : Hid (BytesAt w2 (fun g => W0.heap.size ≤ g) v1 8) := HV1.out.keep hb2; have hf2 := HS0.out.keep HB2.out; unfold SixIs at hf2; clear hb2)))) | fail
 go_wp2_with fail
 refine bodyPost_ret (v := .tuple #[v1, .bool b2]) (by simp [results, Tryz.results52, go_sem]) rfl ?_
 exact ⟨v1, b2, 8, rfl, HV2.out.mono (fun g hg => .inr (Nat.le_trans HB0.out.size hg)), fun _ => by omega, HB0.out.trans (HB2.out.mono HB0.out.size)⟩
theorem own_date (Q : Nat → Prop) (h : Nat) (x : Val) (u : Value) (w : World) (d : Int) (hk : x.kind = 11) (hv : VIn w Q (h + 1) x u) :
  Calls Tryz.prog 52 #[u, .int .i64 d] w (OwnPost Q w) := by
 obtain ⟨xk, xn, xs, ba, fa, la, bn, bc, fn, fc, ln, lc, rfl, hxk, hxn, hxs, hbn, hfn, hln, hL, hF, hI⟩ := hv.letters
 obtain rfl : xk = 11 := by rw [hxk, hk]
 have HV0 : Hid (VIn (w.alloc (.cells #[.int .i64 11, .int .i64 xn, .string xs, .slice ba bn bc, .slice fa fn fc, .slice la ln lc] 35)) Q (h + 1) x (.agg #[.int .i64 11, .int .i64 xn, .string xs, .slice ba bn bc, .slice fa fn fc, .slice la ln lc])) := VIn.keep ((Below.refl _ w).alloc (Nat.le_refl _) _) hv
 have HB0 : Hid (Below w.heap.size w (w.alloc (.cells #[.int .i64 11, .int .i64 xn, .string xs, .slice ba bn bc, .slice fa fn fc, .slice la ln lc] 35))) := (Below.refl _ w).alloc (Nat.le_refl _) _
 have hS := SixIs.new w (.int .i64 11) (.int .i64 xn) (.string xs) (.slice ba bn bc) (.slice fa fn fc) (.slice la ln lc) 35
 have HS0 := Lib.hid hS
 clear hv hxk hk hS hxn hxs hbn hfn hln hL hF hI
 generalize hW : w.alloc (.cells #[.int .i64 11, .int .i64 xn, .string xs, .slice ba bn bc, .slice fa fn fc, .slice la ln lc] 35) = W0 at *
 obtain ⟨e0, e1, e2, e3, e4, e5⟩ := HS0.out
 have hf : W0.cell? ⟨w.heap.size, 0, none⟩ = some (.int .i64 11) ∧ W0.cell? ⟨w.heap.size, 1, none⟩ = some (.int .i64 xn) ∧ W0.cell? ⟨w.heap.size, 2, none⟩ = some (.string xs) ∧ W0.cell? ⟨w.heap.size, 3, none⟩ = some (.slice ba bn bc) ∧ W0.cell? ⟨w.heap.size, 4, none⟩ = some (.slice fa fn fc) ∧ W0.cell? ⟨w.heap.size, 5, none⟩ = some (.slice la ln lc) := HS0.out
 have HD : Hid (Below W0.heap.size W0 W0.drew) := (Below.refl _ W0).drew
 obtain ⟨b2, hb2⟩ : ∃ b2, b2 = Bson.bare x true false false false false := ⟨_, rfl⟩
 have HBARE : Hid (∀ wx, VIn wx Q (h + 1) x (.agg #[.int .i64 11, .int .i64 xn, .string xs, .slice ba bn bc, .slice fa fn fc, .slice la ln lc]) → Calls Tryz.prog 69 #[.agg #[.int .i64 11, .int .i64 xn, .string xs, .slice ba bn bc, .slice fa fn fc, .slice la ln lc], .bool true, .bool false, .bool false, .bool false, .bool false] wx fun e w' => e = .returned (.bool b2) ∧ Below wx.heap.size wx w') := fun wx hx => by rw [hb2]; exact bare_some1 Q (h + 1) x _ wx hx
 clear hb2
 go_enter Tryz.func52, Tryz.ntmps52
 go_wp2_with fail
 clear hW
 first | (go_region_held3 (fun W => W.cell? ⟨w.heap.size, 0, none⟩ = some (.int .i64 11) ∧ W.cell? ⟨w.heap.size, 1, none⟩ = some (.int .i64 xn) ∧ W.cell? ⟨w.heap.size, 2, none⟩ = some (.string xs) ∧ W.cell? ⟨w.heap.size, 3, none⟩ = some (.slice ba bn bc) ∧ W.cell? ⟨w.heap.size, 4, none⟩ = some (.slice fa fn fc) ∧ W.cell? ⟨w.heap.size, 5, none⟩ = some (.slice la ln lc))
  (first | with_reducible exact hf | with_reducible exact hf1 | with_reducible exact hf2 | go_keep)
  ((first
   | (go_at_call 70; refine (num_some xn 8 W0.drew (by decide)).mono ?_; rintro e w1 ⟨v1, rfl, hv1, hb1⟩; have HB1 : Hid (Below W0.heap.size W0 w1) := HD.out.trans hb1; have HV1 : Hid (BytesAt w1 (fun g => W0.heap.size ≤ g) v1 8) := hv1; have hf1 := HS0.out.keep HB1.out; unfold SixIs at hf1; clear hv1 hb1)
   | (go_at_call 69; refine (HBARE.out w1 (VIn.keep HB1.out HV0.out)).mono ?_; rintro e w2 ⟨rfl, hb2⟩; have HB2 : Hid (Below W0.heap.size W0 w2) := HB1.out.trans (hb2.mono HB1.out.size); have HV2 : Hid (BytesAt w2 (fun g => W0.heap.size ≤ g) v1 8) := HV1.out.keep hb2; have hf2 := HS0.out.keep HB2.out; unfold SixIs at hf2; clear hb2)))) | fail
 go_wp2_with fail
 refine bodyPost_ret (v := .tuple #[v1, .bool b2]) (by simp [results, Tryz.results52, go_sem]) rfl ?_
 exact ⟨v1, b2, 8, rfl, HV2.out.mono (fun g hg => .inr (Nat.le_trans HB0.out.size hg)), fun _ => by omega, HB0.out.trans (HB2.out.mono HB0.out.size)⟩
theorem own_i32 (Q : Nat → Prop) (h : Nat) (x : Val) (u : Value) (w : World) (d : Int) (hk : x.kind = 3) (hv : VIn w Q (h + 1) x u) :
  Calls Tryz.prog 52 #[u, .int .i64 d] w (OwnPost Q w) := by
 obtain ⟨xk, xn, xs, ba, fa, la, bn, bc, fn, fc, ln, lc, rfl, hxk, hxn, hxs, hbn, hfn, hln, hL, hF, hI⟩ := hv.letters
 obtain rfl : xk = 3 := by rw [hxk, hk]
 have HV0 : Hid (VIn (w.alloc (.cells #[.int .i64 3, .int .i64 xn, .string xs, .slice ba bn bc, .slice fa fn fc, .slice la ln lc] 35)) Q (h + 1) x (.agg #[.int .i64 3, .int .i64 xn, .string xs, .slice ba bn bc, .slice fa fn fc, .slice la ln lc])) := VIn.keep ((Below.refl _ w).alloc (Nat.le_refl _) _) hv
 have HB0 : Hid (Below w.heap.size w (w.alloc (.cells #[.int .i64 3, .int .i64 xn, .string xs, .slice ba bn bc, .slice fa fn fc, .slice la ln lc] 35))) := (Below.refl _ w).alloc (Nat.le_refl _) _
 have hS := SixIs.new w (.int .i64 3) (.int .i64 xn) (.string xs) (.slice ba bn bc) (.slice fa fn fc) (.slice la ln lc) 35
 have HS0 := Lib.hid hS
 clear hv hxk hk hS hxn hxs hbn hfn hln hL hF hI
 generalize hW : w.alloc (.cells #[.int .i64 3, .int .i64 xn, .string xs, .slice ba bn bc, .slice fa fn fc, .slice la ln lc] 35) = W0 at *
 obtain ⟨e0, e1, e2, e3, e4, e5⟩ := HS0.out
 have hf : W0.cell? ⟨w.heap.size, 0, none⟩ = some (.int .i64 3) ∧ W0.cell? ⟨w.heap.size, 1, none⟩ = some (.int .i64 xn) ∧ W0.cell? ⟨w.heap.size, 2, none⟩ = some (.string xs) ∧ W0.cell? ⟨w.heap.size, 3, none⟩ = some (.slice ba bn bc) ∧ W0.cell? ⟨w.heap.size, 4, none⟩ = some (.slice fa fn fc) ∧ W0.cell? ⟨w.heap.size, 5, none⟩ = some (.slice la ln lc) := HS0.out
 have HD : Hid (Below W0.heap.size W0 W0.drew) := (Below.refl _ W0).drew
 obtain ⟨b2, hb2⟩ : ∃ b2, b2 = Bson.bare x true false false false false := ⟨_, rfl⟩
 have HBARE : Hid (∀ wx, VIn wx Q (h + 1) x (.agg #[.int .i64 3, .int .i64 xn, .string xs, .slice ba bn bc, .slice fa fn fc, .slice la ln lc]) → Calls Tryz.prog 69 #[.agg #[.int .i64 3, .int .i64 xn, .string xs, .slice ba bn bc, .slice fa fn fc, .slice la ln lc], .bool true, .bool false, .bool false, .bool false, .bool false] wx fun e w' => e = .returned (.bool b2) ∧ Below wx.heap.size wx w') := fun wx hx => by rw [hb2]; exact bare_some1 Q (h + 1) x _ wx hx
 clear hb2
 cases b2
 ·go_enter Tryz.func52, Tryz.ntmps52
  go_wp2_with fail
  clear hW
  refine wp_region_held_drew (S := fun W => W.cell? ⟨w.heap.size, 0, none⟩ = some (.int .i64 3) ∧ W.cell? ⟨w.heap.size, 1, none⟩ = some (.int .i64 xn) ∧ W.cell? ⟨w.heap.size, 2, none⟩ = some (.string xs) ∧ W.cell? ⟨w.heap.size, 3, none⟩ = some (.slice ba bn bc) ∧ W.cell? ⟨w.heap.size, 4, none⟩ = some (.slice fa fn fc) ∧ W.cell? ⟨w.heap.size, 5, none⟩ = some (.slice la ln lc)) (by kernel_rfl) (by exact hf) (fun hHeld => ?_)
  refine wpAnyH_take (i := 0) (v := ?_) rfl (by kernel_rfl) (by kernel_rfl) (by kernel_rfl) (fun _ _ _ h => h) (Or.inl ⟨by kernel_rfl, ?_⟩) (by assumption) ?_
  rotate_left
  ·intro wS hSw
   (try dsimp only at hSw)
   go_simp
   try (with_reducible rfl)
  try simp only [zA, zC, Act.put, zD, zE, zF]
  refine wpAnyH_take (i := 1) (v := ?_) rfl (by kernel_rfl) (by kernel_rfl) (by kernel_rfl) (fun _ _ _ h => h) (Or.inl ⟨by kernel_rfl, ?_⟩) (by assumption) ?_
  rotate_left
  ·intro wS hSw
   (try dsimp only at hSw)
   go_simp
   try (with_reducible rfl)
  try simp only [zA, zB, zC, Act.put, zD, zE, zF]
  refine wpAnyH_take (i := 3) (v := ?_) rfl (by kernel_rfl) (by kernel_rfl) (by kernel_rfl) (fun _ _ _ h => h) (Or.inl ⟨by kernel_rfl, ?_⟩) (by assumption) ?_
  rotate_left
  ·intro wS hSw
   (try dsimp only at hSw)
   go_simp
   try (with_reducible rfl)
  try simp only [zA, zB, zC, Act.put, zD, zE, zF]
  refine wpAnyH_ready (rs := [2]) (by kernel_rfl) (by simp) ?_
  refine AllReadyH.cons rfl (fun K hK => ?_) AllReadyH.nil
  go_simp
  go_at_call 70
  refine (num_some xn 4 W0.drew (by decide)).mono ?_
  rintro e w1 ⟨v1, rfl, hv1, hb1⟩
  have HB1 : Hid (Below W0.heap.size W0 w1) := HD.out.trans hb1
  have HV1 : Hid (BytesAt w1 (fun g => W0.heap.size ≤ g) v1 4) := hv1
  have hf1 := HS0.out.keep HB1.out
  unfold SixIs at hf1
  clear hv1 hb1
  refine hK.out _ _ (by exact hf1) (fun hHeld => ?_)
  clear hK K
  try simp only [zA, zB, zC, Act.put, zD, zE, zF]
  refine wpAnyH_ready (rs := [4]) (by kernel_rfl) (by simp) ?_
  refine AllReadyH.cons rfl (fun K hK => ?_) AllReadyH.nil
  go_simp
  go_at_call 69
  refine (HBARE.out w1 (VIn.keep HB1.out HV0.out)).mono ?_
  rintro e w2 ⟨rfl, hb2⟩
  have HB2 : Hid (Below W0.heap.size W0 w2) := HB1.out.trans (hb2.mono HB1.out.size)
  have HV2 : Hid (BytesAt w2 (fun g => W0.heap.size ≤ g) v1 4) := HV1.out.keep hb2
  have hf2 := HS0.out.keep HB2.out
  unfold SixIs at hf2
  clear hb2
  refine hK.out _ _ (by exact hf2) (fun hHeld => ?_)
  clear hK K
  try simp only [zA, zB, zC, Act.put, zD, zE, zF]
  refine wpAnyH_take (i := 5) (v := ?_) rfl (by kernel_rfl) (by kernel_rfl) (by kernel_rfl) (fun _ _ _ h => h) (Or.inl ⟨by kernel_rfl, ?_⟩) (by assumption) ?_
  rotate_left
  ·intro wS hSw
   (try dsimp only at hSw)
   go_simp
   try (with_reducible rfl)
  try simp only [zA, zB, zC, Act.put, zD, zE, zF]
  refine wpAnyH_take (i := 6) (v := undef) rfl (by kernel_rfl) (by kernel_rfl) (by kernel_rfl) (fun _ _ _ h => h) (Or.inr ⟨by kernel_rfl, rfl⟩) (by assumption) ?_
  try simp only [zA, zB, zC, Act.put, zD, zE, zF]
  refine wpAnyH_take (i := 7) (v := undef) rfl (by kernel_rfl) (by kernel_rfl) (by kernel_rfl) (fun _ _ _ h => h) (Or.inr ⟨by kernel_rfl, rfl⟩) (by assumption) ?_
  try simp only [zA, zB, zC, Act.put, zD, zE, zF]
  refine wpAnyH_take (i := 8) (v := undef) rfl (by kernel_rfl) (by kernel_rfl) (by kernel_rfl) (fun _ _ _ h => h) (Or.inr ⟨by kernel_rfl, rfl⟩) (by assumption) ?_
  try simp only [zA, zB, zC, Act.put, zD, zE, zF]
  refine wpAnyH_take (i := 9) (v := ?_) rfl (by kernel_rfl) (by kernel_rfl) (by kernel_rfl) (fun _ _ _ h => h) (Or.inl ⟨by kernel_rfl, ?_⟩) (by assumption) ?_
  rotate_left
  ·intro wS hSw
   (try dsimp only at hSw)
   go_simp
   try (with_reducible rfl)
  try simp only [zA, zB, zC, Act.put, zD, zE, zF]
  refine wpAnyH_take (i := 10) (v := ?_) rfl (by kernel_rfl) (by kernel_rfl) (by kernel_rfl) (fun _ _ _ h => h) (Or.inl ⟨by kernel_rfl, ?_⟩) (by assumption) ?_
  rotate_left
  ·intro wS hSw
   (try dsimp only at hSw)
   go_simp
   try (with_reducible rfl)
  try simp only [zA, zB, zC, Act.put, zD, zE, zF]
  refine wpAnyH_take (i := 11) (v := undef) rfl (by kernel_rfl) (by kernel_rfl) (by kernel_rfl) (fun _ _ _ h => h) (Or.inr ⟨by kernel_rfl, rfl⟩) (by assumption) ?_
  try simp only [zA, zB, zC, Act.put, zD, zE, zF]
  refine wpAnyH_take (i := 12) (v := undef) rfl (by kernel_rfl) (by kernel_rfl) (by kernel_rfl) (fun _ _ _ h => h) (Or.inr ⟨by kernel_rfl, rfl⟩) (by assumption) ?_
  try simp only [zA, zB, zC, Act.put, zD, zE, zF]
  refine wpAnyH_take (i := 13) (v := undef) rfl (by kernel_rfl) (by kernel_rfl) (by kernel_rfl) (fun _ _ _ h => h) (Or.inr ⟨by kernel_rfl, rfl⟩) (by assumption) ?_
  try simp only [zA, zB, zC, Act.put, zD, zE, zF]
  refine wpAnyH_take (i := 14) (v := ?_) rfl (by kernel_rfl) (by kernel_rfl) (by kernel_rfl) (fun _ _ _ h => h) (Or.inl ⟨by kernel_rfl, ?_⟩) (by assumption) ?_
  rotate_left
  ·intro wS hSw
   (try dsimp only at hSw)
   go_simp
   try (with_reducible rfl)
  try simp only [zA, zB, zC, Act.put, zD, zE, zF]
  refine wpAnyH_take (i := 15) (v := ?_) rfl (by kernel_rfl) (by kernel_rfl) (by kernel_rfl) (fun _ _ _ h => h) (Or.inl ⟨by kernel_rfl, ?_⟩) (by assumption) ?_
  rotate_left
  ·intro wS hSw
   (try dsimp only at hSw)
   go_simp
   try (with_reducible rfl)
  try simp only [zA, zB, zC, Act.put, zD, zE, zF]
  refine wpAnyH_take (i := 16) (v := ?_) rfl (by kernel_rfl) (by kernel_rfl) (by kernel_rfl) (fun _ _ _ h => h) (Or.inl ⟨by kernel_rfl, ?_⟩) (by assumption) ?_
  rotate_left
  ·intro wS hSw
   (try dsimp only at hSw)
   go_simp
   try (with_reducible rfl)
  try simp only [zA, zB, zC, Act.put, zD, zE, zF]
  refine wpAnyH_done (by kernel_rfl) ?_ _
  go_wp2_with fail
  refine bodyPost_ret (v := .tuple #[v1, .bool _]) (by simp [results, Tryz.results52, go_sem]; rfl) rfl ?_
  exact ⟨v1, _, 4, rfl, HV2.out.mono (fun g hg => .inr (Nat.le_trans HB0.out.size hg)), fun _ => by omega, HB0.out.trans (HB2.out.mono HB0.out.size)⟩
 by_cases hl : -2147483648 ≤ xn
 ·have dl : decide (-2147483648 ≤ xn) = true := decide_eq_true hl
  by_cases hh : xn < 2147483648
  ·have dh : decide (xn < 2147483648) = true := decide_eq_true hh
   go_enter Tryz.func52, Tryz.ntmps52
   go_wp2_with fail
   clear hW
   refine wp_region_held_drew (S := fun W => W.cell? ⟨w.heap.size, 0, none⟩ = some (.int .i64 3) ∧ W.cell? ⟨w.heap.size, 1, none⟩ = some (.int .i64 xn) ∧ W.cell? ⟨w.heap.size, 2, none⟩ = some (.string xs) ∧ W.cell? ⟨w.heap.size, 3, none⟩ = some (.slice ba bn bc) ∧ W.cell? ⟨w.heap.size, 4, none⟩ = some (.slice fa fn fc) ∧ W.cell? ⟨w.heap.size, 5, none⟩ = some (.slice la ln lc)) (by kernel_rfl) (by exact hf) (fun hHeld => ?_)
   refine wpAnyH_take (i := 0) (v := ?_) rfl (by kernel_rfl) (by kernel_rfl) (by kernel_rfl) (fun _ _ _ h => h) (Or.inl ⟨by kernel_rfl, ?_⟩) (by assumption) ?_
   rotate_left
   ·intro wS hSw
    (try dsimp only at hSw)
    go_simp
    try (with_reducible rfl)
   try simp only [zA, zC, Act.put, zD, zE, zF]
   refine wpAnyH_take (i := 1) (v := ?_) rfl (by kernel_rfl) (by kernel_rfl) (by kernel_rfl) (fun _ _ _ h => h) (Or.inl ⟨by kernel_rfl, ?_⟩) (by assumption) ?_
   rotate_left
   ·intro wS hSw
    (try dsimp only at hSw)
    go_simp
    try (with_reducible rfl)
   try simp only [zA, zB, zC, Act.put, zD, zE, zF]
   refine wpAnyH_take (i := 3) (v := ?_) rfl (by kernel_rfl) (by kernel_rfl) (by kernel_rfl) (fun _ _ _ h => h) (Or.inl ⟨by kernel_rfl, ?_⟩) (by assumption) ?_
   rotate_left
   ·intro wS hSw
    (try dsimp only at hSw)
    go_simp
    try (with_reducible rfl)
   try simp only [zA, zB, zC, Act.put, zD, zE, zF]
   refine wpAnyH_ready (rs := [2]) (by kernel_rfl) (by simp) ?_
   refine AllReadyH.cons rfl (fun K hK => ?_) AllReadyH.nil
   go_simp
   go_at_call 70
   refine (num_some xn 4 W0.drew (by decide)).mono ?_
   rintro e w1 ⟨v1, rfl, hv1, hb1⟩
   have HB1 : Hid (Below W0.heap.size W0 w1) := HD.out.trans hb1
   have HV1 : Hid (BytesAt w1 (fun g => W0.heap.size ≤ g) v1 4) := hv1
   have hf1 := HS0.out.keep HB1.out
   unfold SixIs at hf1
   clear hv1 hb1
   refine hK.out _ _ (by exact hf1) (fun hHeld => ?_)
   clear hK K
   try simp only [zA, zB, zC, Act.put, zD, zE, zF]
   refine wpAnyH_ready (rs := [4]) (by kernel_rfl) (by simp) ?_
   refine AllReadyH.cons rfl (fun K hK => ?_) AllReadyH.nil
   go_simp
   go_at_call 69
   refine (HBARE.out w1 (VIn.keep HB1.out HV0.out)).mono ?_
   rintro e w2 ⟨rfl, hb2⟩
   have HB2 : Hid (Below W0.heap.size W0 w2) := HB1.out.trans (hb2.mono HB1.out.size)
   have HV2 : Hid (BytesAt w2 (fun g => W0.heap.size ≤ g) v1 4) := HV1.out.keep hb2
   have hf2 := HS0.out.keep HB2.out
   unfold SixIs at hf2
   clear hb2
   refine hK.out _ _ (by exact hf2) (fun hHeld => ?_)
   clear hK K
   try simp only [zA, zB, zC, Act.put, zD, zE, zF]
   refine wpAnyH_take (i := 5) (v := ?_) rfl (by kernel_rfl) (by kernel_rfl) (by kernel_rfl) (fun _ _ _ h => h) (Or.inl ⟨by kernel_rfl, ?_⟩) (by assumption) ?_
   rotate_left
   ·intro wS hSw
    (try dsimp only at hSw)
    go_simp
    try (with_reducible rfl)
   try simp only [zA, zB, zC, Act.put, zD, zE, zF]
   refine wpAnyH_take (i := 6) (v := ?_) rfl (by kernel_rfl) (by kernel_rfl) (by kernel_rfl) (fun _ _ _ h => h) (Or.inl ⟨by kernel_rfl, ?_⟩) (by assumption) ?_
   rotate_left
   ·intro wS hSw
    (try dsimp only at hSw)
    go_simp
    try (with_reducible rfl)
   try simp only [zA, zB, zC, Act.put, zD, zE, zF]
   refine wpAnyH_take (i := 7) (v := ?_) rfl (by kernel_rfl) (by kernel_rfl) (by kernel_rfl) (fun _ _ _ h => h) (Or.inl ⟨by kernel_rfl, ?_⟩) (by assumption) ?_
   rotate_left
   ·intro wS hSw
    (try dsimp only at hSw)
    go_simp
    try (with_reducible rfl)
   try simp only [zA, zB, zC, Act.put, zD, zE, zF]
   refine wpAnyH_take (i := 8) (v := ?_) rfl (by kernel_rfl) (by kernel_rfl) (by kernel_rfl) (fun _ _ _ h => h) (Or.inl ⟨by kernel_rfl, ?_⟩) (by assumption) ?_
   rotate_left
   ·intro wS hSw
    (try dsimp only at hSw)
    go_simp
    try (with_reducible rfl)
   try simp only [zA, zB, zC, Act.put, zD, zE, zF]
   refine wpAnyH_take (i := 9) (v := ?_) rfl (by kernel_rfl) (by kernel_rfl) (by kernel_rfl) (fun _ _ _ h => h) (Or.inl ⟨by kernel_rfl, ?_⟩) (by assumption) ?_
   rotate_left
   ·intro wS hSw
    (try dsimp only at hSw)
    go_simp
    try (with_reducible rfl)
   try simp only [zA, zB, zC, Act.put, zD, zE, zF]
   refine wpAnyH_take (i := 10) (v := ?_) rfl (by kernel_rfl) (by kernel_rfl) (by kernel_rfl) (fun _ _ _ h => h) (Or.inl ⟨by kernel_rfl, ?_⟩) (by assumption) ?_
   rotate_left
   ·intro wS hSw
    (try dsimp only at hSw)
    go_simp
    try (with_reducible rfl)
   try simp only [zA, zB, zC, Act.put, zD, zE, zF]
   refine wpAnyH_take (i := 11) (v := ?_) rfl (by kernel_rfl) (by kernel_rfl) (by kernel_rfl) (fun _ _ _ h => h) (Or.inl ⟨by kernel_rfl, ?_⟩) (by assumption) ?_
   rotate_left
   ·intro wS hSw
    (try dsimp only at hSw)
    go_simp
    try (with_reducible rfl)
   try simp only [zA, zB, zC, Act.put, zD, zE, zF]
   refine wpAnyH_take (i := 12) (v := ?_) rfl (by kernel_rfl) (by kernel_rfl) (by kernel_rfl) (fun _ _ _ h => h) (Or.inl ⟨by kernel_rfl, ?_⟩) (by assumption) ?_
   rotate_left
   ·intro wS hSw
    (try dsimp only at hSw)
    go_simp
    try (with_reducible rfl)
   try simp only [zA, zB, zC, Act.put, zD, zE, zF]
   refine wpAnyH_take (i := 13) (v := ?_) rfl (by kernel_rfl) (by kernel_rfl) (by kernel_rfl) (fun _ _ _ h => h) (Or.inl ⟨by kernel_rfl, ?_⟩) (by assumption) ?_
   rotate_left
   ·intro wS hSw
    (try dsimp only at hSw)
    go_simp
    try (with_reducible rfl)
   try simp only [zA, zB, zC, Act.put, zD, zE, zF]
   refine wpAnyH_take (i := 14) (v := ?_) rfl (by kernel_rfl) (by kernel_rfl) (by kernel_rfl) (fun _ _ _ h => h) (Or.inl ⟨by kernel_rfl, ?_⟩) (by assumption) ?_
   rotate_left
   ·intro wS hSw
    (try dsimp only at hSw)
    go_simp
    try (with_reducible rfl)
   try simp only [zA, zB, zC, Act.put, zD, zE, zF]
   refine wpAnyH_take (i := 15) (v := ?_) rfl (by kernel_rfl) (by kernel_rfl) (by kernel_rfl) (fun _ _ _ h => h) (Or.inl ⟨by kernel_rfl, ?_⟩) (by assumption) ?_
   rotate_left
   ·intro wS hSw
    (try dsimp only at hSw)
    go_simp
    try (with_reducible rfl)
   try simp only [zA, zB, zC, Act.put, zD, zE, zF]
   refine wpAnyH_take (i := 16) (v := ?_) rfl (by kernel_rfl) (by kernel_rfl) (by kernel_rfl) (fun _ _ _ h => h) (Or.inl ⟨by kernel_rfl, ?_⟩) (by assumption) ?_
   rotate_left
   ·intro wS hSw
    (try dsimp only at hSw)
    go_simp
    try (with_reducible rfl)
   try simp only [zA, zB, zC, Act.put, zD, zE, zF]
   refine wpAnyH_done (by kernel_rfl) ?_ _
   go_wp2_with fail
   refine bodyPost_ret (v := .tuple #[v1, .bool _]) (by simp [results, Tryz.results52, go_sem]; rfl) rfl ?_
   exact ⟨v1, _, 4, rfl, HV2.out.mono (fun g hg => .inr (Nat.le_trans HB0.out.size hg)), fun _ => by omega, HB0.out.trans (HB2.out.mono HB0.out.size)⟩
  ·have dh : decide (xn < 2147483648) = false := decide_eq_false hh
   go_enter Tryz.func52, Tryz.ntmps52
   go_wp2_with fail
   clear hW
   refine wp_region_held_drew (S := fun W => W.cell? ⟨w.heap.size, 0, none⟩ = some (.int .i64 3) ∧ W.cell? ⟨w.heap.size, 1, none⟩ = some (.int .i64 xn) ∧ W.cell? ⟨w.heap.size, 2, none⟩ = some (.string xs) ∧ W.cell? ⟨w.heap.size, 3, none⟩ = some (.slice ba bn bc) ∧ W.cell? ⟨w.heap.size, 4, none⟩ = some (.slice fa fn fc) ∧ W.cell? ⟨w.heap.size, 5, none⟩ = some (.slice la ln lc)) (by kernel_rfl) (by exact hf) (fun hHeld => ?_)
   refine wpAnyH_take (i := 0) (v := ?_) rfl (by kernel_rfl) (by kernel_rfl) (by kernel_rfl) (fun _ _ _ h => h) (Or.inl ⟨by kernel_rfl, ?_⟩) (by assumption) ?_
   rotate_left
   ·intro wS hSw
    (try dsimp only at hSw)
    go_simp
    try (with_reducible rfl)
   try simp only [zA, zC, Act.put, zD, zE, zF]
   refine wpAnyH_take (i := 1) (v := ?_) rfl (by kernel_rfl) (by kernel_rfl) (by kernel_rfl) (fun _ _ _ h => h) (Or.inl ⟨by kernel_rfl, ?_⟩) (by assumption) ?_
   rotate_left
   ·intro wS hSw
    (try dsimp only at hSw)
    go_simp
    try (with_reducible rfl)
   try simp only [zA, zB, zC, Act.put, zD, zE, zF]
   refine wpAnyH_take (i := 3) (v := ?_) rfl (by kernel_rfl) (by kernel_rfl) (by kernel_rfl) (fun _ _ _ h => h) (Or.inl ⟨by kernel_rfl, ?_⟩) (by assumption) ?_
   rotate_left
   ·intro wS hSw
    (try dsimp only at hSw)
    go_simp
    try (with_reducible rfl)
   try simp only [zA, zB, zC, Act.put, zD, zE, zF]
   refine wpAnyH_ready (rs := [2]) (by kernel_rfl) (by simp) ?_
   refine AllReadyH.cons rfl (fun K hK => ?_) AllReadyH.nil
   go_simp
   go_at_call 70
   refine (num_some xn 4 W0.drew (by decide)).mono ?_
   rintro e w1 ⟨v1, rfl, hv1, hb1⟩
   have HB1 : Hid (Below W0.heap.size W0 w1) := HD.out.trans hb1
   have HV1 : Hid (BytesAt w1 (fun g => W0.heap.size ≤ g) v1 4) := hv1
   have hf1 := HS0.out.keep HB1.out
   unfold SixIs at hf1
   clear hv1 hb1
   refine hK.out _ _ (by exact hf1) (fun hHeld => ?_)
   clear hK K
   try simp only [zA, zB, zC, Act.put, zD, zE, zF]
   refine wpAnyH_ready (rs := [4]) (by kernel_rfl) (by simp) ?_
   refine AllReadyH.cons rfl (fun K hK => ?_) AllReadyH.nil
   go_simp
   go_at_call 69
   refine (HBARE.out w1 (VIn.keep HB1.out HV0.out)).mono ?_
   rintro e w2 ⟨rfl, hb2⟩
   have HB2 : Hid (Below W0.heap.size W0 w2) := HB1.out.trans (hb2.mono HB1.out.size)
   have HV2 : Hid (BytesAt w2 (fun g => W0.heap.size ≤ g) v1 4) := HV1.out.keep hb2
   have hf2 := HS0.out.keep HB2.out
   unfold SixIs at hf2
   clear hb2
   refine hK.out _ _ (by exact hf2) (fun hHeld => ?_)
   clear hK K
   try simp only [zA, zB, zC, Act.put, zD, zE, zF]
   refine wpAnyH_take (i := 5) (v := ?_) rfl (by kernel_rfl) (by kernel_rfl) (by kernel_rfl) (fun _ _ _ h => h) (Or.inl ⟨by kernel_rfl, ?_⟩) (by assumption) ?_
   rotate_left
   ·intro wS hSw
    (try dsimp only at hSw)
    go_simp
    try (with_reducible rfl)
   try simp only [zA, zB, zC, Act.put, zD, zE, zF]
   refine wpAnyH_take (i := 6) (v := ?_) rfl (by kernel_rfl) (by kernel_rfl) (by kernel_rfl) (fun _ _ _ h => h) (Or.inl ⟨by kernel_rfl, ?_⟩) (by assumption) ?_
   rotate_left
   ·intro wS hSw
    (try dsimp only at hSw)
    go_simp
    try (with_reducible rfl)
   try simp only [zA, zB, zC, Act.put, zD, zE, zF]
   refine wpAnyH_take (i := 7) (v := ?_) rfl (by kernel_rfl) (by kernel_rfl) (by kernel_rfl) (fun _ _ _ h => h) (Or.inl ⟨by kernel_rfl, ?_⟩) (by assumption) ?_
   rotate_left
   ·intro wS hSw
    (try dsimp only at hSw)
    go_simp
    try (with_reducible rfl)
   try simp only [zA, zB, zC, Act.put, zD, zE, zF]
   refine wpAnyH_take (i := 8) (v := ?_) rfl (by kernel_rfl) (by kernel_rfl) (by kernel_rfl) (fun _ _ _ h => h) (Or.inl ⟨by kernel_rfl, ?_⟩) (by assumption) ?_
   rotate_left
   ·intro wS hSw
    (try dsimp only at hSw)
    go_simp
    try (with_reducible rfl)
   try simp only [zA, zB, zC, Act.put, zD, zE, zF]
   refine wpAnyH_take (i := 9) (v := ?_) rfl (by kernel_rfl) (by kernel_rfl) (by kernel_rfl) (fun _ _ _ h => h) (Or.inl ⟨by kernel_rfl, ?_⟩) (by assumption) ?_
   rotate_left
   ·intro wS hSw
    (try dsimp only at hSw)
    go_simp
    try (with_reducible rfl)
   try simp only [zA, zB, zC, Act.put, zD, zE, zF]
   refine wpAnyH_take (i := 10) (v := ?_) rfl (by kernel_rfl) (by kernel_rfl) (by kernel_rfl) (fun _ _ _ h => h) (Or.inl ⟨by kernel_rfl, ?_⟩) (by assumption) ?_
   rotate_left
   ·intro wS hSw
    (try dsimp only at hSw)
    go_simp
    try (with_reducible rfl)
   try simp only [zA, zB, zC, Act.put, zD, zE, zF]
   refine wpAnyH_take (i := 11) (v := ?_) rfl (by kernel_rfl) (by kernel_rfl) (by kernel_rfl) (fun _ _ _ h => h) (Or.inl ⟨by kernel_rfl, ?_⟩) (by assumption) ?_
   rotate_left
   ·intro wS hSw
    (try dsimp only at hSw)
    go_simp
    try (with_reducible rfl)
   try simp only [zA, zB, zC, Act.put, zD, zE, zF]
   refine wpAnyH_take (i := 12) (v := ?_) rfl (by kernel_rfl) (by kernel_rfl) (by kernel_rfl) (fun _ _ _ h => h) (Or.inl ⟨by kernel_rfl, ?_⟩) (by assumption) ?_
   rotate_left
   ·intro wS hSw
    (try dsimp only at hSw)
    go_simp
    try (with_reducible rfl)
   try simp only [zA, zB, zC, Act.put, zD, zE, zF]
   refine wpAnyH_take (i := 13) (v := ?_) rfl (by kernel_rfl) (by kernel_rfl) (by kernel_rfl) (fun _ _ _ h => h) (Or.inl ⟨by kernel_rfl, ?_⟩) (by assumption) ?_
   rotate_left
   ·intro wS hSw
    (try dsimp only at hSw)
    go_simp
    try (with_reducible rfl)
   try simp only [zA, zB, zC, Act.put, zD, zE, zF]
   refine wpAnyH_take (i := 14) (v := ?_) rfl (by kernel_rfl) (by kernel_rfl) (by kernel_rfl) (fun _ _ _ h => h) (Or.inl ⟨by kernel_rfl, ?_⟩) (by assumption) ?_
   rotate_left
   ·intro wS hSw
    (try dsimp only at hSw)
    go_simp
    try (with_reducible rfl)
   try simp only [zA, zB, zC, Act.put, zD, zE, zF]
   refine wpAnyH_take (i := 15) (v := ?_) rfl (by kernel_rfl) (by kernel_rfl) (by kernel_rfl) (fun _ _ _ h => h) (Or.inl ⟨by kernel_rfl, ?_⟩) (by assumption) ?_
   rotate_left
   ·intro wS hSw
    (try dsimp only at hSw)
    go_simp
    try (with_reducible rfl)
   try simp only [zA, zB, zC, Act.put, zD, zE, zF]
   refine wpAnyH_take (i := 16) (v := ?_) rfl (by kernel_rfl) (by kernel_rfl) (by kernel_rfl) (fun _ _ _ h => h) (Or.inl ⟨by kernel_rfl, ?_⟩) (by assumption) ?_
   rotate_left
   ·intro wS hSw
    (try dsimp only at hSw)
    go_simp
    try (with_reducible rfl)
   try simp only [zA, zB, zC, Act.put, zD, zE, zF]
   refine wpAnyH_done (by kernel_rfl) ?_ _
   go_wp2_with fail
   refine bodyPost_ret (v := .tuple #[v1, .bool _]) (by simp [results, Tryz.results52, go_sem]; rfl) rfl ?_
   exact ⟨v1, _, 4, rfl, HV2.out.mono (fun g hg => .inr (Nat.le_trans HB0.out.size hg)), fun _ => by omega, HB0.out.trans (HB2.out.mono HB0.out.size)⟩
 ·have dl : decide (-2147483648 ≤ xn) = false := decide_eq_false hl
  go_enter Tryz.func52, Tryz.ntmps52
  go_wp2_with fail
  clear hW
  refine wp_region_held_drew (S := fun W => W.cell? ⟨w.heap.size, 0, none⟩ = some (.int .i64 3) ∧ W.cell? ⟨w.heap.size, 1, none⟩ = some (.int .i64 xn) ∧ W.cell? ⟨w.heap.size, 2, none⟩ = some (.string xs) ∧ W.cell? ⟨w.heap.size, 3, none⟩ = some (.slice ba bn bc) ∧ W.cell? ⟨w.heap.size, 4, none⟩ = some (.slice fa fn fc) ∧ W.cell? ⟨w.heap.size, 5, none⟩ = some (.slice la ln lc)) (by kernel_rfl) (by exact hf) (fun hHeld => ?_)
  refine wpAnyH_take (i := 0) (v := ?_) rfl (by kernel_rfl) (by kernel_rfl) (by kernel_rfl) (fun _ _ _ h => h) (Or.inl ⟨by kernel_rfl, ?_⟩) (by assumption) ?_
  rotate_left
  ·intro wS hSw
   (try dsimp only at hSw)
   go_simp
   try (with_reducible rfl)
  try simp only [zA, zC, Act.put, zD, zE, zF]
  refine wpAnyH_take (i := 1) (v := ?_) rfl (by kernel_rfl) (by kernel_rfl) (by kernel_rfl) (fun _ _ _ h => h) (Or.inl ⟨by kernel_rfl, ?_⟩) (by assumption) ?_
  rotate_left
  ·intro wS hSw
   (try dsimp only at hSw)
   go_simp
   try (with_reducible rfl)
  try simp only [zA, zB, zC, Act.put, zD, zE, zF]
  refine wpAnyH_take (i := 3) (v := ?_) rfl (by kernel_rfl) (by kernel_rfl) (by kernel_rfl) (fun _ _ _ h => h) (Or.inl ⟨by kernel_rfl, ?_⟩) (by assumption) ?_
  rotate_left
  ·intro wS hSw
   (try dsimp only at hSw)
   go_simp
   try (with_reducible rfl)
  try simp only [zA, zB, zC, Act.put, zD, zE, zF]
  refine wpAnyH_ready (rs := [2]) (by kernel_rfl) (by simp) ?_
  refine AllReadyH.cons rfl (fun K hK => ?_) AllReadyH.nil
  go_simp
  go_at_call 70
  refine (num_some xn 4 W0.drew (by decide)).mono ?_
  rintro e w1 ⟨v1, rfl, hv1, hb1⟩
  have HB1 : Hid (Below W0.heap.size W0 w1) := HD.out.trans hb1
  have HV1 : Hid (BytesAt w1 (fun g => W0.heap.size ≤ g) v1 4) := hv1
  have hf1 := HS0.out.keep HB1.out
  unfold SixIs at hf1
  clear hv1 hb1
  refine hK.out _ _ (by exact hf1) (fun hHeld => ?_)
  clear hK K
  try simp only [zA, zB, zC, Act.put, zD, zE, zF]
  refine wpAnyH_ready (rs := [4]) (by kernel_rfl) (by simp) ?_
  refine AllReadyH.cons rfl (fun K hK => ?_) AllReadyH.nil
  go_simp
  go_at_call 69
  refine (HBARE.out w1 (VIn.keep HB1.out HV0.out)).mono ?_
  rintro e w2 ⟨rfl, hb2⟩
  have HB2 : Hid (Below W0.heap.size W0 w2) := HB1.out.trans (hb2.mono HB1.out.size)
  have HV2 : Hid (BytesAt w2 (fun g => W0.heap.size ≤ g) v1 4) := HV1.out.keep hb2
  have hf2 := HS0.out.keep HB2.out
  unfold SixIs at hf2
  clear hb2
  refine hK.out _ _ (by exact hf2) (fun hHeld => ?_)
  clear hK K
  try simp only [zA, zB, zC, Act.put, zD, zE, zF]
  refine wpAnyH_take (i := 5) (v := ?_) rfl (by kernel_rfl) (by kernel_rfl) (by kernel_rfl) (fun _ _ _ h => h) (Or.inl ⟨by kernel_rfl, ?_⟩) (by assumption) ?_
  rotate_left
  ·intro wS hSw
   (try dsimp only at hSw)
   go_simp
   try (with_reducible rfl)
  try simp only [zA, zB, zC, Act.put, zD, zE, zF]
  refine wpAnyH_take (i := 6) (v := ?_) rfl (by kernel_rfl) (by kernel_rfl) (by kernel_rfl) (fun _ _ _ h => h) (Or.inl ⟨by kernel_rfl, ?_⟩) (by assumption) ?_
  rotate_left
  ·intro wS hSw
   (try dsimp only at hSw)
   go_simp
   try (with_reducible rfl)
  try simp only [zA, zB, zC, Act.put, zD, zE, zF]
  refine wpAnyH_take (i := 7) (v := ?_) rfl (by kernel_rfl) (by kernel_rfl) (by kernel_rfl) (fun _ _ _ h => h) (Or.inl ⟨by kernel_rfl, ?_⟩) (by assumption) ?_
  rotate_left
  ·intro wS hSw
   (try dsimp only at hSw)
   go_simp
   try (with_reducible rfl)
  try simp only [zA, zB, zC, Act.put, zD, zE, zF]
  refine wpAnyH_take (i := 8) (v := ?_) rfl (by kernel_rfl) (by kernel_rfl) (by kernel_rfl) (fun _ _ _ h => h) (Or.inl ⟨by kernel_rfl, ?_⟩) (by assumption) ?_
  rotate_left
  ·intro wS hSw
   (try dsimp only at hSw)
   go_simp
   try (with_reducible rfl)
  try simp only [zA, zB, zC, Act.put, zD, zE, zF]
  refine wpAnyH_take (i := 9) (v := ?_) rfl (by kernel_rfl) (by kernel_rfl) (by kernel_rfl) (fun _ _ _ h => h) (Or.inl ⟨by kernel_rfl, ?_⟩) (by assumption) ?_
  rotate_left
  ·intro wS hSw
   (try dsimp only at hSw)
   go_simp
   try (with_reducible rfl)
  try simp only [zA, zB, zC, Act.put, zD, zE, zF]
  refine wpAnyH_take (i := 10) (v := ?_) rfl (by kernel_rfl) (by kernel_rfl) (by kernel_rfl) (fun _ _ _ h => h) (Or.inl ⟨by kernel_rfl, ?_⟩) (by assumption) ?_
  rotate_left
  ·intro wS hSw
   (try dsimp only at hSw)
   go_simp
   try (with_reducible rfl)
  try simp only [zA, zB, zC, Act.put, zD, zE, zF]
  refine wpAnyH_take (i := 11) (v := undef) rfl (by kernel_rfl) (by kernel_rfl) (by kernel_rfl) (fun _ _ _ h => h) (Or.inr ⟨by kernel_rfl, rfl⟩) (by assumption) ?_
  try simp only [zA, zB, zC, Act.put, zD, zE, zF]
  refine wpAnyH_take (i := 12) (v := undef) rfl (by kernel_rfl) (by kernel_rfl) (by kernel_rfl) (fun _ _ _ h => h) (Or.inr ⟨by kernel_rfl, rfl⟩) (by assumption) ?_
  try simp only [zA, zB, zC, Act.put, zD, zE, zF]
  refine wpAnyH_take (i := 13) (v := undef) rfl (by kernel_rfl) (by kernel_rfl) (by kernel_rfl) (fun _ _ _ h => h) (Or.inr ⟨by kernel_rfl, rfl⟩) (by assumption) ?_
  try simp only [zA, zB, zC, Act.put, zD, zE, zF]
  refine wpAnyH_take (i := 14) (v := ?_) rfl (by kernel_rfl) (by kernel_rfl) (by kernel_rfl) (fun _ _ _ h => h) (Or.inl ⟨by kernel_rfl, ?_⟩) (by assumption) ?_
  rotate_left
  ·intro wS hSw
   (try dsimp only at hSw)
   go_simp
   try (with_reducible rfl)
  try simp only [zA, zB, zC, Act.put, zD, zE, zF]
  refine wpAnyH_take (i := 15) (v := ?_) rfl (by kernel_rfl) (by kernel_rfl) (by kernel_rfl) (fun _ _ _ h => h) (Or.inl ⟨by kernel_rfl, ?_⟩) (by assumption) ?_
  rotate_left
  ·intro wS hSw
   (try dsimp only at hSw)
   go_simp
   try (with_reducible rfl)
  try simp only [zA, zB, zC, Act.put, zD, zE, zF]
  refine wpAnyH_take (i := 16) (v := ?_) rfl (by kernel_rfl) (by kernel_rfl) (by kernel_rfl) (fun _ _ _ h => h) (Or.inl ⟨by kernel_rfl, ?_⟩) (by assumption) ?_
  rotate_left
  ·intro wS hSw
   (try dsimp only at hSw)
   go_simp
   try (with_reducible rfl)
  try simp only [zA, zB, zC, Act.put, zD, zE, zF]
  refine wpAnyH_done (by kernel_rfl) ?_ _
  go_wp2_with fail
  refine bodyPost_ret (v := .tuple #[v1, .bool _]) (by simp [results, Tryz.results52, go_sem]; rfl) rfl ?_
  exact ⟨v1, _, 4, rfl, HV2.out.mono (fun g hg => .inr (Nat.le_trans HB0.out.size hg)), fun _ => by omega, HB0.out.trans (HB2.out.mono HB0.out.size)⟩
theorem own_bool (Q : Nat → Prop) (h : Nat) (x : Val) (u : Value) (w : World) (d : Int) (hk : x.kind = 10) (hv : VIn w Q (h + 1) x u) :
  Calls Tryz.prog 52 #[u, .int .i64 d] w (OwnPost Q w) := by
 obtain ⟨xk, xn, xs, ba, fa, la, bn, bc, fn, fc, ln, lc, rfl, hxk, hxn, hxs, hbn, hfn, hln, hL, hF, hI⟩ := hv.letters
 obtain rfl : xk = 10 := by rw [hxk, hk]
 have HV0 : Hid (VIn (w.alloc (.cells #[.int .i64 10, .int .i64 xn, .string xs, .slice ba bn bc, .slice fa fn fc, .slice la ln lc] 35)) Q (h + 1) x (.agg #[.int .i64 10, .int .i64 xn, .string xs, .slice ba bn bc, .slice fa fn fc, .slice la ln lc])) := VIn.keep ((Below.refl _ w).alloc (Nat.le_refl _) _) hv
 have HB0 : Hid (Below w.heap.size w (w.alloc (.cells #[.int .i64 10, .int .i64 xn, .string xs, .slice ba bn bc, .slice fa fn fc, .slice la ln lc] 35))) := (Below.refl _ w).alloc (Nat.le_refl _) _
 have hS := SixIs.new w (.int .i64 10) (.int .i64 xn) (.string xs) (.slice ba bn bc) (.slice fa fn fc) (.slice la ln lc) 35
 have HS0 := Lib.hid hS
 clear hv hxk hk hS hxn hxs hbn hfn hln hL hF hI
 generalize hW : w.alloc (.cells #[.int .i64 10, .int .i64 xn, .string xs, .slice ba bn bc, .slice fa fn fc, .slice la ln lc] 35) = W0 at *
 obtain ⟨e0, e1, e2, e3, e4, e5⟩ := HS0.out
 have hf : W0.cell? ⟨w.heap.size, 0, none⟩ = some (.int .i64 10) ∧ W0.cell? ⟨w.heap.size, 1, none⟩ = some (.int .i64 xn) ∧ W0.cell? ⟨w.heap.size, 2, none⟩ = some (.string xs) ∧ W0.cell? ⟨w.heap.size, 3, none⟩ = some (.slice ba bn bc) ∧ W0.cell? ⟨w.heap.size, 4, none⟩ = some (.slice fa fn fc) ∧ W0.cell? ⟨w.heap.size, 5, none⟩ = some (.slice la ln lc) := HS0.out
 have HD : Hid (Below W0.heap.size W0 W0.drew) := (Below.refl _ W0).drew
 obtain ⟨b2, hb2⟩ : ∃ b2, b2 = Bson.bare x true false false false false := ⟨_, rfl⟩
 have HBARE : Hid (∀ wx, VIn wx Q (h + 1) x (.agg #[.int .i64 10, .int .i64 xn, .string xs, .slice ba bn bc, .slice fa fn fc, .slice la ln lc]) → Calls Tryz.prog 69 #[.agg #[.int .i64 10, .int .i64 xn, .string xs, .slice ba bn bc, .slice fa fn fc, .slice la ln lc], .bool true, .bool false, .bool false, .bool false, .bool false] wx fun e w' => e = .returned (.bool b2) ∧ Below wx.heap.size wx w') := fun wx hx => by rw [hb2]; exact bare_some1 Q (h + 1) x _ wx hx
 clear hb2
 cases b2
 ·go_enter Tryz.func52, Tryz.ntmps52
  go_wp2_with fail
  clear hW
  refine wp_region_held_drew (S := fun W => W.cell? ⟨w.heap.size, 0, none⟩ = some (.int .i64 10) ∧ W.cell? ⟨w.heap.size, 1, none⟩ = some (.int .i64 xn) ∧ W.cell? ⟨w.heap.size, 2, none⟩ = some (.string xs) ∧ W.cell? ⟨w.heap.size, 3, none⟩ = some (.slice ba bn bc) ∧ W.cell? ⟨w.heap.size, 4, none⟩ = some (.slice fa fn fc) ∧ W.cell? ⟨w.heap.size, 5, none⟩ = some (.slice la ln lc)) (by kernel_rfl) (by exact hf) (fun hHeld => ?_)
  refine wpAnyH_take (i := 0) (v := ?_) rfl (by kernel_rfl) (by kernel_rfl) (by kernel_rfl) (fun _ _ _ h => h) (Or.inl ⟨by kernel_rfl, ?_⟩) (by assumption) ?_
  rotate_left
  ·intro wS hSw
   (try dsimp only at hSw)
   go_simp
   try (with_reducible rfl)
  try simp only [zA, zC, Act.put, zD, zE, zF]
  refine wpAnyH_take (i := 1) (v := ?_) rfl (by kernel_rfl) (by kernel_rfl) (by kernel_rfl) (fun _ _ _ h => h) (Or.inl ⟨by kernel_rfl, ?_⟩) (by assumption) ?_
  rotate_left
  ·intro wS hSw
   (try dsimp only at hSw)
   go_simp
   try (with_reducible rfl)
  try simp only [zA, zB, zC, Act.put, zD, zE, zF]
  refine wpAnyH_take (i := 3) (v := ?_) rfl (by kernel_rfl) (by kernel_rfl) (by kernel_rfl) (fun _ _ _ h => h) (Or.inl ⟨by kernel_rfl, ?_⟩) (by assumption) ?_
  rotate_left
  ·intro wS hSw
   (try dsimp only at hSw)
   go_simp
   try (with_reducible rfl)
  try simp only [zA, zB, zC, Act.put, zD, zE, zF]
  refine wpAnyH_ready (rs := [2]) (by kernel_rfl) (by simp) ?_
  refine AllReadyH.cons rfl (fun K hK => ?_) AllReadyH.nil
  go_simp
  go_at_call 70
  refine (num_some xn 1 W0.drew (by decide)).mono ?_
  rintro e w1 ⟨v1, rfl, hv1, hb1⟩
  have HB1 : Hid (Below W0.heap.size W0 w1) := HD.out.trans hb1
  have HV1 : Hid (BytesAt w1 (fun g => W0.heap.size ≤ g) v1 1) := hv1
  have hf1 := HS0.out.keep HB1.out
  unfold SixIs at hf1
  clear hv1 hb1
  refine hK.out _ _ (by exact hf1) (fun hHeld => ?_)
  clear hK K
  try simp only [zA, zB, zC, Act.put, zD, zE, zF]
  refine wpAnyH_ready (rs := [4]) (by kernel_rfl) (by simp) ?_
  refine AllReadyH.cons rfl (fun K hK => ?_) AllReadyH.nil
  go_simp
  go_at_call 69
  refine (HBARE.out w1 (VIn.keep HB1.out HV0.out)).mono ?_
  rintro e w2 ⟨rfl, hb2⟩
  have HB2 : Hid (Below W0.heap.size W0 w2) := HB1.out.trans (hb2.mono HB1.out.size)
  have HV2 : Hid (BytesAt w2 (fun g => W0.heap.size ≤ g) v1 1) := HV1.out.keep hb2
  have hf2 := HS0.out.keep HB2.out
  unfold SixIs at hf2
  clear hb2
  refine hK.out _ _ (by exact hf2) (fun hHeld => ?_)
  clear hK K
  try simp only [zA, zB, zC, Act.put, zD, zE, zF]
  refine wpAnyH_take (i := 5) (v := ?_) rfl (by kernel_rfl) (by kernel_rfl) (by kernel_rfl) (fun _ _ _ h => h) (Or.inl ⟨by kernel_rfl, ?_⟩) (by assumption) ?_
  rotate_left
  ·intro wS hSw
   (try dsimp only at hSw)
   go_simp
   try (with_reducible rfl)
  try simp only [zA, zB, zC, Act.put, zD, zE, zF]
  refine wpAnyH_take (i := 6) (v := undef) rfl (by kernel_rfl) (by kernel_rfl) (by kernel_rfl) (fun _ _ _ h => h) (Or.inr ⟨by kernel_rfl, rfl⟩) (by assumption) ?_
  try simp only [zA, zB, zC, Act.put, zD, zE, zF]
  refine wpAnyH_take (i := 7) (v := undef) rfl (by kernel_rfl) (by kernel_rfl) (by kernel_rfl) (fun _ _ _ h => h) (Or.inr ⟨by kernel_rfl, rfl⟩) (by assumption) ?_
  try simp only [zA, zB, zC, Act.put, zD, zE, zF]
  refine wpAnyH_take (i := 8) (v := undef) rfl (by kernel_rfl) (by kernel_rfl) (by kernel_rfl) (fun _ _ _ h => h) (Or.inr ⟨by kernel_rfl, rfl⟩) (by assumption) ?_
  try simp only [zA, zB, zC, Act.put, zD, zE, zF]
  refine wpAnyH_take (i := 9) (v := undef) rfl (by kernel_rfl) (by kernel_rfl) (by kernel_rfl) (fun _ _ _ h => h) (Or.inr ⟨by kernel_rfl, rfl⟩) (by assumption) ?_
  try simp only [zA, zB, zC, Act.put, zD, zE, zF]
  refine wpAnyH_take (i := 10) (v := undef) rfl (by kernel_rfl) (by kernel_rfl) (by kernel_rfl) (fun _ _ _ h => h) (Or.inr ⟨by kernel_rfl, rfl⟩) (by assumption) ?_
  try simp only [zA, zB, zC, Act.put, zD, zE, zF]
  refine wpAnyH_take (i := 11) (v := undef) rfl (by kernel_rfl) (by kernel_rfl) (by kernel_rfl) (fun _ _ _ h => h) (Or.inr ⟨by kernel_rfl, rfl⟩) (by assumption) ?_
  try simp only [zA, zB, zC, Act.put, zD, zE, zF]
  refine wpAnyH_take (i := 12) (v := undef) rfl (by kernel_rfl) (by kernel_rfl) (by kernel_rfl) (fun _ _ _ h => h) (Or.inr ⟨by kernel_rfl, rfl⟩) (by assumption) ?_
  try simp only [zA, zB, zC, Act.put, zD, zE, zF]
  refine wpAnyH_take (i := 13) (v := undef) rfl (by kernel_rfl) (by kernel_rfl) (by kernel_rfl) (fun _ _ _ h => h) (Or.inr ⟨by kernel_rfl, rfl⟩) (by assumption) ?_
  try simp only [zA, zB, zC, Act.put, zD, zE, zF]
  refine wpAnyH_take (i := 14) (v := ?_) rfl (by kernel_rfl) (by kernel_rfl) (by kernel_rfl) (fun _ _ _ h => h) (Or.inl ⟨by kernel_rfl, ?_⟩) (by assumption) ?_
  rotate_left
  ·intro wS hSw
   (try dsimp only at hSw)
   go_simp
   try (with_reducible rfl)
  try simp only [zA, zB, zC, Act.put, zD, zE, zF]
  refine wpAnyH_take (i := 15) (v := ?_) rfl (by kernel_rfl) (by kernel_rfl) (by kernel_rfl) (fun _ _ _ h => h) (Or.inl ⟨by kernel_rfl, ?_⟩) (by assumption) ?_
  rotate_left
  ·intro wS hSw
   (try dsimp only at hSw)
   go_simp
   try (with_reducible rfl)
  try simp only [zA, zB, zC, Act.put, zD, zE, zF]
  refine wpAnyH_take (i := 16) (v := ?_) rfl (by kernel_rfl) (by kernel_rfl) (by kernel_rfl) (fun _ _ _ h => h) (Or.inl ⟨by kernel_rfl, ?_⟩) (by assumption) ?_
  rotate_left
  ·intro wS hSw
   (try dsimp only at hSw)
   go_simp
   try (with_reducible rfl)
  try simp only [zA, zB, zC, Act.put, zD, zE, zF]
  refine wpAnyH_done (by kernel_rfl) ?_ _
  go_wp2_with fail
  refine bodyPost_ret (v := .tuple #[v1, .bool _]) (by simp [results, Tryz.results52, go_sem]; rfl) rfl ?_
  exact ⟨v1, _, 1, rfl, HV2.out.mono (fun g hg => .inr (Nat.le_trans HB0.out.size hg)), fun _ => by omega, HB0.out.trans (HB2.out.mono HB0.out.size)⟩
 by_cases h0 : xn = 0
 ·subst h0
  go_enter Tryz.func52, Tryz.ntmps52
  go_wp2_with fail
  clear hW
  refine wp_region_held_drew (S := fun W => W.cell? ⟨w.heap.size, 0, none⟩ = some (.int .i64 10) ∧ W.cell? ⟨w.heap.size, 1, none⟩ = some (.int .i64 0) ∧ W.cell? ⟨w.heap.size, 2, none⟩ = some (.string xs) ∧ W.cell? ⟨w.heap.size, 3, none⟩ = some (.slice ba bn bc) ∧ W.cell? ⟨w.heap.size, 4, none⟩ = some (.slice fa fn fc) ∧ W.cell? ⟨w.heap.size, 5, none⟩ = some (.slice la ln lc)) (by kernel_rfl) (by exact hf) (fun hHeld => ?_)
  refine wpAnyH_take (i := 0) (v := ?_) rfl (by kernel_rfl) (by kernel_rfl) (by kernel_rfl) (fun _ _ _ h => h) (Or.inl ⟨by kernel_rfl, ?_⟩) (by assumption) ?_
  rotate_left
  ·intro wS hSw
   (try dsimp only at hSw)
   go_simp
   try (with_reducible rfl)
  try simp only [zA, zC, Act.put, zD, zE, zF]
  refine wpAnyH_take (i := 1) (v := ?_) rfl (by kernel_rfl) (by kernel_rfl) (by kernel_rfl) (fun _ _ _ h => h) (Or.inl ⟨by kernel_rfl, ?_⟩) (by assumption) ?_
  rotate_left
  ·intro wS hSw
   (try dsimp only at hSw)
   go_simp
   try (with_reducible rfl)
  try simp only [zA, zB, zC, Act.put, zD, zE, zF]
  refine wpAnyH_take (i := 3) (v := ?_) rfl (by kernel_rfl) (by kernel_rfl) (by kernel_rfl) (fun _ _ _ h => h) (Or.inl ⟨by kernel_rfl, ?_⟩) (by assumption) ?_
  rotate_left
  ·intro wS hSw
   (try dsimp only at hSw)
   go_simp
   try (with_reducible rfl)
  try simp only [zA, zB, zC, Act.put, zD, zE, zF]
  refine wpAnyH_ready (rs := [2]) (by kernel_rfl) (by simp) ?_
  refine AllReadyH.cons rfl (fun K hK => ?_) AllReadyH.nil
  go_simp
  go_at_call 70
  refine (num_some 0 1 W0.drew (by decide)).mono ?_
  rintro e w1 ⟨v1, rfl, hv1, hb1⟩
  have HB1 : Hid (Below W0.heap.size W0 w1) := HD.out.trans hb1
  have HV1 : Hid (BytesAt w1 (fun g => W0.heap.size ≤ g) v1 1) := hv1
  have hf1 := HS0.out.keep HB1.out
  unfold SixIs at hf1
  clear hv1 hb1
  refine hK.out _ _ (by exact hf1) (fun hHeld => ?_)
  clear hK K
  try simp only [zA, zB, zC, Act.put, zD, zE, zF]
  refine wpAnyH_ready (rs := [4]) (by kernel_rfl) (by simp) ?_
  refine AllReadyH.cons rfl (fun K hK => ?_) AllReadyH.nil
  go_simp
  go_at_call 69
  refine (HBARE.out w1 (VIn.keep HB1.out HV0.out)).mono ?_
  rintro e w2 ⟨rfl, hb2⟩
  have HB2 : Hid (Below W0.heap.size W0 w2) := HB1.out.trans (hb2.mono HB1.out.size)
  have HV2 : Hid (BytesAt w2 (fun g => W0.heap.size ≤ g) v1 1) := HV1.out.keep hb2
  have hf2 := HS0.out.keep HB2.out
  unfold SixIs at hf2
  clear hb2
  refine hK.out _ _ (by exact hf2) (fun hHeld => ?_)
  clear hK K
  try simp only [zA, zB, zC, Act.put, zD, zE, zF]
  refine wpAnyH_take (i := 5) (v := ?_) rfl (by kernel_rfl) (by kernel_rfl) (by kernel_rfl) (fun _ _ _ h => h) (Or.inl ⟨by kernel_rfl, ?_⟩) (by assumption) ?_
  rotate_left
  ·intro wS hSw
   (try dsimp only at hSw)
   go_simp
   try (with_reducible rfl)
  try simp only [zA, zB, zC, Act.put, zD, zE, zF]
  refine wpAnyH_take (i := 6) (v := ?_) rfl (by kernel_rfl) (by kernel_rfl) (by kernel_rfl) (fun _ _ _ h => h) (Or.inl ⟨by kernel_rfl, ?_⟩) (by assumption) ?_
  rotate_left
  ·intro wS hSw
   (try dsimp only at hSw)
   go_simp
   try (with_reducible rfl)
  try simp only [zA, zB, zC, Act.put, zD, zE, zF]
  refine wpAnyH_take (i := 7) (v := ?_) rfl (by kernel_rfl) (by kernel_rfl) (by kernel_rfl) (fun _ _ _ h => h) (Or.inl ⟨by kernel_rfl, ?_⟩) (by assumption) ?_
  rotate_left
  ·intro wS hSw
   (try dsimp only at hSw)
   go_simp
   try (with_reducible rfl)
  try simp only [zA, zB, zC, Act.put, zD, zE, zF]
  refine wpAnyH_take (i := 8) (v := ?_) rfl (by kernel_rfl) (by kernel_rfl) (by kernel_rfl) (fun _ _ _ h => h) (Or.inl ⟨by kernel_rfl, ?_⟩) (by assumption) ?_
  rotate_left
  ·intro wS hSw
   (try dsimp only at hSw)
   go_simp
   try (with_reducible rfl)
  try simp only [zA, zB, zC, Act.put, zD, zE, zF]
  refine wpAnyH_take (i := 9) (v := ?_) rfl (by kernel_rfl) (by kernel_rfl) (by kernel_rfl) (fun _ _ _ h => h) (Or.inl ⟨by kernel_rfl, ?_⟩) (by assumption) ?_
  rotate_left
  ·intro wS hSw
   (try dsimp only at hSw)
   go_simp
   try (with_reducible rfl)
  try simp only [zA, zB, zC, Act.put, zD, zE, zF]
  refine wpAnyH_take (i := 10) (v := undef) rfl (by kernel_rfl) (by kernel_rfl) (by kernel_rfl) (fun _ _ _ h => h) (Or.inr ⟨by kernel_rfl, rfl⟩) (by assumption) ?_
  try simp only [zA, zB, zC, Act.put, zD, zE, zF]
  refine wpAnyH_take (i := 11) (v := undef) rfl (by kernel_rfl) (by kernel_rfl) (by kernel_rfl) (fun _ _ _ h => h) (Or.inr ⟨by kernel_rfl, rfl⟩) (by assumption) ?_
  try simp only [zA, zB, zC, Act.put, zD, zE, zF]
  refine wpAnyH_take (i := 12) (v := undef) rfl (by kernel_rfl) (by kernel_rfl) (by kernel_rfl) (fun _ _ _ h => h) (Or.inr ⟨by kernel_rfl, rfl⟩) (by assumption) ?_
  try simp only [zA, zB, zC, Act.put, zD, zE, zF]
  refine wpAnyH_take (i := 13) (v := ?_) rfl (by kernel_rfl) (by kernel_rfl) (by kernel_rfl) (fun _ _ _ h => h) (Or.inl ⟨by kernel_rfl, ?_⟩) (by assumption) ?_
  rotate_left
  ·intro wS hSw
   (try dsimp only at hSw)
   go_simp
   try (with_reducible rfl)
  try simp only [zA, zB, zC, Act.put, zD, zE, zF]
  refine wpAnyH_take (i := 14) (v := ?_) rfl (by kernel_rfl) (by kernel_rfl) (by kernel_rfl) (fun _ _ _ h => h) (Or.inl ⟨by kernel_rfl, ?_⟩) (by assumption) ?_
  rotate_left
  ·intro wS hSw
   (try dsimp only at hSw)
   go_simp
   try (with_reducible rfl)
  try simp only [zA, zB, zC, Act.put, zD, zE, zF]
  refine wpAnyH_take (i := 15) (v := ?_) rfl (by kernel_rfl) (by kernel_rfl) (by kernel_rfl) (fun _ _ _ h => h) (Or.inl ⟨by kernel_rfl, ?_⟩) (by assumption) ?_
  rotate_left
  ·intro wS hSw
   (try dsimp only at hSw)
   go_simp
   try (with_reducible rfl)
  try simp only [zA, zB, zC, Act.put, zD, zE, zF]
  refine wpAnyH_take (i := 16) (v := ?_) rfl (by kernel_rfl) (by kernel_rfl) (by kernel_rfl) (fun _ _ _ h => h) (Or.inl ⟨by kernel_rfl, ?_⟩) (by assumption) ?_
  rotate_left
  ·intro wS hSw
   (try dsimp only at hSw)
   go_simp
   try (with_reducible rfl)
  try simp only [zA, zB, zC, Act.put, zD, zE, zF]
  refine wpAnyH_done (by kernel_rfl) ?_ _
  go_wp2_with fail
  refine bodyPost_ret (v := .tuple #[v1, .bool _]) (by simp [results, Tryz.results52, go_sem]; rfl) rfl ?_
  exact ⟨v1, _, 1, rfl, HV2.out.mono (fun g hg => .inr (Nat.le_trans HB0.out.size hg)), fun _ => by omega, HB0.out.trans (HB2.out.mono HB0.out.size)⟩
 ·have d0 : (xn == 0) = false := by rw [beq_eq_false_iff_ne]; exact h0
  by_cases h1 : xn = 1
  ·subst h1
   go_enter Tryz.func52, Tryz.ntmps52
   go_wp2_with fail
   clear hW
   refine wp_region_held_drew (S := fun W => W.cell? ⟨w.heap.size, 0, none⟩ = some (.int .i64 10) ∧ W.cell? ⟨w.heap.size, 1, none⟩ = some (.int .i64 1) ∧ W.cell? ⟨w.heap.size, 2, none⟩ = some (.string xs) ∧ W.cell? ⟨w.heap.size, 3, none⟩ = some (.slice ba bn bc) ∧ W.cell? ⟨w.heap.size, 4, none⟩ = some (.slice fa fn fc) ∧ W.cell? ⟨w.heap.size, 5, none⟩ = some (.slice la ln lc)) (by kernel_rfl) (by exact hf) (fun hHeld => ?_)
   refine wpAnyH_take (i := 0) (v := ?_) rfl (by kernel_rfl) (by kernel_rfl) (by kernel_rfl) (fun _ _ _ h => h) (Or.inl ⟨by kernel_rfl, ?_⟩) (by assumption) ?_
   rotate_left
   ·intro wS hSw
    (try dsimp only at hSw)
    go_simp
    try (with_reducible rfl)
   try simp only [zA, zC, Act.put, zD, zE, zF]
   refine wpAnyH_take (i := 1) (v := ?_) rfl (by kernel_rfl) (by kernel_rfl) (by kernel_rfl) (fun _ _ _ h => h) (Or.inl ⟨by kernel_rfl, ?_⟩) (by assumption) ?_
   rotate_left
   ·intro wS hSw
    (try dsimp only at hSw)
    go_simp
    try (with_reducible rfl)
   try simp only [zA, zB, zC, Act.put, zD, zE, zF]
   refine wpAnyH_take (i := 3) (v := ?_) rfl (by kernel_rfl) (by kernel_rfl) (by kernel_rfl) (fun _ _ _ h => h) (Or.inl ⟨by kernel_rfl, ?_⟩) (by assumption) ?_
   rotate_left
   ·intro wS hSw
    (try dsimp only at hSw)
    go_simp
    try (with_reducible rfl)
   try simp only [zA, zB, zC, Act.put, zD, zE, zF]
   refine wpAnyH_ready (rs := [2]) (by kernel_rfl) (by simp) ?_
   refine AllReadyH.cons rfl (fun K hK => ?_) AllReadyH.nil
   go_simp
   go_at_call 70
   refine (num_some 1 1 W0.drew (by decide)).mono ?_
   rintro e w1 ⟨v1, rfl, hv1, hb1⟩
   have HB1 : Hid (Below W0.heap.size W0 w1) := HD.out.trans hb1
   have HV1 : Hid (BytesAt w1 (fun g => W0.heap.size ≤ g) v1 1) := hv1
   have hf1 := HS0.out.keep HB1.out
   unfold SixIs at hf1
   clear hv1 hb1
   refine hK.out _ _ (by exact hf1) (fun hHeld => ?_)
   clear hK K
   try simp only [zA, zB, zC, Act.put, zD, zE, zF]
   refine wpAnyH_ready (rs := [4]) (by kernel_rfl) (by simp) ?_
   refine AllReadyH.cons rfl (fun K hK => ?_) AllReadyH.nil
   go_simp
   go_at_call 69
   refine (HBARE.out w1 (VIn.keep HB1.out HV0.out)).mono ?_
   rintro e w2 ⟨rfl, hb2⟩
   have HB2 : Hid (Below W0.heap.size W0 w2) := HB1.out.trans (hb2.mono HB1.out.size)
   have HV2 : Hid (BytesAt w2 (fun g => W0.heap.size ≤ g) v1 1) := HV1.out.keep hb2
   have hf2 := HS0.out.keep HB2.out
   unfold SixIs at hf2
   clear hb2
   refine hK.out _ _ (by exact hf2) (fun hHeld => ?_)
   clear hK K
   try simp only [zA, zB, zC, Act.put, zD, zE, zF]
   refine wpAnyH_take (i := 5) (v := ?_) rfl (by kernel_rfl) (by kernel_rfl) (by kernel_rfl) (fun _ _ _ h => h) (Or.inl ⟨by kernel_rfl, ?_⟩) (by assumption) ?_
   rotate_left
   ·intro wS hSw
    (try dsimp only at hSw)
    go_simp
    try (with_reducible rfl)
   try simp only [zA, zB, zC, Act.put, zD, zE, zF]
   refine wpAnyH_take (i := 6) (v := ?_) rfl (by kernel_rfl) (by kernel_rfl) (by kernel_rfl) (fun _ _ _ h => h) (Or.inl ⟨by kernel_rfl, ?_⟩) (by assumption) ?_
   rotate_left
   ·intro wS hSw
    (try dsimp only at hSw)
    go_simp
    try (with_reducible rfl)
   try simp only [zA, zB, zC, Act.put, zD, zE, zF]
   refine wpAnyH_take (i := 7) (v := ?_) rfl (by kernel_rfl) (by kernel_rfl) (by kernel_rfl) (fun _ _ _ h => h) (Or.inl ⟨by kernel_rfl, ?_⟩) (by assumption) ?_
   rotate_left
   ·intro wS hSw
    (try dsimp only at hSw)
    go_simp
    try (with_reducible rfl)
   try simp only [zA, zB, zC, Act.put, zD, zE, zF]
   refine wpAnyH_take (i := 8) (v := ?_) rfl (by kernel_rfl) (by kernel_rfl) (by kernel_rfl) (fun _ _ _ h => h) (Or.inl ⟨by kernel_rfl, ?_⟩) (by assumption) ?_
   rotate_left
   ·intro wS hSw
    (try dsimp only at hSw)
    go_simp
    try (with_reducible rfl)
   try simp only [zA, zB, zC, Act.put, zD, zE, zF]
   refine wpAnyH_take (i := 9) (v := ?_) rfl (by kernel_rfl) (by kernel_rfl) (by kernel_rfl) (fun _ _ _ h => h) (Or.inl ⟨by kernel_rfl, ?_⟩) (by assumption) ?_
   rotate_left
   ·intro wS hSw
    (try dsimp only at hSw)
    go_simp
    try (with_reducible rfl)
   try simp only [zA, zB, zC, Act.put, zD, zE, zF]
   refine wpAnyH_take (i := 10) (v := ?_) rfl (by kernel_rfl) (by kernel_rfl) (by kernel_rfl) (fun _ _ _ h => h) (Or.inl ⟨by kernel_rfl, ?_⟩) (by assumption) ?_
   rotate_left
   ·intro wS hSw
    (try dsimp only at hSw)
    go_simp
    try (with_reducible rfl)
   try simp only [zA, zB, zC, Act.put, zD, zE, zF]
   refine wpAnyH_take (i := 11) (v := ?_) rfl (by kernel_rfl) (by kernel_rfl) (by kernel_rfl) (fun _ _ _ h => h) (Or.inl ⟨by kernel_rfl, ?_⟩) (by assumption) ?_
   rotate_left
   ·intro wS hSw
    (try dsimp only at hSw)
    go_simp
    try (with_reducible rfl)
   try simp only [zA, zB, zC, Act.put, zD, zE, zF]
   refine wpAnyH_take (i := 12) (v := ?_) rfl (by kernel_rfl) (by kernel_rfl) (by kernel_rfl) (fun _ _ _ h => h) (Or.inl ⟨by kernel_rfl, ?_⟩) (by assumption) ?_
   rotate_left
   ·intro wS hSw
    (try dsimp only at hSw)
    go_simp
    try (with_reducible rfl)
   try simp only [zA, zB, zC, Act.put, zD, zE, zF]
   refine wpAnyH_take (i := 13) (v := ?_) rfl (by kernel_rfl) (by kernel_rfl) (by kernel_rfl) (fun _ _ _ h => h) (Or.inl ⟨by kernel_rfl, ?_⟩) (by assumption) ?_
   rotate_left
   ·intro wS hSw
    (try dsimp only at hSw)
    go_simp
    try (with_reducible rfl)
   try simp only [zA, zB, zC, Act.put, zD, zE, zF]
   refine wpAnyH_take (i := 14) (v := ?_) rfl (by kernel_rfl) (by kernel_rfl) (by kernel_rfl) (fun _ _ _ h => h) (Or.inl ⟨by kernel_rfl, ?_⟩) (by assumption) ?_
   rotate_left
   ·intro wS hSw
    (try dsimp only at hSw)
    go_simp
    try (with_reducible rfl)
   try simp only [zA, zB, zC, Act.put, zD, zE, zF]
   refine wpAnyH_take (i := 15) (v := ?_) rfl (by kernel_rfl) (by kernel_rfl) (by kernel_rfl) (fun _ _ _ h => h) (Or.inl ⟨by kernel_rfl, ?_⟩) (by assumption) ?_
   rotate_left
   ·intro wS hSw
    (try dsimp only at hSw)
    go_simp
    try (with_reducible rfl)
   try simp only [zA, zB, zC, Act.put, zD, zE, zF]
   refine wpAnyH_take (i := 16) (v := ?_) rfl (by kernel_rfl) (by kernel_rfl) (by kernel_rfl) (fun _ _ _ h => h) (Or.inl ⟨by kernel_rfl, ?_⟩) (by assumption) ?_
   rotate_left
   ·intro wS hSw
    (try dsimp only at hSw)
    go_simp
    try (with_reducible rfl)
   try simp only [zA, zB, zC, Act.put, zD, zE, zF]
   refine wpAnyH_done (by kernel_rfl) ?_ _
   go_wp2_with fail
   refine bodyPost_ret (v := .tuple #[v1, .bool _]) (by simp [results, Tryz.results52, go_sem]; rfl) rfl ?_
   exact ⟨v1, _, 1, rfl, HV2.out.mono (fun g hg => .inr (Nat.le_trans HB0.out.size hg)), fun _ => by omega, HB0.out.trans (HB2.out.mono HB0.out.size)⟩
  ·have d1 : (xn == 1) = false := by rw [beq_eq_false_iff_ne]; exact h1
   go_enter Tryz.func52, Tryz.ntmps52
   go_wp2_with fail
   clear hW
   refine wp_region_held_drew (S := fun W => W.cell? ⟨w.heap.size, 0, none⟩ = some (.int .i64 10) ∧ W.cell? ⟨w.heap.size, 1, none⟩ = some (.int .i64 xn) ∧ W.cell? ⟨w.heap.size, 2, none⟩ = some (.string xs) ∧ W.cell? ⟨w.heap.size, 3, none⟩ = some (.slice ba bn bc) ∧ W.cell? ⟨w.heap.size, 4, none⟩ = some (.slice fa fn fc) ∧ W.cell? ⟨w.heap.size, 5, none⟩ = some (.slice la ln lc)) (by kernel_rfl) (by exact hf) (fun hHeld => ?_)
   refine wpAnyH_take (i := 0) (v := ?_) rfl (by kernel_rfl) (by kernel_rfl) (by kernel_rfl) (fun _ _ _ h => h) (Or.inl ⟨by kernel_rfl, ?_⟩) (by assumption) ?_
   rotate_left
   ·intro wS hSw
    (try dsimp only at hSw)
    go_simp
    try (with_reducible rfl)
   try simp only [zA, zC, Act.put, zD, zE, zF]
   refine wpAnyH_take (i := 1) (v := ?_) rfl (by kernel_rfl) (by kernel_rfl) (by kernel_rfl) (fun _ _ _ h => h) (Or.inl ⟨by kernel_rfl, ?_⟩) (by assumption) ?_
   rotate_left
   ·intro wS hSw
    (try dsimp only at hSw)
    go_simp
    try (with_reducible rfl)
   try simp only [zA, zB, zC, Act.put, zD, zE, zF]
   refine wpAnyH_take (i := 3) (v := ?_) rfl (by kernel_rfl) (by kernel_rfl) (by kernel_rfl) (fun _ _ _ h => h) (Or.inl ⟨by kernel_rfl, ?_⟩) (by assumption) ?_
   rotate_left
   ·intro wS hSw
    (try dsimp only at hSw)
    go_simp
    try (with_reducible rfl)
   try simp only [zA, zB, zC, Act.put, zD, zE, zF]
   refine wpAnyH_ready (rs := [2]) (by kernel_rfl) (by simp) ?_
   refine AllReadyH.cons rfl (fun K hK => ?_) AllReadyH.nil
   go_simp
   go_at_call 70
   refine (num_some xn 1 W0.drew (by decide)).mono ?_
   rintro e w1 ⟨v1, rfl, hv1, hb1⟩
   have HB1 : Hid (Below W0.heap.size W0 w1) := HD.out.trans hb1
   have HV1 : Hid (BytesAt w1 (fun g => W0.heap.size ≤ g) v1 1) := hv1
   have hf1 := HS0.out.keep HB1.out
   unfold SixIs at hf1
   clear hv1 hb1
   refine hK.out _ _ (by exact hf1) (fun hHeld => ?_)
   clear hK K
   try simp only [zA, zB, zC, Act.put, zD, zE, zF]
   refine wpAnyH_ready (rs := [4]) (by kernel_rfl) (by simp) ?_
   refine AllReadyH.cons rfl (fun K hK => ?_) AllReadyH.nil
   go_simp
   go_at_call 69
   refine (HBARE.out w1 (VIn.keep HB1.out HV0.out)).mono ?_
   rintro e w2 ⟨rfl, hb2⟩
   have HB2 : Hid (Below W0.heap.size W0 w2) := HB1.out.trans (hb2.mono HB1.out.size)
   have HV2 : Hid (BytesAt w2 (fun g => W0.heap.size ≤ g) v1 1) := HV1.out.keep hb2
   have hf2 := HS0.out.keep HB2.out
   unfold SixIs at hf2
   clear hb2
   refine hK.out _ _ (by exact hf2) (fun hHeld => ?_)
   clear hK K
   try simp only [zA, zB, zC, Act.put, zD, zE, zF]
   refine wpAnyH_take (i := 5) (v := ?_) rfl (by kernel_rfl) (by kernel_rfl) (by kernel_rfl) (fun _ _ _ h => h) (Or.inl ⟨by kernel_rfl, ?_⟩) (by assumption) ?_
   rotate_left
   ·intro wS hSw
    (try dsimp only at hSw)
    go_simp
    try (with_reducible rfl)
   try simp only [zA, zB, zC, Act.put, zD, zE, zF]
   refine wpAnyH_take (i := 6) (v := ?_) rfl (by kernel_rfl) (by kernel_rfl) (by kernel_rfl) (fun _ _ _ h => h) (Or.inl ⟨by kernel_rfl, ?_⟩) (by assumption) ?_
   rotate_left
   ·intro wS hSw
    (try dsimp only at hSw)
    go_simp
    try (with_reducible rfl)
   try simp only [zA, zB, zC, Act.put, zD, zE, zF]
   refine wpAnyH_take (i := 7) (v := ?_) rfl (by kernel_rfl) (by kernel_rfl) (by kernel_rfl) (fun _ _ _ h => h) (Or.inl ⟨by kernel_rfl, ?_⟩) (by assumption) ?_
   rotate_left
   ·intro wS hSw
    (try dsimp only at hSw)
    go_simp
    try (with_reducible rfl)
   try simp only [zA, zB, zC, Act.put, zD, zE, zF]
   refine wpAnyH_take (i := 8) (v := ?_) rfl (by kernel_rfl) (by kernel_rfl) (by kernel_rfl) (fun _ _ _ h => h) (Or.inl ⟨by kernel_rfl, ?_⟩) (by assumption) ?_
   rotate_left
   ·intro wS hSw
    (try dsimp only at hSw)
    go_simp
    try (with_reducible rfl)
   try simp only [zA, zB, zC, Act.put, zD, zE, zF]
   refine wpAnyH_take (i := 9) (v := ?_) rfl (by kernel_rfl) (by kernel_rfl) (by kernel_rfl) (fun _ _ _ h => h) (Or.inl ⟨by kernel_rfl, ?_⟩) (by assumption) ?_
   rotate_left
   ·intro wS hSw
    (try dsimp only at hSw)
    go_simp
    try (with_reducible rfl)
   try simp only [zA, zB, zC, Act.put, zD, zE, zF]
   refine wpAnyH_take (i := 10) (v := ?_) rfl (by kernel_rfl) (by kernel_rfl) (by kernel_rfl) (fun _ _ _ h => h) (Or.inl ⟨by kernel_rfl, ?_⟩) (by assumption) ?_
   rotate_left
   ·intro wS hSw
    (try dsimp only at hSw)
    go_simp
    try (with_reducible rfl)
   try simp only [zA, zB, zC, Act.put, zD, zE, zF]
   refine wpAnyH_take (i := 11) (v := ?_) rfl (by kernel_rfl) (by kernel_rfl) (by kernel_rfl) (fun _ _ _ h => h) (Or.inl ⟨by kernel_rfl, ?_⟩) (by assumption) ?_
   rotate_left
   ·intro wS hSw
    (try dsimp only at hSw)
    go_simp
    try (with_reducible rfl)
   try simp only [zA, zB, zC, Act.put, zD, zE, zF]
   refine wpAnyH_take (i := 12) (v := ?_) rfl (by kernel_rfl) (by kernel_rfl) (by kernel_rfl) (fun _ _ _ h => h) (Or.inl ⟨by kernel_rfl, ?_⟩) (by assumption) ?_
   rotate_left
   ·intro wS hSw
    (try dsimp only at hSw)
    go_simp
    try (with_reducible rfl)
   try simp only [zA, zB, zC, Act.put, zD, zE, zF]
   refine wpAnyH_take (i := 13) (v := ?_) rfl (by kernel_rfl) (by kernel_rfl) (by kernel_rfl) (fun _ _ _ h => h) (Or.inl ⟨by kernel_rfl, ?_⟩) (by assumption) ?_
   rotate_left
   ·intro wS hSw
    (try dsimp only at hSw)
    go_simp
    try (with_reducible rfl)
   try simp only [zA, zB, zC, Act.put, zD, zE, zF]
   refine wpAnyH_take (i := 14) (v := ?_) rfl (by kernel_rfl) (by kernel_rfl) (by kernel_rfl) (fun _ _ _ h => h) (Or.inl ⟨by kernel_rfl, ?_⟩) (by assumption) ?_
   rotate_left
   ·intro wS hSw
    (try dsimp only at hSw)
    go_simp
    try (with_reducible rfl)
   try simp only [zA, zB, zC, Act.put, zD, zE, zF]
   refine wpAnyH_take (i := 15) (v := ?_) rfl (by kernel_rfl) (by kernel_rfl) (by kernel_rfl) (fun _ _ _ h => h) (Or.inl ⟨by kernel_rfl, ?_⟩) (by assumption) ?_
   rotate_left
   ·intro wS hSw
    (try dsimp only at hSw)
    go_simp
    try (with_reducible rfl)
   try simp only [zA, zB, zC, Act.put, zD, zE, zF]
   refine wpAnyH_take (i := 16) (v := ?_) rfl (by kernel_rfl) (by kernel_rfl) (by kernel_rfl) (fun _ _ _ h => h) (Or.inl ⟨by kernel_rfl, ?_⟩) (by assumption) ?_
   rotate_left
   ·intro wS hSw
    (try dsimp only at hSw)
    go_simp
    try (with_reducible rfl)
   try simp only [zA, zB, zC, Act.put, zD, zE, zF]
   refine wpAnyH_done (by kernel_rfl) ?_ _
   go_wp2_with fail
   refine bodyPost_ret (v := .tuple #[v1, .bool _]) (by simp [results, Tryz.results52, go_sem]; rfl) rfl ?_
   exact ⟨v1, _, 1, rfl, HV2.out.mono (fun g hg => .inr (Nat.le_trans HB0.out.size hg)), fun _ => by omega, HB0.out.trans (HB2.out.mono HB0.out.size)⟩
-- KINDS
end Go.Proofs.YtngllchoiffniaaGreatDoor
end
