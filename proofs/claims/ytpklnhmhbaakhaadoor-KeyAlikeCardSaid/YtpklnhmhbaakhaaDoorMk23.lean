/- KeyBehind. -/
import Derived.Test.YtpklnhmhbaakhaaDoorMk13
import Derived.Test.YtpklnhmhbaakhaaDoorMk0
set_option maxRecDepth 100000
section
namespace Go.Proofs.YtpklnhmhbaakhaaDoor
open Go.RowKit
open Seal
open Bson (Val)
theorem fits_leaf' {x : Val} (h6 : x.kind ≠ 6) (h7 : x.kind ≠ 7) : ∀ L, Key.fits L x
  | 0 => ⟨h6, h7⟩
  | _ + 1 => ⟨fun e => absurd e h6, fun e => absurd e h7⟩
theorem bytes_strB' {l : List Nat} (h : Oct l) : Order.bytes (strB l) = l := by
  unfold Order.bytes strB
  rw [List.toList_toArray, List.map_map]
  exact (List.map_congr_left (fun c hc => by have := h c hc; show (UInt8.ofNat c).toNat = c; rw [UInt8.toNat_ofNat']; omega)).trans (List.map_id _)
theorem slice_src {w : World} {a : Option Addr} {l : List Nat} (h : SliceIs w a l) : Src w a l.length (u8s l) := by
  rcases h with rfl | ⟨g, o, rfl, h⟩
  · exact ⟨fun _ => rfl, fun ad _ j u hu => by simp [u8s] at hu⟩
  · refine ⟨fun e => (by cases e), fun ad e j u hu => ?_⟩
    obtain rfl := Option.some.inj e
    have hj : j < l.length := by
      by_cases hj : j < l.length
      · exact hj
      · simp [u8s, List.getElem?_eq_none (show l.length ≤ j by omega)] at hu
    have h1 := h j hj
    have e1 : (⟨g, o, none⟩ : Addr).add j = ⟨g, o + j, none⟩ := by unfold Addr.add; split <;> simp_all
    rw [e1, h1]
    simp [u8s, u8, List.getElem?_eq_getElem hj] at hu
    rw [← hu, List.getD_eq_getElem?_getD, List.getElem?_eq_getElem hj]; rfl
theorem u8s_one' (l : List Nat) : ∀ u ∈ u8s l, u.oneCell' = true := by
  intro u hu
  obtain ⟨c, _, rfl⟩ := List.mem_map.1 hu
  rfl
/-- A row's bytes are appended to the row. -/
theorem Pen.row {w : World} {gp base : Nat} {l : List Nat} {v : Value} (h : Pen w gp base l v) {a : Option Addr} {n : Nat} (c : Nat) {m : List Nat} (hs : SliceIs w a m) (hn : n = m.length) (ho : Oct m) (hl : l.length + m.length ≤ 2147483648) :
    ∃ v' w', (∀ ty, (Builtin.append_ #[23, 23] ty #[v, .slice a n c]).run Tryd.prog w = .ok v' w') ∧ w'.cell? ⟨gp, 0, none⟩ = some v ∧ w'.frozen? ⟨gp, 0, none⟩ = false ∧
      Pen (w'.setCell ⟨gp, 0, none⟩ v') gp base (l ++ m) v' ∧ PMv gp w (w'.setCell ⟨gp, 0, none⟩ v') v v' := by
  subst hn
  obtain ⟨i0, hi, hz0, hz1, hz2⟩ := info_parts infoByte
  obtain ⟨v', w', hr, hown, hw⟩ := run_src_or (P := Tryd.prog) w base 23 23 5 i0 (.int .u8 0) 1 1 Tryd.underlying23 hi hz0 hz1 hz2 rfl (by decide) v l.length (u8s l) h.own a m.length c (u8s m) (slice_src hs) (by simp [u8s]) (u8s_one' m) (by unfold maxLen; omega) (by omega) h.size
  have hown' : w'.ownsRow base 5 1 v' (l.length + m.length) (u8s (l ++ m)) := by
    have e : u8s (l ++ m) = u8s l ++ u8s m := by unfold u8s; rw [List.map_append]
    rw [e]; exact hown
  obtain ⟨p1, p2⟩ := h.app hw hown' ho
  obtain ⟨c1, c2⟩ := h.wrote hw
  exact ⟨v', w', fun ty => (show _ = _ from hr), c1, c2, p1, p2⟩
set_option maxRecDepth 100000 in
set_option maxHeartbeats 4000000 in
theorem beh_put3 (Q : Nat → Prop) (L h : Nat) (x : Val) (u : Value) (w : World) (gp base : Nat) (l : List Nat) (v : Value) (hk : x.kind = 3) (hv : VIn w Q (h + 1) x u) (hQ : ∀ g, Q g → g < base) (hP : Pen w gp base l v) (hX : Maxl w base) (hlen : l.length + (Key.beh L x).length ≤ 2147483648) :
    Calls Tryd.prog 56 #[.pointer (some ⟨gp, 0, none⟩), u, .int .i64 (L : Int)] w (PutPost w gp base l (Key.beh L x) v (Key.fits L x)) := by
  obtain ⟨xk, xn, xs, ba, fa, la, bn, bc, fn, fc, ln, lc, rfl, hxk, hxn, hxs, hbn, hfn, hln, hL, hF, hI⟩ := hv.letters
  obtain rfl : xk = 3 := by rw [hxk, hk]
  obtain ⟨hob, hsl⟩ := hv.byt
  have hb0 : Below w.heap.size w (w.alloc (.cells #[.int .i64 3, .int .i64 xn, .string xs, .slice ba bn bc, .slice fa fn fc, .slice la ln lc] 27)) := (Below.refl _ w).alloc (Nat.le_refl _) _
  have HV0 : Hid (VIn (w.alloc (.cells #[.int .i64 3, .int .i64 xn, .string xs, .slice ba bn bc, .slice fa fn fc, .slice la ln lc] 27)) Q (h + 1) x (.agg #[.int .i64 3, .int .i64 xn, .string xs, .slice ba bn bc, .slice fa fn fc, .slice la ln lc])) := VIn.keep hb0 hv
  have HB0 := Lib.hid hb0
  have HS0 : Hid (SixIs (w.alloc (.cells #[.int .i64 3, .int .i64 xn, .string xs, .slice ba bn bc, .slice fa fn fc, .slice la ln lc] 27)) w.heap.size (.int .i64 3) (.int .i64 xn) (.string xs) (.slice ba bn bc) (.slice fa fn fc) (.slice la ln lc)) := SixIs.new w _ _ _ _ _ _ _
  have HP : Hid (Pen (w.alloc (.cells #[.int .i64 3, .int .i64 xn, .string xs, .slice ba bn bc, .slice fa fn fc, .slice la ln lc] 27)) gp base l v) := hP.keep hb0
  have HX : Hid (Maxl (w.alloc (.cells #[.int .i64 3, .int .i64 xn, .string xs, .slice ba bn bc, .slice fa fn fc, .slice la ln lc] 27)) base) := hX.keep (hb0.mono hP.size)
  have HNE := Lib.hid hP.box
  have HQ := Lib.hid hQ
  have HBB : Hid (Below base w (w.alloc (.cells #[.int .i64 3, .int .i64 xn, .string xs, .slice ba bn bc, .slice fa fn fc, .slice la ln lc] 27))) := hb0.mono hP.size
  have HK := Lib.hid hk
  have HXN := Lib.hid hxn
  have HXS := Lib.hid hxs
  have HLIM := Lib.hid hL
  have HLEN := Lib.hid hlen
  have HBN := Lib.hid hbn
  have HFN := Lib.hid hfn
  have HLN := Lib.hid hln
  have HOB := Lib.hid hob
  have HF0 : Hid (FieldsIn (w.alloc (.cells #[.int .i64 3, .int .i64 xn, .string xs, .slice ba bn bc, .slice fa fn fc, .slice la ln lc] 27)) Q (VIn (w.alloc (.cells #[.int .i64 3, .int .i64 xn, .string xs, .slice ba bn bc, .slice fa fn fc, .slice la ln lc] 27)) Q h) fa x.f) := hF.kept (Kept.of_below hb0) (fun _ z => z) (fun _ _ z => VIn.keep hb0 z)
  have HI0 : Hid (ItemsIn (w.alloc (.cells #[.int .i64 3, .int .i64 xn, .string xs, .slice ba bn bc, .slice fa fn fc, .slice la ln lc] 27)) Q (VIn (w.alloc (.cells #[.int .i64 3, .int .i64 xn, .string xs, .slice ba bn bc, .slice fa fn fc, .slice la ln lc] 27)) Q h) la x.l) := hI.kept (Kept.of_below hb0) (fun _ z => z) (fun _ _ z => VIn.keep hb0 z)
  clear hv hb0 hP hX hQ hxk hxn hxs hbn hfn hln hL hF hI hob hsl hlen hk
  go_enter Tryd.func56, Tryd.ntmps56
  go_wp2_with fail
  generalize (w.alloc (.cells #[.int .i64 3, .int .i64 xn, .string xs, .slice ba bn bc, .slice fa fn fc, .slice la ln lc] 27)) = W0 at *
  obtain ⟨e0, e1, e2, e3, e4, e5⟩ := HS0.out
  have e9 : Key.beh L x = Key.numB xn := by rw [HXN.out]; exact Key.beh_num (by rw [HK.out]; decide)
  have hz := HLIM.out.n0
  have hz2 := HLIM.out.n1
  rw [← HXN.out] at hz hz2
  have hl8 : l.length + 8 ≤ 2147483648 := by have := HLEN.out; rw [e9, Key.numB, Key.be_length] at this; exact this
  go_wp2_with fail
  go_at_call 66
  refine (signed_put W0 gp base l v xn HP.out hl8 hz hz2).mono ?_
  rintro e w1 ⟨rfl, v1, p1, p2⟩
  have HP1 := Lib.hid p1
  have HM1 : Hid (PMv gp w w1 v v1) := (PMv.of_below v HB0.out).trans p2
  clear p1 p2
  go_wp2_with fail
  go_ret
  exact ⟨true, v1, _, rfl, HP1.out, HM1.out, fun _ => ⟨by rw [e9], fits_leaf' (by rw [HK.out]; decide) (by rw [HK.out]; decide) L⟩, nofun⟩
set_option maxRecDepth 100000 in
set_option maxHeartbeats 4000000 in
theorem beh_put4 (Q : Nat → Prop) (L h : Nat) (x : Val) (u : Value) (w : World) (gp base : Nat) (l : List Nat) (v : Value) (hk : x.kind = 4) (hv : VIn w Q (h + 1) x u) (hQ : ∀ g, Q g → g < base) (hP : Pen w gp base l v) (hX : Maxl w base) (hlen : l.length + (Key.beh L x).length ≤ 2147483648) :
    Calls Tryd.prog 56 #[.pointer (some ⟨gp, 0, none⟩), u, .int .i64 (L : Int)] w (PutPost w gp base l (Key.beh L x) v (Key.fits L x)) := by
  obtain ⟨xk, xn, xs, ba, fa, la, bn, bc, fn, fc, ln, lc, rfl, hxk, hxn, hxs, hbn, hfn, hln, hL, hF, hI⟩ := hv.letters
  obtain rfl : xk = 4 := by rw [hxk, hk]
  obtain ⟨hob, hsl⟩ := hv.byt
  have hb0 : Below w.heap.size w (w.alloc (.cells #[.int .i64 4, .int .i64 xn, .string xs, .slice ba bn bc, .slice fa fn fc, .slice la ln lc] 27)) := (Below.refl _ w).alloc (Nat.le_refl _) _
  have HV0 : Hid (VIn (w.alloc (.cells #[.int .i64 4, .int .i64 xn, .string xs, .slice ba bn bc, .slice fa fn fc, .slice la ln lc] 27)) Q (h + 1) x (.agg #[.int .i64 4, .int .i64 xn, .string xs, .slice ba bn bc, .slice fa fn fc, .slice la ln lc])) := VIn.keep hb0 hv
  have HB0 := Lib.hid hb0
  have HS0 : Hid (SixIs (w.alloc (.cells #[.int .i64 4, .int .i64 xn, .string xs, .slice ba bn bc, .slice fa fn fc, .slice la ln lc] 27)) w.heap.size (.int .i64 4) (.int .i64 xn) (.string xs) (.slice ba bn bc) (.slice fa fn fc) (.slice la ln lc)) := SixIs.new w _ _ _ _ _ _ _
  have HP : Hid (Pen (w.alloc (.cells #[.int .i64 4, .int .i64 xn, .string xs, .slice ba bn bc, .slice fa fn fc, .slice la ln lc] 27)) gp base l v) := hP.keep hb0
  have HX : Hid (Maxl (w.alloc (.cells #[.int .i64 4, .int .i64 xn, .string xs, .slice ba bn bc, .slice fa fn fc, .slice la ln lc] 27)) base) := hX.keep (hb0.mono hP.size)
  have HNE := Lib.hid hP.box
  have HQ := Lib.hid hQ
  have HBB : Hid (Below base w (w.alloc (.cells #[.int .i64 4, .int .i64 xn, .string xs, .slice ba bn bc, .slice fa fn fc, .slice la ln lc] 27))) := hb0.mono hP.size
  have HK := Lib.hid hk
  have HXN := Lib.hid hxn
  have HXS := Lib.hid hxs
  have HLIM := Lib.hid hL
  have HLEN := Lib.hid hlen
  have HBN := Lib.hid hbn
  have HFN := Lib.hid hfn
  have HLN := Lib.hid hln
  have HOB := Lib.hid hob
  have HF0 : Hid (FieldsIn (w.alloc (.cells #[.int .i64 4, .int .i64 xn, .string xs, .slice ba bn bc, .slice fa fn fc, .slice la ln lc] 27)) Q (VIn (w.alloc (.cells #[.int .i64 4, .int .i64 xn, .string xs, .slice ba bn bc, .slice fa fn fc, .slice la ln lc] 27)) Q h) fa x.f) := hF.kept (Kept.of_below hb0) (fun _ z => z) (fun _ _ z => VIn.keep hb0 z)
  have HI0 : Hid (ItemsIn (w.alloc (.cells #[.int .i64 4, .int .i64 xn, .string xs, .slice ba bn bc, .slice fa fn fc, .slice la ln lc] 27)) Q (VIn (w.alloc (.cells #[.int .i64 4, .int .i64 xn, .string xs, .slice ba bn bc, .slice fa fn fc, .slice la ln lc] 27)) Q h) la x.l) := hI.kept (Kept.of_below hb0) (fun _ z => z) (fun _ _ z => VIn.keep hb0 z)
  clear hv hb0 hP hX hQ hxk hxn hxs hbn hfn hln hL hF hI hob hsl hlen hk
  go_enter Tryd.func56, Tryd.ntmps56
  go_wp2_with fail
  generalize (w.alloc (.cells #[.int .i64 4, .int .i64 xn, .string xs, .slice ba bn bc, .slice fa fn fc, .slice la ln lc] 27)) = W0 at *
  obtain ⟨e0, e1, e2, e3, e4, e5⟩ := HS0.out
  have e9 : Key.beh L x = Key.numB xn := by rw [HXN.out]; exact Key.beh_num (by rw [HK.out]; decide)
  have hz := HLIM.out.n0
  have hz2 := HLIM.out.n1
  rw [← HXN.out] at hz hz2
  have hl8 : l.length + 8 ≤ 2147483648 := by have := HLEN.out; rw [e9, Key.numB, Key.be_length] at this; exact this
  go_wp2_with fail
  go_at_call 66
  refine (signed_put W0 gp base l v xn HP.out hl8 hz hz2).mono ?_
  rintro e w1 ⟨rfl, v1, p1, p2⟩
  have HP1 := Lib.hid p1
  have HM1 : Hid (PMv gp w w1 v v1) := (PMv.of_below v HB0.out).trans p2
  clear p1 p2
  go_wp2_with fail
  go_ret
  exact ⟨true, v1, _, rfl, HP1.out, HM1.out, fun _ => ⟨by rw [e9], fits_leaf' (by rw [HK.out]; decide) (by rw [HK.out]; decide) L⟩, nofun⟩
set_option maxRecDepth 100000 in
set_option maxHeartbeats 4000000 in
theorem beh_put10 (Q : Nat → Prop) (L h : Nat) (x : Val) (u : Value) (w : World) (gp base : Nat) (l : List Nat) (v : Value) (hk : x.kind = 10) (hv : VIn w Q (h + 1) x u) (hQ : ∀ g, Q g → g < base) (hP : Pen w gp base l v) (hX : Maxl w base) (hlen : l.length + (Key.beh L x).length ≤ 2147483648) :
    Calls Tryd.prog 56 #[.pointer (some ⟨gp, 0, none⟩), u, .int .i64 (L : Int)] w (PutPost w gp base l (Key.beh L x) v (Key.fits L x)) := by
  obtain ⟨xk, xn, xs, ba, fa, la, bn, bc, fn, fc, ln, lc, rfl, hxk, hxn, hxs, hbn, hfn, hln, hL, hF, hI⟩ := hv.letters
  obtain rfl : xk = 10 := by rw [hxk, hk]
  obtain ⟨hob, hsl⟩ := hv.byt
  have hb0 : Below w.heap.size w (w.alloc (.cells #[.int .i64 10, .int .i64 xn, .string xs, .slice ba bn bc, .slice fa fn fc, .slice la ln lc] 27)) := (Below.refl _ w).alloc (Nat.le_refl _) _
  have HV0 : Hid (VIn (w.alloc (.cells #[.int .i64 10, .int .i64 xn, .string xs, .slice ba bn bc, .slice fa fn fc, .slice la ln lc] 27)) Q (h + 1) x (.agg #[.int .i64 10, .int .i64 xn, .string xs, .slice ba bn bc, .slice fa fn fc, .slice la ln lc])) := VIn.keep hb0 hv
  have HB0 := Lib.hid hb0
  have HS0 : Hid (SixIs (w.alloc (.cells #[.int .i64 10, .int .i64 xn, .string xs, .slice ba bn bc, .slice fa fn fc, .slice la ln lc] 27)) w.heap.size (.int .i64 10) (.int .i64 xn) (.string xs) (.slice ba bn bc) (.slice fa fn fc) (.slice la ln lc)) := SixIs.new w _ _ _ _ _ _ _
  have HP : Hid (Pen (w.alloc (.cells #[.int .i64 10, .int .i64 xn, .string xs, .slice ba bn bc, .slice fa fn fc, .slice la ln lc] 27)) gp base l v) := hP.keep hb0
  have HX : Hid (Maxl (w.alloc (.cells #[.int .i64 10, .int .i64 xn, .string xs, .slice ba bn bc, .slice fa fn fc, .slice la ln lc] 27)) base) := hX.keep (hb0.mono hP.size)
  have HNE := Lib.hid hP.box
  have HQ := Lib.hid hQ
  have HBB : Hid (Below base w (w.alloc (.cells #[.int .i64 10, .int .i64 xn, .string xs, .slice ba bn bc, .slice fa fn fc, .slice la ln lc] 27))) := hb0.mono hP.size
  have HK := Lib.hid hk
  have HXN := Lib.hid hxn
  have HXS := Lib.hid hxs
  have HLIM := Lib.hid hL
  have HLEN := Lib.hid hlen
  have HBN := Lib.hid hbn
  have HFN := Lib.hid hfn
  have HLN := Lib.hid hln
  have HOB := Lib.hid hob
  have HF0 : Hid (FieldsIn (w.alloc (.cells #[.int .i64 10, .int .i64 xn, .string xs, .slice ba bn bc, .slice fa fn fc, .slice la ln lc] 27)) Q (VIn (w.alloc (.cells #[.int .i64 10, .int .i64 xn, .string xs, .slice ba bn bc, .slice fa fn fc, .slice la ln lc] 27)) Q h) fa x.f) := hF.kept (Kept.of_below hb0) (fun _ z => z) (fun _ _ z => VIn.keep hb0 z)
  have HI0 : Hid (ItemsIn (w.alloc (.cells #[.int .i64 10, .int .i64 xn, .string xs, .slice ba bn bc, .slice fa fn fc, .slice la ln lc] 27)) Q (VIn (w.alloc (.cells #[.int .i64 10, .int .i64 xn, .string xs, .slice ba bn bc, .slice fa fn fc, .slice la ln lc] 27)) Q h) la x.l) := hI.kept (Kept.of_below hb0) (fun _ z => z) (fun _ _ z => VIn.keep hb0 z)
  clear hv hb0 hP hX hQ hxk hxn hxs hbn hfn hln hL hF hI hob hsl hlen hk
  go_enter Tryd.func56, Tryd.ntmps56
  go_wp2_with fail
  generalize (w.alloc (.cells #[.int .i64 10, .int .i64 xn, .string xs, .slice ba bn bc, .slice fa fn fc, .slice la ln lc] 27)) = W0 at *
  obtain ⟨e0, e1, e2, e3, e4, e5⟩ := HS0.out
  have e9 : Key.beh L x = Key.numB xn := by rw [HXN.out]; exact Key.beh_num (by rw [HK.out]; decide)
  have hz := HLIM.out.n0
  have hz2 := HLIM.out.n1
  rw [← HXN.out] at hz hz2
  have hl8 : l.length + 8 ≤ 2147483648 := by have := HLEN.out; rw [e9, Key.numB, Key.be_length] at this; exact this
  go_wp2_with fail
  go_at_call 66
  refine (signed_put W0 gp base l v xn HP.out hl8 hz hz2).mono ?_
  rintro e w1 ⟨rfl, v1, p1, p2⟩
  have HP1 := Lib.hid p1
  have HM1 : Hid (PMv gp w w1 v v1) := (PMv.of_below v HB0.out).trans p2
  clear p1 p2
  go_wp2_with fail
  go_ret
  exact ⟨true, v1, _, rfl, HP1.out, HM1.out, fun _ => ⟨by rw [e9], fits_leaf' (by rw [HK.out]; decide) (by rw [HK.out]; decide) L⟩, nofun⟩
set_option maxRecDepth 100000 in
set_option maxHeartbeats 4000000 in
theorem beh_put11 (Q : Nat → Prop) (L h : Nat) (x : Val) (u : Value) (w : World) (gp base : Nat) (l : List Nat) (v : Value) (hk : x.kind = 11) (hv : VIn w Q (h + 1) x u) (hQ : ∀ g, Q g → g < base) (hP : Pen w gp base l v) (hX : Maxl w base) (hlen : l.length + (Key.beh L x).length ≤ 2147483648) :
    Calls Tryd.prog 56 #[.pointer (some ⟨gp, 0, none⟩), u, .int .i64 (L : Int)] w (PutPost w gp base l (Key.beh L x) v (Key.fits L x)) := by
  obtain ⟨xk, xn, xs, ba, fa, la, bn, bc, fn, fc, ln, lc, rfl, hxk, hxn, hxs, hbn, hfn, hln, hL, hF, hI⟩ := hv.letters
  obtain rfl : xk = 11 := by rw [hxk, hk]
  obtain ⟨hob, hsl⟩ := hv.byt
  have hb0 : Below w.heap.size w (w.alloc (.cells #[.int .i64 11, .int .i64 xn, .string xs, .slice ba bn bc, .slice fa fn fc, .slice la ln lc] 27)) := (Below.refl _ w).alloc (Nat.le_refl _) _
  have HV0 : Hid (VIn (w.alloc (.cells #[.int .i64 11, .int .i64 xn, .string xs, .slice ba bn bc, .slice fa fn fc, .slice la ln lc] 27)) Q (h + 1) x (.agg #[.int .i64 11, .int .i64 xn, .string xs, .slice ba bn bc, .slice fa fn fc, .slice la ln lc])) := VIn.keep hb0 hv
  have HB0 := Lib.hid hb0
  have HS0 : Hid (SixIs (w.alloc (.cells #[.int .i64 11, .int .i64 xn, .string xs, .slice ba bn bc, .slice fa fn fc, .slice la ln lc] 27)) w.heap.size (.int .i64 11) (.int .i64 xn) (.string xs) (.slice ba bn bc) (.slice fa fn fc) (.slice la ln lc)) := SixIs.new w _ _ _ _ _ _ _
  have HP : Hid (Pen (w.alloc (.cells #[.int .i64 11, .int .i64 xn, .string xs, .slice ba bn bc, .slice fa fn fc, .slice la ln lc] 27)) gp base l v) := hP.keep hb0
  have HX : Hid (Maxl (w.alloc (.cells #[.int .i64 11, .int .i64 xn, .string xs, .slice ba bn bc, .slice fa fn fc, .slice la ln lc] 27)) base) := hX.keep (hb0.mono hP.size)
  have HNE := Lib.hid hP.box
  have HQ := Lib.hid hQ
  have HBB : Hid (Below base w (w.alloc (.cells #[.int .i64 11, .int .i64 xn, .string xs, .slice ba bn bc, .slice fa fn fc, .slice la ln lc] 27))) := hb0.mono hP.size
  have HK := Lib.hid hk
  have HXN := Lib.hid hxn
  have HXS := Lib.hid hxs
  have HLIM := Lib.hid hL
  have HLEN := Lib.hid hlen
  have HBN := Lib.hid hbn
  have HFN := Lib.hid hfn
  have HLN := Lib.hid hln
  have HOB := Lib.hid hob
  have HF0 : Hid (FieldsIn (w.alloc (.cells #[.int .i64 11, .int .i64 xn, .string xs, .slice ba bn bc, .slice fa fn fc, .slice la ln lc] 27)) Q (VIn (w.alloc (.cells #[.int .i64 11, .int .i64 xn, .string xs, .slice ba bn bc, .slice fa fn fc, .slice la ln lc] 27)) Q h) fa x.f) := hF.kept (Kept.of_below hb0) (fun _ z => z) (fun _ _ z => VIn.keep hb0 z)
  have HI0 : Hid (ItemsIn (w.alloc (.cells #[.int .i64 11, .int .i64 xn, .string xs, .slice ba bn bc, .slice fa fn fc, .slice la ln lc] 27)) Q (VIn (w.alloc (.cells #[.int .i64 11, .int .i64 xn, .string xs, .slice ba bn bc, .slice fa fn fc, .slice la ln lc] 27)) Q h) la x.l) := hI.kept (Kept.of_below hb0) (fun _ z => z) (fun _ _ z => VIn.keep hb0 z)
  clear hv hb0 hP hX hQ hxk hxn hxs hbn hfn hln hL hF hI hob hsl hlen hk
  go_enter Tryd.func56, Tryd.ntmps56
  go_wp2_with fail
  generalize (w.alloc (.cells #[.int .i64 11, .int .i64 xn, .string xs, .slice ba bn bc, .slice fa fn fc, .slice la ln lc] 27)) = W0 at *
  obtain ⟨e0, e1, e2, e3, e4, e5⟩ := HS0.out
  have e9 : Key.beh L x = Key.numB xn := by rw [HXN.out]; exact Key.beh_num (by rw [HK.out]; decide)
  have hz := HLIM.out.n0
  have hz2 := HLIM.out.n1
  rw [← HXN.out] at hz hz2
  have hl8 : l.length + 8 ≤ 2147483648 := by have := HLEN.out; rw [e9, Key.numB, Key.be_length] at this; exact this
  go_wp2_with fail
  go_at_call 66
  refine (signed_put W0 gp base l v xn HP.out hl8 hz hz2).mono ?_
  rintro e w1 ⟨rfl, v1, p1, p2⟩
  have HP1 := Lib.hid p1
  have HM1 : Hid (PMv gp w w1 v v1) := (PMv.of_below v HB0.out).trans p2
  clear p1 p2
  go_wp2_with fail
  go_ret
  exact ⟨true, v1, _, rfl, HP1.out, HM1.out, fun _ => ⟨by rw [e9], fits_leaf' (by rw [HK.out]; decide) (by rw [HK.out]; decide) L⟩, nofun⟩
set_option maxRecDepth 100000 in
set_option maxHeartbeats 4000000 in
theorem beh_put5 (Q : Nat → Prop) (L h : Nat) (x : Val) (u : Value) (w : World) (gp base : Nat) (l : List Nat) (v : Value) (hk : x.kind = 5) (hv : VIn w Q (h + 1) x u) (hQ : ∀ g, Q g → g < base) (hP : Pen w gp base l v) (hX : Maxl w base) (hlen : l.length + (Key.beh L x).length ≤ 2147483648) :
    Calls Tryd.prog 56 #[.pointer (some ⟨gp, 0, none⟩), u, .int .i64 (L : Int)] w (PutPost w gp base l (Key.beh L x) v (Key.fits L x)) := by
  obtain ⟨xk, xn, xs, ba, fa, la, bn, bc, fn, fc, ln, lc, rfl, hxk, hxn, hxs, hbn, hfn, hln, hL, hF, hI⟩ := hv.letters
  obtain rfl : xk = 5 := by rw [hxk, hk]
  obtain ⟨hob, hsl⟩ := hv.byt
  have hb0 : Below w.heap.size w (w.alloc (.cells #[.int .i64 5, .int .i64 xn, .string xs, .slice ba bn bc, .slice fa fn fc, .slice la ln lc] 27)) := (Below.refl _ w).alloc (Nat.le_refl _) _
  have HV0 : Hid (VIn (w.alloc (.cells #[.int .i64 5, .int .i64 xn, .string xs, .slice ba bn bc, .slice fa fn fc, .slice la ln lc] 27)) Q (h + 1) x (.agg #[.int .i64 5, .int .i64 xn, .string xs, .slice ba bn bc, .slice fa fn fc, .slice la ln lc])) := VIn.keep hb0 hv
  have HB0 := Lib.hid hb0
  have HS0 : Hid (SixIs (w.alloc (.cells #[.int .i64 5, .int .i64 xn, .string xs, .slice ba bn bc, .slice fa fn fc, .slice la ln lc] 27)) w.heap.size (.int .i64 5) (.int .i64 xn) (.string xs) (.slice ba bn bc) (.slice fa fn fc) (.slice la ln lc)) := SixIs.new w _ _ _ _ _ _ _
  have HP : Hid (Pen (w.alloc (.cells #[.int .i64 5, .int .i64 xn, .string xs, .slice ba bn bc, .slice fa fn fc, .slice la ln lc] 27)) gp base l v) := hP.keep hb0
  have HX : Hid (Maxl (w.alloc (.cells #[.int .i64 5, .int .i64 xn, .string xs, .slice ba bn bc, .slice fa fn fc, .slice la ln lc] 27)) base) := hX.keep (hb0.mono hP.size)
  have HNE := Lib.hid hP.box
  have HQ := Lib.hid hQ
  have HBB : Hid (Below base w (w.alloc (.cells #[.int .i64 5, .int .i64 xn, .string xs, .slice ba bn bc, .slice fa fn fc, .slice la ln lc] 27))) := hb0.mono hP.size
  have HK := Lib.hid hk
  have HXN := Lib.hid hxn
  have HXS := Lib.hid hxs
  have HLIM := Lib.hid hL
  have HLEN := Lib.hid hlen
  have HBN := Lib.hid hbn
  have HFN := Lib.hid hfn
  have HLN := Lib.hid hln
  have HOB := Lib.hid hob
  have HF0 : Hid (FieldsIn (w.alloc (.cells #[.int .i64 5, .int .i64 xn, .string xs, .slice ba bn bc, .slice fa fn fc, .slice la ln lc] 27)) Q (VIn (w.alloc (.cells #[.int .i64 5, .int .i64 xn, .string xs, .slice ba bn bc, .slice fa fn fc, .slice la ln lc] 27)) Q h) fa x.f) := hF.kept (Kept.of_below hb0) (fun _ z => z) (fun _ _ z => VIn.keep hb0 z)
  have HI0 : Hid (ItemsIn (w.alloc (.cells #[.int .i64 5, .int .i64 xn, .string xs, .slice ba bn bc, .slice fa fn fc, .slice la ln lc] 27)) Q (VIn (w.alloc (.cells #[.int .i64 5, .int .i64 xn, .string xs, .slice ba bn bc, .slice fa fn fc, .slice la ln lc] 27)) Q h) la x.l) := hI.kept (Kept.of_below hb0) (fun _ z => z) (fun _ _ z => VIn.keep hb0 z)
  clear hv hb0 hP hX hQ hxk hxn hxs hbn hfn hln hL hF hI hob hsl hlen hk
  go_enter Tryd.func56, Tryd.ntmps56
  go_wp2_with fail
  generalize (w.alloc (.cells #[.int .i64 5, .int .i64 xn, .string xs, .slice ba bn bc, .slice fa fn fc, .slice la ln lc] 27)) = W0 at *
  obtain ⟨e0, e1, e2, e3, e4, e5⟩ := HS0.out
  have e9 : Key.beh L x = Key.textB (Order.bytes xs) := by rw [HXS.out]; exact Key.beh_text HK.out
  have hl8 := HLEN.out
  rw [e9] at hl8
  go_wp2_with fail
  go_at_call 67
  refine (text_put W0 gp base l v xs HP.out hl8 HX.out.2).mono ?_
  rintro e w1 ⟨rfl, v1, p1, p2⟩
  have HP1 := Lib.hid p1
  have HM1 : Hid (PMv gp w w1 v v1) := (PMv.of_below v HB0.out).trans p2
  clear p1 p2
  go_wp2_with fail
  go_ret
  exact ⟨true, v1, _, rfl, HP1.out, HM1.out, fun _ => ⟨by rw [e9], fits_leaf' (by rw [HK.out]; decide) (by rw [HK.out]; decide) L⟩, nofun⟩
set_option maxRecDepth 100000 in
set_option maxHeartbeats 4000000 in
theorem beh_put9 (Q : Nat → Prop) (L h : Nat) (x : Val) (u : Value) (w : World) (gp base : Nat) (l : List Nat) (v : Value) (hk : x.kind = 9) (hv : VIn w Q (h + 1) x u) (hQ : ∀ g, Q g → g < base) (hP : Pen w gp base l v) (hX : Maxl w base) (hlen : l.length + (Key.beh L x).length ≤ 2147483648) :
    Calls Tryd.prog 56 #[.pointer (some ⟨gp, 0, none⟩), u, .int .i64 (L : Int)] w (PutPost w gp base l (Key.beh L x) v (Key.fits L x)) := by
  obtain ⟨xk, xn, xs, ba, fa, la, bn, bc, fn, fc, ln, lc, rfl, hxk, hxn, hxs, hbn, hfn, hln, hL, hF, hI⟩ := hv.letters
  obtain rfl : xk = 9 := by rw [hxk, hk]
  obtain ⟨hob, hsl⟩ := hv.byt
  have hb0 : Below w.heap.size w (w.alloc (.cells #[.int .i64 9, .int .i64 xn, .string xs, .slice ba bn bc, .slice fa fn fc, .slice la ln lc] 27)) := (Below.refl _ w).alloc (Nat.le_refl _) _
  have HV0 : Hid (VIn (w.alloc (.cells #[.int .i64 9, .int .i64 xn, .string xs, .slice ba bn bc, .slice fa fn fc, .slice la ln lc] 27)) Q (h + 1) x (.agg #[.int .i64 9, .int .i64 xn, .string xs, .slice ba bn bc, .slice fa fn fc, .slice la ln lc])) := VIn.keep hb0 hv
  have HB0 := Lib.hid hb0
  have HS0 : Hid (SixIs (w.alloc (.cells #[.int .i64 9, .int .i64 xn, .string xs, .slice ba bn bc, .slice fa fn fc, .slice la ln lc] 27)) w.heap.size (.int .i64 9) (.int .i64 xn) (.string xs) (.slice ba bn bc) (.slice fa fn fc) (.slice la ln lc)) := SixIs.new w _ _ _ _ _ _ _
  have HP : Hid (Pen (w.alloc (.cells #[.int .i64 9, .int .i64 xn, .string xs, .slice ba bn bc, .slice fa fn fc, .slice la ln lc] 27)) gp base l v) := hP.keep hb0
  have HX : Hid (Maxl (w.alloc (.cells #[.int .i64 9, .int .i64 xn, .string xs, .slice ba bn bc, .slice fa fn fc, .slice la ln lc] 27)) base) := hX.keep (hb0.mono hP.size)
  have HNE := Lib.hid hP.box
  have HQ := Lib.hid hQ
  have HBB : Hid (Below base w (w.alloc (.cells #[.int .i64 9, .int .i64 xn, .string xs, .slice ba bn bc, .slice fa fn fc, .slice la ln lc] 27))) := hb0.mono hP.size
  have HK := Lib.hid hk
  have HXN := Lib.hid hxn
  have HXS := Lib.hid hxs
  have HLIM := Lib.hid hL
  have HLEN := Lib.hid hlen
  have HBN := Lib.hid hbn
  have HFN := Lib.hid hfn
  have HLN := Lib.hid hln
  have HOB := Lib.hid hob
  have HF0 : Hid (FieldsIn (w.alloc (.cells #[.int .i64 9, .int .i64 xn, .string xs, .slice ba bn bc, .slice fa fn fc, .slice la ln lc] 27)) Q (VIn (w.alloc (.cells #[.int .i64 9, .int .i64 xn, .string xs, .slice ba bn bc, .slice fa fn fc, .slice la ln lc] 27)) Q h) fa x.f) := hF.kept (Kept.of_below hb0) (fun _ z => z) (fun _ _ z => VIn.keep hb0 z)
  have HI0 : Hid (ItemsIn (w.alloc (.cells #[.int .i64 9, .int .i64 xn, .string xs, .slice ba bn bc, .slice fa fn fc, .slice la ln lc] 27)) Q (VIn (w.alloc (.cells #[.int .i64 9, .int .i64 xn, .string xs, .slice ba bn bc, .slice fa fn fc, .slice la ln lc] 27)) Q h) la x.l) := hI.kept (Kept.of_below hb0) (fun _ z => z) (fun _ _ z => VIn.keep hb0 z)
  clear hv hb0 hP hX hQ hxk hxn hxs hbn hfn hln hL hF hI hob hsl hlen hk
  go_enter Tryd.func56, Tryd.ntmps56
  go_wp2_with fail
  generalize (w.alloc (.cells #[.int .i64 9, .int .i64 xn, .string xs, .slice ba bn bc, .slice fa fn fc, .slice la ln lc] 27)) = W0 at *
  obtain ⟨e0, e1, e2, e3, e4, e5⟩ := HS0.out
  have hob : Key.beh L x = Key.textB (Order.bytes (strB x.b)) := by rw [bytes_strB' HOB.out]; exact Key.beh_id HK.out
  obtain ⟨s, hs⟩ : ∃ s, s = strB x.b := ⟨_, rfl⟩
  rw [← hs] at hob
  have hl8 := HLEN.out
  rw [hob] at hl8
  have hc := conv_str W0 ba bn bc x.b HBN.out.symm HV0.out.byt.2
  rw [← hs] at hc
  clear hs
  go_wp2_with fail
  rw [hc]
  go_wp2_with fail
  go_at_call 67
  refine (text_put W0 gp base l v s HP.out hl8 HX.out.2).mono ?_
  rintro e w1 ⟨rfl, v1, p1, p2⟩
  have HP1 := Lib.hid p1
  have HM1 : Hid (PMv gp w w1 v v1) := (PMv.of_below v HB0.out).trans p2
  clear p1 p2
  go_wp2_with fail
  go_ret
  exact ⟨true, v1, _, rfl, HP1.out, HM1.out, fun _ => ⟨by rw [hob], fits_leaf' (by rw [HK.out]; decide) (by rw [HK.out]; decide) L⟩, nofun⟩
set_option maxRecDepth 100000 in
set_option maxHeartbeats 4000000 in
theorem beh_put8 (Q : Nat → Prop) (L h : Nat) (x : Val) (u : Value) (w : World) (gp base : Nat) (l : List Nat) (v : Value) (hk : x.kind = 8) (hv : VIn w Q (h + 1) x u) (hQ : ∀ g, Q g → g < base) (hP : Pen w gp base l v) (hX : Maxl w base) (hlen : l.length + (Key.beh L x).length ≤ 2147483648) :
    Calls Tryd.prog 56 #[.pointer (some ⟨gp, 0, none⟩), u, .int .i64 (L : Int)] w (PutPost w gp base l (Key.beh L x) v (Key.fits L x)) := by
  obtain ⟨xk, xn, xs, ba, fa, la, bn, bc, fn, fc, ln, lc, rfl, hxk, hxn, hxs, hbn, hfn, hln, hL, hF, hI⟩ := hv.letters
  obtain rfl : xk = 8 := by rw [hxk, hk]
  obtain ⟨hob, hsl⟩ := hv.byt
  have hb0 : Below w.heap.size w (w.alloc (.cells #[.int .i64 8, .int .i64 xn, .string xs, .slice ba bn bc, .slice fa fn fc, .slice la ln lc] 27)) := (Below.refl _ w).alloc (Nat.le_refl _) _
  have HV0 : Hid (VIn (w.alloc (.cells #[.int .i64 8, .int .i64 xn, .string xs, .slice ba bn bc, .slice fa fn fc, .slice la ln lc] 27)) Q (h + 1) x (.agg #[.int .i64 8, .int .i64 xn, .string xs, .slice ba bn bc, .slice fa fn fc, .slice la ln lc])) := VIn.keep hb0 hv
  have HB0 := Lib.hid hb0
  have HS0 : Hid (SixIs (w.alloc (.cells #[.int .i64 8, .int .i64 xn, .string xs, .slice ba bn bc, .slice fa fn fc, .slice la ln lc] 27)) w.heap.size (.int .i64 8) (.int .i64 xn) (.string xs) (.slice ba bn bc) (.slice fa fn fc) (.slice la ln lc)) := SixIs.new w _ _ _ _ _ _ _
  have HP : Hid (Pen (w.alloc (.cells #[.int .i64 8, .int .i64 xn, .string xs, .slice ba bn bc, .slice fa fn fc, .slice la ln lc] 27)) gp base l v) := hP.keep hb0
  have HX : Hid (Maxl (w.alloc (.cells #[.int .i64 8, .int .i64 xn, .string xs, .slice ba bn bc, .slice fa fn fc, .slice la ln lc] 27)) base) := hX.keep (hb0.mono hP.size)
  have HNE := Lib.hid hP.box
  have HQ := Lib.hid hQ
  have HBB : Hid (Below base w (w.alloc (.cells #[.int .i64 8, .int .i64 xn, .string xs, .slice ba bn bc, .slice fa fn fc, .slice la ln lc] 27))) := hb0.mono hP.size
  have HK := Lib.hid hk
  have HXN := Lib.hid hxn
  have HXS := Lib.hid hxs
  have HLIM := Lib.hid hL
  have HLEN := Lib.hid hlen
  have HBN := Lib.hid hbn
  have HFN := Lib.hid hfn
  have HLN := Lib.hid hln
  have HOB := Lib.hid hob
  have HF0 : Hid (FieldsIn (w.alloc (.cells #[.int .i64 8, .int .i64 xn, .string xs, .slice ba bn bc, .slice fa fn fc, .slice la ln lc] 27)) Q (VIn (w.alloc (.cells #[.int .i64 8, .int .i64 xn, .string xs, .slice ba bn bc, .slice fa fn fc, .slice la ln lc] 27)) Q h) fa x.f) := hF.kept (Kept.of_below hb0) (fun _ z => z) (fun _ _ z => VIn.keep hb0 z)
  have HI0 : Hid (ItemsIn (w.alloc (.cells #[.int .i64 8, .int .i64 xn, .string xs, .slice ba bn bc, .slice fa fn fc, .slice la ln lc] 27)) Q (VIn (w.alloc (.cells #[.int .i64 8, .int .i64 xn, .string xs, .slice ba bn bc, .slice fa fn fc, .slice la ln lc] 27)) Q h) la x.l) := hI.kept (Kept.of_below hb0) (fun _ z => z) (fun _ _ z => VIn.keep hb0 z)
  clear hv hb0 hP hX hQ hxk hxn hxs hbn hfn hln hL hF hI hob hsl hlen hk
  go_enter Tryd.func56, Tryd.ntmps56
  go_wp2_with fail
  generalize (w.alloc (.cells #[.int .i64 8, .int .i64 xn, .string xs, .slice ba bn bc, .slice fa fn fc, .slice la ln lc] 27)) = W0 at *
  obtain ⟨e0, e1, e2, e3, e4, e5⟩ := HS0.out
  have e9 : Key.beh L x = Key.blobB x.b := Key.beh_blob HK.out
  have hl8 := HLEN.out
  rw [e9, Key.blobB, List.length_append, Key.be_length] at hl8
  have hbl := HLIM.out.b
  have hw : IntKind.u64.wrap (bn : Int) = (bn : Int) := by rw [IntKind.wrap_u64]; have := HBN.out; omega
  have HC := Lib.hid (number_any W0 gp base l v bn HP.out (by omega))
  go_wp2_with fail
  go_at_call 70
  rw [hw]
  refine HC.out.mono ?_
  rintro e w1 ⟨rfl, v1, p1, p2⟩
  have HP1 := Lib.hid p1
  have HM1 := Lib.hid p2
  have HM1' : Hid (PMv gp w w1 v v1) := (PMv.of_below v HB0.out).trans p2
  have hs1 := HS0.out.moved HM1.out HNE.out
  obtain ⟨g0, g1, g2, g3, g4, g5⟩ := hs1
  have hv1 := VIn.kept (kept_base (HM1.out.below HP.out) HQ.out) (fun _ z => z) HV0.out
  obtain ⟨v2, w2, hr, c1, c2, q1, q2⟩ := (HP1.out.keep (Below.refl _ w1).drew).row bc (hv1.byt.2.keep (Below.refl _ w1).drew) HBN.out HOB.out (by rw [List.length_append, Key.be_length]; omega)
  have c0 := HP1.out.c0
  have HE := Lib.hid (And.intro q1 (HM1'.out.trans ((PMv.of_below v1 (Below.refl _ w1).drew).trans q2)))
  obtain ⟨a4, c4, hv4⟩ := HP1.out.shape
  obtain ⟨a5, c5, hv5⟩ := q1.shape
  generalize (l ++ Key.be bn 8).length = n1 at *
  generalize (l ++ Key.be bn 8 ++ x.b).length = n2 at *
  subst hv4
  subst hv5
  have hrd := hr 23
  clear p1 p2 q1 q2 hr hv1 e0 e1 e2 e3 e4 e5 HC
  go_wp2_with fail
  refine wp_region_held_drew (S := fun _ => True) (by kernel_rfl) trivial (fun hHeld => ?_)
  refine wpAnyH_take (i := 0) (v := ?_) rfl (by kernel_rfl) (by kernel_rfl) (by kernel_rfl) (fun _ _ _ h => h) (Or.inl ⟨by kernel_rfl, ?_⟩) (by assumption) ?_
  rotate_left
  · intro wS hSw
    go_simp
    try (with_reducible rfl)
  try simp only [List.getElem_toArray, List.getElem_cons_zero, Act.put, List.setIfInBounds_toArray, List.set_cons_zero, List.set_cons_succ]
  refine wpAnyH_take (i := 1) (v := ?_) rfl (by kernel_rfl) (by kernel_rfl) (by kernel_rfl) (fun _ _ _ h => h) (Or.inl ⟨by kernel_rfl, ?_⟩) (by assumption) ?_
  rotate_left
  · intro wS hSw
    go_simp
    try (with_reducible rfl)
  try simp only [List.getElem_toArray, List.getElem_cons_succ, List.getElem_cons_zero, Act.put, List.setIfInBounds_toArray, List.set_cons_zero, List.set_cons_succ]
  refine wpAnyH_take (i := 2) (v := ?_) rfl (by kernel_rfl) (by kernel_rfl) (by kernel_rfl) (fun _ _ _ h => h) (Or.inl ⟨by kernel_rfl, ?_⟩) (by assumption) ?_
  rotate_left
  · intro wS hSw
    go_simp
    try (with_reducible rfl)
  try simp only [List.getElem_toArray, List.getElem_cons_succ, List.getElem_cons_zero, Act.put, List.setIfInBounds_toArray, List.set_cons_zero, List.set_cons_succ]
  refine wpAnyH_take (i := 3) (v := ?_) rfl (by kernel_rfl) (by kernel_rfl) (by kernel_rfl) (fun _ _ _ h => h) (Or.inl ⟨by kernel_rfl, ?_⟩) (by assumption) ?_
  rotate_left
  · intro wS hSw
    go_simp
    try (with_reducible rfl)
  try simp only [List.getElem_toArray, List.getElem_cons_succ, List.getElem_cons_zero, Act.put, List.setIfInBounds_toArray, List.set_cons_zero, List.set_cons_succ]
  refine wpAnyH_take (i := 5) (v := ?_) rfl (by kernel_rfl) (by kernel_rfl) (by kernel_rfl) (fun _ _ _ h => h) (Or.inl ⟨by kernel_rfl, ?_⟩) (by assumption) ?_
  rotate_left
  · intro wS hSw
    go_simp
    try (with_reducible rfl)
  try simp only [List.getElem_toArray, List.getElem_cons_succ, List.getElem_cons_zero, Act.put, List.setIfInBounds_toArray, List.set_cons_zero, List.set_cons_succ]
  refine wpAnyH_ready (rs := [4, 6]) (by kernel_rfl) (by simp) ?_
  refine AllReadyH.cons rfl (fun K hK => ?_) (AllReadyH.cons rfl (fun K hK => ?_) AllReadyH.nil)
  · go_simp
    refine hK.out _ _ trivial (fun hHeld => ?_)
    clear hK K
    try simp only [List.getElem_toArray, List.getElem_cons_succ, List.getElem_cons_zero, Act.put, List.setIfInBounds_toArray, List.set_cons_zero, List.set_cons_succ]
    refine wpAnyH_ready (rs := [6]) (by kernel_rfl) (by simp) ?_
    refine AllReadyH.cons rfl (fun K hK => ?_) AllReadyH.nil
    go_simp
    refine hK.out _ _ trivial (fun hHeld => ?_)
    clear hK K
    try simp only [List.getElem_toArray, List.getElem_cons_succ, List.getElem_cons_zero, Act.put, List.setIfInBounds_toArray, List.set_cons_zero, List.set_cons_succ]
    refine wpAnyH_ready (rs := [7]) (by kernel_rfl) (by simp) ?_
    refine AllReadyH.cons rfl (fun K hK => ?_) AllReadyH.nil
    refine step_run_append rfl (.tmp 60) (.tmp 62) 23 23 rfl _ _ _ w2 rfl rfl hrd ?_
    refine hK.out _ _ trivial (fun hHeld => ?_)
    clear hK K
    try simp only [List.getElem_toArray, List.getElem_cons_succ, List.getElem_cons_zero, Act.put, List.setIfInBounds_toArray, List.set_cons_zero, List.set_cons_succ]
    refine wpAnyH_take (i := 8) (v := ?_) rfl (by kernel_rfl) (by kernel_rfl) (by kernel_rfl) (fun _ _ _ h => h) (Or.inl ⟨by kernel_rfl, ?_⟩) (by assumption) ?_
    rotate_left
    · intro wS hSw
      go_simp
      try (with_reducible rfl)
    try simp only [List.getElem_toArray, List.getElem_cons_succ, List.getElem_cons_zero, Act.put, List.setIfInBounds_toArray, List.set_cons_zero, List.set_cons_succ]
    refine wpAnyH_take (i := 9) (v := ?_) rfl (by kernel_rfl) (by kernel_rfl) (by kernel_rfl) (fun _ _ _ h => h) (Or.inl ⟨by kernel_rfl, ?_⟩) (by assumption) ?_
    rotate_left
    · intro wS hSw
      go_simp
      try (with_reducible rfl)
    try simp only [List.getElem_toArray, List.getElem_cons_succ, List.getElem_cons_zero, Act.put, List.setIfInBounds_toArray, List.set_cons_zero, List.set_cons_succ]
    refine wpAnyH_ready (rs := [10]) (by kernel_rfl) (by simp) ?_
    refine AllReadyH.cons rfl (fun K hK => ?_) AllReadyH.nil
    go_simp
    refine hK.out _ _ trivial (fun hHeld => ?_)
    clear hK K
    try simp only [List.getElem_toArray, List.getElem_cons_succ, List.getElem_cons_zero, Act.put, List.setIfInBounds_toArray, List.set_cons_zero, List.set_cons_succ]
    refine wpAnyH_done (by kernel_rfl) ?_ _
    go_wp2_with fail
    go_ret
    refine ⟨true, _, _, rfl, HE.out.1, HE.out.2, fun _ => ⟨?_, fits_leaf' (by rw [HK.out]; decide) (by rw [HK.out]; decide) L⟩, nofun⟩
    rw [e9, Key.blobB, List.append_assoc, HBN.out]
  · go_simp
    refine hK.out _ _ trivial (fun hHeld => ?_)
    clear hK K
    try simp only [List.getElem_toArray, List.getElem_cons_succ, List.getElem_cons_zero, Act.put, List.setIfInBounds_toArray, List.set_cons_zero, List.set_cons_succ]
    refine wpAnyH_ready (rs := [4]) (by kernel_rfl) (by simp) ?_
    refine AllReadyH.cons rfl (fun K hK => ?_) AllReadyH.nil
    go_simp
    refine hK.out _ _ trivial (fun hHeld => ?_)
    clear hK K
    try simp only [List.getElem_toArray, List.getElem_cons_succ, List.getElem_cons_zero, Act.put, List.setIfInBounds_toArray, List.set_cons_zero, List.set_cons_succ]
    refine wpAnyH_ready (rs := [7]) (by kernel_rfl) (by simp) ?_
    refine AllReadyH.cons rfl (fun K hK => ?_) AllReadyH.nil
    refine step_run_append rfl (.tmp 60) (.tmp 62) 23 23 rfl _ _ _ w2 rfl rfl hrd ?_
    refine hK.out _ _ trivial (fun hHeld => ?_)
    clear hK K
    try simp only [List.getElem_toArray, List.getElem_cons_succ, List.getElem_cons_zero, Act.put, List.setIfInBounds_toArray, List.set_cons_zero, List.set_cons_succ]
    refine wpAnyH_take (i := 8) (v := ?_) rfl (by kernel_rfl) (by kernel_rfl) (by kernel_rfl) (fun _ _ _ h => h) (Or.inl ⟨by kernel_rfl, ?_⟩) (by assumption) ?_
    rotate_left
    · intro wS hSw
      go_simp
      try (with_reducible rfl)
    try simp only [List.getElem_toArray, List.getElem_cons_succ, List.getElem_cons_zero, Act.put, List.setIfInBounds_toArray, List.set_cons_zero, List.set_cons_succ]
    refine wpAnyH_take (i := 9) (v := ?_) rfl (by kernel_rfl) (by kernel_rfl) (by kernel_rfl) (fun _ _ _ h => h) (Or.inl ⟨by kernel_rfl, ?_⟩) (by assumption) ?_
    rotate_left
    · intro wS hSw
      go_simp
      try (with_reducible rfl)
    try simp only [List.getElem_toArray, List.getElem_cons_succ, List.getElem_cons_zero, Act.put, List.setIfInBounds_toArray, List.set_cons_zero, List.set_cons_succ]
    refine wpAnyH_ready (rs := [10]) (by kernel_rfl) (by simp) ?_
    refine AllReadyH.cons rfl (fun K hK => ?_) AllReadyH.nil
    go_simp
    refine hK.out _ _ trivial (fun hHeld => ?_)
    clear hK K
    try simp only [List.getElem_toArray, List.getElem_cons_succ, List.getElem_cons_zero, Act.put, List.setIfInBounds_toArray, List.set_cons_zero, List.set_cons_succ]
    refine wpAnyH_done (by kernel_rfl) ?_ _
    go_wp2_with fail
    go_ret
    refine ⟨true, _, _, rfl, HE.out.1, HE.out.2, fun _ => ⟨?_, fits_leaf' (by rw [HK.out]; decide) (by rw [HK.out]; decide) L⟩, nofun⟩
    rw [e9, Key.blobB, List.append_assoc, HBN.out]
set_option maxRecDepth 100000 in
set_option maxHeartbeats 4000000 in
theorem beh_put6z (Q : Nat → Prop) (h : Nat) (x : Val) (u : Value) (w : World) (gp base : Nat) (l : List Nat) (v : Value) (hk : x.kind = 6) (hv : VIn w Q (h + 1) x u) (hQ : ∀ g, Q g → g < base) (hP : Pen w gp base l v) (hX : Maxl w base) (hlen : l.length + (Key.beh 0 x).length ≤ 2147483648) :
    Calls Tryd.prog 56 #[.pointer (some ⟨gp, 0, none⟩), u, .int .i64 ((0 : Nat) : Int)] w (PutPost w gp base l (Key.beh (0 : Nat) x) v (Key.fits (0 : Nat) x)) := by
  obtain ⟨xk, xn, xs, ba, fa, la, bn, bc, fn, fc, ln, lc, rfl, hxk, hxn, hxs, hbn, hfn, hln, hL, hF, hI⟩ := hv.letters
  obtain rfl : xk = 6 := by rw [hxk, hk]
  obtain ⟨hob, hsl⟩ := hv.byt
  have hb0 : Below w.heap.size w (w.alloc (.cells #[.int .i64 6, .int .i64 xn, .string xs, .slice ba bn bc, .slice fa fn fc, .slice la ln lc] 27)) := (Below.refl _ w).alloc (Nat.le_refl _) _
  have HV0 : Hid (VIn (w.alloc (.cells #[.int .i64 6, .int .i64 xn, .string xs, .slice ba bn bc, .slice fa fn fc, .slice la ln lc] 27)) Q (h + 1) x (.agg #[.int .i64 6, .int .i64 xn, .string xs, .slice ba bn bc, .slice fa fn fc, .slice la ln lc])) := VIn.keep hb0 hv
  have HB0 := Lib.hid hb0
  have HS0 : Hid (SixIs (w.alloc (.cells #[.int .i64 6, .int .i64 xn, .string xs, .slice ba bn bc, .slice fa fn fc, .slice la ln lc] 27)) w.heap.size (.int .i64 6) (.int .i64 xn) (.string xs) (.slice ba bn bc) (.slice fa fn fc) (.slice la ln lc)) := SixIs.new w _ _ _ _ _ _ _
  have HP : Hid (Pen (w.alloc (.cells #[.int .i64 6, .int .i64 xn, .string xs, .slice ba bn bc, .slice fa fn fc, .slice la ln lc] 27)) gp base l v) := hP.keep hb0
  have HX : Hid (Maxl (w.alloc (.cells #[.int .i64 6, .int .i64 xn, .string xs, .slice ba bn bc, .slice fa fn fc, .slice la ln lc] 27)) base) := hX.keep (hb0.mono hP.size)
  have HNE := Lib.hid hP.box
  have HQ := Lib.hid hQ
  have HBB : Hid (Below base w (w.alloc (.cells #[.int .i64 6, .int .i64 xn, .string xs, .slice ba bn bc, .slice fa fn fc, .slice la ln lc] 27))) := hb0.mono hP.size
  have HK := Lib.hid hk
  have HXN := Lib.hid hxn
  have HXS := Lib.hid hxs
  have HLIM := Lib.hid hL
  have HLEN := Lib.hid hlen
  have HBN := Lib.hid hbn
  have HFN := Lib.hid hfn
  have HLN := Lib.hid hln
  have HOB := Lib.hid hob
  have HF0 : Hid (FieldsIn (w.alloc (.cells #[.int .i64 6, .int .i64 xn, .string xs, .slice ba bn bc, .slice fa fn fc, .slice la ln lc] 27)) Q (VIn (w.alloc (.cells #[.int .i64 6, .int .i64 xn, .string xs, .slice ba bn bc, .slice fa fn fc, .slice la ln lc] 27)) Q h) fa x.f) := hF.kept (Kept.of_below hb0) (fun _ z => z) (fun _ _ z => VIn.keep hb0 z)
  have HI0 : Hid (ItemsIn (w.alloc (.cells #[.int .i64 6, .int .i64 xn, .string xs, .slice ba bn bc, .slice fa fn fc, .slice la ln lc] 27)) Q (VIn (w.alloc (.cells #[.int .i64 6, .int .i64 xn, .string xs, .slice ba bn bc, .slice fa fn fc, .slice la ln lc] 27)) Q h) la x.l) := hI.kept (Kept.of_below hb0) (fun _ z => z) (fun _ _ z => VIn.keep hb0 z)
  clear hv hb0 hP hX hQ hxk hxn hxs hbn hfn hln hL hF hI hob hsl hlen hk
  go_enter Tryd.func56, Tryd.ntmps56
  go_wp2_with fail
  generalize (w.alloc (.cells #[.int .i64 6, .int .i64 xn, .string xs, .slice ba bn bc, .slice fa fn fc, .slice la ln lc] 27)) = W0 at *
  obtain ⟨e0, e1, e2, e3, e4, e5⟩ := HS0.out
  go_wp2_with fail
  go_ret
  exact ⟨false, v, l, rfl, HP.out, PMv.of_below v HB0.out, nofun, fun _ hf => (by have := hf; rw [Key.fits] at this; exact this.1 HK.out)⟩
set_option maxRecDepth 100000 in
set_option maxHeartbeats 4000000 in
theorem beh_put6s (Q : Nat → Prop) (L h : Nat) (x : Val) (u : Value) (w : World) (gp base : Nat) (l : List Nat) (v : Value) (hk : x.kind = 6) (hv : VIn w Q (h + 1) x u) (hQ : ∀ g, Q g → g < base) (hP : Pen w gp base l v) (hX : Maxl w base) (hlen : l.length + (Key.beh (L + 1) x).length ≤ 2147483648) (hLL9 : L ≤ 1000) (IH : FieldsPut L h) :
    Calls Tryd.prog 56 #[.pointer (some ⟨gp, 0, none⟩), u, .int .i64 ((L + 1 : Nat) : Int)] w (PutPost w gp base l (Key.beh (L + 1 : Nat) x) v (Key.fits (L + 1 : Nat) x)) := by
  obtain ⟨xk, xn, xs, ba, fa, la, bn, bc, fn, fc, ln, lc, rfl, hxk, hxn, hxs, hbn, hfn, hln, hL, hF, hI⟩ := hv.letters
  obtain rfl : xk = 6 := by rw [hxk, hk]
  obtain ⟨hob, hsl⟩ := hv.byt
  have hb0 : Below w.heap.size w (w.alloc (.cells #[.int .i64 6, .int .i64 xn, .string xs, .slice ba bn bc, .slice fa fn fc, .slice la ln lc] 27)) := (Below.refl _ w).alloc (Nat.le_refl _) _
  have HV0 : Hid (VIn (w.alloc (.cells #[.int .i64 6, .int .i64 xn, .string xs, .slice ba bn bc, .slice fa fn fc, .slice la ln lc] 27)) Q (h + 1) x (.agg #[.int .i64 6, .int .i64 xn, .string xs, .slice ba bn bc, .slice fa fn fc, .slice la ln lc])) := VIn.keep hb0 hv
  have HB0 := Lib.hid hb0
  have HS0 : Hid (SixIs (w.alloc (.cells #[.int .i64 6, .int .i64 xn, .string xs, .slice ba bn bc, .slice fa fn fc, .slice la ln lc] 27)) w.heap.size (.int .i64 6) (.int .i64 xn) (.string xs) (.slice ba bn bc) (.slice fa fn fc) (.slice la ln lc)) := SixIs.new w _ _ _ _ _ _ _
  have HP : Hid (Pen (w.alloc (.cells #[.int .i64 6, .int .i64 xn, .string xs, .slice ba bn bc, .slice fa fn fc, .slice la ln lc] 27)) gp base l v) := hP.keep hb0
  have HX : Hid (Maxl (w.alloc (.cells #[.int .i64 6, .int .i64 xn, .string xs, .slice ba bn bc, .slice fa fn fc, .slice la ln lc] 27)) base) := hX.keep (hb0.mono hP.size)
  have HNE := Lib.hid hP.box
  have HQ := Lib.hid hQ
  have HBB : Hid (Below base w (w.alloc (.cells #[.int .i64 6, .int .i64 xn, .string xs, .slice ba bn bc, .slice fa fn fc, .slice la ln lc] 27))) := hb0.mono hP.size
  have HK := Lib.hid hk
  have HXN := Lib.hid hxn
  have HXS := Lib.hid hxs
  have HLIM := Lib.hid hL
  have HLEN := Lib.hid hlen
  have HBN := Lib.hid hbn
  have HFN := Lib.hid hfn
  have HLN := Lib.hid hln
  have HOB := Lib.hid hob
  have HF0 : Hid (FieldsIn (w.alloc (.cells #[.int .i64 6, .int .i64 xn, .string xs, .slice ba bn bc, .slice fa fn fc, .slice la ln lc] 27)) Q (VIn (w.alloc (.cells #[.int .i64 6, .int .i64 xn, .string xs, .slice ba bn bc, .slice fa fn fc, .slice la ln lc] 27)) Q h) fa x.f) := hF.kept (Kept.of_below hb0) (fun _ z => z) (fun _ _ z => VIn.keep hb0 z)
  have HI0 : Hid (ItemsIn (w.alloc (.cells #[.int .i64 6, .int .i64 xn, .string xs, .slice ba bn bc, .slice fa fn fc, .slice la ln lc] 27)) Q (VIn (w.alloc (.cells #[.int .i64 6, .int .i64 xn, .string xs, .slice ba bn bc, .slice fa fn fc, .slice la ln lc] 27)) Q h) la x.l) := hI.kept (Kept.of_below hb0) (fun _ z => z) (fun _ _ z => VIn.keep hb0 z)
  clear hv hb0 hP hX hQ hxk hxn hxs hbn hfn hln hL hF hI hob hsl hlen hk
  go_enter Tryd.func56, Tryd.ntmps56
  go_wp2_with fail
  generalize (w.alloc (.cells #[.int .i64 6, .int .i64 xn, .string xs, .slice ba bn bc, .slice fa fn fc, .slice la ln lc] 27)) = W0 at *
  obtain ⟨e0, e1, e2, e3, e4, e5⟩ := HS0.out
  have e9 : Key.beh (L + 1) x = Key.rowB (Key.fldB L) x.f := Key.beh_doc HK.out
  have hl8 := HLEN.out
  rw [e9] at hl8
  have HE9 := Lib.hid e9
  have hd1 : decide ((0 : Int) < ((L + 1 : Nat) : Int)) = true := decide_eq_true (by omega)
  have hd2 : decide (((L + 1 : Nat) : Int) > 0) = true := decide_eq_true (by omega)
  have hlb := HLIM.out.f
  have hfits : ∀ p : Prop, p = Key.fits (L + 1) x → p = (∀ p ∈ x.f, Key.fits L p.2) := fun p hp => by
    rw [hp, Key.fits]
    exact propext ⟨fun z => z.1 HK.out, fun z => ⟨fun _ => z, fun e => absurd e (by rw [HK.out]; decide)⟩⟩
  have HFITS := Lib.hid hfits
  have hL9 : L ≤ 1000 := hLL9
  have hsub : L ≤ 1000 → IntKind.i64.wrap (((L + 1 : Nat) : Int) - 1) = (L : Int) := fun hL => by rw [IntWalk.i64_in _ (by omega)]; omega
  have hsub := hsub hL9
  have HC := Lib.hid (IH Q x.f fa fn fc W0 gp base l v HFN.out.symm (by have := HFN.out; omega) HF0.out HQ.out HP.out HX.out hl8)
  clear IH hfits e9
  generalize hLL : ((L + 1 : Nat) : Int) = LL at *
  clear hLL
  go_wp2_with fail
  go_at_call 68
  refine HC.out.mono ?_
  rintro e w1 ⟨ok, v1, l1, rfl, p1, p2, ht, hf⟩
  have HP1 := Lib.hid p1
  have HM1 : Hid (PMv gp w w1 v v1) := (PMv.of_below v HB0.out).trans p2
  have HT := Lib.hid ht
  have HFF := Lib.hid hf
  clear p1 p2 ht hf
  go_wp2_with fail
  go_ret
  refine ⟨ok, v1, l1, rfl, HP1.out, HM1.out, fun z => ?_, fun z => ?_⟩
  · rw [HE9.out, HFITS.out _ rfl]; exact HT.out z
  · rw [HFITS.out _ rfl]; exact HFF.out z
set_option maxRecDepth 100000 in
set_option maxHeartbeats 4000000 in
theorem beh_put7z (Q : Nat → Prop) (h : Nat) (x : Val) (u : Value) (w : World) (gp base : Nat) (l : List Nat) (v : Value) (hk : x.kind = 7) (hv : VIn w Q (h + 1) x u) (hQ : ∀ g, Q g → g < base) (hP : Pen w gp base l v) (hX : Maxl w base) (hlen : l.length + (Key.beh 0 x).length ≤ 2147483648) :
    Calls Tryd.prog 56 #[.pointer (some ⟨gp, 0, none⟩), u, .int .i64 ((0 : Nat) : Int)] w (PutPost w gp base l (Key.beh (0 : Nat) x) v (Key.fits (0 : Nat) x)) := by
  obtain ⟨xk, xn, xs, ba, fa, la, bn, bc, fn, fc, ln, lc, rfl, hxk, hxn, hxs, hbn, hfn, hln, hL, hF, hI⟩ := hv.letters
  obtain rfl : xk = 7 := by rw [hxk, hk]
  obtain ⟨hob, hsl⟩ := hv.byt
  have hb0 : Below w.heap.size w (w.alloc (.cells #[.int .i64 7, .int .i64 xn, .string xs, .slice ba bn bc, .slice fa fn fc, .slice la ln lc] 27)) := (Below.refl _ w).alloc (Nat.le_refl _) _
  have HV0 : Hid (VIn (w.alloc (.cells #[.int .i64 7, .int .i64 xn, .string xs, .slice ba bn bc, .slice fa fn fc, .slice la ln lc] 27)) Q (h + 1) x (.agg #[.int .i64 7, .int .i64 xn, .string xs, .slice ba bn bc, .slice fa fn fc, .slice la ln lc])) := VIn.keep hb0 hv
  have HB0 := Lib.hid hb0
  have HS0 : Hid (SixIs (w.alloc (.cells #[.int .i64 7, .int .i64 xn, .string xs, .slice ba bn bc, .slice fa fn fc, .slice la ln lc] 27)) w.heap.size (.int .i64 7) (.int .i64 xn) (.string xs) (.slice ba bn bc) (.slice fa fn fc) (.slice la ln lc)) := SixIs.new w _ _ _ _ _ _ _
  have HP : Hid (Pen (w.alloc (.cells #[.int .i64 7, .int .i64 xn, .string xs, .slice ba bn bc, .slice fa fn fc, .slice la ln lc] 27)) gp base l v) := hP.keep hb0
  have HX : Hid (Maxl (w.alloc (.cells #[.int .i64 7, .int .i64 xn, .string xs, .slice ba bn bc, .slice fa fn fc, .slice la ln lc] 27)) base) := hX.keep (hb0.mono hP.size)
  have HNE := Lib.hid hP.box
  have HQ := Lib.hid hQ
  have HBB : Hid (Below base w (w.alloc (.cells #[.int .i64 7, .int .i64 xn, .string xs, .slice ba bn bc, .slice fa fn fc, .slice la ln lc] 27))) := hb0.mono hP.size
  have HK := Lib.hid hk
  have HXN := Lib.hid hxn
  have HXS := Lib.hid hxs
  have HLIM := Lib.hid hL
  have HLEN := Lib.hid hlen
  have HBN := Lib.hid hbn
  have HFN := Lib.hid hfn
  have HLN := Lib.hid hln
  have HOB := Lib.hid hob
  have HF0 : Hid (FieldsIn (w.alloc (.cells #[.int .i64 7, .int .i64 xn, .string xs, .slice ba bn bc, .slice fa fn fc, .slice la ln lc] 27)) Q (VIn (w.alloc (.cells #[.int .i64 7, .int .i64 xn, .string xs, .slice ba bn bc, .slice fa fn fc, .slice la ln lc] 27)) Q h) fa x.f) := hF.kept (Kept.of_below hb0) (fun _ z => z) (fun _ _ z => VIn.keep hb0 z)
  have HI0 : Hid (ItemsIn (w.alloc (.cells #[.int .i64 7, .int .i64 xn, .string xs, .slice ba bn bc, .slice fa fn fc, .slice la ln lc] 27)) Q (VIn (w.alloc (.cells #[.int .i64 7, .int .i64 xn, .string xs, .slice ba bn bc, .slice fa fn fc, .slice la ln lc] 27)) Q h) la x.l) := hI.kept (Kept.of_below hb0) (fun _ z => z) (fun _ _ z => VIn.keep hb0 z)
  clear hv hb0 hP hX hQ hxk hxn hxs hbn hfn hln hL hF hI hob hsl hlen hk
  go_enter Tryd.func56, Tryd.ntmps56
  go_wp2_with fail
  generalize (w.alloc (.cells #[.int .i64 7, .int .i64 xn, .string xs, .slice ba bn bc, .slice fa fn fc, .slice la ln lc] 27)) = W0 at *
  obtain ⟨e0, e1, e2, e3, e4, e5⟩ := HS0.out
  go_wp2_with fail
  go_ret
  exact ⟨false, v, l, rfl, HP.out, PMv.of_below v HB0.out, nofun, fun _ hf => (by have := hf; rw [Key.fits] at this; exact this.2 HK.out)⟩
set_option maxRecDepth 100000 in
set_option maxHeartbeats 4000000 in
theorem beh_put7s (Q : Nat → Prop) (L h : Nat) (x : Val) (u : Value) (w : World) (gp base : Nat) (l : List Nat) (v : Value) (hk : x.kind = 7) (hv : VIn w Q (h + 1) x u) (hQ : ∀ g, Q g → g < base) (hP : Pen w gp base l v) (hX : Maxl w base) (hlen : l.length + (Key.beh (L + 1) x).length ≤ 2147483648) (hLL9 : L ≤ 1000) (IH : ItemsPut L h) :
    Calls Tryd.prog 56 #[.pointer (some ⟨gp, 0, none⟩), u, .int .i64 ((L + 1 : Nat) : Int)] w (PutPost w gp base l (Key.beh (L + 1 : Nat) x) v (Key.fits (L + 1 : Nat) x)) := by
  obtain ⟨xk, xn, xs, ba, fa, la, bn, bc, fn, fc, ln, lc, rfl, hxk, hxn, hxs, hbn, hfn, hln, hL, hF, hI⟩ := hv.letters
  obtain rfl : xk = 7 := by rw [hxk, hk]
  obtain ⟨hob, hsl⟩ := hv.byt
  have hb0 : Below w.heap.size w (w.alloc (.cells #[.int .i64 7, .int .i64 xn, .string xs, .slice ba bn bc, .slice fa fn fc, .slice la ln lc] 27)) := (Below.refl _ w).alloc (Nat.le_refl _) _
  have HV0 : Hid (VIn (w.alloc (.cells #[.int .i64 7, .int .i64 xn, .string xs, .slice ba bn bc, .slice fa fn fc, .slice la ln lc] 27)) Q (h + 1) x (.agg #[.int .i64 7, .int .i64 xn, .string xs, .slice ba bn bc, .slice fa fn fc, .slice la ln lc])) := VIn.keep hb0 hv
  have HB0 := Lib.hid hb0
  have HS0 : Hid (SixIs (w.alloc (.cells #[.int .i64 7, .int .i64 xn, .string xs, .slice ba bn bc, .slice fa fn fc, .slice la ln lc] 27)) w.heap.size (.int .i64 7) (.int .i64 xn) (.string xs) (.slice ba bn bc) (.slice fa fn fc) (.slice la ln lc)) := SixIs.new w _ _ _ _ _ _ _
  have HP : Hid (Pen (w.alloc (.cells #[.int .i64 7, .int .i64 xn, .string xs, .slice ba bn bc, .slice fa fn fc, .slice la ln lc] 27)) gp base l v) := hP.keep hb0
  have HX : Hid (Maxl (w.alloc (.cells #[.int .i64 7, .int .i64 xn, .string xs, .slice ba bn bc, .slice fa fn fc, .slice la ln lc] 27)) base) := hX.keep (hb0.mono hP.size)
  have HNE := Lib.hid hP.box
  have HQ := Lib.hid hQ
  have HBB : Hid (Below base w (w.alloc (.cells #[.int .i64 7, .int .i64 xn, .string xs, .slice ba bn bc, .slice fa fn fc, .slice la ln lc] 27))) := hb0.mono hP.size
  have HK := Lib.hid hk
  have HXN := Lib.hid hxn
  have HXS := Lib.hid hxs
  have HLIM := Lib.hid hL
  have HLEN := Lib.hid hlen
  have HBN := Lib.hid hbn
  have HFN := Lib.hid hfn
  have HLN := Lib.hid hln
  have HOB := Lib.hid hob
  have HF0 : Hid (FieldsIn (w.alloc (.cells #[.int .i64 7, .int .i64 xn, .string xs, .slice ba bn bc, .slice fa fn fc, .slice la ln lc] 27)) Q (VIn (w.alloc (.cells #[.int .i64 7, .int .i64 xn, .string xs, .slice ba bn bc, .slice fa fn fc, .slice la ln lc] 27)) Q h) fa x.f) := hF.kept (Kept.of_below hb0) (fun _ z => z) (fun _ _ z => VIn.keep hb0 z)
  have HI0 : Hid (ItemsIn (w.alloc (.cells #[.int .i64 7, .int .i64 xn, .string xs, .slice ba bn bc, .slice fa fn fc, .slice la ln lc] 27)) Q (VIn (w.alloc (.cells #[.int .i64 7, .int .i64 xn, .string xs, .slice ba bn bc, .slice fa fn fc, .slice la ln lc] 27)) Q h) la x.l) := hI.kept (Kept.of_below hb0) (fun _ z => z) (fun _ _ z => VIn.keep hb0 z)
  clear hv hb0 hP hX hQ hxk hxn hxs hbn hfn hln hL hF hI hob hsl hlen hk
  go_enter Tryd.func56, Tryd.ntmps56
  go_wp2_with fail
  generalize (w.alloc (.cells #[.int .i64 7, .int .i64 xn, .string xs, .slice ba bn bc, .slice fa fn fc, .slice la ln lc] 27)) = W0 at *
  obtain ⟨e0, e1, e2, e3, e4, e5⟩ := HS0.out
  have e9 : Key.beh (L + 1) x = Key.rowB (Key.valB L) x.l := Key.beh_list HK.out
  have hl8 := HLEN.out
  rw [e9] at hl8
  have HE9 := Lib.hid e9
  have hd1 : decide ((0 : Int) < ((L + 1 : Nat) : Int)) = true := decide_eq_true (by omega)
  have hd2 : decide (((L + 1 : Nat) : Int) > 0) = true := decide_eq_true (by omega)
  have hlb := HLIM.out.l
  have hfits : ∀ p : Prop, p = Key.fits (L + 1) x → p = (∀ y ∈ x.l, Key.fits L y) := fun p hp => by
    rw [hp, Key.fits]
    exact propext ⟨fun z => z.2 HK.out, fun z => ⟨fun e => absurd e (by rw [HK.out]; decide), fun _ => z⟩⟩
  have HFITS := Lib.hid hfits
  have hL9 : L ≤ 1000 := hLL9
  have hsub : L ≤ 1000 → IntKind.i64.wrap (((L + 1 : Nat) : Int) - 1) = (L : Int) := fun hL => by rw [IntWalk.i64_in _ (by omega)]; omega
  have hsub := hsub hL9
  have HC := Lib.hid (IH Q x.l la ln lc W0 gp base l v HLN.out.symm (by have := HLN.out; omega) HI0.out HQ.out HP.out HX.out hl8)
  clear IH hfits e9
  generalize hLL : ((L + 1 : Nat) : Int) = LL at *
  clear hLL
  go_wp2_with fail
  go_at_call 69
  refine HC.out.mono ?_
  rintro e w1 ⟨ok, v1, l1, rfl, p1, p2, ht, hf⟩
  have HP1 := Lib.hid p1
  have HM1 : Hid (PMv gp w w1 v v1) := (PMv.of_below v HB0.out).trans p2
  have HT := Lib.hid ht
  have HFF := Lib.hid hf
  clear p1 p2 ht hf
  go_wp2_with fail
  go_ret
  refine ⟨ok, v1, l1, rfl, HP1.out, HM1.out, fun z => ?_, fun z => ?_⟩
  · rw [HE9.out, HFITS.out _ rfl]; exact HT.out z
  · rw [HFITS.out _ rfl]; exact HFF.out z
set_option maxRecDepth 100000 in
set_option maxHeartbeats 4000000 in
theorem beh_put0 (Q : Nat → Prop) (L h : Nat) (x : Val) (u : Value) (w : World) (gp base : Nat) (l : List Nat) (v : Value) (hk : x.kind < 3 ∨ 11 < x.kind) (hv : VIn w Q (h + 1) x u) (hQ : ∀ g, Q g → g < base) (hP : Pen w gp base l v) (hX : Maxl w base) (hlen : l.length + (Key.beh L x).length ≤ 2147483648) :
    Calls Tryd.prog 56 #[.pointer (some ⟨gp, 0, none⟩), u, .int .i64 (L : Int)] w (PutPost w gp base l (Key.beh L x) v (Key.fits L x)) := by
  obtain ⟨xk, xn, xs, ba, fa, la, bn, bc, fn, fc, ln, lc, rfl, hxk, hxn, hxs, hbn, hfn, hln, hL, hF, hI⟩ := hv.letters
  obtain ⟨hob, hsl⟩ := hv.byt
  have hb0 : Below w.heap.size w (w.alloc (.cells #[.int .i64 xk, .int .i64 xn, .string xs, .slice ba bn bc, .slice fa fn fc, .slice la ln lc] 27)) := (Below.refl _ w).alloc (Nat.le_refl _) _
  have HV0 : Hid (VIn (w.alloc (.cells #[.int .i64 xk, .int .i64 xn, .string xs, .slice ba bn bc, .slice fa fn fc, .slice la ln lc] 27)) Q (h + 1) x (.agg #[.int .i64 xk, .int .i64 xn, .string xs, .slice ba bn bc, .slice fa fn fc, .slice la ln lc])) := VIn.keep hb0 hv
  have HB0 := Lib.hid hb0
  have HS0 : Hid (SixIs (w.alloc (.cells #[.int .i64 xk, .int .i64 xn, .string xs, .slice ba bn bc, .slice fa fn fc, .slice la ln lc] 27)) w.heap.size (.int .i64 xk) (.int .i64 xn) (.string xs) (.slice ba bn bc) (.slice fa fn fc) (.slice la ln lc)) := SixIs.new w _ _ _ _ _ _ _
  have HP : Hid (Pen (w.alloc (.cells #[.int .i64 xk, .int .i64 xn, .string xs, .slice ba bn bc, .slice fa fn fc, .slice la ln lc] 27)) gp base l v) := hP.keep hb0
  have HX : Hid (Maxl (w.alloc (.cells #[.int .i64 xk, .int .i64 xn, .string xs, .slice ba bn bc, .slice fa fn fc, .slice la ln lc] 27)) base) := hX.keep (hb0.mono hP.size)
  have HNE := Lib.hid hP.box
  have HQ := Lib.hid hQ
  have HBB : Hid (Below base w (w.alloc (.cells #[.int .i64 xk, .int .i64 xn, .string xs, .slice ba bn bc, .slice fa fn fc, .slice la ln lc] 27))) := hb0.mono hP.size
  have HK := Lib.hid hk
  have HXN := Lib.hid hxn
  have HXS := Lib.hid hxs
  have HLIM := Lib.hid hL
  have HLEN := Lib.hid hlen
  have HBN := Lib.hid hbn
  have HFN := Lib.hid hfn
  have HLN := Lib.hid hln
  have HOB := Lib.hid hob
  have HF0 : Hid (FieldsIn (w.alloc (.cells #[.int .i64 xk, .int .i64 xn, .string xs, .slice ba bn bc, .slice fa fn fc, .slice la ln lc] 27)) Q (VIn (w.alloc (.cells #[.int .i64 xk, .int .i64 xn, .string xs, .slice ba bn bc, .slice fa fn fc, .slice la ln lc] 27)) Q h) fa x.f) := hF.kept (Kept.of_below hb0) (fun _ z => z) (fun _ _ z => VIn.keep hb0 z)
  have HI0 : Hid (ItemsIn (w.alloc (.cells #[.int .i64 xk, .int .i64 xn, .string xs, .slice ba bn bc, .slice fa fn fc, .slice la ln lc] 27)) Q (VIn (w.alloc (.cells #[.int .i64 xk, .int .i64 xn, .string xs, .slice ba bn bc, .slice fa fn fc, .slice la ln lc] 27)) Q h) la x.l) := hI.kept (Kept.of_below hb0) (fun _ z => z) (fun _ _ z => VIn.keep hb0 z)
  have HKX := Lib.hid hxk
  clear hv hb0 hP hX hQ hxk hxn hxs hbn hfn hln hL hF hI hob hsl hlen hk
  go_enter Tryd.func56, Tryd.ntmps56
  have hne : ∀ c : Int, 3 ≤ c → c ≤ 11 → (xk == c) = false := fun c h1 h2 => by rw [beq_eq_false_iff_ne]; intro e; have := HK.out; have := HKX.out; omega
  have n3 := hne 3 (by decide) (by decide)
  have n4 := hne 4 (by decide) (by decide)
  have n5 := hne 5 (by decide) (by decide)
  have n6 := hne 6 (by decide) (by decide)
  have n7 := hne 7 (by decide) (by decide)
  have n8 := hne 8 (by decide) (by decide)
  have n9 := hne 9 (by decide) (by decide)
  have n10 := hne 10 (by decide) (by decide)
  have n11 := hne 11 (by decide) (by decide)
  clear hne
  go_wp2_with fail
  generalize (w.alloc (.cells #[.int .i64 xk, .int .i64 xn, .string xs, .slice ba bn bc, .slice fa fn fc, .slice la ln lc] 27)) = W0 at *
  obtain ⟨e0, e1, e2, e3, e4, e5⟩ := HS0.out
  go_wp2_with fail
  go_ret
  refine ⟨true, v, l, rfl, HP.out, PMv.of_below v HB0.out, fun _ => ⟨?_, fits_leaf' (by have := HK.out; omega) (by have := HK.out; omega) L⟩, nofun⟩
  rw [Key.beh_none HK.out, List.append_nil]
/-- behindMark, whatever value; from what fields and items do. -/
theorem beh_step (L h : Nat) (HF : ∀ K, L = K + 1 → FieldsPut K h) (HI : ∀ K, L = K + 1 → ItemsPut K h) (hL : L ≤ 1000) : BehDo L (h + 1) := by
  intro Q x u w gp base l v hv hQ hP hX hlen
  by_cases k3 : x.kind = 3
  · exact beh_put3 Q L h x u w gp base l v k3 hv hQ hP hX hlen
  by_cases k4 : x.kind = 4
  · exact beh_put4 Q L h x u w gp base l v k4 hv hQ hP hX hlen
  by_cases k10 : x.kind = 10
  · exact beh_put10 Q L h x u w gp base l v k10 hv hQ hP hX hlen
  by_cases k11 : x.kind = 11
  · exact beh_put11 Q L h x u w gp base l v k11 hv hQ hP hX hlen
  by_cases k5 : x.kind = 5
  · exact beh_put5 Q L h x u w gp base l v k5 hv hQ hP hX hlen
  by_cases k9 : x.kind = 9
  · exact beh_put9 Q L h x u w gp base l v k9 hv hQ hP hX hlen
  by_cases k8 : x.kind = 8
  · exact beh_put8 Q L h x u w gp base l v k8 hv hQ hP hX hlen
  by_cases k6 : x.kind = 6
  · cases L with
    | zero => exact beh_put6z Q h x u w gp base l v k6 hv hQ hP hX hlen
    | succ L => exact beh_put6s Q L h x u w gp base l v k6 hv hQ hP hX hlen (by omega) (HF L rfl)
  by_cases k7 : x.kind = 7
  · cases L with
    | zero => exact beh_put7z Q h x u w gp base l v k7 hv hQ hP hX hlen
    | succ L => exact beh_put7s Q L h x u w gp base l v k7 hv hQ hP hX hlen (by omega) (HI L rfl)
  exact beh_put0 Q L h x u w gp base l v (by omega) hv hQ hP hX hlen
set_option maxRecDepth 100000 in
set_option maxHeartbeats 4000000 in
/-- A pen's value, from behindMark. -/
theorem value_put (L h : Nat) (HB : BehDo L h) : ValDo L h := by
  intro Q x u w gp base l v hv hQ hP hX hlen
  obtain ⟨q1, q2, q3, a1, a2, a3, n1, c1, n2, c2, n3, c3, rfl⟩ := hv.shape
  have hkind : q1 = x.kind := hv.kind_eq
  have hvb : Key.valB L x = [Key.markB q1] ++ Key.beh L x := by unfold Key.valB; rw [hkind]; rfl
  have HVB := Lib.hid hvb
  have hlen2 : l.length + 1 + (Key.beh L x).length ≤ 2147483648 := by rw [hvb, List.length_append, List.length_singleton] at hlen; omega
  have hb0 : Below w.heap.size w (w.alloc (.cells #[.int .i64 q1, .int .i64 q2, .string q3, .slice a1 n1 c1, .slice a2 n2 c2, .slice a3 n3 c3] 27)) := (Below.refl _ w).alloc (Nat.le_refl _) _
  have HB0 := Lib.hid hb0
  have HV := Lib.hid (VIn.keep hb0 hv)
  have HS0 : Hid (SixIs (w.alloc (.cells #[.int .i64 q1, .int .i64 q2, .string q3, .slice a1 n1 c1, .slice a2 n2 c2, .slice a3 n3 c3] 27)) w.heap.size (.int .i64 q1) (.int .i64 q2) (.string q3) (.slice a1 n1 c1) (.slice a2 n2 c2) (.slice a3 n3 c3)) := SixIs.new w _ _ _ _ _ _ _
  have HP := Lib.hid (hP.keep hb0)
  have HX := Lib.hid (hX.keep (hb0.mono hP.size))
  have HNE := Lib.hid hP.box
  have HQ := Lib.hid hQ
  have IH := Lib.hid HB
  clear HB hv hkind hvb hb0 hP hX hQ hlen
  go_enter Tryd.func43, Tryd.ntmps43
  go_wp2_with fail
  generalize (w.alloc (.cells #[.int .i64 q1, .int .i64 q2, .string q3, .slice a1 n1 c1, .slice a2 n2 c2, .slice a3 n3 c3] 27)) = W0 at *
  obtain ⟨e0, e1, e2, e3, e4, e5⟩ := HS0.out
  have HC1 := Lib.hid (mark_any W0 gp base l v q1 HP.out (by omega))
  go_wp2_with fail
  go_at_call 55
  refine HC1.out.mono ?_
  rintro e w1 ⟨rfl, v1, p1, p2⟩
  have HP1 := Lib.hid p1
  have HM1 := Lib.hid p2
  have hs1 := HS0.out.moved HM1.out HNE.out
  obtain ⟨g0, g1, g2, g3, g4, g5⟩ := hs1
  have hbl := HM1.out.below HP.out
  have HC2 := Lib.hid (IH.out Q x _ w1 gp base _ v1 (VIn.kept (kept_base hbl HQ.out) (fun _ z => z) HV.out) HQ.out HP1.out (HX.out.keep hbl) (by rw [List.length_append, List.length_singleton]; omega))
  clear p1 p2 HC1 e0 e1 e2 e3 e4 e5 hbl
  go_wp2_with fail
  go_at_call 56
  refine HC2.out.mono ?_
  rintro e w2 ⟨ok, v2, l2, rfl, p1, p2, ht, hf⟩
  have HP2 := Lib.hid p1
  have HM2 : Hid (PMv gp w w2 v v2) := (PMv.of_below v HB0.out).trans (HM1.out.trans p2)
  have HT := Lib.hid ht
  have HFF := Lib.hid hf
  clear p1 p2 ht hf g0 g1 g2 g3 g4 g5
  go_wp2_with fail
  go_ret
  refine ⟨ok, v2, l2, rfl, HP2.out, HM2.out, fun z => ?_, fun z => HFF.out z⟩
  obtain ⟨h1, h2⟩ := HT.out z
  exact ⟨by rw [h1, HVB.out, List.append_assoc], h2⟩
/-- Of all heights. -/
theorem beh_all : ∀ (L : Nat), L ≤ 1000 → ∀ h, BehDo L h
  | _, _, 0 => fun _ _ _ _ _ _ _ _ hv => hv.elim
  | 0, _, h + 1 => beh_step 0 h (fun _ e => by omega) (fun _ e => by omega) (by omega)
  | L + 1, hL, h + 1 => beh_step (L + 1) h (fun K e => by obtain rfl : L = K := by omega
                                                          exact fields_put L h (beh_all L (by omega) h)) (fun K e => by obtain rfl : L = K := by omega
                                                                                                                        exact items_put L h (value_put L h (beh_all L (by omega) h))) hL
theorem value_all (L : Nat) (hL : L ≤ 1000) (h : Nat) : ValDo L h := value_put L h (beh_all L hL h)
end Go.Proofs.YtpklnhmhbaakhaaDoor
end
