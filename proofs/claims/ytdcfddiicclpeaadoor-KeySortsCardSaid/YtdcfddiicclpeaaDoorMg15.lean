/- RefCmp, OrderRefBy. -/
import Derived.Test.YtdcfddiicclpeaaDoorMg13
import Derived.Test.YtdcfddiicclpeaaDoorMg14
import Derived.Test.YtdcfddiicclpeaaDoorMg12
set_option maxRecDepth 100000
section
namespace Go.Proofs.YtdcfddiicclpeaaDoor
open Go.RowKit
open Seal
open Bson (Val)
theorem cls_of {k : Int} : (k = 3 ∨ k = 4 → Order.cls k = 3) ∧ (k = 10 → Order.cls k = 9) ∧ (k = 11 → Order.cls k = 10) ∧ (k = 5 → Order.cls k = 4) ∧ (k = 6 → Order.cls k = 5) ∧ (k = 7 → Order.cls k = 6) ∧ (k = 8 → Order.cls k = 7) ∧ (k = 9 → Order.cls k = 8) := by
  unfold Order.cls
  refine ⟨fun h => ?_, fun h => ?_, fun h => ?_, fun h => ?_, fun h => ?_, fun h => ?_, fun h => ?_, fun h => ?_⟩
  · rcases h with rfl | rfl <;> rfl
  all_goals (subst h; rfl)
theorem cls_rest {k : Int} (h : k < 3 ∨ 11 < k) : Order.cls k = -1 ∨ Order.cls k = 0 ∨ Order.cls k = 1 ∨ Order.cls k = 2 ∨ Order.cls k = 11 := by
  unfold Order.cls
  split
  · omega
  · split <;> omega
theorem inner_rest {c : Val → Val → Int} {k : Int} (x y : Val) (h : k = -1 ∨ k = 0 ∨ k = 1 ∨ k = 2 ∨ k = 11) : Order.inner c k x y = 0 := by
  rcases h with rfl | rfl | rfl | rfl | rfl <;> rfl
theorem refCompare_any : ∀ (h : Nat), RefCmpAt h
  | 0 => fun _ _ _ _ _ _ _ hx _ => hx.elim
  | h + 1 => fun Q Q2 x y u v w hx hy => by
    have IH := refCompare_any h
    obtain ⟨xk, xn, xs, ba, fa, la, bn, bc, fn, fc, ln, lc, rfl, hxk, hxn, hxs, hbn, hfn, hln, hL, hF, hI⟩ := hx.letters
    obtain ⟨yk, yn, ys, ba2, fa2, la2, bn2, bc2, fn2, fc2, ln2, lc2, rfl, hyk, hyn, hys, hbn2, hfn2, hln2, hL2, hF2, hI2⟩ := hy.letters
    obtain ⟨ho, hsl⟩ := hx.byt
    obtain ⟨ho2, hsl2⟩ := hy.byt
    have bx := hx.kind_bd
    have bx2 := hy.kind_bd
    by_cases e : Order.cls xk = Order.cls yk
    case neg =>
      refine (refCmp_ne xk xn yk yn xs ys ba fa la ba2 fa2 la2 bn bc fn fc ln lc bn2 bc2 fn2 fc2 ln2 lc2 w bx bx2 (fun z => e (Order.sgn_zero.1 z))).mono fun e2 w2 hp => ?_
      have : Order.cmp (h + 1) x y = Order.sgn (Order.cls xk) (Order.cls yk) := by rw [hxk, hyk] at e ⊢; exact cmp_other (fun z => e (Order.sgn_zero.1 z))
      rw [this]; exact hp
    have same : ∀ k, Order.cls xk = k → Order.cmp (h + 1) x y = Order.inner (Order.cmp h) k x y := fun k hk => cmp_same (by rw [← hxk]; exact hk) (by rw [← hyk, ← e]; exact hk)
    obtain ⟨c3, c10, c11, c5, c6, c7, c8, c9⟩ := @cls_of xk
    by_cases k3 : xk = 3 ∨ xk = 4 ∨ xk = 10 ∨ xk = 11
    · refine (refCmp_num xk xn yk yn xs ys ba fa la ba2 fa2 la2 bn bc fn fc ln lc bn2 bc2 fn2 fc2 ln2 lc2 w bx bx2 k3 e).mono fun e2 w2 hp => ?_
      have : Order.cmp (h + 1) x y = Order.sgn xn yn := by
        rw [hxn, hyn]
        rcases k3 with z | z | z | z
        · rw [same 3 (c3 (.inl z))]; rfl
        · rw [same 3 (c3 (.inr z))]; rfl
        · rw [same 9 (c10 z)]; rfl
        · rw [same 10 (c11 z)]; rfl
      rw [this]; exact hp
    by_cases k5 : xk = 5
    · refine (refCmp_text xk xn yk yn xs ys ba fa la ba2 fa2 la2 bn bc fn fc ln lc bn2 bc2 fn2 fc2 ln2 lc2 w bx bx2 k5 e (by rw [hxs]; exact hL.s) (by rw [hys]; exact hL2.s)).mono fun e2 w2 hp => ?_
      have : Order.cmp (h + 1) x y = Order.text xs ys := by rw [hxs, hys, same 4 (c5 k5)]; rfl
      rw [this]; exact hp
    by_cases k8 : xk = 8
    · have hin : Order.cmp (h + 1) x y = Order.blob x.b y.b := by rw [same 7 (c8 k8)]; rfl
      by_cases hn : bn = bn2
      · refine (refCmp_blob xk xn yk yn xs ys ba fa la ba2 fa2 la2 bn bc fn fc ln lc bn2 bc2 fn2 fc2 ln2 lc2 w bx bx2 k8 e hn x.b y.b hbn.symm hbn2.symm hsl hsl2 ho ho2 (by rw [hbn]; exact hL.b) (by rw [hbn2]; exact hL2.b)).mono fun e2 w2 hp => ?_
        have : Order.cmp (h + 1) x y = Order.octs x.b y.b := by rw [hin, Order.blob, if_pos (Order.sgn_zero.2 (by omega))]
        rw [this]; exact hp
      · refine (refCmp_blobne xk xn yk yn xs ys ba fa la ba2 fa2 la2 bn bc fn fc ln lc bn2 bc2 fn2 fc2 ln2 lc2 w bx bx2 k8 e hn).mono fun e2 w2 hp => ?_
        have : Order.cmp (h + 1) x y = Order.sgn (bn : Int) (bn2 : Int) := by rw [hin, Order.blob, if_neg (fun z => hn (by have := Order.sgn_zero.1 z; omega)), hbn, hbn2]
        rw [this]; exact hp
    by_cases k9 : xk = 9
    · refine (refCmp_id xk xn yk yn xs ys ba fa la ba2 fa2 la2 bn bc fn fc ln lc bn2 bc2 fn2 fc2 ln2 lc2 w bx bx2 k9 e x.b y.b hbn.symm hbn2.symm hsl hsl2 ho ho2 (by rw [hbn]; exact hL.b) (by rw [hbn2]; exact hL2.b)).mono fun e2 w2 hp => ?_
      have : Order.cmp (h + 1) x y = Order.octs x.b y.b := by rw [same 8 (c9 k9)]; rfl
      rw [this]; exact hp
    by_cases k6 : xk = 6
    · refine (refCmp_doc h IH Q Q2 xk xn yk yn xs ys ba fa la ba2 fa2 la2 bn bc fn fc ln lc bn2 bc2 fn2 fc2 ln2 lc2 w bx bx2 k6 e x.f y.f hfn.symm hfn2.symm (by rw [hfn]; exact hL.f) (by rw [hfn2]; exact hL2.f) hF hF2).mono fun e2 w2 hp => ?_
      have : Order.cmp (h + 1) x y = Order.lex (Order.fld (Order.cmp h)) x.f y.f := by rw [same 5 (c6 k6)]; rfl
      rw [this]; exact hp
    by_cases k7 : xk = 7
    · refine (refCmp_list h IH Q Q2 xk xn yk yn xs ys ba fa la ba2 fa2 la2 bn bc fn fc ln lc bn2 bc2 fn2 fc2 ln2 lc2 w bx bx2 k7 e x.l y.l hln.symm hln2.symm (by rw [hln]; exact hL.l) (by rw [hln2]; exact hL2.l) hI hI2).mono fun e2 w2 hp => ?_
      have : Order.cmp (h + 1) x y = Order.lex (Order.cmp h) x.l y.l := by rw [same 6 (c7 k7)]; rfl
      rw [this]; exact hp
    · have hr : xk < 3 ∨ 11 < xk := by omega
      refine (refCmp_else xk xn yk yn xs ys ba fa la ba2 fa2 la2 bn bc fn fc ln lc bn2 bc2 fn2 fc2 ln2 lc2 w bx bx2 hr e).mono fun e2 w2 hp => ?_
      have : Order.cmp (h + 1) x y = 0 := by rw [same _ rfl]; exact inner_rest x y (cls_rest hr)
      rw [this]; exact hp
end Go.Proofs.YtdcfddiicclpeaaDoor
end
section
namespace Go.Proofs.YtdcfddiicclpeaaDoor
open Go.RowKit
open Seal
open Bson (Val)
set_option maxRecDepth 100000 in
set_option maxHeartbeats 8000000 in
theorem refBy_any (h : Nat) (Q : Nat → Prop) (a b : Option Addr) (n c m d : Nat) (l l2 : List Val) (s : Option Addr) (nd cd : Nat) (bl : List Bool) (w : World) (hn : l.length = n) (hm : l2.length = m) (hnb : n ≤ 1353245080339) (hmb : m ≤ 1353245080339) (hI : ItemsIn w Q (VIn w Q (h + 1)) a l) (hJ : ItemsIn w Q (VIn w Q (h + 1)) b l2)
    (hd : bl.length = nd) (hD : BoolsIn w Q s bl) :
    Calls Tryd.prog 28 #[.slice a n c, .slice b m d, .slice s nd cd] w (CmpPost (Order.rows (Order.cmp (h + 1)) Bson.zero l l2 bl) w) := by
  have HI := Lib.hid hI
  have HJ := Lib.hid hJ
  have HD := Lib.hid hD
  have HN := Lib.hid hn
  have HM := Lib.hid hm
  have HND := Lib.hid hd
  clear hI hJ hD hn hm hd
  obtain ⟨M, hM⟩ : ∃ M, M = max n m := ⟨_, rfl⟩
  have HMM := Lib.hid hM
  clear hM
  go_enter Tryd.func28, Tryd.ntmps28
  go_wp2_with fail
  go_loopw [7] (fun i wr => ∃ k : Nat, i = .int .i64 k ∧ k ≤ M ∧ Hid (ByGo (Order.cmp (h + 1)) l l2 bl M k) ∧ Hid (Below w.heap.size w wr)) (fun i _ => M - (intOf i).toNat)
  case atStart => exact ⟨0, rfl, Nat.zero_le _, by show ByGo _ _ _ _ _ _; unfold ByGo Order.rows; rw [HMM.out, HN.out, HM.out]; rfl, Below.refl _ _⟩
  case round =>
    obtain ⟨k, rfl, hk, HT, HB⟩ := hrel
    by_cases hlt : k < M
    case neg =>
      have HL := Lib.hid (HT.out.trans (Order.by_last hlt))
      have h1 : ¬ k < n := by have := HMM.out; omega
      have h2 : ¬ k < m := by have := HMM.out; omega
      go_wp2_with fail
      go_ret
      exact ⟨ret_i HL.out.symm, HB.out⟩
    have hMb : M ≤ 1353245080339 := by have := HMM.out; omega
    obtain ⟨t, ht⟩ : ∃ t, t = bl.getD k false := ⟨_, rfl⟩
    obtain ⟨r, hr⟩ : ∃ r, r = Order.cmp (h + 1) (l.getD k Bson.zero) (l2.getD k Bson.zero) := ⟨_, rfl⟩
    have h3 : r = -1 ∨ r = 0 ∨ r = 1 := by rw [hr]; exact (Order.cmp_cmp (h + 1)).one _ _
    have HNX : Hid (r = 0 → ByGo (Order.cmp (h + 1)) l l2 bl M (k + 1)) := fun e => HT.out.trans (Order.by_next hlt (Order.turned_zero.2 (by rw [← hr]; exact e)))
    have HHE : Hid (¬ r = 0 → Order.rows (Order.cmp (h + 1)) Bson.zero l l2 bl = if t then - r else r) := fun e => (HT.out.trans (Order.by_here hlt (fun x => e (by rw [hr]; exact Order.turned_zero.1 x)))).trans (by rw [hr, ht]; rfl)
    have HR := Lib.hid hr
    have HTT := Lib.hid ht
    clear hr ht
    by_cases hka : k < n
    · by_cases hkb : k < m
      · obtain ⟨g, o, hla, _, hall⟩ := HI.out.resolve_left (fun e => by have := HN.out; rw [e] at this; simp at this; omega)
        obtain ⟨v1, hsix, hV⟩ := hall k (by have := HN.out; omega)
        obtain rfl := hla
        obtain ⟨ka, na, sa, ba, fa, la, bl', bc, fl, fc, ll, lc, rfl⟩ := VIn.shape (h := h + 1) hV
        have hgz := hsix.keep HB.out
        obtain ⟨s0, s1, s2, s3, s4, s5⟩ := hgz.cells
        have hg1 : g < wr.heap.size := World.block_lt_of_cell? wr _ s0
        have HV1 : Hid (VIn wr Q (h + 1) (l.getD k Bson.zero) (.agg #[.int .i64 ka, .int .i64 na, .string sa, .slice ba bl' bc, .slice fa fl fc, .slice la ll lc])) := by
          have e : l.getD k Bson.zero = l[k]'(by have := HN.out; omega) := by simp [List.getD_eq_getElem?_getD, List.getElem?_eq_getElem (show k < l.length by have := HN.out; omega)]
          show VIn wr Q (h + 1) _ _
          rw [e]; exact VIn.keep (h := h + 1) HB.out hV
        clear hall hsix hV hgz
        obtain ⟨g2, o2, hlb, _, hall⟩ := HJ.out.resolve_left (fun e => by have := HM.out; rw [e] at this; simp at this; omega)
        obtain ⟨v2, hsix2, hV2⟩ := hall k (by have := HM.out; omega)
        obtain rfl := hlb
        obtain ⟨kd, nd', sd, bd, fd, ld, bm, bz, fm, fz, lm, lz, rfl⟩ := VIn.shape (h := h + 1) hV2
        have hgz2 := hsix2.keep HB.out
        obtain ⟨z0, z1, z2, z3, z4, z5⟩ := hgz2.cells
        have hg2 : g2 < wr.heap.size := World.block_lt_of_cell? wr _ z0
        have HV2 : Hid (VIn wr Q (h + 1) (l2.getD k Bson.zero) (.agg #[.int .i64 kd, .int .i64 nd', .string sd, .slice bd bm bz, .slice fd fm fz, .slice ld lm lz])) := by
          have e : l2.getD k Bson.zero = l2[k]'(by have := HM.out; omega) := by simp [List.getD_eq_getElem?_getD, List.getElem?_eq_getElem (show k < l2.length by have := HM.out; omega)]
          show VIn wr Q (h + 1) _ _
          rw [e]; exact VIn.keep (h := h + 1) HB.out hV2
        clear hall hsix2 hV2 hgz2
        have HB2 : Hid (Below wr.heap.size wr ((wr.alloc (.cells #[.int .i64 ka, .int .i64 na, .string sa, .slice ba bl' bc, .slice fa fl fc, .slice la ll lc] 26)).alloc (.cells #[.int .i64 kd, .int .i64 nd', .string sd, .slice bd bm bz, .slice fd fm fz, .slice ld lm lz] 26))) := ((Below.refl _ wr).alloc (Nat.le_refl _) _).alloc (by simp) _
        have HC := Lib.hid (refCompare_any (h + 1) Q Q _ _ _ _ _ (VIn.keep (h := h + 1) HB2.out HV1.out) (VIn.keep (h := h + 1) HB2.out HV2.out))
        rw [← HR.out] at HC
        rcases h3 with rfl | rfl | rfl
        · have HL := Lib.hid (HHE.out (by decide))
          go_wp2_with fail
          go_at_call 46
          refine HC.out.mono ?_
          rintro e w3 ⟨rfl, hb3⟩
          have HB3 : Hid (Below w.heap.size w w3) := HB.out.trans ((HB2.out.trans (hb3.mono HB2.out.size)).mono HB.out.size)
          clear hb3
          by_cases hkd : k < nd
          · obtain ⟨gd, od, hsa, _, hall⟩ := HD.out.resolve_left (fun e => by have := HND.out; rw [e] at this; simp at this; omega)
            obtain rfl := hsa
            have hbc : w3.cell? ⟨gd, od + k, none⟩ = some (.bool t) := by
              rw [cell_keep HB3.out (hall k (by have := HND.out; omega)), HTT.out]
              simp [List.getD_eq_getElem?_getD, List.getElem?_eq_getElem (show k < bl.length by have := HND.out; omega)]
            clear hall
            cases t with
            | false =>
              go_wp2_with fail
              go_ret
              exact ⟨ret_i HL.out.symm, HB3.out⟩
            | true =>
              go_wp2_with fail
              go_ret
              exact ⟨ret_i HL.out.symm, HB3.out⟩
          · obtain rfl : t = false := by rw [HTT.out]; simp [List.getD_eq_getElem?_getD, List.getElem?_eq_none (show bl.length ≤ k by have := HND.out; omega)]
            go_wp2_with fail
            go_ret
            exact ⟨ret_i HL.out.symm, HB3.out⟩
        · have HL := Lib.hid (HNX.out rfl)
          go_wp2_with (go_at_call 46; refine HC.out.mono ?_; rintro e w3 ⟨rfl, hb3⟩)
          have HB3 : Hid (Below w.heap.size w w3) := HB.out.trans ((HB2.out.trans (hb3.mono HB2.out.size)).mono HB.out.size)
          clear hb3
          go_roundw
          case rel => exact ⟨k + 1, by go_num, by omega, HL, HB3⟩
          case measure => simp [intOf]; omega
        · have HL := Lib.hid (HHE.out (by decide))
          go_wp2_with fail
          go_at_call 46
          refine HC.out.mono ?_
          rintro e w3 ⟨rfl, hb3⟩
          have HB3 : Hid (Below w.heap.size w w3) := HB.out.trans ((HB2.out.trans (hb3.mono HB2.out.size)).mono HB.out.size)
          clear hb3
          by_cases hkd : k < nd
          · obtain ⟨gd, od, hsa, _, hall⟩ := HD.out.resolve_left (fun e => by have := HND.out; rw [e] at this; simp at this; omega)
            obtain rfl := hsa
            have hbc : w3.cell? ⟨gd, od + k, none⟩ = some (.bool t) := by
              rw [cell_keep HB3.out (hall k (by have := HND.out; omega)), HTT.out]
              simp [List.getD_eq_getElem?_getD, List.getElem?_eq_getElem (show k < bl.length by have := HND.out; omega)]
            clear hall
            cases t with
            | false =>
              go_wp2_with fail
              go_ret
              exact ⟨ret_i HL.out.symm, HB3.out⟩
            | true =>
              go_wp2_with fail
              go_ret
              exact ⟨ret_i HL.out.symm, HB3.out⟩
          · obtain rfl : t = false := by rw [HTT.out]; simp [List.getD_eq_getElem?_getD, List.getElem?_eq_none (show bl.length ≤ k by have := HND.out; omega)]
            go_wp2_with fail
            go_ret
            exact ⟨ret_i HL.out.symm, HB3.out⟩
      · obtain ⟨g, o, hla, _, hall⟩ := HI.out.resolve_left (fun e => by have := HN.out; rw [e] at this; simp at this; omega)
        obtain ⟨v1, hsix, hV⟩ := hall k (by have := HN.out; omega)
        obtain rfl := hla
        obtain ⟨ka, na, sa, ba, fa, la, bl', bc, fl, fc, ll, lc, rfl⟩ := VIn.shape (h := h + 1) hV
        have hgz := hsix.keep HB.out
        obtain ⟨s0, s1, s2, s3, s4, s5⟩ := hgz.cells
        have hg1 : g < wr.heap.size := World.block_lt_of_cell? wr _ s0
        have HV1 : Hid (VIn wr Q (h + 1) (l.getD k Bson.zero) (.agg #[.int .i64 ka, .int .i64 na, .string sa, .slice ba bl' bc, .slice fa fl fc, .slice la ll lc])) := by
          have e : l.getD k Bson.zero = l[k]'(by have := HN.out; omega) := by simp [List.getD_eq_getElem?_getD, List.getElem?_eq_getElem (show k < l.length by have := HN.out; omega)]
          show VIn wr Q (h + 1) _ _
          rw [e]; exact VIn.keep (h := h + 1) HB.out hV
        clear hall hsix hV hgz
        have HV2 : Hid (VIn wr Q (h + 1) (l2.getD k Bson.zero) (.agg #[.int .i64 0, .int .i64 0, .string ⟨#[]⟩, .slice none 0 0, .slice none 0 0, .slice none 0 0])) := by
          have e : l2.getD k Bson.zero = Bson.zero := by simp [List.getD_eq_getElem?_getD, List.getElem?_eq_none (show l2.length ≤ k by have := HM.out; omega)]
          show VIn wr Q (h + 1) _ _
          rw [e]; exact VIn.up (zero_in _ _) (by omega)
        have HB2 : Hid (Below wr.heap.size wr ((wr.alloc (.cells #[.int .i64 ka, .int .i64 na, .string sa, .slice ba bl' bc, .slice fa fl fc, .slice la ll lc] 26)).alloc (.cells #[.int .i64 0, .int .i64 0, .string ⟨#[]⟩, .slice none 0 0, .slice none 0 0, .slice none 0 0] 26))) := ((Below.refl _ wr).alloc (Nat.le_refl _) _).alloc (by simp) _
        have HC := Lib.hid (refCompare_any (h + 1) Q Q _ _ _ _ _ (VIn.keep (h := h + 1) HB2.out HV1.out) (VIn.keep (h := h + 1) HB2.out HV2.out))
        rw [← HR.out] at HC
        rcases h3 with rfl | rfl | rfl
        · have HL := Lib.hid (HHE.out (by decide))
          go_wp2_with fail
          go_at_call 46
          refine HC.out.mono ?_
          rintro e w3 ⟨rfl, hb3⟩
          have HB3 : Hid (Below w.heap.size w w3) := HB.out.trans ((HB2.out.trans (hb3.mono HB2.out.size)).mono HB.out.size)
          clear hb3
          by_cases hkd : k < nd
          · obtain ⟨gd, od, hsa, _, hall⟩ := HD.out.resolve_left (fun e => by have := HND.out; rw [e] at this; simp at this; omega)
            obtain rfl := hsa
            have hbc : w3.cell? ⟨gd, od + k, none⟩ = some (.bool t) := by
              rw [cell_keep HB3.out (hall k (by have := HND.out; omega)), HTT.out]
              simp [List.getD_eq_getElem?_getD, List.getElem?_eq_getElem (show k < bl.length by have := HND.out; omega)]
            clear hall
            cases t with
            | false =>
              go_wp2_with fail
              go_ret
              exact ⟨ret_i HL.out.symm, HB3.out⟩
            | true =>
              go_wp2_with fail
              go_ret
              exact ⟨ret_i HL.out.symm, HB3.out⟩
          · obtain rfl : t = false := by rw [HTT.out]; simp [List.getD_eq_getElem?_getD, List.getElem?_eq_none (show bl.length ≤ k by have := HND.out; omega)]
            go_wp2_with fail
            go_ret
            exact ⟨ret_i HL.out.symm, HB3.out⟩
        · have HL := Lib.hid (HNX.out rfl)
          go_wp2_with (go_at_call 46; refine HC.out.mono ?_; rintro e w3 ⟨rfl, hb3⟩)
          have HB3 : Hid (Below w.heap.size w w3) := HB.out.trans ((HB2.out.trans (hb3.mono HB2.out.size)).mono HB.out.size)
          clear hb3
          go_roundw
          case rel => exact ⟨k + 1, by go_num, by omega, HL, HB3⟩
          case measure => simp [intOf]; omega
        · have HL := Lib.hid (HHE.out (by decide))
          go_wp2_with fail
          go_at_call 46
          refine HC.out.mono ?_
          rintro e w3 ⟨rfl, hb3⟩
          have HB3 : Hid (Below w.heap.size w w3) := HB.out.trans ((HB2.out.trans (hb3.mono HB2.out.size)).mono HB.out.size)
          clear hb3
          by_cases hkd : k < nd
          · obtain ⟨gd, od, hsa, _, hall⟩ := HD.out.resolve_left (fun e => by have := HND.out; rw [e] at this; simp at this; omega)
            obtain rfl := hsa
            have hbc : w3.cell? ⟨gd, od + k, none⟩ = some (.bool t) := by
              rw [cell_keep HB3.out (hall k (by have := HND.out; omega)), HTT.out]
              simp [List.getD_eq_getElem?_getD, List.getElem?_eq_getElem (show k < bl.length by have := HND.out; omega)]
            clear hall
            cases t with
            | false =>
              go_wp2_with fail
              go_ret
              exact ⟨ret_i HL.out.symm, HB3.out⟩
            | true =>
              go_wp2_with fail
              go_ret
              exact ⟨ret_i HL.out.symm, HB3.out⟩
          · obtain rfl : t = false := by rw [HTT.out]; simp [List.getD_eq_getElem?_getD, List.getElem?_eq_none (show bl.length ≤ k by have := HND.out; omega)]
            go_wp2_with fail
            go_ret
            exact ⟨ret_i HL.out.symm, HB3.out⟩
    · have hkb : k < m := by have := HMM.out; omega
      have HV1 : Hid (VIn wr Q (h + 1) (l.getD k Bson.zero) (.agg #[.int .i64 0, .int .i64 0, .string ⟨#[]⟩, .slice none 0 0, .slice none 0 0, .slice none 0 0])) := by
        have e : l.getD k Bson.zero = Bson.zero := by simp [List.getD_eq_getElem?_getD, List.getElem?_eq_none (show l.length ≤ k by have := HN.out; omega)]
        show VIn wr Q (h + 1) _ _
        rw [e]; exact VIn.up (zero_in _ _) (by omega)
      obtain ⟨g2, o2, hlb, _, hall⟩ := HJ.out.resolve_left (fun e => by have := HM.out; rw [e] at this; simp at this; omega)
      obtain ⟨v2, hsix2, hV2⟩ := hall k (by have := HM.out; omega)
      obtain rfl := hlb
      obtain ⟨kd, nd', sd, bd, fd, ld, bm, bz, fm, fz, lm, lz, rfl⟩ := VIn.shape (h := h + 1) hV2
      have hgz2 := hsix2.keep HB.out
      obtain ⟨z0, z1, z2, z3, z4, z5⟩ := hgz2.cells
      have hg2 : g2 < wr.heap.size := World.block_lt_of_cell? wr _ z0
      have HV2 : Hid (VIn wr Q (h + 1) (l2.getD k Bson.zero) (.agg #[.int .i64 kd, .int .i64 nd', .string sd, .slice bd bm bz, .slice fd fm fz, .slice ld lm lz])) := by
        have e : l2.getD k Bson.zero = l2[k]'(by have := HM.out; omega) := by simp [List.getD_eq_getElem?_getD, List.getElem?_eq_getElem (show k < l2.length by have := HM.out; omega)]
        show VIn wr Q (h + 1) _ _
        rw [e]; exact VIn.keep (h := h + 1) HB.out hV2
      clear hall hsix2 hV2 hgz2
      have HB2 : Hid (Below wr.heap.size wr ((wr.alloc (.cells #[.int .i64 0, .int .i64 0, .string ⟨#[]⟩, .slice none 0 0, .slice none 0 0, .slice none 0 0] 26)).alloc (.cells #[.int .i64 kd, .int .i64 nd', .string sd, .slice bd bm bz, .slice fd fm fz, .slice ld lm lz] 26))) := ((Below.refl _ wr).alloc (Nat.le_refl _) _).alloc (by simp) _
      have HC := Lib.hid (refCompare_any (h + 1) Q Q _ _ _ _ _ (VIn.keep (h := h + 1) HB2.out HV1.out) (VIn.keep (h := h + 1) HB2.out HV2.out))
      rw [← HR.out] at HC
      rcases h3 with rfl | rfl | rfl
      · have HL := Lib.hid (HHE.out (by decide))
        go_wp2_with fail
        go_at_call 46
        refine HC.out.mono ?_
        rintro e w3 ⟨rfl, hb3⟩
        have HB3 : Hid (Below w.heap.size w w3) := HB.out.trans ((HB2.out.trans (hb3.mono HB2.out.size)).mono HB.out.size)
        clear hb3
        by_cases hkd : k < nd
        · obtain ⟨gd, od, hsa, _, hall⟩ := HD.out.resolve_left (fun e => by have := HND.out; rw [e] at this; simp at this; omega)
          obtain rfl := hsa
          have hbc : w3.cell? ⟨gd, od + k, none⟩ = some (.bool t) := by
            rw [cell_keep HB3.out (hall k (by have := HND.out; omega)), HTT.out]
            simp [List.getD_eq_getElem?_getD, List.getElem?_eq_getElem (show k < bl.length by have := HND.out; omega)]
          clear hall
          cases t with
          | false =>
            go_wp2_with fail
            go_ret
            exact ⟨ret_i HL.out.symm, HB3.out⟩
          | true =>
            go_wp2_with fail
            go_ret
            exact ⟨ret_i HL.out.symm, HB3.out⟩
        · obtain rfl : t = false := by rw [HTT.out]; simp [List.getD_eq_getElem?_getD, List.getElem?_eq_none (show bl.length ≤ k by have := HND.out; omega)]
          go_wp2_with fail
          go_ret
          exact ⟨ret_i HL.out.symm, HB3.out⟩
      · have HL := Lib.hid (HNX.out rfl)
        go_wp2_with (go_at_call 46; refine HC.out.mono ?_; rintro e w3 ⟨rfl, hb3⟩)
        have HB3 : Hid (Below w.heap.size w w3) := HB.out.trans ((HB2.out.trans (hb3.mono HB2.out.size)).mono HB.out.size)
        clear hb3
        go_roundw
        case rel => exact ⟨k + 1, by go_num, by omega, HL, HB3⟩
        case measure => simp [intOf]; omega
      · have HL := Lib.hid (HHE.out (by decide))
        go_wp2_with fail
        go_at_call 46
        refine HC.out.mono ?_
        rintro e w3 ⟨rfl, hb3⟩
        have HB3 : Hid (Below w.heap.size w w3) := HB.out.trans ((HB2.out.trans (hb3.mono HB2.out.size)).mono HB.out.size)
        clear hb3
        by_cases hkd : k < nd
        · obtain ⟨gd, od, hsa, _, hall⟩ := HD.out.resolve_left (fun e => by have := HND.out; rw [e] at this; simp at this; omega)
          obtain rfl := hsa
          have hbc : w3.cell? ⟨gd, od + k, none⟩ = some (.bool t) := by
            rw [cell_keep HB3.out (hall k (by have := HND.out; omega)), HTT.out]
            simp [List.getD_eq_getElem?_getD, List.getElem?_eq_getElem (show k < bl.length by have := HND.out; omega)]
          clear hall
          cases t with
          | false =>
            go_wp2_with fail
            go_ret
            exact ⟨ret_i HL.out.symm, HB3.out⟩
          | true =>
            go_wp2_with fail
            go_ret
            exact ⟨ret_i HL.out.symm, HB3.out⟩
        · obtain rfl : t = false := by rw [HTT.out]; simp [List.getD_eq_getElem?_getD, List.getElem?_eq_none (show bl.length ≤ k by have := HND.out; omega)]
          go_wp2_with fail
          go_ret
          exact ⟨ret_i HL.out.symm, HB3.out⟩
end Go.Proofs.YtdcfddiicclpeaaDoor
end
