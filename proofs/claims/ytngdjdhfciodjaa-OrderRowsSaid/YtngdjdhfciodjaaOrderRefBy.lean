/- aqueductref5.By. -/
import Derived.Test.YtngdjdhfciodjaaRefCmp
import Derived.Test.YtngdjdhfciodjaaOrderBy
namespace Go.Proofs.Ytngdjdhfciodjaa
open Go.RowKit
open Seal
open Bson (Val)
set_option maxRecDepth 100000 in
set_option maxHeartbeats 8000000 in
theorem refBy_any (h : Nat) (Q : Nat → Prop) (a b : Option Addr) (n c m d : Nat) (l l2 : List Val) (s : Option Addr) (nd cd : Nat) (bl : List Bool) (w : World) (hn : l.length = n) (hm : l2.length = m) (hnb : n ≤ 1353245080339) (hmb : m ≤ 1353245080339) (hI : ItemsIn w Q (VIn w Q (h + 1)) a l) (hJ : ItemsIn w Q (VIn w Q (h + 1)) b l2)
    (hd : bl.length = nd) (hD : BoolsIn w Q s bl) :
    Calls Try.prog 19 #[.slice a n c, .slice b m d, .slice s nd cd] w (CmpPost (Order.rows (Order.cmp (h + 1)) Bson.zero l l2 bl) w) := by
  have HI := Lib.hid hI
  have HJ := Lib.hid hJ
  have HD := Lib.hid hD
  have HN := Lib.hid hn
  have HM := Lib.hid hm
  have HND := Lib.hid hd
  clear hI hJ hD hn hm hd
  obtain ⟨M, hM⟩ : ∃ M, M = max n m := ⟨_, rfl⟩
  have HMM := Lib.hid hM
  clear hM
  go_enter Try.func19, Try.ntmps19
  go_wp2_with fail
  go_loopw [7] (fun i wr => ∃ k : Nat, i = .int .i64 k ∧ k ≤ M ∧ Hid (ByGo (Order.cmp (h + 1)) l l2 bl M k) ∧ Hid (Below w.heap.size w wr)) (fun i _ => M - (intOf i).toNat)
  case atStart => exact ⟨0, rfl, Nat.zero_le _, by show ByGo _ _ _ _ _ _; unfold ByGo Order.rows; rw [HMM.out, HN.out, HM.out]; rfl, Below.refl _ _⟩
  case round =>
    obtain ⟨k, rfl, hk, HT, HB⟩ := hrel
    by_cases hlt : k < M
    case neg =>
      have HL := Lib.hid (HT.out.trans (Order.by_last hlt))
      have h1 : ¬ k < n := by have := HMM.out; omega
      have h2 : ¬ k < m := by have := HMM.out; omega
      go_wp2_with fail
      go_ret
      exact ⟨ret_i HL.out.symm, HB.out⟩
    have hMb : M ≤ 1353245080339 := by have := HMM.out; omega
    obtain ⟨t, ht⟩ : ∃ t, t = bl.getD k false := ⟨_, rfl⟩
    obtain ⟨r, hr⟩ : ∃ r, r = Order.cmp (h + 1) (l.getD k Bson.zero) (l2.getD k Bson.zero) := ⟨_, rfl⟩
    have h3 : r = -1 ∨ r = 0 ∨ r = 1 := by rw [hr]; exact (Order.cmp_cmp (h + 1)).one _ _
    have HNX : Hid (r = 0 → ByGo (Order.cmp (h + 1)) l l2 bl M (k + 1)) := fun e => HT.out.trans (Order.by_next hlt (Order.turned_zero.2 (by rw [← hr]; exact e)))
    have HHE : Hid (¬ r = 0 → Order.rows (Order.cmp (h + 1)) Bson.zero l l2 bl = if t then - r else r) := fun e => (HT.out.trans (Order.by_here hlt (fun x => e (by rw [hr]; exact Order.turned_zero.1 x)))).trans (by rw [hr, ht]; rfl)
    have HR := Lib.hid hr
    have HTT := Lib.hid ht
    clear hr ht
    by_cases hka : k < n
    · by_cases hkb : k < m
      · obtain ⟨g, o, hla, _, hall⟩ := HI.out.resolve_left (fun e => by have := HN.out; rw [e] at this; simp at this; omega)
        obtain ⟨v1, hsix, hV⟩ := hall k (by have := HN.out; omega)
        obtain rfl := hla
        obtain ⟨ka, na, sa, ba, fa, la, bl', bc, fl, fc, ll, lc, rfl⟩ := VIn.shape (h := h + 1) hV
        have hgz := hsix.keep HB.out
        obtain ⟨s0, s1, s2, s3, s4, s5⟩ := hgz.cells
        have hg1 : g < wr.heap.size := World.block_lt_of_cell? wr _ s0
        have HV1 : Hid (VIn wr Q (h + 1) (l.getD k Bson.zero) (.agg #[.int .i64 ka, .int .i64 na, .string sa, .slice ba bl' bc, .slice fa fl fc, .slice la ll lc])) := by
          have e : l.getD k Bson.zero = l[k]'(by have := HN.out; omega) := by simp [List.getD_eq_getElem?_getD, List.getElem?_eq_getElem (show k < l.length by have := HN.out; omega)]
          show VIn wr Q (h + 1) _ _
          rw [e]; exact VIn.keep (h := h + 1) HB.out hV
        clear hall hsix hV hgz
        obtain ⟨g2, o2, hlb, _, hall⟩ := HJ.out.resolve_left (fun e => by have := HM.out; rw [e] at this; simp at this; omega)
        obtain ⟨v2, hsix2, hV2⟩ := hall k (by have := HM.out; omega)
        obtain rfl := hlb
        obtain ⟨kd, nd', sd, bd, fd, ld, bm, bz, fm, fz, lm, lz, rfl⟩ := VIn.shape (h := h + 1) hV2
        have hgz2 := hsix2.keep HB.out
        obtain ⟨z0, z1, z2, z3, z4, z5⟩ := hgz2.cells
        have hg2 : g2 < wr.heap.size := World.block_lt_of_cell? wr _ z0
        have HV2 : Hid (VIn wr Q (h + 1) (l2.getD k Bson.zero) (.agg #[.int .i64 kd, .int .i64 nd', .string sd, .slice bd bm bz, .slice fd fm fz, .slice ld lm lz])) := by
          have e : l2.getD k Bson.zero = l2[k]'(by have := HM.out; omega) := by simp [List.getD_eq_getElem?_getD, List.getElem?_eq_getElem (show k < l2.length by have := HM.out; omega)]
          show VIn wr Q (h + 1) _ _
          rw [e]; exact VIn.keep (h := h + 1) HB.out hV2
        clear hall hsix2 hV2 hgz2
        have HB2 : Hid (Below wr.heap.size wr ((wr.alloc (.cells #[.int .i64 ka, .int .i64 na, .string sa, .slice ba bl' bc, .slice fa fl fc, .slice la ll lc] 26)).alloc (.cells #[.int .i64 kd, .int .i64 nd', .string sd, .slice bd bm bz, .slice fd fm fz, .slice ld lm lz] 26))) := ((Below.refl _ wr).alloc (Nat.le_refl _) _).alloc (by simp) _
        have HC := Lib.hid (refCompare_any (h + 1) Q Q _ _ _ _ _ (VIn.keep (h := h + 1) HB2.out HV1.out) (VIn.keep (h := h + 1) HB2.out HV2.out))
        rw [← HR.out] at HC
        rcases h3 with rfl | rfl | rfl
        · have HL := Lib.hid (HHE.out (by decide))
          go_wp2_with fail
          go_at_call 12
          refine HC.out.mono ?_
          rintro e w3 ⟨rfl, hb3⟩
          have HB3 : Hid (Below w.heap.size w w3) := HB.out.trans ((HB2.out.trans (hb3.mono HB2.out.size)).mono HB.out.size)
          clear hb3
          by_cases hkd : k < nd
          · obtain ⟨gd, od, hsa, _, hall⟩ := HD.out.resolve_left (fun e => by have := HND.out; rw [e] at this; simp at this; omega)
            obtain rfl := hsa
            have hbc : w3.cell? ⟨gd, od + k, none⟩ = some (.bool t) := by
              rw [cell_keep HB3.out (hall k (by have := HND.out; omega)), HTT.out]
              simp [List.getD_eq_getElem?_getD, List.getElem?_eq_getElem (show k < bl.length by have := HND.out; omega)]
            clear hall
            cases t with
            | false =>
              go_wp2_with fail
              go_ret
              exact ⟨ret_i HL.out.symm, HB3.out⟩
            | true =>
              go_wp2_with fail
              go_ret
              exact ⟨ret_i HL.out.symm, HB3.out⟩
          · obtain rfl : t = false := by rw [HTT.out]; simp [List.getD_eq_getElem?_getD, List.getElem?_eq_none (show bl.length ≤ k by have := HND.out; omega)]
            go_wp2_with fail
            go_ret
            exact ⟨ret_i HL.out.symm, HB3.out⟩
        · have HL := Lib.hid (HNX.out rfl)
          go_wp2_with (go_at_call 12; refine HC.out.mono ?_; rintro e w3 ⟨rfl, hb3⟩)
          have HB3 : Hid (Below w.heap.size w w3) := HB.out.trans ((HB2.out.trans (hb3.mono HB2.out.size)).mono HB.out.size)
          clear hb3
          go_roundw
          case rel => exact ⟨k + 1, by go_num, by omega, HL, HB3⟩
          case measure => simp [intOf]; omega
        · have HL := Lib.hid (HHE.out (by decide))
          go_wp2_with fail
          go_at_call 12
          refine HC.out.mono ?_
          rintro e w3 ⟨rfl, hb3⟩
          have HB3 : Hid (Below w.heap.size w w3) := HB.out.trans ((HB2.out.trans (hb3.mono HB2.out.size)).mono HB.out.size)
          clear hb3
          by_cases hkd : k < nd
          · obtain ⟨gd, od, hsa, _, hall⟩ := HD.out.resolve_left (fun e => by have := HND.out; rw [e] at this; simp at this; omega)
            obtain rfl := hsa
            have hbc : w3.cell? ⟨gd, od + k, none⟩ = some (.bool t) := by
              rw [cell_keep HB3.out (hall k (by have := HND.out; omega)), HTT.out]
              simp [List.getD_eq_getElem?_getD, List.getElem?_eq_getElem (show k < bl.length by have := HND.out; omega)]
            clear hall
            cases t with
            | false =>
              go_wp2_with fail
              go_ret
              exact ⟨ret_i HL.out.symm, HB3.out⟩
            | true =>
              go_wp2_with fail
              go_ret
              exact ⟨ret_i HL.out.symm, HB3.out⟩
          · obtain rfl : t = false := by rw [HTT.out]; simp [List.getD_eq_getElem?_getD, List.getElem?_eq_none (show bl.length ≤ k by have := HND.out; omega)]
            go_wp2_with fail
            go_ret
            exact ⟨ret_i HL.out.symm, HB3.out⟩
      · obtain ⟨g, o, hla, _, hall⟩ := HI.out.resolve_left (fun e => by have := HN.out; rw [e] at this; simp at this; omega)
        obtain ⟨v1, hsix, hV⟩ := hall k (by have := HN.out; omega)
        obtain rfl := hla
        obtain ⟨ka, na, sa, ba, fa, la, bl', bc, fl, fc, ll, lc, rfl⟩ := VIn.shape (h := h + 1) hV
        have hgz := hsix.keep HB.out
        obtain ⟨s0, s1, s2, s3, s4, s5⟩ := hgz.cells
        have hg1 : g < wr.heap.size := World.block_lt_of_cell? wr _ s0
        have HV1 : Hid (VIn wr Q (h + 1) (l.getD k Bson.zero) (.agg #[.int .i64 ka, .int .i64 na, .string sa, .slice ba bl' bc, .slice fa fl fc, .slice la ll lc])) := by
          have e : l.getD k Bson.zero = l[k]'(by have := HN.out; omega) := by simp [List.getD_eq_getElem?_getD, List.getElem?_eq_getElem (show k < l.length by have := HN.out; omega)]
          show VIn wr Q (h + 1) _ _
          rw [e]; exact VIn.keep (h := h + 1) HB.out hV
        clear hall hsix hV hgz
        have HV2 : Hid (VIn wr Q (h + 1) (l2.getD k Bson.zero) (.agg #[.int .i64 0, .int .i64 0, .string ⟨#[]⟩, .slice none 0 0, .slice none 0 0, .slice none 0 0])) := by
          have e : l2.getD k Bson.zero = Bson.zero := by simp [List.getD_eq_getElem?_getD, List.getElem?_eq_none (show l2.length ≤ k by have := HM.out; omega)]
          show VIn wr Q (h + 1) _ _
          rw [e]; exact VIn.up (zero_in _ _) (by omega)
        have HB2 : Hid (Below wr.heap.size wr ((wr.alloc (.cells #[.int .i64 ka, .int .i64 na, .string sa, .slice ba bl' bc, .slice fa fl fc, .slice la ll lc] 26)).alloc (.cells #[.int .i64 0, .int .i64 0, .string ⟨#[]⟩, .slice none 0 0, .slice none 0 0, .slice none 0 0] 26))) := ((Below.refl _ wr).alloc (Nat.le_refl _) _).alloc (by simp) _
        have HC := Lib.hid (refCompare_any (h + 1) Q Q _ _ _ _ _ (VIn.keep (h := h + 1) HB2.out HV1.out) (VIn.keep (h := h + 1) HB2.out HV2.out))
        rw [← HR.out] at HC
        rcases h3 with rfl | rfl | rfl
        · have HL := Lib.hid (HHE.out (by decide))
          go_wp2_with fail
          go_at_call 12
          refine HC.out.mono ?_
          rintro e w3 ⟨rfl, hb3⟩
          have HB3 : Hid (Below w.heap.size w w3) := HB.out.trans ((HB2.out.trans (hb3.mono HB2.out.size)).mono HB.out.size)
          clear hb3
          by_cases hkd : k < nd
          · obtain ⟨gd, od, hsa, _, hall⟩ := HD.out.resolve_left (fun e => by have := HND.out; rw [e] at this; simp at this; omega)
            obtain rfl := hsa
            have hbc : w3.cell? ⟨gd, od + k, none⟩ = some (.bool t) := by
              rw [cell_keep HB3.out (hall k (by have := HND.out; omega)), HTT.out]
              simp [List.getD_eq_getElem?_getD, List.getElem?_eq_getElem (show k < bl.length by have := HND.out; omega)]
            clear hall
            cases t with
            | false =>
              go_wp2_with fail
              go_ret
              exact ⟨ret_i HL.out.symm, HB3.out⟩
            | true =>
              go_wp2_with fail
              go_ret
              exact ⟨ret_i HL.out.symm, HB3.out⟩
          · obtain rfl : t = false := by rw [HTT.out]; simp [List.getD_eq_getElem?_getD, List.getElem?_eq_none (show bl.length ≤ k by have := HND.out; omega)]
            go_wp2_with fail
            go_ret
            exact ⟨ret_i HL.out.symm, HB3.out⟩
        · have HL := Lib.hid (HNX.out rfl)
          go_wp2_with (go_at_call 12; refine HC.out.mono ?_; rintro e w3 ⟨rfl, hb3⟩)
          have HB3 : Hid (Below w.heap.size w w3) := HB.out.trans ((HB2.out.trans (hb3.mono HB2.out.size)).mono HB.out.size)
          clear hb3
          go_roundw
          case rel => exact ⟨k + 1, by go_num, by omega, HL, HB3⟩
          case measure => simp [intOf]; omega
        · have HL := Lib.hid (HHE.out (by decide))
          go_wp2_with fail
          go_at_call 12
          refine HC.out.mono ?_
          rintro e w3 ⟨rfl, hb3⟩
          have HB3 : Hid (Below w.heap.size w w3) := HB.out.trans ((HB2.out.trans (hb3.mono HB2.out.size)).mono HB.out.size)
          clear hb3
          by_cases hkd : k < nd
          · obtain ⟨gd, od, hsa, _, hall⟩ := HD.out.resolve_left (fun e => by have := HND.out; rw [e] at this; simp at this; omega)
            obtain rfl := hsa
            have hbc : w3.cell? ⟨gd, od + k, none⟩ = some (.bool t) := by
              rw [cell_keep HB3.out (hall k (by have := HND.out; omega)), HTT.out]
              simp [List.getD_eq_getElem?_getD, List.getElem?_eq_getElem (show k < bl.length by have := HND.out; omega)]
            clear hall
            cases t with
            | false =>
              go_wp2_with fail
              go_ret
              exact ⟨ret_i HL.out.symm, HB3.out⟩
            | true =>
              go_wp2_with fail
              go_ret
              exact ⟨ret_i HL.out.symm, HB3.out⟩
          · obtain rfl : t = false := by rw [HTT.out]; simp [List.getD_eq_getElem?_getD, List.getElem?_eq_none (show bl.length ≤ k by have := HND.out; omega)]
            go_wp2_with fail
            go_ret
            exact ⟨ret_i HL.out.symm, HB3.out⟩
    · have hkb : k < m := by have := HMM.out; omega
      have HV1 : Hid (VIn wr Q (h + 1) (l.getD k Bson.zero) (.agg #[.int .i64 0, .int .i64 0, .string ⟨#[]⟩, .slice none 0 0, .slice none 0 0, .slice none 0 0])) := by
        have e : l.getD k Bson.zero = Bson.zero := by simp [List.getD_eq_getElem?_getD, List.getElem?_eq_none (show l.length ≤ k by have := HN.out; omega)]
        show VIn wr Q (h + 1) _ _
        rw [e]; exact VIn.up (zero_in _ _) (by omega)
      obtain ⟨g2, o2, hlb, _, hall⟩ := HJ.out.resolve_left (fun e => by have := HM.out; rw [e] at this; simp at this; omega)
      obtain ⟨v2, hsix2, hV2⟩ := hall k (by have := HM.out; omega)
      obtain rfl := hlb
      obtain ⟨kd, nd', sd, bd, fd, ld, bm, bz, fm, fz, lm, lz, rfl⟩ := VIn.shape (h := h + 1) hV2
      have hgz2 := hsix2.keep HB.out
      obtain ⟨z0, z1, z2, z3, z4, z5⟩ := hgz2.cells
      have hg2 : g2 < wr.heap.size := World.block_lt_of_cell? wr _ z0
      have HV2 : Hid (VIn wr Q (h + 1) (l2.getD k Bson.zero) (.agg #[.int .i64 kd, .int .i64 nd', .string sd, .slice bd bm bz, .slice fd fm fz, .slice ld lm lz])) := by
        have e : l2.getD k Bson.zero = l2[k]'(by have := HM.out; omega) := by simp [List.getD_eq_getElem?_getD, List.getElem?_eq_getElem (show k < l2.length by have := HM.out; omega)]
        show VIn wr Q (h + 1) _ _
        rw [e]; exact VIn.keep (h := h + 1) HB.out hV2
      clear hall hsix2 hV2 hgz2
      have HB2 : Hid (Below wr.heap.size wr ((wr.alloc (.cells #[.int .i64 0, .int .i64 0, .string ⟨#[]⟩, .slice none 0 0, .slice none 0 0, .slice none 0 0] 26)).alloc (.cells #[.int .i64 kd, .int .i64 nd', .string sd, .slice bd bm bz, .slice fd fm fz, .slice ld lm lz] 26))) := ((Below.refl _ wr).alloc (Nat.le_refl _) _).alloc (by simp) _
      have HC := Lib.hid (refCompare_any (h + 1) Q Q _ _ _ _ _ (VIn.keep (h := h + 1) HB2.out HV1.out) (VIn.keep (h := h + 1) HB2.out HV2.out))
      rw [← HR.out] at HC
      rcases h3 with rfl | rfl | rfl
      · have HL := Lib.hid (HHE.out (by decide))
        go_wp2_with fail
        go_at_call 12
        refine HC.out.mono ?_
        rintro e w3 ⟨rfl, hb3⟩
        have HB3 : Hid (Below w.heap.size w w3) := HB.out.trans ((HB2.out.trans (hb3.mono HB2.out.size)).mono HB.out.size)
        clear hb3
        by_cases hkd : k < nd
        · obtain ⟨gd, od, hsa, _, hall⟩ := HD.out.resolve_left (fun e => by have := HND.out; rw [e] at this; simp at this; omega)
          obtain rfl := hsa
          have hbc : w3.cell? ⟨gd, od + k, none⟩ = some (.bool t) := by
            rw [cell_keep HB3.out (hall k (by have := HND.out; omega)), HTT.out]
            simp [List.getD_eq_getElem?_getD, List.getElem?_eq_getElem (show k < bl.length by have := HND.out; omega)]
          clear hall
          cases t with
          | false =>
            go_wp2_with fail
            go_ret
            exact ⟨ret_i HL.out.symm, HB3.out⟩
          | true =>
            go_wp2_with fail
            go_ret
            exact ⟨ret_i HL.out.symm, HB3.out⟩
        · obtain rfl : t = false := by rw [HTT.out]; simp [List.getD_eq_getElem?_getD, List.getElem?_eq_none (show bl.length ≤ k by have := HND.out; omega)]
          go_wp2_with fail
          go_ret
          exact ⟨ret_i HL.out.symm, HB3.out⟩
      · have HL := Lib.hid (HNX.out rfl)
        go_wp2_with (go_at_call 12; refine HC.out.mono ?_; rintro e w3 ⟨rfl, hb3⟩)
        have HB3 : Hid (Below w.heap.size w w3) := HB.out.trans ((HB2.out.trans (hb3.mono HB2.out.size)).mono HB.out.size)
        clear hb3
        go_roundw
        case rel => exact ⟨k + 1, by go_num, by omega, HL, HB3⟩
        case measure => simp [intOf]; omega
      · have HL := Lib.hid (HHE.out (by decide))
        go_wp2_with fail
        go_at_call 12
        refine HC.out.mono ?_
        rintro e w3 ⟨rfl, hb3⟩
        have HB3 : Hid (Below w.heap.size w w3) := HB.out.trans ((HB2.out.trans (hb3.mono HB2.out.size)).mono HB.out.size)
        clear hb3
        by_cases hkd : k < nd
        · obtain ⟨gd, od, hsa, _, hall⟩ := HD.out.resolve_left (fun e => by have := HND.out; rw [e] at this; simp at this; omega)
          obtain rfl := hsa
          have hbc : w3.cell? ⟨gd, od + k, none⟩ = some (.bool t) := by
            rw [cell_keep HB3.out (hall k (by have := HND.out; omega)), HTT.out]
            simp [List.getD_eq_getElem?_getD, List.getElem?_eq_getElem (show k < bl.length by have := HND.out; omega)]
          clear hall
          cases t with
          | false =>
            go_wp2_with fail
            go_ret
            exact ⟨ret_i HL.out.symm, HB3.out⟩
          | true =>
            go_wp2_with fail
            go_ret
            exact ⟨ret_i HL.out.symm, HB3.out⟩
        · obtain rfl : t = false := by rw [HTT.out]; simp [List.getD_eq_getElem?_getD, List.getElem?_eq_none (show bl.length ≤ k by have := HND.out; omega)]
          go_wp2_with fail
          go_ret
          exact ⟨ret_i HL.out.symm, HB3.out⟩
end Go.Proofs.Ytngdjdhfciodjaa
