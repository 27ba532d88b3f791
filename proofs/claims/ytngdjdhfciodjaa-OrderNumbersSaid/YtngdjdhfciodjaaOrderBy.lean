/- order.item, turn.compare, By. -/
import Derived.Test.YtngdjdhfciodjaaOrderCmp
import Derived.Test.YtngdjdhfciodjaaOrderRowsIn
import Derived.IntWalk
namespace Go.Proofs.Ytngdjdhfciodjaa
open Go.RowKit
open Seal
open Bson (Val)
def ByGo (c : Val → Val → Int) (l l2 : List Val) (bl : List Bool) (M k : Nat) : Prop := Order.rows c Bson.zero l l2 bl = Order.byFrom c Bson.zero l l2 bl (M - k) k
/-- A row of Bools. -/
def BoolsIn (w : World) (Q : Nat → Prop) (a : Option Addr) (l : List Bool) : Prop := l = [] ∨ ∃ g o, a = some ⟨g, o, none⟩ ∧ Q g ∧ ∀ i (hi : i < l.length), w.cell? ⟨g, o + i, none⟩ = some (.bool l[i])
theorem BoolsIn.keep {w w' : World} {Q : Nat → Prop} {a : Option Addr} {l : List Bool} (hb : Below w.heap.size w w') (h : BoolsIn w Q a l) : BoolsIn w' Q a l := by
  rcases h with h | ⟨g, o, e, hq, h⟩
  · exact .inl h
  · exact .inr ⟨g, o, e, hq, fun i hi => cell_keep hb (h i hi)⟩
set_option maxRecDepth 100000 in
set_option maxHeartbeats 4000000 in
theorem item_any (Q : Nat → Prop) (h : Nat) (a : Option Addr) (n c k : Nat) (l : List Val) (w : World) (hn : l.length = n) (hI : ItemsIn w Q (VIn w Q (h + 1)) a l) :
    Calls Try.prog 35 #[.slice a n c, .int .i64 (k : Int)] w (ValPost (fun _ => True) w (h + 1) (l.getD k Bson.zero)) := by
  have HI := Lib.hid hI
  have HN := Lib.hid hn
  clear hI hn
  by_cases hk : k < n
  · obtain ⟨g, o, hla, _, hall⟩ := HI.out.resolve_left (fun e => by have := HN.out; rw [e] at this; simp at this; omega)
    obtain ⟨v1, hsix, hV⟩ := hall k (by have := HN.out; omega)
    obtain rfl := hla
    obtain ⟨ka, na, sa, ba, fa, la, bl, bc, fl, fc, ll, lc, rfl⟩ := VIn.shape (h := h + 1) hV
    have HB : Hid (Below w.heap.size w (w.alloc (.cells #[.int .i64 ka, .int .i64 na, .string sa, .slice ba bl bc, .slice fa fl fc, .slice la ll lc] 26))) := (Below.refl _ w).alloc (Nat.le_refl _) _
    have HV := Lib.hid (VIn.keep (h := h + 1) HB.out (VIn.any (h := h + 1) hV))
    have HG : Hid (l.getD k Bson.zero = l[k]'(by have := HN.out; omega)) := by show l.getD k Bson.zero = _; simp [List.getD_eq_getElem?_getD, List.getElem?_eq_getElem (show k < l.length by have := HN.out; omega)]
    obtain ⟨s0, s1, s2, s3, s4, s5⟩ := (hsix.keep ((Below.refl _ w).alloc (Nat.le_refl _) (.cells #[.int .i64 0, .int .i64 0, .string ⟨#[]⟩, .slice none 0 0, .slice none 0 0, .slice none 0 0] 26))).cells
    clear hall hsix hV
    go_enter Try.func35, Try.ntmps35
    go_wp2_with fail
    exact bodyPost_ret (v := .agg #[.int .i64 ka, .int .i64 na, .string sa, .slice ba bl bc, .slice fa fl fc, .slice la ll lc]) (by simp [results, Try.results35, go_sem]) rfl ⟨_, rfl, by rw [HG.out]; exact HV.out, HB.out⟩
  · have HB : Hid (Below w.heap.size w (w.alloc (.cells #[.int .i64 0, .int .i64 0, .string ⟨#[]⟩, .slice none 0 0, .slice none 0 0, .slice none 0 0] 26))) := (Below.refl _ w).alloc (Nat.le_refl _) _
    have HG : Hid (l.getD k Bson.zero = Bson.zero) := by show l.getD k Bson.zero = _; simp [List.getD_eq_getElem?_getD, List.getElem?_eq_none (show l.length ≤ k by have := HN.out; omega)]
    go_enter Try.func35, Try.ntmps35
    go_wp2_with fail
    exact bodyPost_ret (v := .agg #[.int .i64 0, .int .i64 0, .string ⟨#[]⟩, .slice none 0 0, .slice none 0 0, .slice none 0 0]) (by simp [results, Try.results35, go_sem]) rfl ⟨_, rfl, by rw [HG.out]; exact VIn.up (zero_in _ _) (by omega), HB.out⟩
set_option maxRecDepth 100000 in
set_option maxHeartbeats 4000000 in
theorem turncmp_any (h : Nat) (Q Q2 : Nat → Prop) (t : Bool) (x y : Val) (u v : Value) (w : World) (hx : VIn w Q h x u) (hy : VIn w Q2 h y v) :
    Calls Try.prog 34 #[.bool t, u, v] w (CmpPost (Order.turned (Order.cmp h) t x y) w) := by
  obtain ⟨xk, xn, xs, ba, fa, la, bn, bc, fn, fc, ln, lc, rfl⟩ := hx.shape
  obtain ⟨yk, yn, ys, ba2, fa2, la2, bn2, bc2, fn2, fc2, ln2, lc2, rfl⟩ := hy.shape
  have HB : Hid (Below w.heap.size w ((w.alloc (.cells #[Value.int .i64 xk, .int .i64 xn, .string xs, .slice ba bn bc, .slice fa fn fc, .slice la ln lc] 26)).alloc (.cells #[Value.int .i64 yk, .int .i64 yn, .string ys, .slice ba2 bn2 bc2, .slice fa2 fn2 fc2, .slice la2 ln2 lc2] 26))) := ((Below.refl _ w).alloc (Nat.le_refl _) _).alloc (by simp) _
  have HC := Lib.hid (compare_any h Q Q2 x y _ _ _ (VIn.keep HB.out hx) (VIn.keep HB.out hy))
  obtain ⟨r, hr⟩ : ∃ r, r = Order.cmp h x y := ⟨_, rfl⟩
  have h3 : r = -1 ∨ r = 0 ∨ r = 1 := by rw [hr]; exact (Order.cmp_cmp h).one _ _
  have HT : Hid (Order.turned (Order.cmp h) t x y = if t then - r else r) := by rw [hr]; rfl
  rw [← hr] at HC
  clear hx hy hr
  cases t with
  | false =>
    go_enter Try.func34, Try.ntmps34
    go_wp2_with (go_at_call 11; refine HC.out.mono ?_; rintro e w2 ⟨rfl, hb2⟩)
    go_ret
    exact ⟨ret_i HT.out.symm, HB.out.trans (hb2.mono HB.out.size)⟩
  | true =>
    rcases h3 with rfl | rfl | rfl
    all_goals
      go_enter Try.func34, Try.ntmps34
      go_wp2_with (go_at_call 11; refine HC.out.mono ?_; rintro e w2 ⟨rfl, hb2⟩)
      go_ret
      exact ⟨ret_i HT.out.symm, HB.out.trans (hb2.mono HB.out.size)⟩
set_option maxRecDepth 100000 in
set_option maxHeartbeats 4000000 in
theorem by_any (h : Nat) (Q : Nat → Prop) (a b : Option Addr) (n c m d : Nat) (l l2 : List Val) (s : Option Addr) (nd cd : Nat) (bl : List Bool) (w : World) (hn : l.length = n) (hm : l2.length = m) (hnb : n ≤ 1353245080339) (hmb : m ≤ 1353245080339) (hI : ItemsIn w Q (VIn w Q (h + 1)) a l) (hJ : ItemsIn w Q (VIn w Q (h + 1)) b l2)
    (hd : bl.length = nd) (hD : BoolsIn w Q s bl) :
    Calls Try.prog 15 #[.slice a n c, .slice b m d, .slice s nd cd] w (CmpPost (Order.rows (Order.cmp (h + 1)) Bson.zero l l2 bl) w) := by
  have HI := Lib.hid hI
  have HJ := Lib.hid hJ
  have HD := Lib.hid hD
  have HN := Lib.hid hn
  have HM := Lib.hid hm
  have HND := Lib.hid hd
  clear hI hJ hD hn hm hd
  obtain ⟨M, hM⟩ : ∃ M, M = max n m := ⟨_, rfl⟩
  have hmx : max (n : Int) (m : Int) = (M : Int) := by omega
  have HMM := Lib.hid hM
  clear hM
  go_enter Try.func15, Try.ntmps15
  go_wp2_with fail
  clear hmx
  go_loopw [15] (fun i wr => ∃ k : Nat, i = .int .i64 k ∧ k ≤ M ∧ Hid (ByGo (Order.cmp (h + 1)) l l2 bl M k) ∧ Hid (Below w.heap.size w wr)) (fun i _ => M - (intOf i).toNat)
  case atStart => exact ⟨0, rfl, Nat.zero_le _, by show ByGo _ _ _ _ _ _; unfold ByGo Order.rows; rw [HMM.out, HN.out, HM.out]; rfl, Below.refl _ _⟩
  case round =>
    obtain ⟨k, rfl, hk, HT, HB⟩ := hrel
    by_cases hlt : k < M
    case neg =>
      have HL := Lib.hid (HT.out.trans (Order.by_last hlt))
      go_wp2_with fail
      go_ret
      exact ⟨ret_i HL.out.symm, HB.out⟩
    have hMb : M ≤ 1353245080339 := by have := HMM.out; omega
    obtain ⟨t, ht⟩ : ∃ t, t = bl.getD k false := ⟨_, rfl⟩
    obtain ⟨r, hr⟩ : ∃ r, r = Order.turned (Order.cmp (h + 1)) t (l.getD k Bson.zero) (l2.getD k Bson.zero) := ⟨_, rfl⟩
    have HNX : Hid (r = 0 → ByGo (Order.cmp (h + 1)) l l2 bl M (k + 1)) := fun e => HT.out.trans (Order.by_next hlt (by rw [← ht, ← hr]; exact e))
    have HHE : Hid (¬ r = 0 → Order.rows (Order.cmp (h + 1)) Bson.zero l l2 bl = r) := fun e => (HT.out.trans (Order.by_here hlt (by rw [← ht, ← hr]; exact e))).trans (by rw [hr, ht])
    have HR := Lib.hid hr
    have HTT := Lib.hid ht
    clear hr ht
    by_cases hkd : k < nd
    · obtain ⟨g, o, hsa, _, hall⟩ := HD.out.resolve_left (fun e => by have := HND.out; rw [e] at this; simp at this; omega)
      obtain rfl := hsa
      have hbc : wr.cell? ⟨g, o + k, none⟩ = some (.bool t) := by
        rw [cell_keep HB.out (hall k (by have := HND.out; omega)), HTT.out]
        simp [List.getD_eq_getElem?_getD, List.getElem?_eq_getElem (show k < bl.length by have := HND.out; omega)]
      clear hall
      go_wp2_with fail
      go_at_call 35
      refine (item_any Q h a n c k l wr HN.out (HI.out.kept (Kept.of_below HB.out) (fun _ z => z) (fun _ _ z => VIn.keep (h := h + 1) HB.out z))).mono ?_
      rintro e w1 ⟨v1, rfl, hv1, hb1⟩
      have HB1 : Hid (Below w.heap.size w w1) := HB.out.trans (hb1.mono HB.out.size)
      have HV1 := Lib.hid hv1
      clear hb1 hv1
      go_wp2_with fail
      go_at_call 35
      refine (item_any Q h b m d k l2 w1 HM.out (HJ.out.kept (Kept.of_below HB1.out) (fun _ z => z) (fun _ _ z => VIn.keep (h := h + 1) HB1.out z))).mono ?_
      rintro e w2 ⟨v2, rfl, hv2, hb2⟩
      have HB2 : Hid (Below w.heap.size w w2) := HB1.out.trans (hb2.mono HB1.out.size)
      have HV2 := Lib.hid hv2
      have HV1' := Lib.hid (VIn.keep (h := h + 1) hb2 HV1.out)
      clear hb2 hv2 HV1
      have HC := Lib.hid (turncmp_any (h + 1) _ _ t _ _ v1 v2 w2 HV1'.out HV2.out)
      rw [← HR.out] at HC
      by_cases e : r = 0
      · have HL := Lib.hid (HNX.out e)
        subst e
        go_wp2_with (go_at_call 34; refine HC.out.mono ?_; rintro e w3 ⟨rfl, hb3⟩)
        have HB3 : Hid (Below w.heap.size w w3) := HB2.out.trans (hb3.mono HB2.out.size)
        clear hb3
        go_roundw
        case rel => exact ⟨k + 1, by go_num, by omega, HL, HB3⟩
        case measure => simp [intOf]; omega
      · have HL := Lib.hid (HHE.out e)
        have hb : (r != 0) = true := by rw [bne_iff_ne]; exact e
        clear e
        go_wp2_with (go_at_call 34; refine HC.out.mono ?_; rintro e w3 ⟨rfl, hb3⟩)
        go_ret
        exact ⟨ret_i HL.out.symm, HB2.out.trans (hb3.mono HB2.out.size)⟩
    · obtain rfl : t = false := by rw [HTT.out]; simp [List.getD_eq_getElem?_getD, List.getElem?_eq_none (show bl.length ≤ k by have := HND.out; omega)]
      go_wp2_with fail
      go_at_call 35
      refine (item_any Q h a n c k l wr HN.out (HI.out.kept (Kept.of_below HB.out) (fun _ z => z) (fun _ _ z => VIn.keep (h := h + 1) HB.out z))).mono ?_
      rintro e w1 ⟨v1, rfl, hv1, hb1⟩
      have HB1 : Hid (Below w.heap.size w w1) := HB.out.trans (hb1.mono HB.out.size)
      have HV1 := Lib.hid hv1
      clear hb1 hv1
      go_wp2_with fail
      go_at_call 35
      refine (item_any Q h b m d k l2 w1 HM.out (HJ.out.kept (Kept.of_below HB1.out) (fun _ z => z) (fun _ _ z => VIn.keep (h := h + 1) HB1.out z))).mono ?_
      rintro e w2 ⟨v2, rfl, hv2, hb2⟩
      have HB2 : Hid (Below w.heap.size w w2) := HB1.out.trans (hb2.mono HB1.out.size)
      have HV2 := Lib.hid hv2
      have HV1' := Lib.hid (VIn.keep (h := h + 1) hb2 HV1.out)
      clear hb2 hv2 HV1
      have HC := Lib.hid (turncmp_any (h + 1) _ _ false _ _ v1 v2 w2 HV1'.out HV2.out)
      rw [← HR.out] at HC
      by_cases e : r = 0
      · have HL := Lib.hid (HNX.out e)
        subst e
        go_wp2_with (go_at_call 34; refine HC.out.mono ?_; rintro e w3 ⟨rfl, hb3⟩)
        have HB3 : Hid (Below w.heap.size w w3) := HB2.out.trans (hb3.mono HB2.out.size)
        clear hb3
        go_roundw
        case rel => exact ⟨k + 1, by go_num, by omega, HL, HB3⟩
        case measure => simp [intOf]; omega
      · have HL := Lib.hid (HHE.out e)
        have hb : (r != 0) = true := by rw [bne_iff_ne]; exact e
        clear e
        go_wp2_with (go_at_call 34; refine HC.out.mono ?_; rintro e w3 ⟨rfl, hb3⟩)
        go_ret
        exact ⟨ret_i HL.out.symm, HB2.out.trans (hb3.mono HB2.out.size)⟩
end Go.Proofs.Ytngdjdhfciodjaa
