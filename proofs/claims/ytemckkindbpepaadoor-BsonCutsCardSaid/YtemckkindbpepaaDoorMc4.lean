/- BsonCutsWalk. -/
import Derived.Test.YtemckkindbpepaaDoorMc3
import Derived.Test.YtemckkindbpepaaDoorMg32
set_option maxRecDepth 100000
section
namespace Go.Proofs.YtemckkindbpepaaDoor
open Go.RowKit
open Seal
open Bson (Val)
theorem slice_take {w : World} {a : Option Addr} {l : List Nat} (h : SliceIs w a l) (k : Nat) : SliceIs w a (l.take k) := by
  rcases h with rfl | ⟨g, o, rfl, h⟩
  · left; simp
  · refine .inr ⟨g, o, rfl, fun j hj => ?_⟩
    rw [List.length_take] at hj
    rw [h j (by omega)]
    simp only [List.getD_eq_getElem?_getD]
    rw [List.getElem?_take_of_lt (by omega)]
set_option maxRecDepth 100000 in
set_option maxHeartbeats 4000000 in
theorem cuts5_any (Q : Nat → Prop) (h : Nat) (x : Val) (v : Value) (w : World) (c : Nat) (hc : c < 65536) (hv : VIn w Q (h + 1) x v) (hQ : ∀ g, Q g → g < w.heap.size) (hT : Tabs w) : Calls Tryd.prog 6 #[v, .int .u16 c] w fun e w' => e = .returned (.bool true) ∧ Below w.heap.size w w' := by
  obtain ⟨xk, xn, xs, ba, fa, la, bn, bc, fn, fc, ln, lc, rfl, hxk, hxn, hxs, hbn, hfn, hln, hL, hF, hI⟩ := hv.letters
  have HB0 : Hid (Below w.heap.size w (w.alloc (.cells #[.int .i64 xk, .int .i64 xn, .string xs, .slice ba bn bc, .slice fa fn fc, .slice la ln lc] 27))) := (Below.refl _ w).alloc (Nat.le_refl _) _
  have HV0 := Lib.hid (VIn.keep HB0.out hv)
  have HS0 := Lib.hid (SixIs.new w (.int .i64 xk) (.int .i64 xn) (.string xs) (.slice ba bn bc) (.slice fa fn fc) (.slice la ln lc) 27)
  have HQ := Lib.hid hQ
  have HT0 := Lib.hid (hT.below HB0.out)
  have HZ : Hid (w.heap.size ≤ (w.alloc (.cells #[.int .i64 xk, .int .i64 xn, .string xs, .slice ba bn bc, .slice fa fn fc, .slice la ln lc] 27)).heap.size) := HB0.out.size
  clear hv hxk hxn hxs hbn hfn hln hL hF hI hQ hT
  generalize hW : w.alloc (.cells #[.int .i64 xk, .int .i64 xn, .string xs, .slice ba bn bc, .slice fa fn fc, .slice la ln lc] 27) = W0 at *
  have CA := Lib.hid (awake5_any W0 HT0.out)
  go_enter Tryd.func6, Tryd.ntmps6
  go_wp2_with fail
  clear hW
  refine CA.out.mono ?_
  rintro e w1 ⟨rfl, hb1⟩
  obtain ⟨e0, e1, e2, e3, e4, e5⟩ := HS0.out.keep hb1
  have HS1 := Lib.hid (HS0.out.keep hb1)
  have HV1 := Lib.hid (VIn.keep hb1 HV0.out)
  have HT1 := Lib.hid (HT0.out.below hb1)
  have HB1 : Hid (Below w.heap.size w w1) := HB0.out.trans (hb1.mono HB0.out.size)
  have HZ1 : Hid (W0.heap.size ≤ w1.heap.size) := hb1.size
  clear CA hb1
  go_wp2_with fail
  go_at_call 16
  refine (small_any Q h x _ w1 HV1.out).mono ?_
  rintro e w2 ⟨b, rfl, hb, hb2⟩
  have HSM := Lib.hid hb
  obtain ⟨f0, f1, f2, f3, f4, f5⟩ := HS1.out.keep hb2
  have HV2 := Lib.hid (VIn.keep hb2 HV1.out)
  have HT2 := Lib.hid (HT1.out.below hb2)
  have HB2 : Hid (Below w.heap.size w w2) := HB1.out.trans (hb2.mono HB1.out.size)
  have HZ2 : Hid (w.heap.size ≤ w2.heap.size) := HB2.out.size
  clear hb hb2 e0 e1 e2 e3 e4 e5
  cases b with
  | false =>
    go_wp2_with fail
    go_ret
    exact ⟨rfl, HB2.out⟩
  | true =>
    have HWT : Hid (wt (h + 1) x ≤ 3000) := HSM.out rfl
    have HHG : Hid (Hgt (h + 1) x) := HV2.out.hgt
    go_wp2_with fail
    go_at_call 14
    cases hl : docB x with
    | none =>
      refine (encode_no Q (h + 1) x _ w2 HV2.out HT2.out hl).mono ?_
      rintro e w3 ⟨rfl, hb3⟩
      have HB3 : Hid (Below w.heap.size w w3) := HB2.out.trans (hb3.mono HB2.out.size)
      clear hb3 hl
      go_wp2_with fail
      go_ret
      exact ⟨rfl, HB3.out⟩
    | some l =>
      refine (encode_ok Q (h + 1) x _ w2 l HV2.out (fun g hg => Nat.lt_of_lt_of_le (HQ.out g hg) HZ2.out) HT2.out hl).mono ?_
      rintro e w3 ⟨v3, rfl, hO3, hb3⟩
      obtain ⟨a3, c3, rfl, hc3, hm3, hs3, ha3⟩ := hO3.reads
      obtain ⟨hk6, he32, hl6, r, hr, hlw⟩ := docB_parts hl
      have hlen5 : 5 ≤ l.length := by rw [hlw, wrap_len]; omega
      have hlenU : l.length ≤ 60000 := by have := enc_le 32 (h + 1) x l HHG.out HWT.out he32; have := HWT.out; omega
      have HO3 := Lib.hid hO3
      have HS3 := Lib.hid hs3
      have HE := Lib.hid he32
      have HK6 := Lib.hid hk6
      have HT3 := Lib.hid (HT2.out.below hb3)
      have HB3 : Hid (Below w.heap.size w w3) := HB2.out.trans (hb3.mono HB2.out.size)
      clear hb3 hl hO3 hs3 he32 hk6 hr hlw ha3 f0 f1 f2 f3 f4 f5
      have hz : ¬ ((l.length : Int) = 0) := by omega
      have hzb : (((l.length : Int) == 0) : Bool) = false := by simpa using hz
      obtain ⟨k, hk⟩ : ∃ k, k = c % l.length := ⟨_, rfl⟩
      have hkm : Int.tmod (c : Int) (l.length : Int) = (k : Int) := by rw [hk]; exact (Int.ofNat_tmod c l.length).symm
      have hkl : k < l.length := by rw [hk]; exact Nat.mod_lt _ (by omega)
      clear hk
      have hk63 : k ≤ 9223372036854775807 := by omega
      obtain ⟨d, hd⟩ : ∃ d, (k < 4 ∧ d = 2) ∨ (¬ k < 4 ∧ d = 4) := by
        by_cases h4 : k < 4
        · exact ⟨2, .inl ⟨h4, rfl⟩⟩
        · exact ⟨4, .inr ⟨h4, rfl⟩⟩
      have hdec : (Bson.decode (l.take k)).1 = d := by
        have ht : (l.take k).length = k := by rw [List.length_take]; omega
        rcases hd with ⟨h4, rfl⟩ | ⟨h4, rfl⟩
        · rw [Bson.cut_short (by omega)]
        · rw [Bson.cut_form HE.out HK6.out hl6 (by omega) (by rw [List.take_take, Nat.min_eq_left (by omega)]) (by omega) (by omega)]
      have HD := Lib.hid hd
      have HOC : Hid (∀ c ∈ l, c < 256) := enc_oct 32 (h + 1) x l HV2.out.octs HE.out
      have CD := Lib.hid (decode_any w3 a3 c3 (l.take k) (by rw [List.length_take]; omega) hm3 (slice_take HS3.out k) (fun c hc => HOC.out c (List.mem_of_mem_take hc)) HT3.out)
      rw [hdec, List.length_take, Nat.min_eq_left (Nat.le_of_lt hkl)] at CD
      clear hdec hd
      go_wp2_with fail
      refine CD.out.mono ?_
      rintro e w4 ⟨v4, rfl, ⟨h4, hv4⟩, hb4⟩
      obtain ⟨q1, q2, q3, a1, n1, c1, a2, n2, c2, a5, n5, c5, rfl⟩ := VIn.form hv4
      have HS4 := Lib.hid (HS3.out.keep hb4)
      have HB4 : Hid (Below w.heap.size w w4) := HB3.out.trans (hb4.mono HB3.out.size)
      have HT4 := Lib.hid (HT3.out.below hb4)
      have HB5 : Hid (Below w4.heap.size w4 ((w4.alloc (.cells #[.int .i64 q1, .int .i64 q2, .string q3, .slice a1 n1 c1, .slice a2 n2 c2, .slice a5 n5 c5] 27)).alloc (.cells #[] 5))) := ((Below.refl _ w4).alloc (Nat.le_refl _) _).alloc (by simp) _
      have hown5 : ((w4.alloc (.cells #[.int .i64 q1, .int .i64 q2, .string q3, .slice a1 n1 c1, .slice a2 n2 c2, .slice a5 n5 c5] 27)).alloc (.cells #[] 5)).ownsRow (w4.heap.size + 1) 5 1 (.slice (some ⟨w4.heap.size + 1, 0, none⟩) 0 0) 0 [] := by
        refine ⟨rfl, .inr ⟨w4.heap.size + 1, 0, #[], rfl, Nat.le_refl _, ?_, Nat.le_refl _, by decide, rfl, rfl⟩⟩
        have h1 := heap_alloc_new (w4.alloc (.cells #[.int .i64 q1, .int .i64 q2, .string q3, .slice a1 n1 c1, .slice a2 n2 c2, .slice a5 n5 c5] 27)) (.cells #[] 5)
        simpa using h1
      have hs5 : w4.heap.size + 1 ≤ ((w4.alloc (.cells #[.int .i64 q1, .int .i64 q2, .string q3, .slice a1 n1 c1, .slice a2 n2 c2, .slice a5 n5 c5] 27)).alloc (.cells #[] 5)).heap.size := by simp
      have hsrc : Src ((w4.alloc (.cells #[.int .i64 q1, .int .i64 q2, .string q3, .slice a1 n1 c1, .slice a2 n2 c2, .slice a5 n5 c5] 27)).alloc (.cells #[] 5)) a3 l.length (u8s l) := (HS4.out.keep HB5.out).src
      obtain ⟨q, hq⟩ : ∃ q, q = c % 256 := ⟨_, rfl⟩
      have hql : q < 256 := by omega
      have hqw : IntKind.u8.wrap (c : Int) = (q : Int) := by rw [hq]; rfl
      clear hv4 hb4 CD hq
      obtain ⟨i0, hi, hz0, hz1, hz2⟩ := info_parts infoU8
      go_upto_region 10 with fail
      refine wp_region_lit ?_
      refine wpList_plain rfl fun K hK => ?_
      go_simp
      refine hK _ _ ?_
      clear hK K
      refine wpList_plain rfl fun K hK => ?_
      go_simp
      refine hK _ _ ?_
      clear hK K
      refine wpList_src rfl _ _ 22 rfl (w4.heap.size + 1) 5 i0 (.int .u8 0) 1 1 Tryd.underlying22 hi hz0 hz1 hz2 rfl (by decide) (.slice (some ⟨w4.heap.size + 1, 0, none⟩) 0 0) 0 [] rfl hown5 a3 l.length c3 (u8s l) rfl hsrc ?c1 (u8s_cell _) ?c4 ?c5 hs5 ?_
      case c1 => simp [u8s]
      case c4 => unfold maxLen; omega
      case c5 => omega
      intro v6 w6 hown6 hg6
      have HB6 : Hid (Below (w4.heap.size + 1) ((w4.alloc (.cells #[.int .i64 q1, .int .i64 q2, .string q3, .slice a1 n1 c1, .slice a2 n2 c2, .slice a5 n5 c5] 27)).alloc (.cells #[] 5)) w6) := below_own hown5 hs5 hg6
      have hs6 : w4.heap.size + 1 ≤ w6.heap.size := Nat.le_trans hs5 HB6.out.size
      clear hown5 hg6 hsrc
      go_wp2_with (at_builtin; refine wpList_append_own _ rfl _ _ 22 rfl (w4.heap.size + 1) 5 i0 (.int .u8 0) 1 1 Tryd.underlying22 hi hz0 hz1 hz2 rfl (by decide) _ (0 + l.length) _ rfl (hown6.alloc _) ⟨w6.heap.size, 0, none⟩ 1 1 [.int .u8 q] rfl rfl ?c1 ?c2 ?c4 ?c5 ?c6 ?_)
      case c1 => exact oneNew8 _ _
      case c2 => intro u hu; simp at hu; subst hu; rfl
      case c4 => unfold maxLen; omega
      case c5 => omega
      case c6 => simp; omega
      intro v7 w7 hown7 hg7 _
      have HB7a : Hid (Below (w4.heap.size + 1) (w6.alloc (.cells #[.int .u8 q] 5)) w7) := below_own (hown6.alloc _) (by simp; omega) hg7
      have HB7 : Hid (Below w4.heap.size w4 w7) := HB5.out.trans ((HB6.out.mono (Nat.le_succ _)).trans (((Below.refl w4.heap.size w6).alloc (by omega) _).trans (HB7a.out.mono (Nat.le_succ _))))
      have hs7 : w4.heap.size + 1 ≤ w7.heap.size := Nat.le_trans (by simp; omega) HB7a.out.size
      have hO7 : Own8 w7 (w4.heap.size + 1) v7 (l ++ [q]) := Own8.more (cs := [q]) hown7 rfl hs7
      have hlen7 : (l ++ [q]).length = l.length + 1 := by simp
      obtain ⟨a7, c7, e7, hc7, hm7, hr7, -⟩ := hO7.reads
      have hdec7 : (Bson.decode (l ++ [q])).1 = 4 := by rw [Bson.cut_form HE.out HK6.out hl6 (by omega) (List.take_append_of_le_length (by omega)) (by omega) (by omega)]
      have CD := Lib.hid (decode_any w7 a7 c7 (l ++ [q]) hc7 hm7 hr7 (fun c hc => by rcases List.mem_append.1 hc with hc | hc; exact HOC.out c hc; rw [List.mem_singleton.1 hc]; exact hql) (HT4.out.below HB7.out))
      rw [hdec7, hlen7] at CD
      rw [hlen7] at e7
      subst e7
      have HB8 : Hid (Below w.heap.size w w7) := HB4.out.trans (HB7.out.mono HB4.out.size)
      clear hown7 hg7 hown6 hO7 hlen7 hc7 hm7 hr7 hdec7 hqw hkm
      go_wp2_with fail
      refine CD.out.mono ?_
      rintro e w8 ⟨v8, rfl, ⟨h8, hv8⟩, hb8⟩
      obtain ⟨r1, r2, r3, b1, m1, d1, b2, m2, d2, b3, m3, d3, rfl⟩ := VIn.form hv8
      have HB9 : Hid (Below w.heap.size w (w8.alloc (.cells #[.int .i64 r1, .int .i64 r2, .string r3, .slice b1 m1 d1, .slice b2 m2 d2, .slice b3 m3 d3] 27))) := (HB8.out.trans (hb8.mono HB8.out.size)).alloc (HB8.out.trans (hb8.mono HB8.out.size)).size _
      clear hv8 hb8 CD
      rcases HD.out with ⟨h4, rfl⟩ | ⟨h4, rfl⟩
      · have hi4 : (k : Int) < 4 := by omega
        go_wp2_with fail
        go_ret
        exact ⟨rfl, HB9.out⟩
      · have hi4 : ¬ (k : Int) < 4 := by omega
        go_wp2_with fail
        go_ret
        exact ⟨rfl, HB9.out⟩
end Go.Proofs.YtemckkindbpepaaDoor
end
