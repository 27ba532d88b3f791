/- BsonEncodesWalk. -/
import Derived.Test.YtpiookgkkaafeaaDoorMd4
import Derived.Test.YtpiookgkkaafeaaDoorMg36
import Derived.Test.YtpiookgkkaafeaaDoorMd2
import Derived.Test.YtpiookgkkaafeaaDoorMg7
import Derived.Test.YtpiookgkkaafeaaDoorMg16
import Derived.Test.YtpiookgkkaafeaaDoorMg10
set_option maxRecDepth 100000
section
namespace Go.Proofs.YtpiookgkkaafeaaDoor
open Go.RowKit
open Seal
open Bson (Val)
theorem BytesX.slice {w : World} {Q : Nat → Prop} {v : Value} {l : List Nat} (h : BytesX w Q v l) : ∃ a c, v = .slice a l.length c ∧ SliceIs w a l := by
  obtain ⟨a, c, e, _, h⟩ := h
  refine ⟨a, c, e, ?_⟩
  rcases h with h | ⟨g, o, e, _, h⟩
  · exact .inl h
  · exact .inr ⟨g, o, e, h⟩
set_option maxRecDepth 100000 in
set_option maxHeartbeats 4000000 in
theorem encodes5_any (Q : Nat → Prop) (h : Nat) (x : Val) (v : Value) (w : World) (hv : VIn w Q (h + 1) x v) (hQ : ∀ g, Q g → g < w.heap.size) (hT : Tabs w) : Calls Tryd.prog 4 #[v] w fun e w' => e = .returned (.bool true) ∧ Below w.heap.size w w' := by
  obtain ⟨xk, xn, xs, ba, fa, la, bn, bc, fn, fc, ln, lc, rfl, hxk, hxn, hxs, hbn, hfn, hln, hL, hF, hI⟩ := hv.letters
  have HB0 : Hid (Below w.heap.size w (w.alloc (.cells #[.int .i64 xk, .int .i64 xn, .string xs, .slice ba bn bc, .slice fa fn fc, .slice la ln lc] 27))) := (Below.refl _ w).alloc (Nat.le_refl _) _
  have HV0 := Lib.hid (VIn.keep HB0.out hv)
  have HS0 := Lib.hid (SixIs.new w (.int .i64 xk) (.int .i64 xn) (.string xs) (.slice ba bn bc) (.slice fa fn fc) (.slice la ln lc) 27)
  have HQ := Lib.hid hQ
  have HT0 := Lib.hid (hT.below HB0.out)
  clear hv hxk hxn hxs hbn hfn hln hL hF hI hQ hT
  generalize hW : w.alloc (.cells #[.int .i64 xk, .int .i64 xn, .string xs, .slice ba bn bc, .slice fa fn fc, .slice la ln lc] 27) = W0 at *
  have CA := Lib.hid (awake5_any W0 HT0.out)
  go_enter Tryd.func4, Tryd.ntmps4
  go_wp2_with fail
  clear hW
  refine CA.out.mono ?_
  rintro e w1 ⟨rfl, hb1⟩
  obtain ⟨e0, e1, e2, e3, e4, e5⟩ := HS0.out.keep hb1
  have HS1 := Lib.hid (HS0.out.keep hb1)
  have HV1 := Lib.hid (VIn.keep hb1 HV0.out)
  have HT1 := Lib.hid (HT0.out.below hb1)
  have HB1 : Hid (Below w.heap.size w w1) := HB0.out.trans (hb1.mono HB0.out.size)
  clear CA hb1
  go_wp2_with fail
  go_at_call 16
  refine (small_any Q h x _ w1 HV1.out).mono ?_
  rintro e w2 ⟨b, rfl, hb, hb2⟩
  have HSM := Lib.hid hb
  obtain ⟨f0, f1, f2, f3, f4, f5⟩ := HS1.out.keep hb2
  have HS2 := Lib.hid (HS1.out.keep hb2)
  have HV2 := Lib.hid (VIn.keep hb2 HV1.out)
  have HT2 := Lib.hid (HT1.out.below hb2)
  have HB2 : Hid (Below w.heap.size w w2) := HB1.out.trans (hb2.mono HB1.out.size)
  have HZ2 : Hid (w.heap.size ≤ w2.heap.size) := HB2.out.size
  clear hb hb2 e0 e1 e2 e3 e4 e5
  cases b with
  | false =>
    go_wp2_with fail
    go_ret
    exact ⟨rfl, HB2.out⟩
  | true =>
    have HWT : Hid (wt (h + 1) x ≤ 3000) := HSM.out rfl
    have HHG : Hid (Hgt (h + 1) x) := HV2.out.hgt
    have hdoc : docB x = if x.kind = 6 then Bson.enc 32 x else none := by
      unfold docB
      split
      · cases he : Bson.enc 32 x with
        | none => rfl
        | some l =>
          have := enc_le 32 (h + 1) x l HHG.out HWT.out he
          have := HWT.out
          show (if _ then _ else _) = _
          rw [if_pos (by omega)]
      · rfl
    have HDOC := Lib.hid hdoc
    clear hdoc
    go_wp2_with fail
    go_at_call 14
    cases hl : docB x with
    | none =>
      refine (encode_no Q (h + 1) x _ w2 HV2.out HT2.out hl).mono ?_
      rintro e w3 ⟨rfl, hb3⟩
      have HDN := Lib.hid hl
      obtain ⟨g0, g1, g2, g3, g4, g5⟩ := HS2.out.keep hb3
      have HS3 := Lib.hid (HS2.out.keep hb3)
      have HV3 := Lib.hid (VIn.keep hb3 HV2.out)
      have HT3 := Lib.hid (HT2.out.below hb3)
      have HB3 : Hid (Below w.heap.size w w3) := HB2.out.trans (hb3.mono HB2.out.size)
      clear hb3 hl f0 f1 f2 f3 f4 f5
      go_wp2_with fail
      go_at_call 17
      refine (encodex_any Q h x _ w3 HWT.out HV3.out).mono ?_
      rintro e w4 ⟨b4, n4, l4, rfl, hx4, hor, hb4⟩
      obtain ⟨rfl, rfl⟩ : n4 = 1 ∧ l4 = [] := by
        rcases hor with ⟨h1, h2, _⟩ | ⟨_, h2, h3⟩
        · have h3 := HDOC.out
          rw [HDN.out, if_pos h1, h2] at h3
          cases h3
        · exact ⟨h2, h3⟩
      obtain ⟨a4, c4, e4, hs4⟩ := hx4.slice
      have e4' : b4 = .slice a4 0 c4 := e4
      subst e4'
      obtain ⟨x0, x1, x2, x3, x4, x5⟩ := HS3.out.keep hb4
      have HS4 := Lib.hid (HS3.out.keep hb4)
      have HV4 := Lib.hid (VIn.keep hb4 HV3.out)
      have HT4 := Lib.hid (HT3.out.below hb4)
      have HB4 : Hid (Below w.heap.size w w4) := HB3.out.trans (hb4.mono HB3.out.size)
      have hcv1 := conv_str w4 none 0 0 [] rfl (.inl rfl)
      have hcv2 := conv_str w4 a4 0 c4 [] rfl hs4
      clear hb4 hor hx4 e4 hs4 g0 g1 g2 g3 g4 g5
      go_wp2_with fail
      go_at_call 18
      refine (may_any Q (h + 1) x _ w4 HV4.out HT4.out).mono ?_
      rintro e w5 ⟨rfl, hb5⟩
      rw [HDN.out]
      obtain ⟨y0, y1, y2, y3, y4, y5⟩ := HS4.out.keep hb5
      have HV5 := Lib.hid (VIn.keep hb5 HV4.out)
      have HT5 := Lib.hid (HT4.out.below hb5)
      have HB5 : Hid (Below w.heap.size w w5) := HB4.out.trans (hb5.mono HB4.out.size)
      clear hb5 x0 x1 x2 x3 x4 x5 hcv1 hcv2
      show _
      go_wp2_with fail
      go_at_call 15
      refine (size_any Q (h + 1) x _ w5 HV5.out HT5.out).mono ?_
      rintro e w6 ⟨rfl, hb6⟩
      have hz : sizeB x = 0 := sizeB_none HDN.out
      rw [hz]
      have HB6 : Hid (Below w.heap.size w w6) := HB5.out.trans (hb6.mono HB5.out.size)
      clear hb6 y0 y1 y2 y3 y4 y5 hz
      go_wp2_with fail
      go_ret
      exact ⟨rfl, HB6.out⟩
    | some l =>
      refine (encode_ok Q (h + 1) x _ w2 l HV2.out (fun g hg => Nat.lt_of_lt_of_le (HQ.out g hg) HZ2.out) HT2.out hl).mono ?_
      rintro e w3 ⟨v3, rfl, hO3, hb3⟩
      have HDN := Lib.hid hl
      obtain ⟨a3, c3, rfl, hc3, hm3, hs3, ha3⟩ := hO3.reads
      obtain ⟨hk6, he32, hl6, r, hr, hlw⟩ := docB_parts hl
      have HS3' := Lib.hid hs3
      have HE := Lib.hid he32
      have HK6 := Lib.hid hk6
      have HL6 : Hid (l.length ≤ 65536) := hl6
      have HC3 := Lib.hid (And.intro hc3 hm3)
      obtain ⟨g0, g1, g2, g3, g4, g5⟩ := HS2.out.keep hb3
      have HS3 := Lib.hid (HS2.out.keep hb3)
      have HV3 := Lib.hid (VIn.keep hb3 HV2.out)
      have HT3 := Lib.hid (HT2.out.below hb3)
      have HB3 : Hid (Below w.heap.size w w3) := HB2.out.trans (hb3.mono HB2.out.size)
      have HOC : Hid (∀ c ∈ l, c < 256) := enc_oct 32 (h + 1) x l HV2.out.octs he32
      have hne : ¬ ((l.length : Int) = 0) := by rw [hlw, wrap_len]; omega
      clear hb3 hl hO3 hs3 he32 hk6 hr hlw ha3 hl6 hc3 hm3 f0 f1 f2 f3 f4 f5
      obtain ⟨L, hL⟩ : ∃ L, L = l.length := ⟨_, rfl⟩
      have HLL := Lib.hid hL
      rw [← hL] at hne
      rw [← hL]
      clear hL
      go_wp2_with fail
      go_at_call 17
      refine (encodex_any Q h x _ w3 HWT.out HV3.out).mono ?_
      rintro e w4 ⟨b4, n4, l4, rfl, hx4, hor, hb4⟩
      obtain ⟨rfl, rfl⟩ : n4 = 0 ∧ l4 = l := by
        rcases hor with ⟨_, h2, h3⟩ | ⟨h1, _, _⟩
        · rw [HE.out] at h2
          exact ⟨h3, (Option.some.inj h2).symm⟩
        · rcases h1 with h1 | h1
          · exact absurd HK6.out h1
          · rw [HE.out] at h1; cases h1
      obtain ⟨a4, c4, e4, hs4⟩ := hx4.slice
      rw [← HLL.out] at e4
      subst e4
      obtain ⟨x0, x1, x2, x3, x4, x5⟩ := HS3.out.keep hb4
      have HS4 := Lib.hid (HS3.out.keep hb4)
      have HV4 := Lib.hid (VIn.keep hb4 HV3.out)
      have HT4 := Lib.hid (HT3.out.below hb4)
      have HB4 : Hid (Below w.heap.size w w4) := HB3.out.trans (hb4.mono HB3.out.size)
      have HS4' := Lib.hid (HS3'.out.keep hb4)
      have hcv1 := conv_str w4 a3 L c3 l4 HLL.out.symm HS4'.out
      have hcv2 := conv_str w4 a4 L c4 l4 HLL.out.symm hs4
      clear hb4 hor hx4 hs4 g0 g1 g2 g3 g4 g5
      obtain ⟨sb, hsb⟩ : ∃ sb, sb = strB l4 := ⟨_, rfl⟩
      rw [← hsb] at hcv1 hcv2
      clear hsb
      go_wp2_with fail
      go_at_call 18
      refine (may_any Q (h + 1) x _ w4 HV4.out HT4.out).mono ?_
      rintro e w5 ⟨rfl, hb5⟩
      rw [HDN.out]
      obtain ⟨y0, y1, y2, y3, y4, y5⟩ := HS4.out.keep hb5
      have HS5 := Lib.hid (HS4.out.keep hb5)
      have HV5 := Lib.hid (VIn.keep hb5 HV4.out)
      have HT5 := Lib.hid (HT4.out.below hb5)
      have HB5 : Hid (Below w.heap.size w w5) := HB4.out.trans (hb5.mono HB4.out.size)
      have HS5' := Lib.hid (HS4'.out.keep hb5)
      clear hb5 x0 x1 x2 x3 x4 x5 hcv1 hcv2
      show _
      go_wp2_with fail
      go_at_call 15
      refine (size_any Q (h + 1) x _ w5 HV5.out HT5.out).mono ?_
      rintro e w6 ⟨rfl, hb6⟩
      have hz : sizeB x = L := by unfold sizeB; rw [HDN.out]; exact HLL.out.symm
      rw [hz]
      have HS6 := Lib.hid (HS5.out.keep hb6)
      have HV6 := Lib.hid (VIn.keep hb6 HV5.out)
      have HT6 := Lib.hid (HT5.out.below hb6)
      have HB6 : Hid (Below w.heap.size w w6) := HB5.out.trans (hb6.mono HB5.out.size)
      have CD := Lib.hid (decode_any w6 a3 c3 l4 HC3.out.1 HC3.out.2 (HS5'.out.keep hb6) HOC.out HT6.out)
      rw [Bson.enc_decode HE.out HK6.out HL6.out, ← HLL.out] at CD
      clear hb6 y0 y1 y2 y3 y4 y5 hz
      go_wp2_with fail
      go_at_call 11
      refine CD.out.mono ?_
      rintro e w7 ⟨v7, rfl, ⟨h7, hv7⟩, hb7⟩
      obtain ⟨q1, q2, q3, a1, n1, d1, a2, n2, d2, a5, n5, d5, rfl⟩ := VIn.form hv7
      have HB8 : Hid (Below w6.heap.size w6 (w7.alloc (.cells #[.int .i64 q1, .int .i64 q2, .string q3, .slice a1 n1 d1, .slice a2 n2 d2, .slice a5 n5 d5] 27))) := hb7.alloc hb7.size _
      obtain ⟨x0, x1, x2, x3, x4, x5⟩ := HS6.out.keep HB8.out
      have HV8 := Lib.hid (VIn.keep HB8.out HV6.out)
      have HBW8 : Hid (Below w.heap.size w (w7.alloc (.cells #[.int .i64 q1, .int .i64 q2, .string q3, .slice a1 n1 d1, .slice a2 n2 d2, .slice a5 n5 d5] 27))) := HB6.out.trans (HB8.out.mono HB6.out.size)
      have HY8 := Lib.hid (IsBox.new w7 (.int .i64 q1) (.int .i64 q2) (.string q3) (.slice a1 n1 d1) (.slice a2 n2 d2) (.slice a5 n5 d5))
      have HW8 := Lib.hid (VIn.keep ((Below.refl _ w7).alloc (Nat.le_refl _) (.cells #[.int .i64 q1, .int .i64 q2, .string q3, .slice a1 n1 d1, .slice a2 n2 d2, .slice a5 n5 d5] 27)) hv7)
      obtain ⟨y0, y1, y2, y3, y4, y5⟩ := HY8.out.cells
      clear hv7 hb7 CD
      go_wp2_with fail
      go_at_call 13
      refine (same_any (h + 1) h7 _ _ _ _ _ _ _ HV8.out HW8.out).mono ?_
      rintro e w9 ⟨b9, rfl, hsame, hb9⟩
      obtain rfl : b9 = true := hsame.2 rfl
      have HBW9 : Hid (Below w.heap.size w w9) := HBW8.out.trans (hb9.mono HBW8.out.size)
      clear hb9 hsame x0 x1 x2 x3 x4 x5 y0 y1 y2 y3 y4 y5
      go_wp2_with fail
      go_ret
      exact ⟨rfl, HBW9.out⟩
end Go.Proofs.YtpiookgkkaafeaaDoor
end
