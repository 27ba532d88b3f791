/- aqueductlaw13.Same, HeapNone. -/
import Derived.Test.YtfkkckadnookoaaTopMade
namespace Go.Proofs.Ytfkkckadnookoaa
open Go.RowKit
open Seal
set_option maxRecDepth 100000 in
set_option maxHeartbeats 2000000 in
theorem same13_any (w : World) (Q Q' : Nat → Prop) (kv dv kv' dv' : Value) (k d : List Nat) (h1 : SlQ w Q kv k) (h2 : SlQ w Q dv d) (h3 : SlQ w Q' kv' k) (h4 : SlQ w Q' dv' d) :
    Calls Try.prog 14 #[.agg #[kv, dv], .agg #[kv', dv']] w fun e w' => e = .returned (.bool true) ∧ Below w.heap.size w w' := by
  obtain ⟨a1, c1, e1⟩ := h1.shape; obtain ⟨a2, c2, e2⟩ := h2.shape; obtain ⟨a3, c3, e3⟩ := h3.shape; obtain ⟨a4, c4, e4⟩ := h4.shape
  have HB : Hid (Below w.heap.size w ((w.alloc (.cells #[kv, dv] 30)).alloc (.cells #[kv', dv'] 32))) := ((Below.refl _ w).alloc (Nat.le_refl _) _).alloc (by simp) _
  have s1 := conv_one (h1.below HB.out); have s2 := conv_one (h2.below HB.out); have s3 := conv_one (h3.below HB.out); have s4 := conv_one (h4.below HB.out)
  generalize strB k = sk at s1 s3; generalize strB d = sd at s2 s4
  generalize k.length = kn at e1 e3; generalize d.length = dn at e2 e4
  subst e1; subst e2; subst e3; subst e4
  have z0 : ((w.alloc (.cells #[.slice a1 kn c1, .slice a2 dn c2] 30)).alloc (.cells #[.slice a3 kn c3, .slice a4 dn c4] 32)).cell? ⟨w.heap.size, 0, none⟩ = some (.slice a1 kn c1) := by simp
  have z1 : ((w.alloc (.cells #[.slice a1 kn c1, .slice a2 dn c2] 30)).alloc (.cells #[.slice a3 kn c3, .slice a4 dn c4] 32)).cell? ⟨w.heap.size, 1, none⟩ = some (.slice a2 dn c2) := by simp
  have z2 : ((w.alloc (.cells #[.slice a1 kn c1, .slice a2 dn c2] 30)).alloc (.cells #[.slice a3 kn c3, .slice a4 dn c4] 32)).cell? ⟨w.heap.size + 1, 0, none⟩ = some (.slice a3 kn c3) := by simp
  have z3 : ((w.alloc (.cells #[.slice a1 kn c1, .slice a2 dn c2] 30)).alloc (.cells #[.slice a3 kn c3, .slice a4 dn c4] 32)).cell? ⟨w.heap.size + 1, 1, none⟩ = some (.slice a4 dn c4) := by simp
  clear h1 h2 h3 h4
  go_enter Try.func14, Try.ntmps14
  go_upto_region 1 with fail
  generalize (w.alloc (.cells #[.slice a1 kn c1, .slice a2 dn c2] 30)).alloc (.cells #[.slice a3 kn c3, .slice a4 dn c4] 32) = w1 at HB s1 s2 s3 s4 z0 z1 z2 z3 ⊢
  go_wp2_with fail
  go_ret
  exact ⟨rfl, HB.out⟩
theorem sl_of {w : World} {a : Option Addr} {c : Nat} {l : List Nat} (h : SliceIs w a l) (hc : l.length ≤ c ∧ c ≤ 9223372036854775807) (ho : Oct l) (hl : l.length ≤ 10000) : SlQ w (fun g => g < w.heap.size) (.slice a l.length c) l := by
  refine ⟨⟨a, c, rfl, hc, ?_⟩, ho, hl⟩
  rcases h with h | ⟨b, off, rfl, h⟩
  · exact .inl h
  · by_cases h0 : l = []
    · exact .inl h0
    · exact .inr ⟨b, off, rfl, World.block_lt_of_cell? w _ (h 0 (List.length_pos_iff.2 h0)), h⟩
set_option maxRecDepth 100000 in
set_option maxHeartbeats 8000000 in
theorem none13_any (k : Int) (hk : -9223372036854775808 ≤ k ∧ k ≤ 9223372036854775807) (a1 : Option Addr) (c1 : Nat) (l1 : List Nat) (a2 : Option Addr) (c2 : Nat) (l2 : List Nat) (w : World)
    (h1 : SliceIs w a1 l1) (hc1 : l1.length ≤ c1 ∧ c1 ≤ 9223372036854775807) (ho1 : Oct l1) (h2 : SliceIs w a2 l2) (hc2 : l2.length ≤ c2 ∧ c2 ≤ 9223372036854775807) (ho2 : Oct l2) :
    Calls Try.prog 5 #[.int .i64 k, .slice a1 l1.length c1, .slice a2 l2.length c2] w fun e w' => e = .returned (.bool true) ∧ Below w.heap.size w w' := by
  by_cases hb1 : l1.length ≤ 1000
  · by_cases hb2 : l2.length ≤ 1000
    · have HS1 := Lib.hid (sl_of h1 hc1 ho1 (by omega))
      have HS2 := Lib.hid (sl_of h2 hc2 ho2 (by omega))
      obtain ⟨n1, hn1⟩ : ∃ n, n = l1.length := ⟨_, rfl⟩
      obtain ⟨n2, hn2⟩ : ∃ n, n = l2.length := ⟨_, rfl⟩
      have HSZ : Hid ((sz [(l1, l2)] : Int) = 32 + (n1 : Int) + (n2 : Int)) := by
        rw [hn1, hn2]
        show ((32 + l1.length + l2.length + 0 : Nat) : Int) = _
        omega
      rw [← hn1] at HS1 hb1 ⊢; rw [← hn2] at HS2 hb2 ⊢
      have g1 : ¬ (n1 : Int) > 1000 := by omega
      have g2 : ¬ (n2 : Int) > 1000 := by omega
      obtain ⟨kk, hkk⟩ : ∃ z, z = min k 0 := ⟨_, rfl⟩
      have hkr : -9223372036854775808 ≤ kk ∧ kk ≤ 9223372036854775807 := by omega
      have HK0 : Hid ((max kk 0).toNat = 0) := by unfold Hid; omega
      have HKK := Lib.hid hkk
      clear h1 h2 hc1 hc2 ho1 ho2 hn1 hn2 hkk
      go_enter Try.func5, Try.ntmps5
      go_wp2_with fail
      go_at_call 6
      refine (awake13_any w).mono ?_
      rintro e1 w1 ⟨rfl, hw1⟩
      have HB1 := Lib.hid hw1
      clear hw1
      go_wp2_with fail
      rw [← HKK.out]
      go_at_call 8
      refine (new_any kk w1 hkr).mono ?_
      rintro e2 w2 ⟨rfl, hT2, hw2⟩
      rw [HK0.out] at hT2
      have HTa := Lib.hid hT2
      have HB2 : Hid (Below w.heap.size w w2) := HB1.out.trans (hw2.mono HB1.out.size)
      have HPa := Lib.hid HB1.out.size
      obtain ⟨pa, hpa⟩ : ∃ z, z = w1.heap.size := ⟨_, rfl⟩
      rw [← hpa] at HTa HPa ⊢
      clear hT2 hw2 HK0 hkr HB1 hpa
      go_wp2_with fail
      go_at_call 8
      refine (new_any 3 w2 (by omega)).mono ?_
      rintro e3 w3 ⟨rfl, hT3, hw3⟩
      have HTb : Hid (TopIs w3 w2.heap.size (.slice none 0 0) 3 0 []) := hT3
      have HTa3 := Lib.hid (HTa.out.keep hw3)
      have HB3 : Hid (Below w.heap.size w w3) := HB2.out.trans (hw3.mono HB2.out.size)
      have HPb := Lib.hid HB2.out.size
      obtain ⟨pb, hpb⟩ : ∃ z, z = w2.heap.size := ⟨_, rfl⟩
      rw [← hpb] at HTb HPb ⊢
      clear hT3 hw3 HTa HB2 hpb
      go_wp2_with fail
      go_at_call 10
      refine (made_any w3 _ _ _ l1 l2 (HS1.out.below HB3.out) (HS2.out.below HB3.out)).mono ?_
      rintro e4 w4 ⟨k4, d4, rfl, hk4, hd4, hw4⟩
      have HTa4 := HTa3.out.keep hw4; have HTb4 := HTb.out.keep hw4
      have hb4 : Below w.heap.size w w4 := HB3.out.trans (hw4.mono HB3.out.size)
      obtain ⟨x1, x2, ek⟩ := hk4.shape
      obtain ⟨y1, y2, ed⟩ := hd4.shape
      obtain ⟨m1, hm1⟩ : ∃ z, z = l1.length := ⟨_, rfl⟩
      obtain ⟨m2, hm2⟩ : ∃ z, z = l2.length := ⟨_, rfl⟩
      rw [← hm1] at ek; rw [← hm2] at ed
      subst ek; subst ed
      have HZb := Lib.hid HTb.out.lt
      have HZa := Lib.hid HTa3.out.lt
      have hw5 : Below w4.heap.size w4 (w4.alloc (.cells #[.slice x1 m1 x2, .slice y1 m2 y2] 30)) := (Below.refl _ _).alloc (Nat.le_refl _) _
      have HX5 : Hid ((w4.alloc (.cells #[.slice x1 m1 x2, .slice y1 m2 y2] 30)).heap[w4.heap.size]? = some (.cells #[.slice x1 m1 x2, .slice y1 m2 y2] 30 (0, 0))) := heap_alloc_new w4 _
      have HTa5 := Lib.hid (HTa4.keep hw5); have HTb5 := Lib.hid (HTb4.keep hw5)
      have HB5 : Hid (Below w.heap.size w (w4.alloc (.cells #[.slice x1 m1 x2, .slice y1 m2 y2] 30))) := hb4.trans (hw5.mono hb4.size)
      have HK5 := Lib.hid (hk4.below hw5); have HD5 := Lib.hid (hd4.below hw5)
      have HPX : Hid (w3.heap.size ≤ w4.heap.size) := hw4.size
      clear hk4 hd4 hw4 HTa4 HTb4 hb4 hm1 hm2 hw5 HTa3 HTb HB3
      go_upto_region 9 with fail
      generalize w4.alloc _ = w5 at HX5 HTa5 HTb5 HB5 HK5 HD5 ⊢
      generalize w4.heap.size = gx at HX5 HPX ⊢
      generalize w3.heap.size = g3 at HZb HZa HPX HK5 HD5
      have y0 : w5.cell? ⟨gx, 0, none⟩ = some (.slice x1 m1 x2) := (cell_of_row w5 _ 0 _ _ _ HX5.out).trans rfl
      have y1' : w5.cell? ⟨gx, 1, none⟩ = some (.slice y1 m2 y2) := (cell_of_row w5 _ 1 _ _ _ HX5.out).trans rfl
      have hpab := HTa5.out.lt
      go_wp2_with fail
      go_at_call 9
      refine (add_any HTa5.out (by omega) (by simp) (fun g => g3 ≤ g) _ _ l1 l2 HK5.out HD5.out (fun g hg e => by
        have := HZa.out
        rcases e with e | e
        · omega
        · cases e)).mono ?_
      have ht0 : Top.takes ck 0 (l1, l2) [] = false := rfl
      rw [ht0]
      rintro e6 w6 ⟨rfl, v6, cn6, _, _, _, _, hq6⟩
      have hw6 := (hq6 rfl).2.2
      have HTa6 := Lib.hid (HTa5.out.keep hw6); have HTb6 := Lib.hid (HTb5.out.keep hw6)
      have HB6 : Hid (Below w.heap.size w w6) := HB5.out.trans (hw6.mono HB5.out.size)
      have HK6 := Lib.hid (HK5.out.below hw6); have HD6 := Lib.hid (HD5.out.below hw6)
      have HX6 := Lib.hid ((hw6.block gx (Array.getElem?_eq_some_iff.1 HX5.out).1).trans HX5.out)
      clear hq6 hw6 HTa5 HTb5 HB5 HK5 HD5 HX5 y0 y1' ht0
      go_wp2_with fail
      go_at_call 13
      refine (tlen_any HTa6.out).mono ?_
      rintro e7 w7 ⟨rfl, rfl⟩
      go_wp2_with fail
      go_at_call 16
      refine (tsize_any HTa6.out).mono ?_
      rintro e8 w8 ⟨rfl, rfl⟩
      go_wp2_with fail
      go_at_call 12
      refine (list_any HTa6.out (by simp)).mono ?_
      rintro e9 w9 ⟨v9, rfl, hL9, hw9⟩
      obtain ⟨g9, c9, rfl, _⟩ := hL9
      have HTb9 := Lib.hid (HTb6.out.keep hw9)
      have HB9 : Hid (Below w.heap.size w w9) := HB6.out.trans (hw9.mono HB6.out.size)
      have HK9 := Lib.hid (HK6.out.below hw9); have HD9 := Lib.hid (HD6.out.below hw9)
      have hX9 := (hw9.block gx (Array.getElem?_eq_some_iff.1 HX6.out).1).trans HX6.out
      have y0 : w9.cell? ⟨gx, 0, none⟩ = some (.slice x1 m1 x2) := (cell_of_row w9 _ 0 _ _ _ hX9).trans rfl
      have y1' : w9.cell? ⟨gx, 1, none⟩ = some (.slice y1 m2 y2) := (cell_of_row w9 _ 1 _ _ _ hX9).trans rfl
      clear hw9 HTa6 HTb6 HB6 HK6 HD6 HX6 hX9
      go_wp2_with fail
      go_at_call 9
      refine (add_any HTb9.out (by omega) (by simp) (fun g => g3 ≤ g) _ _ l1 l2 HK9.out HD9.out (fun g hg e => by
        have := HZb.out
        rcases e with e | e
        · omega
        · cases e)).mono ?_
      have ht1 : Top.takes ck 3 (l1, l2) [] = true := rfl
      have ht2 : Top.nxt ck 3 (l1, l2) [] = [(l1, l2)] := rfl
      rw [ht1, ht2]
      rintro ea wa ⟨rfl, va, ca, _, hTa, hRa, _, _⟩
      have HTba := Lib.hid hTa
      have HBa : Hid (Below w.heap.size w wa) := HB9.out.trans (hRa.below HB9.out.size (fun k hk => by have := HTb9.out.ge hk; have := HPb.out; omega))
      clear hTa hRa ht1 ht2 HTb9 HB9 HK9 HD9 y0 y1'
      go_wp2_with fail
      go_at_call 12
      refine (list_any HTba.out (by simp)).mono ?_
      rintro eb wb ⟨vb, rfl, hLb, hwb⟩
      obtain ⟨gb, cb, rfl, _, _, _, hit⟩ := hLb
      obtain ⟨kb, db, q0, q1, q2, q3⟩ := hit 0 (by simp)
      have HTbb := Lib.hid (HTba.out.keep hwb)
      have HBb : Hid (Below w.heap.size w wb) := HBa.out.trans (hwb.mono HBa.out.size)
      have q0' : wb.cell? ⟨gb, 0, none⟩ = some kb := q0
      have q1' : wb.cell? ⟨gb, 1, none⟩ = some db := q1
      have HSM := Lib.hid (same13_any wb _ _ kb db _ _ l1 l2 q2 q3 (HS1.out.below HBb.out) (HS2.out.below HBb.out))
      clear hit q0 q1 q2 q3 hwb HTba HBa
      go_wp2_with fail
      go_at_call 14
      refine HSM.out.mono ?_
      rintro ec wc ⟨rfl, hwc⟩
      have HTc := HTbb.out.keep hwc
      have HBc : Hid (Below w.heap.size w wc) := HBb.out.trans (hwc.mono HBb.out.size)
      have HSC := tsize_any HTc
      rw [HSZ.out] at HSC
      have HSC := Lib.hid HSC
      clear hwc HTc HTbb HBb q0' q1' HSM
      go_wp2_with fail
      go_at_call 16
      refine HSC.out.mono ?_
      rintro ed wd ⟨rfl, rfl⟩
      clear HSC
      go_wp2_with fail
      go_ret
      exact ⟨rfl, HBc.out⟩
    · have g2 : (l2.length : Int) > 1000 := by omega
      have g1 : ¬ (l1.length : Int) > 1000 := by omega
      generalize l1.length = n1 at g1 ⊢
      generalize l2.length = n2 at g2 ⊢
      clear h1 h2 hc1 hc2 ho1 ho2 hb1 hb2
      go_enter Try.func5, Try.ntmps5
      go_wp2_with (go_at_call 6; refine (awake13_any w).mono ?_; rintro e1 w1 ⟨rfl, hw1⟩)
      go_ret
      exact ⟨rfl, hw1⟩
  · have g1 : (l1.length : Int) > 1000 := by omega
    generalize l1.length = n1 at g1 ⊢
    generalize l2.length = n2
    clear h1 h2 hc1 hc2 ho1 ho2 hb1
    go_enter Try.func5, Try.ntmps5
    go_wp2_with (go_at_call 6; refine (awake13_any w).mono ?_; rintro e1 w1 ⟨rfl, hw1⟩)
    go_ret
    exact ⟨rfl, hw1⟩
theorem none13_walk (k : Int) (a1 : Option Addr) (n1 c1 : Nat) (l1 : List Nat) (a2 : Option Addr) (n2 c2 : Nat) (l2 : List Nat) (w : World) (ha : -9223372036854775808 ≤ k) (hb : k ≤ 9223372036854775807)
    (hl1 : l1.length = n1) (ho1 : Oct l1) (h1 : SliceIs w a1 l1) (hc1 : n1 ≤ c1) (hm1 : c1 ≤ 9223372036854775807) (hl2 : l2.length = n2) (ho2 : Oct l2) (h2 : SliceIs w a2 l2) (hc2 : n2 ≤ c2) (hm2 : c2 ≤ 9223372036854775807) :
    Calls Try.prog 5 #[.int .i64 k, .slice a1 n1 c1, .slice a2 n2 c2] w fun e w' => e = .returned (.bool true) ∧ Below w.heap.size w w' := by
  subst hl1; subst hl2
  exact none13_any k ⟨ha, hb⟩ a1 c1 l1 a2 c2 l2 w h1 ⟨hc1, hm1⟩ ho1 h2 ⟨hc2, hm2⟩ ho2
end Go.Proofs.Ytfkkckadnookoaa
