/- BsonOrdWalk. -/
import Derived.Test.YtdihelpimpkfoaaDoorMg31
import Derived.Test.YtdihelpimpkfoaaDoorMg37
import Derived.Test.YtdihelpimpkfoaaDoorMg3
import Derived.Test.YtdihelpimpkfoaaDoorMg5
import Derived.Test.YtdihelpimpkfoaaDoorMg6
import Derived.Test.YtdihelpimpkfoaaDoorMg2
set_option maxRecDepth 100000
section
namespace Go.Proofs.YtdihelpimpkfoaaDoor
open Go.RowKit
open Seal
open Bson (Val)
/-- Numbers of 8 bits in a row. -/
def Ints8 (w : World) (a : Option Addr) (m : List Int) : Prop := m = [] ∨ ∃ g o, a = some ⟨g, o, none⟩ ∧ ∀ j (hj : j < m.length), w.cell? ⟨g, o + j, none⟩ = some (.int .i8 m[j])
theorem Ints8.keep {w w' : World} {a : Option Addr} {m : List Int} (h : Ints8 w a m) (hb : Below w.heap.size w w') : Ints8 w' a m := by
  rcases h with h | ⟨g, o, e, h⟩
  · exact .inl h
  · exact .inr ⟨g, o, e, fun j hj => cell_keep hb (h j hj)⟩
/-- What Get answers: a number. -/
def getFact (n : Int) : Fact := ⟨fun v _ => ∃ g1 g2 g3 g4, v = .agg #[.int .i64 3, .int .i64 n, g1, g2, g3, g4], fun _ _ _ h _ => h⟩
theorem infoStr5 : (Tryd.prog.info? 9).map (fun i => (i.zero, i.size, i.bytes)) = some (some (.string ⟨#[]⟩), 1, 16) := by kernel_rfl
set_option maxRecDepth 100000 in
set_option maxHeartbeats 1500000 in
theorem order5_any (w : World) (an av : Option Addr) (n cn v cv : Nat) (l : List Nat) (m : List Int) (hl : l.length = n) (hm : m.length = v) (ho : Oct l) (hi8 : ∀ x ∈ m, -128 ≤ x ∧ x ≤ 127) (hs : SliceIs w an l) (hs2 : Ints8 w av m) (hT : Tabs w) :
    Calls Tryd.prog 3 #[.slice an n cn, .slice av v cv] w fun e w' => e = .returned (.bool true) ∧ Below w.heap.size w w' := by
  obtain ⟨i0, hi, hz0, hz1, hz2⟩ := info_parts infoStr5
  have CA := Lib.hid (awake5_any w hT)
  have HT := Lib.hid hT
  have HLN := Lib.hid (And.intro hl hm)
  have HO := Lib.hid ho
  have HI8 := Lib.hid hi8
  have HS := Lib.hid hs
  have HS2 := Lib.hid hs2
  clear hl hm ho hi8 hs hs2 hT
  go_enter Tryd.func3, Tryd.ntmps3
  go_wp2_with fail
  refine CA.out.mono ?_
  rintro e w1 ⟨rfl, hb1⟩
  have HB1 := Lib.hid hb1
  clear CA hb1
  by_cases h60 : 60 < n
  · have h60i : (60 : Int) < (n : Int) := by omega
    go_wp2_with fail
    go_ret
    exact ⟨rfl, HB1.out⟩
  have h60i : ¬ (60 : Int) < (n : Int) := by omega
  by_cases hvn : v < n
  · have hvni : (v : Int) < (n : Int) := by omega
    go_wp2_with fail
    go_ret
    exact ⟨rfl, HB1.out⟩
  have hvni : ¬ (v : Int) < (n : Int) := by omega
  by_cases h200 : 200 < v
  · have h200i : (200 : Int) < (v : Int) := by omega
    go_wp2_with fail
    go_ret
    exact ⟨rfl, HB1.out⟩
  have h200i : ¬ (200 : Int) < (v : Int) := by omega
  have hmm := @run_makeMap Tryd.prog
  have KS : Maps.Keyed Tryd.prog 9 := Maps.string_keyed Tryd.underlying9
  have ZU : ∀ w, (zeroValue 2).run Tryd.prog w = .ok (.int .i64 0) w := fun w => by kernel_rfl
  obtain ⟨W0, hW0⟩ : ∃ W0, W0 = (w1.alloc (.cells #[.int .i64 6, .int .i64 0, .string ⟨#[]⟩, .slice none 0 0, .slice none 0 0, .slice none 0 0] 28)).alloc (.map #[] 0) := ⟨_, rfl⟩
  have HOS0 : Hid (OSt w W0 w1.heap.size (w1.heap.size + 1) (.slice none 0 0) [] [] [] 0 (.int .i64 6) (.int .i64 0) (.string ⟨#[]⟩) (.slice none 0 0) (.slice none 0 0) (.slice none 0 0) (w1.heap.size + 2) (w1.heap.size + 2) (.map [])) := by
    rw [hW0]
    have h1 : Below w.heap.size w (w1.alloc (.cells #[.int .i64 6, .int .i64 0, .string ⟨#[]⟩, .slice none 0 0, .slice none 0 0, .slice none 0 0] 28)) := HB1.out.alloc HB1.out.size _
    have hsz : (w1.alloc (.cells #[.int .i64 6, .int .i64 0, .string ⟨#[]⟩, .slice none 0 0, .slice none 0 0, .slice none 0 0] 28)).heap.size = w1.heap.size + 1 := by simp
    refine ⟨⟨h1.os, h1.tape, h1.output, by simp; have := HB1.out.size; omega, fun g hg => (Below.heap_alloc _ _ _ (by rw [hsz]; have := HB1.out.size; omega)).trans (h1.block g hg)⟩, HB1.out.size, by omega, by omega, by simp, (Below.heap_alloc _ _ _ (by simp)).trans (heap_alloc_new w1 _), docV_nil_in _ _, ?_, MapsTo.nil, World.ownsRow_nil _ _ _ _, fun g hg => by cases hg⟩
    have := World.ownsMap_made (H := Unit) (w1.alloc (.cells #[.int .i64 6, .int .i64 0, .string ⟨#[]⟩, .slice none 0 0, .slice none 0 0, .slice none 0 0] 28)) Tryd.prog 9 (plainElem Tryd.prog 2)
    rw [hsz] at this
    exact this
  go_wp2_with fail
  rw [← hW0]
  obtain ⟨gb, hgb⟩ : ∃ gb, gb = w1.heap.size := ⟨_, rfl⟩
  rw [← hgb] at HOS0 ⊢
  clear hW0 HB1 hgb
  go_loopw [6, 8] (fun ov i wr => ∃ (k : Nat) (ps : List (ByteArray × Int)) (c0 c1 c2 c3 c4 c5 : Value) (lo hi' : Nat) (D : DataW Unit), i = .int .i64 k ∧ k ≤ n ∧ Hid (OSt w wr gb (gb + 1) ov ps ps (nmsP ps) k c0 c1 c2 c3 c4 c5 lo hi' D) ∧ Hid (FineP ps ∧ ps.length ≤ k)) (fun _ i _ => n - (intOf i).toNat)
  case atStart => exact ⟨0, [], _, _, _, _, _, _, _, _, _, rfl, Nat.zero_le _, HOS0.out, FineP.nil, Nat.le_refl _⟩
  case round =>
    obtain ⟨k, ps, c0, c1, c2, c3, c4, c5, lo, hi', D, rfl, hk, HST, HFP⟩ := hrel
    clear HOS0
    by_cases hlt : k < n
    · have hkl : k < l.length := by rw [HLN.out.1]; exact hlt
      have hkm : k < m.length := by rw [HLN.out.2]; omega
      obtain ⟨g, o, rfl, hrd⟩ := HS.out.resolve_left (fun e => by rw [e] at hkl; cases hkl)
      obtain ⟨g2, o2, rfl, hrd2⟩ := HS2.out.resolve_left (fun e => by rw [e] at hkm; cases hkm)
      have HC0 := Lib.hid (hrd k hkl)
      have HC2 := Lib.hid (hrd2 k hkm)
      obtain ⟨cc, hcc⟩ : ∃ c, c = l.getD k 0 := ⟨_, rfl⟩
      obtain ⟨xx, hxx⟩ : ∃ c, c = m[k] := ⟨_, rfl⟩
      have hbx : -128 ≤ xx ∧ xx ≤ 127 := by rw [hxx]; exact HI8.out _ (List.getElem_mem hkm)
      have hby : cc < 256 := by rw [hcc, List.getD_eq_getElem?_getD, List.getElem?_eq_getElem hkl]; exact HO.out _ (List.getElem_mem hkl)
      rw [← hcc] at HC0
      rw [← hxx] at HC2
      have hc := cell_keep HST.out.below HC0.out
      obtain ⟨W1, hW1⟩ : ∃ W1, W1 = wr.alloc (.cells #[.int .u8 (97 + (cc : Int) % 6)] 5) := ⟨_, rfl⟩
      have hb1 : Below wr.heap.size wr W1 := by rw [hW1]; exact (Below.refl _ _).alloc (Nat.le_refl _) _
      have HST1 := Lib.hid (HST.out.keep hb1)
      obtain ⟨lc, hlc⟩ : ∃ c, c = 97 + cc % 6 := ⟨_, rfl⟩
      have hlc1 : 97 ≤ lc ∧ lc ≤ 102 := by omega
      obtain ⟨sn, hsn⟩ : ∃ s, s = letS lc := ⟨_, rfl⟩
      have hcv : (convert 22 9 (.slice (some ⟨wr.heap.size, 0, none⟩) 1 1)).run Tryd.prog (wr.alloc (.cells #[.int .u8 (97 + (cc : Int) % 6)] 5)) = .ok (.string sn) (wr.alloc (.cells #[.int .u8 (97 + (cc : Int) % 6)] 5)) := by
        have h1 := conv_str (wr.alloc (.cells #[.int .u8 (97 + (cc : Int) % 6)] 5)) (some ⟨wr.heap.size, 0, none⟩) 1 1 [lc] rfl (.inr ⟨wr.heap.size, 0, rfl, fun j hj => by
          have hj0 : j = 0 := by simp at hj; exact hj
          subst hj0
          rw [cell_of_row _ _ _ _ _ _ (heap_alloc_new wr _), hlc]
          simp⟩)
        rw [h1, hsn]; rfl
      have HSN := Lib.hid hsn
      have HLC := Lib.hid hlc1
      have hks : keyOf Tryd.prog 9 (.string sn) = some (keyS sn) := key_str sn (by rw [hsn]; exact Nat.le_trans (letS_size lc) (by unfold maxLen; omega))
      have hhas := HST1.out.mto.2.1 sn
      obtain ⟨there, hth⟩ : ∃ b, b = decide (sn ∈ nmsP ps) := ⟨_, rfl⟩
      rw [← hth] at hhas
      have HTH := Lib.hid hth
      have HMAP := Lib.hid HST1.out.map
      have HC1x := Lib.hid (cell_keep HST1.out.below HC2.out)
      have hc1x := HC1x.out
      have HBX := Lib.hid hbx
      have HW1 := Lib.hid hW1
      have HW1b := Lib.hid hb1
      clear hrd hrd2 hby hcc hxx hlc hsn hlc1 hth hbx hb1 hc1x
      go_upto_region 12 with fail
      rw [← hW1]
      clear hW1 hc hcv
      have hc1x := HC1x.out
      go_upto_region 13 with (at_lookup; refine wpList_lookup_own_ok_int _ rfl _ _ 30 rfl 9 2 .i64 KS Tryd.underlying30 Tryd.underlying2 (ZU _) (gb + 1) k D rfl HMAP.out _ _ rfl hks ?_; rw [hhas]; intro cx hat hwc; clear hat hwc)
      clear hhas
      obtain ⟨x0, x1, x2, x3, x4, x5⟩ := HST1.out.box.cells
      by_cases hneg : xx < 0
      · have CW := Lib.hid (with5_zero _ 0 (docV ps) _ sn W1 HST1.out.vin rfl)
        go_upto_region 14 with fail
        go_wp2_with fail
        clear x0 x1 x2 x3 x4 x5 hc1x
        refine CW.out.mono ?_
        rintro e w2 ⟨v2, rfl, hv2, hb2⟩
        obtain ⟨kd, nd, sd, bd, fd, ld, b1, b2, f1, f2, l1, l2, rfl⟩ := hv2.shape
        have hv3 : VIn w2 (fun g => W1.heap.size ≤ g ∧ g < w2.heap.size) 2 (docV (cutP sn ps)) (.agg #[.int .i64 kd, .int .i64 nd, .string sd, .slice bd b1 b2, .slice fd f1 f2, .slice ld l1 l2]) := by
          have h1 := hv2.lt
          have e1 : (docV ps).f.filter (fun p => !decide (p.1 = sn)) = rowV (cutP sn ps) := rowV_cut sn ps
          rw [e1] at h1
          exact h1
        have HST2 := Lib.hid (HST1.out.keep hb2)
        have HST3 := Lib.hid (HST2.out.store hv3 (by have := HST1.out.b2; have := HST1.out.b3; have := omap_lt HST1.out.map; omega) (Nat.le_refl _) (fun g hg => .inl (owns_block HST1.out.own hg).2))
        obtain ⟨W3, hW3⟩ : ∃ W3, W3 = ((((((w2.setCell ⟨gb, 0, none⟩ (.int .i64 kd)).setCell ⟨gb, 1, none⟩ (.int .i64 nd)).setCell ⟨gb, 2, none⟩ (.string sd)).setCell ⟨gb, 3, none⟩ (.slice bd b1 b2)).setCell ⟨gb, 4, none⟩ (.slice fd f1 f2)).setCell ⟨gb, 5, none⟩ (.slice ld l1 l2)) := ⟨_, rfl⟩
        have HST4 : Hid (OSt w W3 gb (gb + 1) u6 (cutP sn ps) ps (nmsP ps) k (.int .i64 kd) (.int .i64 nd) (.string sd) (.slice bd b1 b2) (.slice fd f1 f2) (.slice ld l1 l2) W1.heap.size w2.heap.size D) := by rw [hW3]; exact HST3.out
        obtain ⟨z0, z1, z2, z3, z4, z5⟩ := HST2.out.box.cells
        obtain ⟨t0, t1, t2, t3, t4, t5⟩ := HST2.out.box.thaw
        have HW3 := Lib.hid hW3
        clear hv2 hv3 hb2 hW3 CW HST3
        go_upto_region 15 with fail
        rw [← HW3.out]
        clear z0 z1 z2 z3 z4 z5 t0 t1 t2 t3 t4 t5
        cases there with
        | false =>
          go_wp2_with fail
          go_roundw
          case rel =>
            have hno : sn ∉ nmsP ps := of_decide_eq_false HTH.out.symm
            have h1 := HST4.out
            rw [cutP_none hno] at h1
            exact ⟨k + 1, ps, _, _, _, _, _, _, _, _, D, by go_num, by omega, ⟨h1.below, h1.b0, h1.b1, h1.b2, h1.b3, h1.box, h1.vin, h1.map.mono (Nat.le_succ _), h1.mto, h1.own, h1.far⟩, HFP.out.1, by have := HFP.out.2; omega⟩
          case measure => simp [intOf]; omega
        | true =>
          have hin : sn ∈ nmsP ps := of_decide_eq_true HTH.out.symm
          have hown0 := HST4.out.own
          obtain ⟨N, hN⟩ : ∃ N, N = (nmsP ps).length := ⟨_, rfl⟩
          obtain ⟨og, cap, rfl, hcap⟩ := own_some hown0 (List.length_pos_of_mem hin)
          rw [← hN] at hcap HST4
          rw [← hN]
          have HNN := Lib.hid hN
          have hN60 : N ≤ 60 := by have h1 := HFP.out.2; rw [hN, nmsP_length]; omega
          have HM4 := Lib.hid HST4.out.map
          clear hin hown0 hN
          go_wp2_with (at_delete; refine wpList_delete_own _ rfl _ _ 30 9 rfl 2 KS Tryd.underlying30 _ (gb + 1) k D rfl HM4.out _ _ rfl hks ?_; intro W4 hown4 hturn4)
          have HST5 := Lib.hid (HST4.out.turned hown4 (HST4.out.mto.del sn) hturn4)
          clear hown4 hturn4 HM4
          go_loopw [12, 13] (fun lv j wr => ∃ (q : Nat), j = .int .i64 q ∧ q ≤ N ∧ Hid (OSt w wr gb (gb + 1) (.slice (some ⟨og, 0, none⟩) N cap) (cutP sn ps) (cutP sn ps) (nmsP ps) k (.int .i64 kd) (.int .i64 nd) (.string sd) (.slice bd b1 b2) (.slice fd f1 f2) (.slice ld l1 l2) W1.heap.size w2.heap.size (D.del (keyS sn))) ∧ Hid (W4.heap.size ≤ wr.heap.size ∧ wr.ownsRow W4.heap.size 9 1 lv (leftN sn ps q).length (strV (leftN sn ps q)))) (fun _ j _ => N - (intOf j).toNat)
          case atStart => exact ⟨0, rfl, Nat.zero_le _, HST5.out, Nat.le_refl _, World.ownsRow_nil _ _ _ _⟩
          case round =>
            obtain ⟨q, rfl, hq, HSQ, HLV⟩ := hrel
            by_cases hqn : q < N
            · have hql : q < (nmsP ps).length := by rw [← HNN.out]; exact hqn
              obtain ⟨nm, hnm⟩ : ∃ nm, nm = (nmsP ps)[q] := ⟨_, rfl⟩
              have hcq : wr.cell? ⟨og, q, none⟩ = some (.string nm) := by
                have h1 := HSQ.out.own.cells (g := og) rfl q (.string nm) (by unfold strV; rw [List.getElem?_map, List.getElem?_eq_getElem hql, hnm]; rfl)
                rw [Addr.add_mid, Nat.zero_add] at h1
                exact h1
              have HNM := Lib.hid hnm
              clear hnm
              by_cases he : nm = sn
              · subst he
                go_wp2_with fail
                go_roundw
                case rel =>
                  refine ⟨q + 1, by go_num, by omega, HSQ.out, ?_⟩
                  have h1 : leftN nm ps (q + 1) = leftN nm ps q := by rw [leftN_next hql, if_pos HNM.out.symm]
                  rw [h1]; exact HLV.out
                case measure => simp [intOf]; omega
              · have hne := toList_ne he
                have hcq2 := cell_keep ((Below.refl _ wr).alloc (Nat.le_refl _) (.cells #[.string nm] 9)) hcq
                have hbq : Below wr.heap.size wr (wr.alloc (.cells #[.string nm] 9)) := (Below.refl _ wr).alloc (Nat.le_refl _) _
                obtain ⟨LL, hLL⟩ : ∃ LL, LL = (leftN sn ps q).length := ⟨_, rfl⟩
                have HLL := Lib.hid hLL
                have hLq : LL ≤ q := by rw [hLL]; exact leftN_length _ _ _
                have HOWN : Hid ((wr.alloc (.cells #[.string nm] 9)).ownsRow W4.heap.size 9 1 u12 LL (strV (leftN sn ps q))) := by show World.ownsRow _ _ _ _ _ _ _; rw [hLL]; exact owns_below HLV.out.2 hbq
                have HNW : Hid (∀ j u, ([.string nm] : List Value)[j]? = some u → (wr.alloc (.cells #[.string nm] 9)).cell? (Addr.add ⟨wr.heap.size, 0, none⟩ j) = some u) := by
                  intro j u hj
                  rw [Addr.add_mid, Nat.zero_add, cell_of_row _ _ j _ _ _ (heap_alloc_new wr _)]
                  simpa using hj
                have HSB : Hid (W4.heap.size ≤ (wr.alloc (.cells #[.string nm] 9)).heap.size) := by show _ ≤ _; have := HLV.out.1; simp; omega
                have HSQ2 := Lib.hid (HSQ.out.keep hbq)
                have HBQ := Lib.hid hbq.size
                have HE := Lib.hid he
                clear he hbq hLL
                go_wp2_with (at_builtin; refine wpList_append_sz _ rfl (.tmp 78) (.tmp 83) 29 rfl W4.heap.size 9 i0 (.string ⟨#[]⟩) 1 16 Tryd.underlying29 hi hz0 hz1 hz2 rfl u12 LL (strV (leftN sn ps q)) rfl HOWN.out ⟨wr.heap.size, 0, none⟩ 1 1 [.string nm] rfl rfl (by decide) (by decide) HNW.out (by intro u hu; simp at hu; subst hu; rfl) (by unfold maxLen; omega) (by omega) HSB.out ?_)
                intro lv2 W6 hown6 hlies6
                have HLN6 : Hid (leftN sn ps (q + 1) = leftN sn ps q ++ [nm]) := by show _ = _; rw [leftN_next hql, if_neg (by rw [← HNM.out]; exact HE.out), ← HNM.out]
                have hMv : Mv (wr.alloc (.cells #[.string nm] 9)) W6 (fun g => u12.ownBlock = some g) := by
                  rcases hlies6 with ⟨_, hl⟩ | ⟨_, hl⟩
                  · exact Mv.of_grown hl
                  · exact ⟨hl.os, hl.tape, hl.output, hl.size, fun g hg _ => hl.block g hg nofun⟩
                have hown7 : W6.ownsRow W4.heap.size 9 1 lv2 (leftN sn ps (q + 1)).length (strV (leftN sn ps (q + 1))) := by
                  rw [HLN6.out, List.length_append, ← HLL.out]
                  have e1 : strV (leftN sn ps q ++ [nm]) = strV (leftN sn ps q) ++ [.string nm] := by unfold strV; rw [List.map_append]; rfl
                  rw [e1]; exact hown6
                have hbs : ∀ g, u12.ownBlock = some g → W4.heap.size ≤ g := fun g hg => (owns_block HLV.out.2 hg).1
                have h5 := HST5.out
                have HSQ6 := Lib.hid (HSQ2.out.move hMv (fun g hg e => by have := hbs g e; have := h5.below.size; omega) (fun e => by have := hbs _ e; have := h5.box.lt; omega) (fun e => by have := hbs _ e; have := omap_lt h5.map; omega) (fun g _ hg e => by have := hbs _ e; have := h5.b3; omega) (fun g hg e => by have := hbs _ e; have := (owns_block h5.own hg).2; omega))
                have HLV6 : Hid (W4.heap.size ≤ W6.heap.size ∧ W6.ownsRow W4.heap.size 9 1 lv2 (leftN sn ps (q + 1)).length (strV (leftN sn ps (q + 1)))) := ⟨Nat.le_trans HSB.out hMv.size, hown7⟩
                clear hown6 hlies6 hMv hown7 hbs h5 HSQ HLV
                go_wp2_with fail
                go_roundw
                case rel => exact ⟨q + 1, by go_num, by omega, HSQ6.out, HLV6.out⟩
                case measure => simp [intOf]; omega
            · obtain rfl : q = N := by omega
              have HST7 : Hid (OSt w wr gb (gb + 1) u12 (cutP sn ps) (cutP sn ps) (nmsP (cutP sn ps)) k (.int .i64 kd) (.int .i64 nd) (.string sd) (.slice bd b1 b2) (.slice fd f1 f2) (.slice ld l1 l2) W1.heap.size w2.heap.size (D.del (keyS sn))) := by
                have h1 := HLV.out.2
                rw [HNN.out, leftN_end] at h1
                have h5 := HST5.out
                exact HSQ.out.renamed (owns_low (by have := omap_lt h5.map; omega) h1) (fun g hg => .inr (by have := (owns_block h1 hg).1; have := h5.b3; omega))
              go_wp2_with fail
              go_roundw
              case rel =>
                have h1 := HST7.out
                exact ⟨k + 1, cutP sn ps, _, _, _, _, _, _, _, _, _, by go_num, by omega, ⟨h1.below, h1.b0, h1.b1, h1.b2, h1.b3, h1.box, h1.vin, h1.map.mono (Nat.le_succ _), h1.mto, h1.own, h1.far⟩, HFP.out.1.cut sn, by have := HFP.out.2; have := cutP_length sn ps; omega⟩
              case measure => simp [intOf]; omega
      · have hx0 : ¬ xx < 0 := hneg
        cases there with
        | false =>
          have hno : sn ∉ nmsP ps := of_decide_eq_false HTH.out.symm
          have hbq : Below W1.heap.size W1 (W1.alloc (.cells #[.string sn] 9)) := (Below.refl _ W1).alloc (Nat.le_refl _) _
          have HST2 := Lib.hid (HST1.out.keep hbq)
          obtain ⟨LL, hLL⟩ : ∃ LL, LL = (nmsP ps).length := ⟨_, rfl⟩
          have HLL := Lib.hid hLL
          have hL60 : LL ≤ 60 := by have h1 := HFP.out.2; rw [hLL, nmsP_length]; omega
          have HOWN : Hid ((W1.alloc (.cells #[.string sn] 9)).ownsRow (gb + 1 + 1) 9 1 u6 LL (strV (nmsP ps))) := by show World.ownsRow _ _ _ _ _ _ _; rw [hLL]; exact HST2.out.own
          have HNW : Hid (∀ j u, ([.string sn] : List Value)[j]? = some u → (W1.alloc (.cells #[.string sn] 9)).cell? (Addr.add ⟨W1.heap.size, 0, none⟩ j) = some u) := by
            intro j u hj
            rw [Addr.add_mid, Nat.zero_add, cell_of_row _ _ j _ _ _ (heap_alloc_new W1 _)]
            simpa using hj
          have HSB : Hid (gb + 1 + 1 ≤ (W1.alloc (.cells #[.string sn] 9)).heap.size) := by show _ ≤ _; have := omap_lt HST1.out.map; simp; omega
          have HNO := Lib.hid hno
          have HBQ := Lib.hid hbq
          clear hbq hLL hno
          go_upto_region 25 with fail
          clear x0 x1 x2 x3 x4 x5
          go_upto_region 26 with (at_builtin; refine wpList_append_sz _ rfl (.tmp 88) (.tmp 90) 29 rfl (gb + 1 + 1) 9 i0 (.string ⟨#[]⟩) 1 16 Tryd.underlying29 hi hz0 hz1 hz2 rfl u6 LL (strV (nmsP ps)) rfl HOWN.out ⟨W1.heap.size, 0, none⟩ 1 1 [.string sn] rfl rfl (by decide) (by decide) HNW.out (by intro u hu; simp at hu; subst hu; rfl) (by unfold maxLen; omega) (by omega) HSB.out ?_; intro u7 W6 hown6 hlies6)
          have HST3 : Hid (OSt w W6 gb (gb + 1) u7 ps ps (nmsP (putP sn xx ps)) k c0 c1 c2 c3 c4 c5 lo hi' D) := by
            refine HST2.out.ordered hlies6 ?_
            have e1 : nmsP (putP sn xx ps) = nmsP ps ++ [sn] := by rw [nmsP_put, if_neg HNO.out]
            have e2 : strV (nmsP ps ++ [sn]) = strV (nmsP ps) ++ [.string sn] := by unfold strV; rw [List.map_append]; rfl
            rw [e1, e2, List.length_append, ← HLL.out]
            exact hown6
          clear hown6 hlies6
          have HMAP3 := Lib.hid HST3.out.map
          have hc3 := cell_keep HST3.out.below HC2.out
          have hbx := HBX.out
          have hpe : plainElem (H := Unit) Tryd.prog 2 (.int .i64 xx) = some (.lit (.int .i64 xx), []) := plainElem_int Tryd.underlying2 (i64_wf5 (by omega) (by omega))
          clear hc1x
          go_upto_region 27 with (at_mapUpdate; refine wpList_mapUpdate_in _ rfl _ _ _ 30 rfl 9 2 KS Tryd.underlying30 _ (gb + 1) k D rfl HMAP3.out (by unfold maxLen; omega) _ _ _ rfl rfl hks _ [] hpe ?_; intro W7 hown7 hturn7)
          have HST4 : Hid (OSt w W7 gb (gb + 1) u7 ps (putP sn xx ps) (nmsP (putP sn xx ps)) (k + 1) c0 c1 c2 c3 c4 c5 lo hi' (D.put (keyS sn) (.lit (.int .i64 xx)))) := HST3.out.turned hown7 (HST3.out.mto.put HFP.out.1.1 sn xx) hturn7
          clear hown7 hturn7 hc3 hpe
          have hx1 : 0 ≤ xx := by omega
          have HPP : Hid (MapsTo (D.put (keyS sn) (.lit (.int .i64 xx))) (putP sn xx ps)) := HST4.out.mto
          have hkv : k < v := by omega
          have HC7 := HC2.out
          have HPL : Hid (ps.length ≤ k) := HFP.out.2
          refine wp_region_inv0 (fun V => { tmps := #[Value.slice (some ⟨g, o, none⟩) n cn, Value.slice (some ⟨g2, o2, none⟩) v cv, undef, undef, Value.bool false, Value.pointer (some ⟨gb, 0, none⟩), u7, Value.map (some (gb + 1)), Value.int IntKind.i64 (k : Int), Value.string sn, Value.int IntKind.i64 cx, Value.bool false, u12, u13, undef, Value.bool true, Value.bool false, Value.slice (some ⟨g, o, none⟩) n cn, Value.int IntKind.i64 (n : Int), Value.bool (decide ((60 : Int) < (n : Int))), Value.bool (decide ((60 : Int) < (n : Int))), Value.slice (some ⟨g2, o2, none⟩) v cv, Value.int IntKind.i64 (v : Int), Value.slice (some ⟨g, o, none⟩) n cn, Value.int IntKind.i64 (n : Int), Value.bool false, Value.bool (decide ((60 : Int) < (n : Int))), Value.bool (decide ((60 : Int) < (n : Int))), Value.slice (some ⟨g2, o2, none⟩) v cv, Value.int IntKind.i64 (v : Int), Value.bool (decide ((200 : Int) < (v : Int))), Value.bool (decide ((60 : Int) < (n : Int)) || decide ((200 : Int) < (v : Int))), Value.agg #[Value.int IntKind.i64 6, Value.int IntKind.i64 0, Value.string ⟨#[]⟩, Value.slice none 0 0, Value.slice none 0 0, Value.slice none 0 0], Value.map (some (gb + 1)), Value.int IntKind.i64 (k : Int), Value.slice (some ⟨g, o, none⟩) n cn, Value.int IntKind.i64 (n : Int), Value.bool true, u38, u39, Value.slice (some ⟨g, o, none⟩) n cn, Value.int IntKind.i64 (k : Int), Value.pointer (some ⟨g, o + k, none⟩), Value.int IntKind.u8 (cc : Int), Value.int IntKind.u8 ((cc : Int) % 6), Value.int IntKind.u8 (97 + (cc : Int) % 6), Value.slice (some ⟨wr.heap.size, 0, none⟩) 1 1, Value.string sn, Value.tuple #[Value.int IntKind.i64 cx, Value.bool false], Value.map (some (gb + 1)), Value.string sn, Value.tuple #[Value.int IntKind.i64 cx, Value.bool false], Value.int IntKind.i64 cx, Value.bool false, Value.slice (some ⟨g2, o2, none⟩) v cv, Value.int IntKind.i64 (k : Int), Value.pointer (some ⟨g2, o2 + k, none⟩), Value.int IntKind.i8 xx, Value.bool false, u59, u60, u61, u62, u63, u64, u65, u66, u67, u68, u69, u70, u71, u72, u73, u74, u75, u76, u77, u78, u79, u80, u81, u82, u83, u84, u85, Value.bool false, Value.bool true, u6, Value.string sn, Value.slice (some ⟨W1.heap.size, 0, none⟩) 1 1, u7, Value.map (some (gb + 1)), Value.string sn, Value.slice (some ⟨g2, o2, none⟩) v cv, Value.int IntKind.i64 (k : Int), Value.pointer (some ⟨g2, o2 + k, none⟩), Value.int IntKind.i8 xx, Value.int IntKind.i64 xx, V 0, V 1, V 2, V 3, V 4, V 5, V 6, V 7, V 8, undef, undef, undef, undef, undef, undef, undef, undef, undef, undef, undef, undef, undef, undef, undef, undef, undef, undef, undef, undef, undef, undef, undef, undef, undef, undef, undef, undef, undef, undef, undef, undef, undef, undef, undef, undef, undef, undef, undef, undef, undef, undef, undef, undef, undef, undef, undef, undef, undef, undef, undef, undef, undef, undef, undef, undef, undef, undef, undef, undef, undef, undef, undef], defers := [] }) (RI w W7 [.agg #[c0, c1, c2, c3, c4, c5], .string sn, .slice (some ⟨g2, o2, none⟩) v cv, .int .i64 k, .pointer (some ⟨g2, o2 + k, none⟩), .int .i8 xx, .int .i64 xx, .agg #[.int .i64 3, .int .i64 xx, .string ⟨#[]⟩, .slice none 0 0, .slice none 0 0, .slice none 0 0]]
            (fun W u => ∃ d0 d1 d2 d3 d4 d5 lo9 hi9, u = .agg #[d0, d1, d2, d3, d4, d5] ∧ W7.heap.size ≤ lo9 ∧ hi9 ≤ W.heap.size ∧ OSt w W gb (gb + 1) u7 ps (putP sn xx ps) (nmsP (putP sn xx ps)) (k + 1) c0 c1 c2 c3 c4 c5 lo hi' (D.put (keyS sn) (.lit (.int .i64 xx))) ∧ VIn W (fun g => lo9 ≤ g ∧ g < hi9) 2 (docV (putP sn xx ps)) (.agg #[d0, d1, d2, d3, d4, d5]) ∧ (∀ g, (u7 : Value).ownBlock = some g → g < lo9 ∨ hi9 ≤ g))
            (fun W => ∃ d0 d1 d2 d3 d4 d5 lo9 hi9, OSt w W gb (gb + 1) u7 (putP sn xx ps) (putP sn xx ps) (nmsP (putP sn xx ps)) (k + 1) d0 d1 d2 d3 d4 d5 lo9 hi9 (D.put (keyS sn) (.lit (.int .i64 xx)))))
            (by kernel_rfl) (by kernel_rfl) (by kernel_rfl) (fun V => by kernel_rfl) ?_ (RI.start HST4.out.below) ?_
          · refine ⟨?_, ?_⟩
            · refine inv_free rfl (fun D9 V w5 hDi hpre hI K hK => ?_)
              have h8 : D9 8 = false := by
                cases e : D9 8 with
                | false => rfl
                | true => rw [hI.2.2.2.2.2.2 e] at hDi; cases hDi
              obtain ⟨x0, x1, x2, x3, x4, x5⟩ := (HST4.out.keep (hI.2.2.1 h8)).box.cells
              go_simp
              exact put_is (by kernel_rfl) (hK.out (.agg #[c0, c1, c2, c3, c4, c5]) w5 (hI.pure (by decide) rfl))
            refine ⟨?_, ?_⟩
            · refine inv_free rfl (fun D9 V w5 hDi hpre hI K hK => ?_)
              go_simp
              exact put_is (by kernel_rfl) (hK.out (.string sn) w5 (hI.pure (by decide) rfl))
            refine ⟨?_, ?_⟩
            · refine inv_free rfl (fun D9 V w5 hDi hpre hI K hK => ?_)
              go_simp
              exact put_is (by kernel_rfl) (hK.out (.slice (some ⟨g2, o2, none⟩) v cv) w5 (hI.pure (by decide) rfl))
            refine ⟨?_, ?_⟩
            · refine inv_free rfl (fun D9 V w5 hDi hpre hI K hK => ?_)
              go_simp
              exact put_is (by kernel_rfl) (hK.out (.int .i64 k) w5 (hI.pure (by decide) rfl))
            refine ⟨?_, ?_⟩
            · refine inv_free rfl (fun D9 V w5 hDi hpre hI K hK => ?_)
              have e2 : V 2 = .slice (some ⟨g2, o2, none⟩) v cv := hI.1 2 (by decide) (hpre.out 2 (by kernel_rfl))
              have e3 : V 3 = .int .i64 k := hI.1 3 (by decide) (hpre.out 3 (by kernel_rfl))
              go_simp
              exact put_is (by rw [e2, e3]; kernel_rfl) (hK.out (.pointer (some ⟨g2, o2 + k, none⟩)) w5 (hI.pure (by decide) rfl))
            refine ⟨?_, ?_⟩
            · refine inv_free rfl (fun D9 V w5 hDi hpre hI K hK => ?_)
              have e4 : V 4 = .pointer (some ⟨g2, o2 + k, none⟩) := hI.1 4 (by decide) (hpre.out 4 (by kernel_rfl))
              have hc9 := cell_keep hI.2.1 HC7
              go_simp
              exact put_is (by rw [e4]; kernel_rfl) (hK.out (.int .i8 xx) w5 (hI.pure (by decide) rfl))
            refine ⟨?_, ?_⟩
            · refine inv_free rfl (fun D9 V w5 hDi hpre hI K hK => ?_)
              have e5 : V 5 = .int .i8 xx := hI.1 5 (by decide) (hpre.out 5 (by kernel_rfl))
              have hwr : IntKind.i64.wrap xx = xx := IntWalk.i64_in xx ⟨by omega, by omega⟩
              go_simp
              exact put_is (by rw [e5]; kernel_rfl) (hK.out (.int .i64 xx) w5 (hI.pure (by decide) rfl))
            refine ⟨?_, ?_⟩
            · refine inv_free rfl (fun D9 V w5 hDi hpre hI K hK => ?_)
              have e6 : V 6 = .int .i64 xx := hI.1 6 (by decide) (hpre.out 6 (by kernel_rfl))
              go_simp
              exact put_is (by rw [e6]; kernel_rfl) (hK.out (.agg #[.int .i64 3, .int .i64 xx, .string ⟨#[]⟩, .slice none 0 0, .slice none 0 0, .slice none 0 0]) w5 (hI.pure (by decide) rfl))
            refine ⟨?_, ?_⟩
            · refine inv_free rfl (fun D9 V w5 hDi hpre hI K hK => ?_)
              have h0 := hpre.out 0 (by kernel_rfl)
              have e0 : V 0 = .agg #[c0, c1, c2, c3, c4, c5] := hI.1 0 (by decide) h0
              have e1 : V 1 = .string sn := hI.1 1 (by decide) (hpre.out 1 (by kernel_rfl))
              have e7 : V 7 = .agg #[.int .i64 3, .int .i64 xx, .string ⟨#[]⟩, .slice none 0 0, .slice none 0 0, .slice none 0 0] := hI.1 7 (by decide) (hpre.out 7 (by kernel_rfl))
              have h5 := HST4.out.keep (hI.2.2.1 hDi)
              have hb5 := hI.2.2.1 hDi
              go_simp
              go_at_call 5
              refine (with5_any _ (fun _ => True) 0 (docV ps) (numV xx) _ _ sn w5 h5.vin (numV_in w5 _ xx hx1 hbx.2) rfl (show (3 : Int) ≠ 0 by decide) (by have := HPL.out; rw [show (docV ps).f = rowV ps from rfl, rowV_length]; omega) (by rw [HSN.out]; exact letS_size _)).mono ?_
              rintro e w6 ⟨v6, rfl, hv6, hb6⟩
              obtain ⟨kd, nd, sd, bd, fd, ld, b1, b2, f1, f2, l1, l2, rfl⟩ := hv6.shape
              have e9 : withF sn (numV xx) (docV ps).f = rowV (putP sn xx ps) := withF_row sn xx ps
              rw [e9] at hv6
              exact put_is (by rw [e0, e1, e7]; kernel_rfl) (hK.out (.agg #[.int .i64 kd, .int .i64 nd, .string sd, .slice bd b1 b2, .slice fd f1 f2, .slice ld l1 l2]) w6 (hI.call hDi h0 hb6 ⟨_, _, _, _, _, _, w5.heap.size, w6.heap.size, rfl, hb5.size, Nat.le_refl _, h5.keep hb6, hv6.lt, fun g hg => .inl (owns_block h5.own hg).2⟩))
            refine ⟨?_, ?_⟩
            · refine inv_free rfl (fun D9 V w5 hDi hpre hI K hK => ?_)
              have h8 := hpre.out 8 (by kernel_rfl)
              obtain ⟨d0, d1, d2, d3, d4, d5, lo9, hi9, e8, hlo, hhi, ho9, hv9, hf9⟩ := hI.2.2.2.1 h8 hDi
              obtain ⟨kd, nd, sd, bd, fd, ld, b1, b2, f1, f2, l1, l2, e10⟩ := hv9.shape
              simp only [Value.agg.injEq, Array.mk.injEq, List.cons.injEq, and_true] at e10
              obtain ⟨rfl, rfl, rfl, rfl, rfl, rfl⟩ := e10
              have hst := ho9.store hv9 (by have := omap_lt HST4.out.map; omega) hhi hf9
              obtain ⟨t0, t1, t2, t3, t4, t5⟩ := ho9.box.thaw
              obtain ⟨x0, x1, x2, x3, x4, x5⟩ := ho9.box.cells
              go_simp
              exact put_is (by rw [e8]; kernel_rfl) (hK.out undef _ (hI.last h8 hst.below ⟨_, _, _, _, _, _, _, _, hst⟩))
            trivial
          intro D9 V w9 hD9 hI9
          obtain ⟨d0, d1, d2, d3, d4, d5, lo9, hi9, ho9⟩ := hI9.2.2.2.2.1 (hD9 9 (by decide))
          have HO9 := Lib.hid ho9
          clear hI9 hD9 ho9
          go_wp2_with fail
          go_roundw
          case rel => exact ⟨k + 1, putP sn xx ps, _, _, _, _, _, _, _, _, _, by go_num, by omega, HO9.out, by rw [HSN.out]; exact HFP.out.1.put HLC.out.1 HLC.out.2 hx1 hbx.2, by have := HPL.out; have := putP_length sn xx ps; omega⟩
          case measure => simp [intOf]; omega
        | true =>
          have hin : sn ∈ nmsP ps := of_decide_eq_true HTH.out.symm
          have HST3 : Hid (OSt w W1 gb (gb + 1) u6 ps ps (nmsP (putP sn xx ps)) k c0 c1 c2 c3 c4 c5 lo hi' D) := by
            have e1 : nmsP (putP sn xx ps) = nmsP ps := by rw [nmsP_put, if_pos hin]
            rw [e1]; exact HST1.out
          clear hin
          go_upto_region 26 with fail
          clear x0 x1 x2 x3 x4 x5
          have HMAP3 := Lib.hid HST3.out.map
          have hc3 := cell_keep HST3.out.below HC2.out
          have hbx := HBX.out
          have hpe : plainElem (H := Unit) Tryd.prog 2 (.int .i64 xx) = some (.lit (.int .i64 xx), []) := plainElem_int Tryd.underlying2 (i64_wf5 (by omega) (by omega))
          clear hc1x
          go_upto_region 27 with (at_mapUpdate; refine wpList_mapUpdate_in _ rfl _ _ _ 30 rfl 9 2 KS Tryd.underlying30 _ (gb + 1) k D rfl HMAP3.out (by unfold maxLen; omega) _ _ _ rfl rfl hks _ [] hpe ?_; intro W7 hown7 hturn7)
          have HST4 : Hid (OSt w W7 gb (gb + 1) u6 ps (putP sn xx ps) (nmsP (putP sn xx ps)) (k + 1) c0 c1 c2 c3 c4 c5 lo hi' (D.put (keyS sn) (.lit (.int .i64 xx)))) := HST3.out.turned hown7 (HST3.out.mto.put HFP.out.1.1 sn xx) hturn7
          clear hown7 hturn7 hc3 hpe
          have hx1 : 0 ≤ xx := by omega
          have HPP : Hid (MapsTo (D.put (keyS sn) (.lit (.int .i64 xx))) (putP sn xx ps)) := HST4.out.mto
          have hkv : k < v := by omega
          have HC7 := HC2.out
          have HPL : Hid (ps.length ≤ k) := HFP.out.2
          refine wp_region_inv0 (fun V => { tmps := #[Value.slice (some ⟨g, o, none⟩) n cn, Value.slice (some ⟨g2, o2, none⟩) v cv, undef, undef, Value.bool false, Value.pointer (some ⟨gb, 0, none⟩), u6, Value.map (some (gb + 1)), Value.int IntKind.i64 (k : Int), Value.string sn, Value.int IntKind.i64 cx, Value.bool true, u12, u13, undef, Value.bool true, Value.bool false, Value.slice (some ⟨g, o, none⟩) n cn, Value.int IntKind.i64 (n : Int), Value.bool (decide ((60 : Int) < (n : Int))), Value.bool (decide ((60 : Int) < (n : Int))), Value.slice (some ⟨g2, o2, none⟩) v cv, Value.int IntKind.i64 (v : Int), Value.slice (some ⟨g, o, none⟩) n cn, Value.int IntKind.i64 (n : Int), Value.bool false, Value.bool (decide ((60 : Int) < (n : Int))), Value.bool (decide ((60 : Int) < (n : Int))), Value.slice (some ⟨g2, o2, none⟩) v cv, Value.int IntKind.i64 (v : Int), Value.bool (decide ((200 : Int) < (v : Int))), Value.bool (decide ((60 : Int) < (n : Int)) || decide ((200 : Int) < (v : Int))), Value.agg #[Value.int IntKind.i64 6, Value.int IntKind.i64 0, Value.string ⟨#[]⟩, Value.slice none 0 0, Value.slice none 0 0, Value.slice none 0 0], Value.map (some (gb + 1)), Value.int IntKind.i64 (k : Int), Value.slice (some ⟨g, o, none⟩) n cn, Value.int IntKind.i64 (n : Int), Value.bool true, u38, u39, Value.slice (some ⟨g, o, none⟩) n cn, Value.int IntKind.i64 (k : Int), Value.pointer (some ⟨g, o + k, none⟩), Value.int IntKind.u8 (cc : Int), Value.int IntKind.u8 ((cc : Int) % 6), Value.int IntKind.u8 (97 + (cc : Int) % 6), Value.slice (some ⟨wr.heap.size, 0, none⟩) 1 1, Value.string sn, Value.tuple #[Value.int IntKind.i64 cx, Value.bool true], Value.map (some (gb + 1)), Value.string sn, Value.tuple #[Value.int IntKind.i64 cx, Value.bool true], Value.int IntKind.i64 cx, Value.bool true, Value.slice (some ⟨g2, o2, none⟩) v cv, Value.int IntKind.i64 (k : Int), Value.pointer (some ⟨g2, o2 + k, none⟩), Value.int IntKind.i8 xx, Value.bool false, u59, u60, u61, u62, u63, u64, u65, u66, u67, u68, u69, u70, u71, u72, u73, u74, u75, u76, u77, u78, u79, u80, u81, u82, u83, u84, u85, Value.bool true, Value.bool false, u88, u89, u90, u91, Value.map (some (gb + 1)), Value.string sn, Value.slice (some ⟨g2, o2, none⟩) v cv, Value.int IntKind.i64 (k : Int), Value.pointer (some ⟨g2, o2 + k, none⟩), Value.int IntKind.i8 xx, Value.int IntKind.i64 xx, V 0, V 1, V 2, V 3, V 4, V 5, V 6, V 7, V 8, undef, undef, undef, undef, undef, undef, undef, undef, undef, undef, undef, undef, undef, undef, undef, undef, undef, undef, undef, undef, undef, undef, undef, undef, undef, undef, undef, undef, undef, undef, undef, undef, undef, undef, undef, undef, undef, undef, undef, undef, undef, undef, undef, undef, undef, undef, undef, undef, undef, undef, undef, undef, undef, undef, undef, undef, undef, undef, undef, undef, undef, undef, undef], defers := [] }) (RI w W7 [.agg #[c0, c1, c2, c3, c4, c5], .string sn, .slice (some ⟨g2, o2, none⟩) v cv, .int .i64 k, .pointer (some ⟨g2, o2 + k, none⟩), .int .i8 xx, .int .i64 xx, .agg #[.int .i64 3, .int .i64 xx, .string ⟨#[]⟩, .slice none 0 0, .slice none 0 0, .slice none 0 0]]
            (fun W u => ∃ d0 d1 d2 d3 d4 d5 lo9 hi9, u = .agg #[d0, d1, d2, d3, d4, d5] ∧ W7.heap.size ≤ lo9 ∧ hi9 ≤ W.heap.size ∧ OSt w W gb (gb + 1) u6 ps (putP sn xx ps) (nmsP (putP sn xx ps)) (k + 1) c0 c1 c2 c3 c4 c5 lo hi' (D.put (keyS sn) (.lit (.int .i64 xx))) ∧ VIn W (fun g => lo9 ≤ g ∧ g < hi9) 2 (docV (putP sn xx ps)) (.agg #[d0, d1, d2, d3, d4, d5]) ∧ (∀ g, (u6 : Value).ownBlock = some g → g < lo9 ∨ hi9 ≤ g))
            (fun W => ∃ d0 d1 d2 d3 d4 d5 lo9 hi9, OSt w W gb (gb + 1) u6 (putP sn xx ps) (putP sn xx ps) (nmsP (putP sn xx ps)) (k + 1) d0 d1 d2 d3 d4 d5 lo9 hi9 (D.put (keyS sn) (.lit (.int .i64 xx)))))
            (by kernel_rfl) (by kernel_rfl) (by kernel_rfl) (fun V => by kernel_rfl) ?_ (RI.start HST4.out.below) ?_
          · refine ⟨?_, ?_⟩
            · refine inv_free rfl (fun D9 V w5 hDi hpre hI K hK => ?_)
              have h8 : D9 8 = false := by
                cases e : D9 8 with
                | false => rfl
                | true => rw [hI.2.2.2.2.2.2 e] at hDi; cases hDi
              obtain ⟨x0, x1, x2, x3, x4, x5⟩ := (HST4.out.keep (hI.2.2.1 h8)).box.cells
              go_simp
              exact put_is (by kernel_rfl) (hK.out (.agg #[c0, c1, c2, c3, c4, c5]) w5 (hI.pure (by decide) rfl))
            refine ⟨?_, ?_⟩
            · refine inv_free rfl (fun D9 V w5 hDi hpre hI K hK => ?_)
              go_simp
              exact put_is (by kernel_rfl) (hK.out (.string sn) w5 (hI.pure (by decide) rfl))
            refine ⟨?_, ?_⟩
            · refine inv_free rfl (fun D9 V w5 hDi hpre hI K hK => ?_)
              go_simp
              exact put_is (by kernel_rfl) (hK.out (.slice (some ⟨g2, o2, none⟩) v cv) w5 (hI.pure (by decide) rfl))
            refine ⟨?_, ?_⟩
            · refine inv_free rfl (fun D9 V w5 hDi hpre hI K hK => ?_)
              go_simp
              exact put_is (by kernel_rfl) (hK.out (.int .i64 k) w5 (hI.pure (by decide) rfl))
            refine ⟨?_, ?_⟩
            · refine inv_free rfl (fun D9 V w5 hDi hpre hI K hK => ?_)
              have e2 : V 2 = .slice (some ⟨g2, o2, none⟩) v cv := hI.1 2 (by decide) (hpre.out 2 (by kernel_rfl))
              have e3 : V 3 = .int .i64 k := hI.1 3 (by decide) (hpre.out 3 (by kernel_rfl))
              go_simp
              exact put_is (by rw [e2, e3]; kernel_rfl) (hK.out (.pointer (some ⟨g2, o2 + k, none⟩)) w5 (hI.pure (by decide) rfl))
            refine ⟨?_, ?_⟩
            · refine inv_free rfl (fun D9 V w5 hDi hpre hI K hK => ?_)
              have e4 : V 4 = .pointer (some ⟨g2, o2 + k, none⟩) := hI.1 4 (by decide) (hpre.out 4 (by kernel_rfl))
              have hc9 := cell_keep hI.2.1 HC7
              go_simp
              exact put_is (by rw [e4]; kernel_rfl) (hK.out (.int .i8 xx) w5 (hI.pure (by decide) rfl))
            refine ⟨?_, ?_⟩
            · refine inv_free rfl (fun D9 V w5 hDi hpre hI K hK => ?_)
              have e5 : V 5 = .int .i8 xx := hI.1 5 (by decide) (hpre.out 5 (by kernel_rfl))
              have hwr : IntKind.i64.wrap xx = xx := IntWalk.i64_in xx ⟨by omega, by omega⟩
              go_simp
              exact put_is (by rw [e5]; kernel_rfl) (hK.out (.int .i64 xx) w5 (hI.pure (by decide) rfl))
            refine ⟨?_, ?_⟩
            · refine inv_free rfl (fun D9 V w5 hDi hpre hI K hK => ?_)
              have e6 : V 6 = .int .i64 xx := hI.1 6 (by decide) (hpre.out 6 (by kernel_rfl))
              go_simp
              exact put_is (by rw [e6]; kernel_rfl) (hK.out (.agg #[.int .i64 3, .int .i64 xx, .string ⟨#[]⟩, .slice none 0 0, .slice none 0 0, .slice none 0 0]) w5 (hI.pure (by decide) rfl))
            refine ⟨?_, ?_⟩
            · refine inv_free rfl (fun D9 V w5 hDi hpre hI K hK => ?_)
              have h0 := hpre.out 0 (by kernel_rfl)
              have e0 : V 0 = .agg #[c0, c1, c2, c3, c4, c5] := hI.1 0 (by decide) h0
              have e1 : V 1 = .string sn := hI.1 1 (by decide) (hpre.out 1 (by kernel_rfl))
              have e7 : V 7 = .agg #[.int .i64 3, .int .i64 xx, .string ⟨#[]⟩, .slice none 0 0, .slice none 0 0, .slice none 0 0] := hI.1 7 (by decide) (hpre.out 7 (by kernel_rfl))
              have h5 := HST4.out.keep (hI.2.2.1 hDi)
              have hb5 := hI.2.2.1 hDi
              go_simp
              go_at_call 5
              refine (with5_any _ (fun _ => True) 0 (docV ps) (numV xx) _ _ sn w5 h5.vin (numV_in w5 _ xx hx1 hbx.2) rfl (show (3 : Int) ≠ 0 by decide) (by have := HPL.out; rw [show (docV ps).f = rowV ps from rfl, rowV_length]; omega) (by rw [HSN.out]; exact letS_size _)).mono ?_
              rintro e w6 ⟨v6, rfl, hv6, hb6⟩
              obtain ⟨kd, nd, sd, bd, fd, ld, b1, b2, f1, f2, l1, l2, rfl⟩ := hv6.shape
              have e9 : withF sn (numV xx) (docV ps).f = rowV (putP sn xx ps) := withF_row sn xx ps
              rw [e9] at hv6
              exact put_is (by rw [e0, e1, e7]; kernel_rfl) (hK.out (.agg #[.int .i64 kd, .int .i64 nd, .string sd, .slice bd b1 b2, .slice fd f1 f2, .slice ld l1 l2]) w6 (hI.call hDi h0 hb6 ⟨_, _, _, _, _, _, w5.heap.size, w6.heap.size, rfl, hb5.size, Nat.le_refl _, h5.keep hb6, hv6.lt, fun g hg => .inl (owns_block h5.own hg).2⟩))
            refine ⟨?_, ?_⟩
            · refine inv_free rfl (fun D9 V w5 hDi hpre hI K hK => ?_)
              have h8 := hpre.out 8 (by kernel_rfl)
              obtain ⟨d0, d1, d2, d3, d4, d5, lo9, hi9, e8, hlo, hhi, ho9, hv9, hf9⟩ := hI.2.2.2.1 h8 hDi
              obtain ⟨kd, nd, sd, bd, fd, ld, b1, b2, f1, f2, l1, l2, e10⟩ := hv9.shape
              simp only [Value.agg.injEq, Array.mk.injEq, List.cons.injEq, and_true] at e10
              obtain ⟨rfl, rfl, rfl, rfl, rfl, rfl⟩ := e10
              have hst := ho9.store hv9 (by have := omap_lt HST4.out.map; omega) hhi hf9
              obtain ⟨t0, t1, t2, t3, t4, t5⟩ := ho9.box.thaw
              obtain ⟨x0, x1, x2, x3, x4, x5⟩ := ho9.box.cells
              go_simp
              exact put_is (by rw [e8]; kernel_rfl) (hK.out undef _ (hI.last h8 hst.below ⟨_, _, _, _, _, _, _, _, hst⟩))
            trivial
          intro D9 V w9 hD9 hI9
          obtain ⟨d0, d1, d2, d3, d4, d5, lo9, hi9, ho9⟩ := hI9.2.2.2.2.1 (hD9 9 (by decide))
          have HO9 := Lib.hid ho9
          clear hI9 hD9 ho9
          go_wp2_with fail
          go_roundw
          case rel => exact ⟨k + 1, putP sn xx ps, _, _, _, _, _, _, _, _, _, by go_num, by omega, HO9.out, by rw [HSN.out]; exact HFP.out.1.put HLC.out.1 HLC.out.2 hx1 hbx.2, by have := HPL.out; have := putP_length sn xx ps; omega⟩
          case measure => simp [intOf]; omega
    · obtain rfl : k = n := by omega
      obtain ⟨ka, na, sa, ba, fa, la, bl, bc, fl, fc, ll, lc, hsh⟩ := HST.out.vin.shape
      simp only [Value.agg.injEq, Array.mk.injEq, List.cons.injEq, and_true] at hsh
      obtain ⟨rfl, rfl, rfl, rfl, rfl, rfl⟩ := hsh
      obtain ⟨N, hN⟩ : ∃ N, N = ps.length := ⟨_, rfl⟩
      have hlen : fl = N := by
        obtain ⟨ba', fa', la', bc', fc', lc', e, -⟩ := HST.out.vin
        unfold agg at e
        simp only [Value.agg.injEq, Array.mk.injEq, List.cons.injEq, Value.slice.injEq, and_true] at e
        rw [hN, ← rowV_length ps]
        exact e.2.2.2.2.1.2.1
      subst hlen
      have hk60 : fl ≤ 60 := by have h1 := HFP.out.2; omega
      obtain ⟨oa, oc, hov⟩ := own_shape HST.out.own
      rw [nmsP_length, ← hN] at hov
      subst hov
      have HNN := Lib.hid hN
      clear hN
      obtain ⟨x0, x1, x2, x3, x4, x5⟩ := HST.out.box.cells
      go_wp2_with fail
      clear x0 x1 x2 x3 x4 x5
      go_loopw [14] (fun i wr => ∃ (q : Nat), i = .int .i64 q ∧ q ≤ fl ∧ Hid (OSt w wr gb (gb + 1) (.slice oa fl oc) ps ps (nmsP ps) k (.int .i64 ka) (.int .i64 na) (.string sa) (.slice ba bl bc) (.slice fa fl fc) (.slice la ll lc) lo hi' D)) (fun i _ => fl - (intOf i).toNat)
      case atStart => exact ⟨0, rfl, Nat.zero_le _, HST.out⟩
      case round =>
        obtain ⟨q, rfl, hq, HSQ⟩ := hrel
        clear HST
        by_cases hqf : q < fl
        · have hql : q < ps.length := by rw [← HNN.out]; exact hqf
          obtain ⟨nq, hnq⟩ : ∃ z, z = (ps[q]).1 := ⟨_, rfl⟩
          obtain ⟨vq, hvq⟩ : ∃ z, z = (ps[q]).2 := ⟨_, rfl⟩
          obtain ⟨fg, fo, rfl, hcn, hc2⟩ := vin_field HSQ.out.vin hql
          rw [← hnq] at hcn
          rw [← hvq] at hc2
          obtain ⟨og, rfl, hco⟩ : ∃ og, oa = some ⟨og, 0, none⟩ ∧ wr.cell? ⟨og, q, none⟩ = some (.string nq) := by
            obtain ⟨og, cap, e, _⟩ := own_some HSQ.out.own (by rw [nmsP_length]; omega)
            injection e with e1 e2 e3
            subst e1
            have h1 := HSQ.out.own.cells (g := og) rfl q (.string nq) (by unfold strV nmsP; rw [List.getElem?_map, List.getElem?_map, List.getElem?_eq_getElem hql, hnq]; rfl)
            rw [Addr.add_mid, Nat.zero_add] at h1
            exact ⟨og, rfl, h1⟩
          have hcapo : fl ≤ oc := by
            obtain ⟨og', cap, e, hc⟩ := own_some HSQ.out.own (by rw [nmsP_length]; omega)
            injection e with e1 e2 e3
            have := nmsP_length ps
            omega
          have hksq : keyOf Tryd.prog 9 (.string nq) = some (keyS nq) := key_str nq (by
            obtain ⟨⟨c, c1, c2, e⟩, _⟩ := HFP.out.1.2 _ (List.getElem_mem hql)
            rw [hnq, e]; exact Nat.le_trans (letS_size c) (by unfold maxLen; omega))
          have hatq : D.atKey (keyS nq) (.lit (.int .i64 0)) = .lit (.int .i64 vq) := by rw [hnq, hvq]; exact HSQ.out.mto.2.2 _ (List.getElem_mem hql)
          have HLK : Hid (∀ w5, Below wr.heap.size wr w5 → (Instr.lookup 30 (.map (some (gb + 1))) (.string nq) false).run Tryd.prog w5 = .ok (.int .i64 vq) w5) := fun w5 hb => by
            obtain ⟨c, hrun, hat, _⟩ := (HSQ.out.keep hb).map.lookup_int KS Tryd.underlying30 Tryd.underlying2 (ZU w5) hksq
            rw [hatq] at hat
            simp only [DataW.lit.injEq, Lit.int.injEq, true_and] at hat
            rw [hat]; exact hrun
          have HGET : Hid (∀ w5, Below wr.heap.size wr w5 → Calls Tryd.prog 6 #[.agg #[.int .i64 ka, .int .i64 na, .string sa, .slice ba bl bc, .slice (some ⟨fg, fo, none⟩) fl fc, .slice la ll lc], .string nq] w5 fun e w' => (∃ g1 g2 g3 g4, e = .returned (.agg #[.int .i64 3, .int .i64 vq, g1, g2, g3, g4])) ∧ Below w5.heap.size w5 w') := fun w5 hb => by
            refine (get5_any _ 0 (docV ps) _ nq w5 (HSQ.out.keep hb).vin rfl (by rw [show (docV ps).f = rowV ps from rfl, rowV_length]; have := HNN.out; omega)).mono ?_
            rintro e w6 ⟨v6, rfl, hv6, hb6⟩
            have e1 : getV (docV ps).f nq = numV vq := by
              unfold getV
              rw [show (docV ps).f = rowV ps from rfl, hnq, place_fine HFP.out.1.1 hql, hvq]
              simp [rowV, hql]
            rw [e1] at hv6
            obtain ⟨b6, f6, l6, c6, d6, m6, e6, -⟩ := hv6
            exact ⟨⟨_, _, _, _, by rw [e6]; rfl⟩, hb6⟩
          have HCN := Lib.hid hcn
          have HC2q := Lib.hid hc2
          have HCO := Lib.hid hco
          clear hcn hc2 hco hksq hatq hnq hvq
          go_upto_region 33 with fail
          refine wp_region_facts (fun V => { tmps := #[Value.slice an k cn, Value.slice av v cv, undef, undef, u4, Value.pointer (some ⟨gb, 0, none⟩), Value.slice (some ⟨og, 0, none⟩) fl oc, Value.map (some (gb + 1)), Value.int IntKind.i64 (k : Int), u9, u10, u11, u12, u13, Value.int IntKind.i64 (q : Int), Value.bool true, Value.bool false, Value.slice an k cn, Value.int IntKind.i64 (k : Int), Value.bool (decide ((60 : Int) < (k : Int))), Value.bool (decide ((60 : Int) < (k : Int))), Value.slice av v cv, Value.int IntKind.i64 (v : Int), Value.slice an k cn, Value.int IntKind.i64 (k : Int), Value.bool false, Value.bool (decide ((60 : Int) < (k : Int))), Value.bool (decide ((60 : Int) < (k : Int))), Value.slice av v cv, Value.int IntKind.i64 (v : Int), Value.bool (decide ((200 : Int) < (v : Int))), Value.bool (decide ((60 : Int) < (k : Int)) || decide ((200 : Int) < (v : Int))), Value.agg #[Value.int IntKind.i64 6, Value.int IntKind.i64 0, Value.string ⟨#[]⟩, Value.slice none 0 0, Value.slice none 0 0, Value.slice none 0 0], Value.map (some (gb + 1)), Value.int IntKind.i64 (k : Int), Value.slice an k cn, Value.int IntKind.i64 (k : Int), Value.bool false, u38, u39, u40, u41, u42, u43, u44, u45, u46, u47, u48, u49, u50, u51, u52, u53, u54, u55, u56, u57, u58, u59, u60, u61, u62, u63, u64, u65, u66, u67, u68, u69, u70, u71, u72, u73, u74, u75, u76, u77, u78, u79, u80, u81, u82, u83, u84, u85, u86, u87, u88, u89, u90, u91, u92, u93, u94, u95, u96, u97, u98, u99, u100, u101, u102, u103, u104, u105, u106, u107, Value.pointer (some ⟨gb, 4, none⟩), Value.slice (some ⟨fg, fo, none⟩) fl fc, Value.int IntKind.i64 (fl : Int), Value.slice (some ⟨og, 0, none⟩) fl oc, Value.int IntKind.i64 (fl : Int), Value.bool false, Value.int IntKind.i64 (q : Int), Value.slice (some ⟨og, 0, none⟩) fl oc, Value.int IntKind.i64 (fl : Int), Value.bool true, u118, u119, V 0, V 1, V 2, V 3, V 4, V 5, V 6, V 7, V 8, V 9, V 10, V 11, V 12, V 13, V 14, V 15, V 16, V 17, V 18, V 19, V 20, V 21, V 22, V 23, V 24, V 25, V 26, V 27, V 28, V 29, V 30, V 31, V 32, V 33, V 34, V 35, V 36, V 37, V 38, V 39, V 40, V 41, V 42, undef, undef, undef, undef, undef, undef, undef, undef], defers := [] }) [Fact.is (.pointer (some ⟨gb, 4, none⟩)), Fact.is (.slice (some ⟨fg, fo, none⟩) fl fc), Fact.is (.int .i64 q), Fact.is (.pointer (some ⟨fg, fo + q * 7, none⟩)), Fact.is (.pointer (some ⟨fg, fo + q * 7, none⟩)), Fact.is (.string nq), Fact.is (.slice (some ⟨og, 0, none⟩) fl oc), Fact.is (.int .i64 q), Fact.is (.pointer (some ⟨og, q, none⟩)), Fact.is (.string nq), Fact.is (.bool false), Fact.is (.bool false), Fact.is (.pointer (some ⟨gb, 4, none⟩)), Fact.is (.slice (some ⟨fg, fo, none⟩) fl fc), Fact.is (.int .i64 q), Fact.is (.pointer (some ⟨fg, fo + q * 7, none⟩)), Fact.is (.pointer (some ⟨fg, fo + q * 7 + 1, none⟩)), Fact.is (.pointer (some ⟨fg, fo + q * 7 + 1 + 1, none⟩)), Fact.is (.int .i64 vq), Fact.is (.map (some (gb + 1))), Fact.is (.slice (some ⟨og, 0, none⟩) fl oc), Fact.is (.int .i64 q), Fact.is (.pointer (some ⟨og, q, none⟩)), Fact.is (.string nq), Fact.is (.int .i64 vq), Fact.is (.bool false), Fact.is (.bool false), Fact.is (.bool false), Fact.is (.agg #[.int .i64 ka, .int .i64 na, .string sa, .slice ba bl bc, .slice (some ⟨fg, fo, none⟩) fl fc, .slice la ll lc]), Fact.is (.slice (some ⟨og, 0, none⟩) fl oc), Fact.is (.int .i64 q), Fact.is (.pointer (some ⟨og, q, none⟩)), Fact.is (.string nq), getFact vq, Fact.is (.int .i64 vq), Fact.is (.map (some (gb + 1))), Fact.is (.slice (some ⟨og, 0, none⟩) fl oc), Fact.is (.int .i64 q), Fact.is (.pointer (some ⟨og, q, none⟩)), Fact.is (.string nq), Fact.is (.int .i64 vq), Fact.is (.bool false), Fact.is (.bool false)] (by kernel_rfl) (by kernel_rfl) (by kernel_rfl) (fun V => by kernel_rfl) ?_ ?_
          · refine ⟨?_, ?_⟩
            · refine fact_free rfl (fun V w5 hB hF K hK => ?_)
              go_simp
              exact put_is (by kernel_rfl) (hK.out (.pointer (some ⟨gb, 4, none⟩)) w5 (Below.refl _ _) rfl)
            refine ⟨?_, ?_⟩
            · refine fact_free rfl (fun V w5 hB hF K hK => ?_)
              have hx4 := (HSQ.out.keep hB).box.cells.2.2.2.2.1
              have h0 : V 0 = .pointer (some ⟨gb, 4, none⟩) := hF.out 0 (by kernel_rfl)
              go_simp
              exact put_is (by rw [h0]; kernel_rfl) (hK.out (.slice (some ⟨fg, fo, none⟩) fl fc) w5 (Below.refl _ _) rfl)
            refine ⟨?_, ?_⟩
            · refine fact_free rfl (fun V w5 hB hF K hK => ?_)
              go_simp
              exact put_is (by kernel_rfl) (hK.out (.int .i64 q) w5 (Below.refl _ _) rfl)
            refine ⟨?_, ?_⟩
            · refine fact_free rfl (fun V w5 hB hF K hK => ?_)
              have h1 : V 1 = .slice (some ⟨fg, fo, none⟩) fl fc := hF.out 1 (by kernel_rfl)
              have h2 : V 2 = .int .i64 q := hF.out 2 (by kernel_rfl)
              go_simp
              exact put_is (by rw [h1, h2]; kernel_rfl) (hK.out (.pointer (some ⟨fg, fo + q * 7, none⟩)) w5 (Below.refl _ _) rfl)
            refine ⟨?_, ?_⟩
            · refine fact_free rfl (fun V w5 hB hF K hK => ?_)
              have h3 : V 3 = .pointer (some ⟨fg, fo + q * 7, none⟩) := hF.out 3 (by kernel_rfl)
              go_simp
              exact put_is (by rw [h3]; kernel_rfl) (hK.out (.pointer (some ⟨fg, fo + q * 7, none⟩)) w5 (Below.refl _ _) rfl)
            refine ⟨?_, ?_⟩
            · refine fact_free rfl (fun V w5 hB hF K hK => ?_)
              have hcn := cell_keep hB HCN.out
              have h4 : V 4 = .pointer (some ⟨fg, fo + q * 7, none⟩) := hF.out 4 (by kernel_rfl)
              go_simp
              exact put_is (by rw [h4]; kernel_rfl) (hK.out (.string nq) w5 (Below.refl _ _) rfl)
            refine ⟨?_, ?_⟩
            · refine fact_free rfl (fun V w5 hB hF K hK => ?_)
              go_simp
              exact put_is (by kernel_rfl) (hK.out (.slice (some ⟨og, 0, none⟩) fl oc) w5 (Below.refl _ _) rfl)
            refine ⟨?_, ?_⟩
            · refine fact_free rfl (fun V w5 hB hF K hK => ?_)
              go_simp
              exact put_is (by kernel_rfl) (hK.out (.int .i64 q) w5 (Below.refl _ _) rfl)
            refine ⟨?_, ?_⟩
            · refine fact_free rfl (fun V w5 hB hF K hK => ?_)
              have h6 : V 6 = .slice (some ⟨og, 0, none⟩) fl oc := hF.out 6 (by kernel_rfl)
              have h7 : V 7 = .int .i64 q := hF.out 7 (by kernel_rfl)
              go_simp
              exact put_is (by rw [h6, h7]; kernel_rfl) (hK.out (.pointer (some ⟨og, q, none⟩)) w5 (Below.refl _ _) rfl)
            refine ⟨?_, ?_⟩
            · refine fact_free rfl (fun V w5 hB hF K hK => ?_)
              have hco := cell_keep hB HCO.out
              have h8 : V 8 = .pointer (some ⟨og, q, none⟩) := hF.out 8 (by kernel_rfl)
              go_simp
              exact put_is (by rw [h8]; kernel_rfl) (hK.out (.string nq) w5 (Below.refl _ _) rfl)
            refine ⟨?_, ?_⟩
            · refine fact_free rfl (fun V w5 hB hF K hK => ?_)
              have h5 : V 5 = .string nq := hF.out 5 (by kernel_rfl)
              have h9 : V 9 = .string nq := hF.out 9 (by kernel_rfl)
              go_simp
              exact put_is (by rw [h5, h9]; kernel_rfl) (hK.out (.bool false) w5 (Below.refl _ _) rfl)
            refine ⟨?_, ?_⟩
            · refine fact_free rfl (fun V w5 hB hF K hK => ?_)
              have h10 : V 10 = .bool false := hF.out 10 (by kernel_rfl)
              go_simp
              exact put_is (by rw [h10]; kernel_rfl) (hK.out (.bool false) w5 (Below.refl _ _) rfl)
            refine ⟨?_, ?_⟩
            · refine fact_on 11 false rfl (by kernel_rfl) (fun V => by kernel_rfl) (fun v w h => h) (fun V w5 hB hF K hK => ?_)
              go_simp
              exact put_is (by kernel_rfl) (hK.out (.pointer (some ⟨gb, 4, none⟩)) w5 (Below.refl _ _) rfl)
            refine ⟨?_, ?_⟩
            · refine fact_on 11 false rfl (by kernel_rfl) (fun V => by kernel_rfl) (fun v w h => h) (fun V w5 hB hF K hK => ?_)
              have hx4 := (HSQ.out.keep hB).box.cells.2.2.2.2.1
              have h12 : V 12 = .pointer (some ⟨gb, 4, none⟩) := hF.out 12 (by kernel_rfl)
              go_simp
              exact put_is (by rw [h12]; kernel_rfl) (hK.out (.slice (some ⟨fg, fo, none⟩) fl fc) w5 (Below.refl _ _) rfl)
            refine ⟨?_, ?_⟩
            · refine fact_on 11 false rfl (by kernel_rfl) (fun V => by kernel_rfl) (fun v w h => h) (fun V w5 hB hF K hK => ?_)
              go_simp
              exact put_is (by kernel_rfl) (hK.out (.int .i64 q) w5 (Below.refl _ _) rfl)
            refine ⟨?_, ?_⟩
            · refine fact_on 11 false rfl (by kernel_rfl) (fun V => by kernel_rfl) (fun v w h => h) (fun V w5 hB hF K hK => ?_)
              have h13 : V 13 = .slice (some ⟨fg, fo, none⟩) fl fc := hF.out 13 (by kernel_rfl)
              have h14 : V 14 = .int .i64 q := hF.out 14 (by kernel_rfl)
              go_simp
              exact put_is (by rw [h13, h14]; kernel_rfl) (hK.out (.pointer (some ⟨fg, fo + q * 7, none⟩)) w5 (Below.refl _ _) rfl)
            refine ⟨?_, ?_⟩
            · refine fact_on 11 false rfl (by kernel_rfl) (fun V => by kernel_rfl) (fun v w h => h) (fun V w5 hB hF K hK => ?_)
              have h15 : V 15 = .pointer (some ⟨fg, fo + q * 7, none⟩) := hF.out 15 (by kernel_rfl)
              go_simp
              exact put_is (by rw [h15]; kernel_rfl) (hK.out (.pointer (some ⟨fg, fo + q * 7 + 1, none⟩)) w5 (Below.refl _ _) rfl)
            refine ⟨?_, ?_⟩
            · refine fact_on 11 false rfl (by kernel_rfl) (fun V => by kernel_rfl) (fun v w h => h) (fun V w5 hB hF K hK => ?_)
              have h16 : V 16 = .pointer (some ⟨fg, fo + q * 7 + 1, none⟩) := hF.out 16 (by kernel_rfl)
              go_simp
              exact put_is (by rw [h16]; kernel_rfl) (hK.out (.pointer (some ⟨fg, fo + q * 7 + 1 + 1, none⟩)) w5 (Below.refl _ _) rfl)
            refine ⟨?_, ?_⟩
            · refine fact_on 11 false rfl (by kernel_rfl) (fun V => by kernel_rfl) (fun v w h => h) (fun V w5 hB hF K hK => ?_)
              have hc2 := cell_keep hB HC2q.out
              have h17 : V 17 = .pointer (some ⟨fg, fo + q * 7 + 1 + 1, none⟩) := hF.out 17 (by kernel_rfl)
              go_simp
              exact put_is (by rw [h17]; kernel_rfl) (hK.out (.int .i64 vq) w5 (Below.refl _ _) rfl)
            refine ⟨?_, ?_⟩
            · refine fact_on 11 false rfl (by kernel_rfl) (fun V => by kernel_rfl) (fun v w h => h) (fun V w5 hB hF K hK => ?_)
              go_simp
              exact put_is (by kernel_rfl) (hK.out (.map (some (gb + 1))) w5 (Below.refl _ _) rfl)
            refine ⟨?_, ?_⟩
            · refine fact_on 11 false rfl (by kernel_rfl) (fun V => by kernel_rfl) (fun v w h => h) (fun V w5 hB hF K hK => ?_)
              go_simp
              exact put_is (by kernel_rfl) (hK.out (.slice (some ⟨og, 0, none⟩) fl oc) w5 (Below.refl _ _) rfl)
            refine ⟨?_, ?_⟩
            · refine fact_on 11 false rfl (by kernel_rfl) (fun V => by kernel_rfl) (fun v w h => h) (fun V w5 hB hF K hK => ?_)
              go_simp
              exact put_is (by kernel_rfl) (hK.out (.int .i64 q) w5 (Below.refl _ _) rfl)
            refine ⟨?_, ?_⟩
            · refine fact_on 11 false rfl (by kernel_rfl) (fun V => by kernel_rfl) (fun v w h => h) (fun V w5 hB hF K hK => ?_)
              have h20 : V 20 = .slice (some ⟨og, 0, none⟩) fl oc := hF.out 20 (by kernel_rfl)
              have h21 : V 21 = .int .i64 q := hF.out 21 (by kernel_rfl)
              go_simp
              exact put_is (by rw [h20, h21]; kernel_rfl) (hK.out (.pointer (some ⟨og, q, none⟩)) w5 (Below.refl _ _) rfl)
            refine ⟨?_, ?_⟩
            · refine fact_on 11 false rfl (by kernel_rfl) (fun V => by kernel_rfl) (fun v w h => h) (fun V w5 hB hF K hK => ?_)
              have hco := cell_keep hB HCO.out
              have h22 : V 22 = .pointer (some ⟨og, q, none⟩) := hF.out 22 (by kernel_rfl)
              go_simp
              exact put_is (by rw [h22]; kernel_rfl) (hK.out (.string nq) w5 (Below.refl _ _) rfl)
            refine ⟨?_, ?_⟩
            · refine fact_on 11 false rfl (by kernel_rfl) (fun V => by kernel_rfl) (fun v w h => h) (fun V w5 hB hF K hK => ?_)
              have hlk := HLK.out w5 hB
              have h19 : V 19 = .map (some (gb + 1)) := hF.out 19 (by kernel_rfl)
              have h23 : V 23 = .string nq := hF.out 23 (by kernel_rfl)
              go_simp
              exact put_is (by rw [h19, h23]; kernel_rfl) (hK.out (.int .i64 vq) w5 (Below.refl _ _) rfl)
            refine ⟨?_, ?_⟩
            · refine fact_on 11 false rfl (by kernel_rfl) (fun V => by kernel_rfl) (fun v w h => h) (fun V w5 hB hF K hK => ?_)
              have h18 : V 18 = .int .i64 vq := hF.out 18 (by kernel_rfl)
              have h24 : V 24 = .int .i64 vq := hF.out 24 (by kernel_rfl)
              go_simp
              exact put_is (by rw [h18, h24]; kernel_rfl) (hK.out (.bool false) w5 (Below.refl _ _) rfl)
            refine ⟨?_, ?_⟩
            · refine fact_free rfl (fun V w5 hB hF K hK => ?_)
              have h11 : V 11 = .bool false := hF.out 11 (by kernel_rfl)
              have h25 : V 25 = .bool false := hF.out 25 (by kernel_rfl)
              go_simp
              exact put_is (by rw [h11, h25]; kernel_rfl) (hK.out (.bool false) w5 (Below.refl _ _) rfl)
            refine ⟨?_, ?_⟩
            · refine fact_free rfl (fun V w5 hB hF K hK => ?_)
              have h26 : V 26 = .bool false := hF.out 26 (by kernel_rfl)
              go_simp
              exact put_is (by rw [h26]; kernel_rfl) (hK.out (.bool false) w5 (Below.refl _ _) rfl)
            refine ⟨?_, ?_⟩
            · refine fact_on 27 false rfl (by kernel_rfl) (fun V => by kernel_rfl) (fun v w h => h) (fun V w5 hB hF K hK => ?_)
              obtain ⟨x0, x1, x2, x3, x4, x5⟩ := (HSQ.out.keep hB).box.cells
              go_simp
              exact put_is (by kernel_rfl) (hK.out (.agg #[.int .i64 ka, .int .i64 na, .string sa, .slice ba bl bc, .slice (some ⟨fg, fo, none⟩) fl fc, .slice la ll lc]) w5 (Below.refl _ _) rfl)
            refine ⟨?_, ?_⟩
            · refine fact_on 27 false rfl (by kernel_rfl) (fun V => by kernel_rfl) (fun v w h => h) (fun V w5 hB hF K hK => ?_)
              go_simp
              exact put_is (by kernel_rfl) (hK.out (.slice (some ⟨og, 0, none⟩) fl oc) w5 (Below.refl _ _) rfl)
            refine ⟨?_, ?_⟩
            · refine fact_on 27 false rfl (by kernel_rfl) (fun V => by kernel_rfl) (fun v w h => h) (fun V w5 hB hF K hK => ?_)
              go_simp
              exact put_is (by kernel_rfl) (hK.out (.int .i64 q) w5 (Below.refl _ _) rfl)
            refine ⟨?_, ?_⟩
            · refine fact_on 27 false rfl (by kernel_rfl) (fun V => by kernel_rfl) (fun v w h => h) (fun V w5 hB hF K hK => ?_)
              have h29 : V 29 = .slice (some ⟨og, 0, none⟩) fl oc := hF.out 29 (by kernel_rfl)
              have h30 : V 30 = .int .i64 q := hF.out 30 (by kernel_rfl)
              go_simp
              exact put_is (by rw [h29, h30]; kernel_rfl) (hK.out (.pointer (some ⟨og, q, none⟩)) w5 (Below.refl _ _) rfl)
            refine ⟨?_, ?_⟩
            · refine fact_on 27 false rfl (by kernel_rfl) (fun V => by kernel_rfl) (fun v w h => h) (fun V w5 hB hF K hK => ?_)
              have hco := cell_keep hB HCO.out
              have h31 : V 31 = .pointer (some ⟨og, q, none⟩) := hF.out 31 (by kernel_rfl)
              go_simp
              exact put_is (by rw [h31]; kernel_rfl) (hK.out (.string nq) w5 (Below.refl _ _) rfl)
            refine ⟨?_, ?_⟩
            · refine fact_on 27 false rfl (by kernel_rfl) (fun V => by kernel_rfl) (fun v w h => h) (fun V w5 hB hF K hK => ?_)
              have h28 : V 28 = .agg #[.int .i64 ka, .int .i64 na, .string sa, .slice ba bl bc, .slice (some ⟨fg, fo, none⟩) fl fc, .slice la ll lc] := hF.out 28 (by kernel_rfl)
              have h32 : V 32 = .string nq := hF.out 32 (by kernel_rfl)
              go_simp
              go_at_call 6
              refine (HGET.out w5 hB).mono ?_
              rintro e w6 ⟨⟨g1, g2, g3, g4, rfl⟩, hb6⟩
              exact put_is (by rw [h28, h32]; kernel_rfl) (hK.out (.agg #[.int .i64 3, .int .i64 vq, g1, g2, g3, g4]) w6 hb6 ⟨g1, g2, g3, g4, rfl⟩)
            refine ⟨?_, ?_⟩
            · refine fact_on 27 false rfl (by kernel_rfl) (fun V => by kernel_rfl) (fun v w h => h) (fun V w5 hB hF K hK => ?_)
              obtain ⟨g1, g2, g3, g4, h33⟩ := hF.out 33 (by kernel_rfl)
              go_simp
              exact put_is (by rw [h33]; kernel_rfl) (hK.out (.int .i64 vq) w5 (Below.refl _ _) rfl)
            refine ⟨?_, ?_⟩
            · refine fact_on 27 false rfl (by kernel_rfl) (fun V => by kernel_rfl) (fun v w h => h) (fun V w5 hB hF K hK => ?_)
              go_simp
              exact put_is (by kernel_rfl) (hK.out (.map (some (gb + 1))) w5 (Below.refl _ _) rfl)
            refine ⟨?_, ?_⟩
            · refine fact_on 27 false rfl (by kernel_rfl) (fun V => by kernel_rfl) (fun v w h => h) (fun V w5 hB hF K hK => ?_)
              go_simp
              exact put_is (by kernel_rfl) (hK.out (.slice (some ⟨og, 0, none⟩) fl oc) w5 (Below.refl _ _) rfl)
            refine ⟨?_, ?_⟩
            · refine fact_on 27 false rfl (by kernel_rfl) (fun V => by kernel_rfl) (fun v w h => h) (fun V w5 hB hF K hK => ?_)
              go_simp
              exact put_is (by kernel_rfl) (hK.out (.int .i64 q) w5 (Below.refl _ _) rfl)
            refine ⟨?_, ?_⟩
            · refine fact_on 27 false rfl (by kernel_rfl) (fun V => by kernel_rfl) (fun v w h => h) (fun V w5 hB hF K hK => ?_)
              have h36 : V 36 = .slice (some ⟨og, 0, none⟩) fl oc := hF.out 36 (by kernel_rfl)
              have h37 : V 37 = .int .i64 q := hF.out 37 (by kernel_rfl)
              go_simp
              exact put_is (by rw [h36, h37]; kernel_rfl) (hK.out (.pointer (some ⟨og, q, none⟩)) w5 (Below.refl _ _) rfl)
            refine ⟨?_, ?_⟩
            · refine fact_on 27 false rfl (by kernel_rfl) (fun V => by kernel_rfl) (fun v w h => h) (fun V w5 hB hF K hK => ?_)
              have hco := cell_keep hB HCO.out
              have h38 : V 38 = .pointer (some ⟨og, q, none⟩) := hF.out 38 (by kernel_rfl)
              go_simp
              exact put_is (by rw [h38]; kernel_rfl) (hK.out (.string nq) w5 (Below.refl _ _) rfl)
            refine ⟨?_, ?_⟩
            · refine fact_on 27 false rfl (by kernel_rfl) (fun V => by kernel_rfl) (fun v w h => h) (fun V w5 hB hF K hK => ?_)
              have hlk := HLK.out w5 hB
              have h35 : V 35 = .map (some (gb + 1)) := hF.out 35 (by kernel_rfl)
              have h39 : V 39 = .string nq := hF.out 39 (by kernel_rfl)
              go_simp
              exact put_is (by rw [h35, h39]; kernel_rfl) (hK.out (.int .i64 vq) w5 (Below.refl _ _) rfl)
            refine ⟨?_, ?_⟩
            · refine fact_on 27 false rfl (by kernel_rfl) (fun V => by kernel_rfl) (fun v w h => h) (fun V w5 hB hF K hK => ?_)
              have h34 : V 34 = .int .i64 vq := hF.out 34 (by kernel_rfl)
              have h40 : V 40 = .int .i64 vq := hF.out 40 (by kernel_rfl)
              go_simp
              exact put_is (by rw [h34, h40]; kernel_rfl) (hK.out (.bool false) w5 (Below.refl _ _) rfl)
            refine ⟨?_, ?_⟩
            · refine fact_free rfl (fun V w5 hB hF K hK => ?_)
              have h27 : V 27 = .bool false := hF.out 27 (by kernel_rfl)
              have h41 : V 41 = .bool false := hF.out 41 (by kernel_rfl)
              go_simp
              exact put_is (by rw [h27, h41]; kernel_rfl) (hK.out (.bool false) w5 (Below.refl _ _) rfl)
            trivial
          intro V w5 hB hF
          have hz : V 42 = .bool false := hF 42 (by decide)
          rw [hz]
          have HSQ5 := Lib.hid (HSQ.out.keep hB)
          clear hF hz hB
          go_wp2_with fail
          go_roundw
          case rel => exact ⟨q + 1, by go_num, by omega, HSQ5.out⟩
          case measure => simp [intOf]; omega
        · obtain rfl : q = fl := by omega
          have hmay := docV_may HFP.out.1 (by have := HNN.out; omega)
          have CM := may_any _ 2 (docV ps) _ wr HSQ.out.vin (HT.out.below HSQ.out.below)
          rw [hmay] at CM
          have CMH := Lib.hid CM
          obtain ⟨x0, x1, x2, x3, x4, x5⟩ := HSQ.out.box.cells
          clear CM hmay
          go_wp2_with fail
          clear x0 x1 x2 x3 x4 x5
          refine CMH.out.mono ?_
          rintro e w5 ⟨rfl, hb5⟩
          have HSQ5 := Lib.hid (HSQ.out.keep hb5)
          obtain ⟨x0, x1, x2, x3, x4, x5⟩ := HSQ5.out.box.cells
          have CG := Lib.hid (get5_any _ 0 (docV ps) _ ⟨#[122, 122]⟩ w5 HSQ5.out.vin rfl (by rw [show (docV ps).f = rowV ps from rfl, rowV_length]; have := HNN.out; omega))
          clear hb5 CMH
          go_wp2_with fail
          clear x0 x1 x2 x3 x4 x5
          refine CG.out.mono ?_
          rintro e w6 ⟨v6, rfl, hv6, hb6⟩
          have e1 : getV (docV ps).f ⟨#[122, 122]⟩ = Bson.zero := getV_zz HFP.out.1
          rw [e1] at hv6
          obtain ⟨b6, f6, l6, d6, m6, n6, e6, -⟩ := hv6
          have e7 : v6 = .agg #[.int .i64 0, .int .i64 0, .string ⟨#[]⟩, .slice b6 0 d6, .slice f6 0 m6, .slice l6 0 n6] := e6
          subst e7
          have HB9 := Lib.hid (HSQ5.out.keep hb6).below
          have hfld : ∀ w5 : World, (Instr.field 28 (.agg #[.int .i64 0, .int .i64 0, .string ⟨#[]⟩, .slice b6 0 d6, .slice f6 0 m6, .slice l6 0 n6]) 0).run Tryd.prog w5 = .ok (.int .i64 0) w5 := fun _ => by kernel_rfl
          clear hb6 e6 CG
          go_wp2_with fail
          go_ret
          exact ⟨rfl, HB9.out⟩
end Go.Proofs.YtdihelpimpkfoaaDoor
end
