/- THE WALK OF TapeFaults. -/
import Derived.Test.YtbkiahnljklhpaaDoorTapeCommon
import Derived.Test.YtbkiahnljklhpaaDoorTapeFaultsRow
import Derived.Test.YtbkiahnljklhpaaDoorTapeBoth
namespace Go.Proofs.YtbkiahnljklhpaaDoor
open Go.RowKit
open Seal
theorem Pairs.below {w w' : World} {a : Option Addr} {l : List (Int × Int)} (h : Pairs w a l) (hb : Below w.heap.size w w') : Pairs w' a l := by
  rcases h with h | ⟨b, off, e, h⟩
  · exact .inl h
  · exact .inr ⟨b, off, e, fun j hj => by
      obtain ⟨h1, h2⟩ := h j hj
      have hlt := World.block_lt_of_cell? w _ h1
      exact ⟨(hb.cell (p := ⟨b, off + j * 2, none⟩) hlt).trans h1, (hb.cell (p := ⟨b, off + j * 2 + 1, none⟩) hlt).trans h2⟩⟩
theorem RowsIn.take' {w : World} {a : Option Addr} {rs : List (List Nat)} {Ok : Nat → Prop} (h : RowsIn w a rs Ok) (k : Nat) : RowsIn w a (rs.take k) Ok := by
  rcases h with h | ⟨b, off, e, hb, h⟩
  · exact .inl (by rw [h]; simp)
  · refine .inr ⟨b, off, e, hb, fun i hi => ?_⟩
    have hi0 : i < min k rs.length := by simpa using hi
    have hi' : i < k ∧ i < rs.length := by omega
    have hg : (rs.take k).getD i [] = rs.getD i [] := by simp [List.getD_eq_getElem?_getD, hi'.1]
    rw [hg]
    exact h i hi'.2
theorem TSide.keepW {B g gl gt : Nat} {w w' : World} {s s' : Disk.St} {own own' : Nat → Nat} {rs : List (List Nat)} {P : List Nat} {pv : Value} {F F' : Nat → Prop} (h : TSide B g gl gt w s own rs P pv)
    (hV : Move B gl w w' own own' F F') (hpg : s'.page = s.page) (hpp : s'.pages = s.pages) (hd : ∀ b, TFoot gt pv b → ¬ F b) : TSide B g gl gt w' s' own' rs P pv := by
  have hw := h.whole.keep hpg (fun _ _ => by rw [hpp])
  refine ⟨⟨h.tp.nodup, fun n hn => by rw [hpp]; exact h.tp.used n hn, by rw [hpg]; exact h.tp.len, fun i hi => .inl (hw i hi), h.tp.oct⟩, hw, h.mem.keep fun b hb => ?_, fun b hb => ?_⟩
  · obtain ⟨_, h2, h3, h4⟩ := h.free b hb
    exact hV.same h4 h2 h3 (hd b hb)
  · obtain ⟨h1, h2, h3, h4⟩ := h.free b hb
    exact ⟨h1, (hV.marks b h4).trans h2, h3, Nat.lt_of_lt_of_le h4 hV.touch.size⟩
set_option maxRecDepth 100000 in
set_option maxHeartbeats 8000000 in
theorem faults_law (a : Option Addr) (len cap : Nat) (rs : List (List Nat)) (f1 : Option Addr) (n1 c1 : Nat) (fs1 : List (Int × Int)) (f2 : Option Addr) (n2 c2 : Nat) (fs2 : List (Int × Int)) (w : World) (hn : rs.length = len) (hlc : len ≤ cap) (hcm : cap ≤ 9223372036854775807) (hR : RowsIn w a rs fun b => b < w.heap.size) (hlen : ∀ i, i < rs.length → (rs.getD i []).length ≤ 140737488355328) (hfn1 : fs1.length = n1) (hfc1 : n1 ≤ c1 ∧ c1 ≤ 9223372036854775807) (hfP1 : Pairs w f1 fs1) (hfb1 : ∀ j, (fs1.getD j (0, 0)).1 ≤ 9223372036854775807) (hfa1 : fs1 ≠ [] → ∀ p, f1 = some p → p.block < w.heap.size) (hfn2 : fs2.length = n2) (hfc2 : n2 ≤ c2 ∧ c2 ≤ 9223372036854775807) (hfP2 : Pairs w f2 fs2) (hfb2 : ∀ j, (fs2.getD j (0, 0)).1 ≤ 9223372036854775807) (hfa2 : fs2 ≠ [] → ∀ p, f2 = some p → p.block < w.heap.size)
    (ht : Tab w) (hr : Bruijn w) (t0 : 1 < w.heap.size) (b0 : 0 < w.heap.size) :
    Calls Tryd.prog 4 #[.slice a len cap, .slice f1 n1 c1, .slice f2 n2 c2] w fun e w' => e = .returned (.bool true) ∧ Below w.heap.size w w' := by

  have CA := Lib.hid (awake_any w ht hr t0 b0)
  have HTab := Lib.hid ht
  have HBr := Lib.hid hr

  have HN := Lib.hid hn
  have HR := Lib.hid hR
  have HLEN := Lib.hid hlen

  have HF1 := Lib.hid hfn1
  have HF2 := Lib.hid hfn2
  have HP1 := Lib.hid hfP1
  have HP2 := Lib.hid hfP2
  have HD1 := Lib.hid hfb1
  have HD2 := Lib.hid hfb2
  clear ht hr hn hR hlen hfn1 hfn2 hfP1 hfP2 hfb1 hfb2 hfa1 hfa2

  go_enter Tryd.func4, Tryd.ntmps4
  go_wp2_with fail
  refine CA.out.mono ?_
  rintro e w1 ⟨rfl, hB1⟩
  have HB1 := Lib.hid hB1
  have HR1 := Lib.hid (HR.out.later0 hB1)
  clear hB1 CA
  go_wp2_with fail
  refine (few_any a len cap rs w1 _ HN.out (by omega) HR1.out HLEN.out).mono ?_
  rintro e w' ⟨rfl, rfl⟩
  by_cases hfew : fewB rs = true
  · rw [hfew]
    have HF := Lib.hid (few_true hfew)
    clear hfew
    by_cases hm1 : n1 ≤ 20
    · by_cases hm2 : n2 ≤ 20
      · go_wp2_with fail
        have hB1 := HB1.out
        have C1 := new_ok 64 300 w1 (by decide) (by omega)
        rw [show ((64 : Nat) : Int) = 64 from rfl, show ((300 : Nat) : Int) = 300 from rfl] at C1
        have HC1 := Lib.hid C1
        clear C1 hB1
        go_wp2_with fail
        refine HC1.out.mono ?_
        rintro e w2 ⟨rfl, hD2, hB2, hz2⟩
        have hB01 := HB1.out
        have hS3 := sys_new (B := w.heap.size) hB01.size hD2 hB2 hz2 (HTab.out.below hB01 t0) (HBr.out.below hB01 b0) t0 b0 1000
        obtain ⟨w3, hw3⟩ : ∃ w3, w3 = w2.alloc (.cells #[.int .i64 (near 1000), .int .i64 0, .int .i64 0] LedT) := ⟨_, rfl⟩
        obtain ⟨gl, hgl⟩ : ∃ gl, gl = w2.heap.size := ⟨_, rfl⟩
        obtain ⟨g, hg⟩ : ∃ g, g = w1.heap.size + 1 := ⟨_, rfl⟩
        generalize newOwn w1.heap.size = own0 at *
        have hC2 := New_all 1000 w2
        rw [← hgl, ← hw3] at hC2
        rw [← hw3, ← hgl, ← hg] at hS3
        have HS3 := Lib.hid hS3
        have HC2 := Lib.hid hC2
        have HB03 : Hid (Below w.heap.size w w3) := by
          rw [hw3]
          exact (hB01.trans (hB2.mono hB01.size)).alloc (Nat.le_trans hB01.size hB2.size) _
        rw [← hg]
        clear hD2 hB2 hz2 HC1 hw3 hgl hg hS3 hC2 hB01
        go_wp2_with fail
        refine HC2.out.mono ?_
        rintro e w' ⟨rfl, hw'⟩
        subst hw'
        clear HC2

        have HRW := Lib.hid (HR.out.later rfl HB03.out HS3.out)
        have HP1' := Lib.hid (HP1.out.below HB03.out)
        have HFA := Lib.hid (faults_any f1 n1 c1 fs1 w' HF1.out (by omega) HP1'.out)
        go_wp2_with fail
        refine HFA.out.mono ?_
        rintro e w4 ⟨v4, rfl, hrow4, hB4⟩
        obtain ⟨pa4, pc4, rfl, hP4, hb4⟩ := pairs_of_row hrow4 HF1.out
        have hS4 := HS3.out.below hB4
        have HPl := Lib.hid (plan_sys w.heap.size g gl (new 64 300) own0 _ pa4 n1 pc4 fs1 w4 hS4 (by decide) HF1.out (by omega) hP4 (fun p hp => HS3.out.disk.fresh _ (hb4 p hp)) HD1.out)
        have HB4 := Lib.hid hB4
        have HS4 := Lib.hid hS4
        clear hrow4 hB4 hP4 hb4 hS4 HFA
        go_wp2_with fail
        refine HPl.out.mono ?_
        rintro e w5 ⟨rfl, own5, hS5, hV5⟩
        have hv5 := hV5 (fun _ => False) (fun _ f => f.elim)
        obtain ⟨s5, hs5⟩ : ∃ s5, s5 = { new 64 300 with begun := (new 64 300).ops, plan := planOf fs1 } := ⟨_, rfl⟩
        rw [← hs5] at hS5
        have HR4 : Hid (RowsIn w4 a rs fun b => own0 b = 0 ∧ b ≠ gl) := HRW.out.keep (fun b hlt _ => HB4.out.block b hlt) (fun _ _ h => h)
        have HR5 : Hid (RowsIn w5 a rs fun b => own5 b = 0 ∧ b ≠ gl) := HR4.out.keep (fun b hlt hb => hv5.same hlt hb.1 hb.2 (fun f => f)) (fun b hlt hb => ⟨(hv5.marks b hlt).trans hb.1, hb.2⟩)
        have HS5 := Lib.hid hS5
        have HB05 := Lib.hid ((HB03.out.trans (HB4.out.mono HS3.out.size)).trans (HS4.out.mbelow hv5 (fun _ f => f.elim)))
        have hp5 : s5.page = 64 ∧ s5.most = 300 ∧ s5.ops = 0 ∧ Disk.live s5.pages = 0 := by rw [hs5]; exact ⟨rfl, rfl, rfl, rfl⟩
        have H5 := Lib.hid hp5
        have CM := make_any w.heap.size g gl s5 own5 (near 1000, 0, 0) a len cap rs w5 HS5.out HN.out HR5.out (fun i hi => few_len HF.out i (by rw [HN.out]; exact hi)) (by have := HF.out.1; rw [HN.out] at this; omega) (by have h1 := few_stream HF.out; have h2 := HF.out.1; rw [HN.out] at h2; omega)
        have HCM := Lib.hid CM
        clear CM hs5 hS5 hV5 hv5 hp5 HPl
        go_wp2_with fail
        refine HCM.out.mono ?_
        rintro e w6 ⟨E, tv, s6, own6, rfl, hM⟩
        have hops6 : s6.ops ≤ 2000000 := by
          have h0 := hM.ops; have h1 := few_stream HF.out; have h2 := HF.out.1; have h3 := H5.out
          omega
        have hsys := hM.sys
        rw [H5.out.1, hold_back (by omega) (by decide) (by decide)] at hsys
        have HPn := Lib.hid (plan_sys w.heap.size g gl s6 own6 _ none 0 0 [] w6 hsys (by omega) rfl (by omega) (.inl rfl) (fun p hp => by simp at hp) (fun j => by simp))
        by_cases hE : E = 0
        · subst hE
          obtain ⟨gt, P, pv, rfl, hgt, hTp, hWh, hTm, hMv, hGr⟩ := hM.ok rfl
          have hT6 : TSide w.heap.size g gl gt w6 s6 own6 rs P pv := ⟨hTp, hWh, hTm, hMv.free⟩
          have HB06 := Lib.hid (HB05.out.trans (HS5.out.mbelow hMv (fun _ f => f.elim)))
          have HR6 : Hid (RowsIn w6 a rs fun b => own6 b = 0 ∧ b ≠ gl) := HR5.out.keep (fun b hlt hb => hMv.same hlt hb.1 hb.2 (fun f => f)) (fun b hlt hb => ⟨(hMv.marks b hlt).trans hb.1, hb.2⟩)
          have HT6 := Lib.hid hT6
          have HG := Lib.hid hGr
          have HS6 := Lib.hid hsys
          have hpg6 : s6.page = 64 := hM.same.page.trans H5.out.1
          clear hM hTp hWh hTm hMv hGr hT6 hsys HCM hgt
          unfold ptr
          go_wp2_with fail
          refine HPn.out.mono ?_
          rintro e w7 ⟨rfl, own7, hS7, hV7⟩
          obtain ⟨s7, hs7⟩ : ∃ s7, s7 = { s6 with begun := s6.ops, plan := planOf [] } := ⟨_, rfl⟩
          rw [← hs7] at hS7
          have e7 : s7.page = 64 ∧ s7.pages = s6.pages ∧ s7.ops = s6.ops := by rw [hs7]; exact ⟨hpg6, rfl, rfl⟩
          have hv7 := hV7 (fun _ => False) (fun _ f => f.elim)
          have HT7 := Lib.hid (HT6.out.keepW (s' := s7) hv7 (e7.1.trans hpg6.symm) e7.2.1 (fun _ _ f => f))
          have HB07 := Lib.hid (HB06.out.trans (HS6.out.mbelow hv7 (fun _ f => f.elim)))
          have HR7 : Hid (RowsIn w7 a rs fun b => own7 b = 0 ∧ b ≠ gl) := HR6.out.keep (fun b hlt hb => hv7.same hlt hb.1 hb.2 (fun f => f)) (fun b hlt hb => ⟨(hv7.marks b hlt).trans hb.1, hb.2⟩)
          have HS7 := Lib.hid hS7
          have HFA2 := Lib.hid (faults_any f2 n2 c2 fs2 w7 HF2.out (by omega) (HP2.out.below HB07.out))
          clear hs7 hS7 hV7 hv7 HPn
          go_wp2_with fail
          refine HFA2.out.mono ?_
          rintro e w8 ⟨v8, rfl, hrow8, hB8⟩
          obtain ⟨pa8, pc8, rfl, hP8, hb8⟩ := pairs_of_row hrow8 HF2.out
          have HT8 := Lib.hid (HT7.out.keepW (s' := s7) (Move.of_below (F := fun _ => False) (fun _ f => f.elim) hB8) rfl rfl (fun _ _ f => f))
          have HR8 : Hid (RowsIn w8 a rs fun b => own7 b = 0 ∧ b ≠ gl) := HR7.out.keep (fun b hlt _ => hB8.block b hlt) (fun _ _ h => h)
          have HS8 := Lib.hid (HS7.out.below hB8)
          have HB08 := Lib.hid (HB07.out.trans (hB8.mono HS7.out.size))
          have HPl2 := Lib.hid (plan_sys w.heap.size g gl s7 own7 _ pa8 n2 pc8 fs2 w8 HS8.out (by omega) HF2.out (by omega) hP8 (fun p hp => HS7.out.disk.fresh _ (hb8 p hp)) HD2.out)
          clear hrow8 hB8 hP8 hb8 HFA2
          go_wp2_with fail
          refine HPl2.out.mono ?_
          rintro e w9 ⟨rfl, own9, hS9, hV9⟩
          obtain ⟨s9, hs9⟩ : ∃ s9, s9 = { s7 with begun := s7.ops, plan := planOf fs2 } := ⟨_, rfl⟩
          rw [← hs9] at hS9
          have e9 : s9.page = 64 ∧ s9.pages = s7.pages ∧ s9.ops = s7.ops := by rw [hs9]; exact ⟨e7.1, rfl, rfl⟩
          have hv9 := hV9 (fun _ => False) (fun _ f => f.elim)
          have HT9 := Lib.hid (HT8.out.keepW (s' := s9) hv9 (e9.1.trans e7.1.symm) e9.2.1 (fun _ _ f => f))
          have HB09 := Lib.hid (HB08.out.trans (HS8.out.mbelow hv9 (fun _ f => f.elim)))
          have HR9 : Hid (RowsIn w9 a rs fun b => own9 b = 0 ∧ b ≠ gl) := HR8.out.keep (fun b hlt hb => hv9.same hlt hb.1 hb.2 (fun f => f)) (fun b hlt hb => ⟨(hv9.marks b hlt).trans hb.1, hb.2⟩)
          have HS9 := Lib.hid hS9
          have HCR := Lib.hid (readL_any w.heap.size g gl gt s9 own9 _ P rs false pv w9 HS9.out HT9.out.mem HT9.out.free HT9.out.tp (few_len HF.out) (by have := HF.out.1; omega) (by have := few_stream HF.out; omega))
          clear hs9 hS9 hV9 hv9 HPl2
          go_wp2_with fail
          refine HCR.out.mono ?_
          rintro e w10 ⟨E2, k, vx, vs10, s10, rfl, hR⟩
          have hsys := hR.sys
          rw [e9.1, hold_back (by omega) (by decide) (by decide)] at hsys
          have hops10 : s10.ops ≤ 3000000 := by have := hR.ops; have := few_stream HF.out; omega
          have e10 : s10.page = 64 ∧ s10.pages = s9.pages := ⟨hR.same.page.trans e9.1, hR.pages⟩
          have hkl : (rs.take k).length = k := by have := hR.k_le; simp; omega
          have hkr : k ≤ len := by have := hR.k_le; rw [HN.out] at this; exact this
          obtain ⟨oa, oc, rfl, hoc, hocm, hrows⟩ := hR.out.rows
          have HRX : Hid (RowsIn w10 oa (rs.take k) fun b => own9 b = 0 ∧ b ≠ gl) := hrows.keep (fun _ _ _ => rfl) (fun b _ hb => ⟨HS9.out.disk.fresh b hb.1, by have h1 := HS9.out.led.lt; have h2 := hb.1; omega⟩)
          have HT10 := Lib.hid (HT9.out.keepW (s' := s10) hR.move (e10.1.trans e9.1.symm) e10.2 (fun _ _ f => f))
          have HB010 := Lib.hid (HB09.out.trans (HS9.out.mbelow hR.move (fun _ f => f.elim)))
          have HR10 : Hid (RowsIn w10 a rs fun b => own9 b = 0 ∧ b ≠ gl) := HR9.out.keep (fun b hlt hb => hR.move.same hlt hb.1 hb.2 (fun f => f)) (fun _ _ hb => hb)
          have HS10 := Lib.hid hsys
          have HER : Hid ((E2 = 0 ∨ E2 = 16 ∨ E2 = 18) ∧ (E2 = 0 → k = rs.length)) := ⟨hR.err, hR.all⟩
          have HPn2 := Lib.hid (plan_sys w.heap.size g gl s10 own9 _ none 0 0 [] w10 HS10.out (by omega) rfl (by omega) (.inl rfl) (fun p hp => by simp at hp) (fun j => by simp))
          rw [hkl] at hoc ⊢
          have HKL := Lib.hid hkl
          clear hR hrows hsys HCR hkl
          go_wp2_with fail
          refine HPn2.out.mono ?_
          rintro e w11 ⟨rfl, own11, hS11, hV11⟩
          obtain ⟨s11, hs11⟩ : ∃ s11, s11 = { s10 with begun := s10.ops, plan := planOf [] } := ⟨_, rfl⟩
          rw [← hs11] at hS11
          have e11 : s11.page = 64 ∧ s11.pages = s10.pages ∧ s11.ops = s10.ops := by rw [hs11]; exact ⟨e10.1, rfl, rfl⟩
          have hcalm : Disk.Calm s11 := by rw [hs11]; exact calm_nil s10
          have hv11 := hV11 (fun _ => False) (fun _ f => f.elim)
          have HT11 := Lib.hid (HT10.out.keepW (s' := s11) hv11 (e11.1.trans e10.1.symm) e11.2.1 (fun _ _ f => f))
          have HB011 := Lib.hid (HB010.out.trans (HS10.out.mbelow hv11 (fun _ f => f.elim)))
          have HR11 : Hid (RowsIn w11 a rs fun b => own11 b = 0 ∧ b ≠ gl) := HR10.out.keep (fun b hlt hb => hv11.same hlt hb.1 hb.2 (fun f => f)) (fun b hlt hb => ⟨(hv11.marks b hlt).trans hb.1, hb.2⟩)
          have HRX11 : Hid (RowsIn w11 oa (rs.take k) fun b => own11 b = 0 ∧ b ≠ gl) := HRX.out.keep (fun b hlt hb => hv11.same hlt hb.1 hb.2 (fun f => f)) (fun b hlt hb => ⟨(hv11.marks b hlt).trans hb.1, hb.2⟩)
          have HS11 := Lib.hid hS11
          have HCalm := Lib.hid hcalm
          have HCR2 := Lib.hid (readL_any w.heap.size g gl gt s11 own11 _ P rs false pv w11 HS11.out HT11.out.mem HT11.out.free HT11.out.tp (few_len HF.out) (by have := HF.out.1; omega) (by have := few_stream HF.out; omega))
          clear hs11 hS11 hV11 hv11 HPn2 hcalm
          go_wp2_with fail
          refine HCR2.out.mono ?_
          rintro e w12 ⟨E3, k3, vy, vs12, s12, rfl, hR⟩
          have hE3 : E3 = 0 := hR.good HCalm.out HT11.out.whole
          subst hE3
          have hk3 : k3 = rs.length := hR.all rfl
          subst hk3
          have hout := hR.out
          rw [List.take_length] at hout
          have hsys := hR.sys
          rw [e11.1, hold_back (by omega) (by decide) (by decide)] at hsys
          have hops12 : s12.ops ≤ 4000000 := by have := hR.ops; have := few_stream HF.out; omega
          obtain ⟨ob, obc, rfl, hob, hobm, hrowsy⟩ := hout.rows
          have HT12 := Lib.hid (HT11.out.keepW (s' := s12) hR.move hR.same.page hR.pages (fun _ _ f => f))
          have HB012 := Lib.hid (HB011.out.trans (HS11.out.mbelow hR.move (fun _ f => f.elim)))
          have HR12 : Hid (RowsIn w12 a rs fun b => own11 b = 0 ∧ b ≠ gl) := HR11.out.keep (fun b hlt hb => hR.move.same hlt hb.1 hb.2 (fun f => f)) (fun _ _ hb => hb)
          have HRX12 : Hid (RowsIn w12 oa (rs.take k) fun b => own11 b = 0 ∧ b ≠ gl) := HRX11.out.keep (fun b hlt hb => hR.move.same hlt hb.1 hb.2 (fun f => f)) (fun _ _ hb => hb)
          have HRY := Lib.hid hrowsy
          have HS12 := Lib.hid hsys
          have HPp : Hid (s12.pages = s6.pages) := by show _ = _; rw [hR.pages, e11.2.1, e10.2, e9.2.1, e7.2.1]
          rw [HN.out] at hob ⊢
          clear hR hout hsys hrowsy HCR2
          obtain ⟨h3, hall⟩ := HER.out
          rcases h3 with rfl | rfl | rfl
          · have HKN := Lib.hid (hall rfl)
            clear hall
            go_wp2_with fail
            refine (same_any oa a k len oc cap (rs.take k) rs w12 _ _ HKL.out HN.out (by omega) (by omega) HRX12.out HR12.out).mono ?_
            rintro e w' ⟨rfl, u0, rfl⟩
            rw [decide_eq_true (show rs.take k = rs by rw [HKN.out, List.take_length])]
            go_wp2_with fail
            refine (same_any oa _ k k oc cap (rs.take k) (rs.take k) (w12.drewN u0) _ _ HKL.out HKL.out (by omega) (by omega) (HRX12.out.keep (fun _ _ _ => rfl) (fun _ _ h => h)) ((RowsIn.take' HR12.out k).keep (fun _ _ _ => rfl) (fun _ _ h => h))).mono ?_
            rintro e w' ⟨rfl, u1, rfl⟩
            rw [decide_eq_true (rfl : rs.take k = rs.take k)]
            go_wp2_with fail
            refine (same_any ob a len len obc cap rs rs (World.drewN w12 (u0 + u1)) _ _ HN.out HN.out (by omega) (by omega) (HRY.out.keep (fun _ _ _ => rfl) (fun _ _ h => h)) (HR12.out.keep (fun _ _ _ => rfl) (fun _ _ h => h))).mono ?_
            rintro e w' ⟨rfl, u2, rfl⟩
            rw [decide_eq_true (rfl : rs = rs)]
            obtain ⟨w13, hw13⟩ : ∃ w13, w13 = World.drewN (World.drewN w12 (u0 + u1)) u2 := ⟨_, rfl⟩
            rw [← hw13]
            have hB13 : Below w12.heap.size w12 w13 := by rw [hw13]; exact ((drewN_below w12 (u0 + u1)).trans ((drewN_below _ u2).mono (Nat.le_refl _)))
            have HS13 := Lib.hid (HS12.out.below hB13)
            have HT13 := Lib.hid (HT12.out.keepW (s' := s12) (Move.of_below (F := fun _ => False) (fun _ f => f.elim) hB13) rfl rfl (fun _ _ f => f))
            have HB013 := Lib.hid (HB012.out.trans (hB13.mono HB012.out.size))
            have HHe := Lib.hid (Held_all gl LedT _ _ _ w13 HS13.out.led)
            have hPl : P.length ≤ 16384 := by
              have h1 := HT6.out.tp.len
              have h2 := need_few (room := s6.page - 10) (n := (Tape.stream rs).length) (by rw [hpg6]; omega) (few_stream HF.out)
              omega
            have HDr := Lib.hid (drop_any w.heap.size g gl gt s12 own11 _ P rs.length pv w13 HS13.out HT13.out.mem HT13.out.free HT13.out.tp.nodup HT13.out.tp.used (by omega))
            clear hw13 hB13
            go_wp2_with fail
            refine HHe.out.mono ?_
            rintro e w' ⟨rfl, rfl⟩
            go_wp2_with fail
            refine HDr.out.mono ?_
            rintro e w14 ⟨rfl, hS14, hM14, hV14⟩
            have hlv : Disk.live (freed s12 P).pages = 0 := by
              have h1 := dropped_live HG.out HT6.out.tp.used
              rw [H5.out.2.2.2] at h1
              rw [← h1]
              show Disk.live (Disk.gone s12.pages P) = Disk.live (Disk.gone s6.pages P)
              rw [HPp.out]
            have HLi := live_any g (freed s12 P) own11 w14 hS14.disk
            rw [hlv] at HLi
            have HLi := Lib.hid HLi
            have HFin : Hid (Below w.heap.size w w14) := HB013.out.trans (HS13.out.mbelow hV14 (fun b hb => (HT13.out.free b hb).1))
            clear hS14 hM14 hV14 hlv HDr HHe
            go_wp2_with fail
            refine HLi.out.mono ?_
            rintro e w' ⟨rfl, rfl⟩
            go_wp2_with fail
            go_ret
            exact ⟨rfl, HFin.out⟩
          · clear hall
            go_wp2_with fail
            refine (same_any oa _ k k oc cap (rs.take k) (rs.take k) w12 _ _ HKL.out HKL.out (by omega) (by omega) (HRX12.out.keep (fun _ _ _ => rfl) (fun _ _ h => h)) ((RowsIn.take' HR12.out k).keep (fun _ _ _ => rfl) (fun _ _ h => h))).mono ?_
            rintro e w' ⟨rfl, u1, rfl⟩
            rw [decide_eq_true (rfl : rs.take k = rs.take k)]
            go_wp2_with fail
            refine (same_any ob a len len obc cap rs rs (World.drewN w12 u1) _ _ HN.out HN.out (by omega) (by omega) (HRY.out.keep (fun _ _ _ => rfl) (fun _ _ h => h)) (HR12.out.keep (fun _ _ _ => rfl) (fun _ _ h => h))).mono ?_
            rintro e w' ⟨rfl, u2, rfl⟩
            rw [decide_eq_true (rfl : rs = rs)]
            obtain ⟨w13, hw13⟩ : ∃ w13, w13 = World.drewN (World.drewN w12 u1) u2 := ⟨_, rfl⟩
            rw [← hw13]
            have hB13 : Below w12.heap.size w12 w13 := by rw [hw13]; exact ((drewN_below w12 u1).trans ((drewN_below _ u2).mono (Nat.le_refl _)))
            have HS13 := Lib.hid (HS12.out.below hB13)
            have HT13 := Lib.hid (HT12.out.keepW (s' := s12) (Move.of_below (F := fun _ => False) (fun _ f => f.elim) hB13) rfl rfl (fun _ _ f => f))
            have HB013 := Lib.hid (HB012.out.trans (hB13.mono HB012.out.size))
            have HHe := Lib.hid (Held_all gl LedT _ _ _ w13 HS13.out.led)
            have hPl : P.length ≤ 16384 := by
              have h1 := HT6.out.tp.len
              have h2 := need_few (room := s6.page - 10) (n := (Tape.stream rs).length) (by rw [hpg6]; omega) (few_stream HF.out)
              omega
            have HDr := Lib.hid (drop_any w.heap.size g gl gt s12 own11 _ P rs.length pv w13 HS13.out HT13.out.mem HT13.out.free HT13.out.tp.nodup HT13.out.tp.used (by omega))
            clear hw13 hB13
            go_wp2_with fail
            refine HHe.out.mono ?_
            rintro e w' ⟨rfl, rfl⟩
            go_wp2_with fail
            refine HDr.out.mono ?_
            rintro e w14 ⟨rfl, hS14, hM14, hV14⟩
            have hlv : Disk.live (freed s12 P).pages = 0 := by
              have h1 := dropped_live HG.out HT6.out.tp.used
              rw [H5.out.2.2.2] at h1
              rw [← h1]
              show Disk.live (Disk.gone s12.pages P) = Disk.live (Disk.gone s6.pages P)
              rw [HPp.out]
            have HLi := live_any g (freed s12 P) own11 w14 hS14.disk
            rw [hlv] at HLi
            have HLi := Lib.hid HLi
            have HFin : Hid (Below w.heap.size w w14) := HB013.out.trans (HS13.out.mbelow hV14 (fun b hb => (HT13.out.free b hb).1))
            clear hS14 hM14 hV14 hlv HDr HHe
            go_wp2_with fail
            refine HLi.out.mono ?_
            rintro e w' ⟨rfl, rfl⟩
            go_wp2_with fail
            go_ret
            exact ⟨rfl, HFin.out⟩
          · clear hall
            go_wp2_with fail
            refine (same_any oa _ k k oc cap (rs.take k) (rs.take k) w12 _ _ HKL.out HKL.out (by omega) (by omega) (HRX12.out.keep (fun _ _ _ => rfl) (fun _ _ h => h)) ((RowsIn.take' HR12.out k).keep (fun _ _ _ => rfl) (fun _ _ h => h))).mono ?_
            rintro e w' ⟨rfl, u1, rfl⟩
            rw [decide_eq_true (rfl : rs.take k = rs.take k)]
            go_wp2_with fail
            refine (same_any ob a len len obc cap rs rs (World.drewN w12 u1) _ _ HN.out HN.out (by omega) (by omega) (HRY.out.keep (fun _ _ _ => rfl) (fun _ _ h => h)) (HR12.out.keep (fun _ _ _ => rfl) (fun _ _ h => h))).mono ?_
            rintro e w' ⟨rfl, u2, rfl⟩
            rw [decide_eq_true (rfl : rs = rs)]
            obtain ⟨w13, hw13⟩ : ∃ w13, w13 = World.drewN (World.drewN w12 u1) u2 := ⟨_, rfl⟩
            rw [← hw13]
            have hB13 : Below w12.heap.size w12 w13 := by rw [hw13]; exact ((drewN_below w12 u1).trans ((drewN_below _ u2).mono (Nat.le_refl _)))
            have HS13 := Lib.hid (HS12.out.below hB13)
            have HT13 := Lib.hid (HT12.out.keepW (s' := s12) (Move.of_below (F := fun _ => False) (fun _ f => f.elim) hB13) rfl rfl (fun _ _ f => f))
            have HB013 := Lib.hid (HB012.out.trans (hB13.mono HB012.out.size))
            have HHe := Lib.hid (Held_all gl LedT _ _ _ w13 HS13.out.led)
            have hPl : P.length ≤ 16384 := by
              have h1 := HT6.out.tp.len
              have h2 := need_few (room := s6.page - 10) (n := (Tape.stream rs).length) (by rw [hpg6]; omega) (few_stream HF.out)
              omega
            have HDr := Lib.hid (drop_any w.heap.size g gl gt s12 own11 _ P rs.length pv w13 HS13.out HT13.out.mem HT13.out.free HT13.out.tp.nodup HT13.out.tp.used (by omega))
            clear hw13 hB13
            go_wp2_with fail
            refine HHe.out.mono ?_
            rintro e w' ⟨rfl, rfl⟩
            go_wp2_with fail
            refine HDr.out.mono ?_
            rintro e w14 ⟨rfl, hS14, hM14, hV14⟩
            have hlv : Disk.live (freed s12 P).pages = 0 := by
              have h1 := dropped_live HG.out HT6.out.tp.used
              rw [H5.out.2.2.2] at h1
              rw [← h1]
              show Disk.live (Disk.gone s12.pages P) = Disk.live (Disk.gone s6.pages P)
              rw [HPp.out]
            have HLi := live_any g (freed s12 P) own11 w14 hS14.disk
            rw [hlv] at HLi
            have HLi := Lib.hid HLi
            have HFin : Hid (Below w.heap.size w w14) := HB013.out.trans (HS13.out.mbelow hV14 (fun b hb => (HT13.out.free b hb).1))
            clear hS14 hM14 hV14 hlv HDr HHe
            go_wp2_with fail
            refine HLi.out.mono ?_
            rintro e w' ⟨rfl, rfl⟩
            go_wp2_with fail
            go_ret
            exact ⟨rfl, HFin.out⟩
        · have dE : ((E : Int) != 0) = true := by rw [bne_iff_ne]; omega
          obtain ⟨rfl, hMv, hGo⟩ := hM.bad hE
          have hE2 : E = 16 ∨ E = 17 := by rcases hM.err with h | h | h <;> omega
          have HB06 := Lib.hid (HB05.out.trans (HS5.out.mbelow hMv (fun _ f => f.elim)))
          have HS6 := Lib.hid hsys
          have hlv : Disk.live s6.pages = 0 := by have h1 := hGo.live; have h2 := H5.out.2.2.2; simp at h1; omega
          have HLV := Lib.hid hlv
          clear hM hMv hGo hsys HCM hlv
          go_wp2_with fail
          refine HPn.out.mono ?_
          rintro e w7 ⟨rfl, own7, hS7, hV7⟩
          have HFin := Lib.hid (HB06.out.trans (HS6.out.mbelow (hV7 (fun _ => False) (fun _ f => f.elim)) (fun _ f => f.elim)))
          have HLi := live_any g _ own7 w7 hS7.disk
          rw [show Disk.live ({ s6 with begun := s6.ops, plan := planOf [] } : Disk.St).pages = 0 from HLV.out] at HLi
          have HLi := Lib.hid HLi
          have HHe := Lib.hid (Held_all gl LedT _ _ _ w7 hS7.led)
          clear hS7 hV7 HPn
          rcases hE2 with rfl | rfl
          · go_wp2_with fail
            refine HLi.out.mono ?_
            rintro e w' ⟨rfl, rfl⟩
            go_wp2_with fail
            refine HHe.out.mono ?_
            rintro e w' ⟨rfl, rfl⟩
            go_wp2_with fail
            go_ret
            exact ⟨rfl, HFin.out⟩
          · go_wp2_with fail
            refine HLi.out.mono ?_
            rintro e w' ⟨rfl, rfl⟩
            go_wp2_with fail
            refine HHe.out.mono ?_
            rintro e w' ⟨rfl, rfl⟩
            go_wp2_with fail
            go_ret
            exact ⟨rfl, HFin.out⟩
      · go_wp2_with fail
        go_ret
        exact ⟨rfl, HB1.out⟩
    · go_wp2_with fail
      go_ret
      exact ⟨rfl, HB1.out⟩
  · have hff : fewB rs = false := by simpa using hfew
    rw [hff]
    clear hfew hff
    go_wp2_with fail
    go_ret
    exact ⟨rfl, HB1.out⟩
end Go.Proofs.YtbkiahnljklhpaaDoor
