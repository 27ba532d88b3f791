/- THE WALK OF TapeTwo. -/
import Derived.Test.YtlfjffpbofigmaaDoorTapeCommon
import Derived.Test.YtlfjffpbofigmaaDoorTapeBoth
namespace Go.Proofs.YtlfjffpbofigmaaDoor
open Go.RowKit
open Seal
set_option maxRecDepth 100000 in
set_option maxHeartbeats 8000000 in
theorem two_law (a : Option Addr) (len cap : Nat) (rs : List (List Nat)) (a2 : Option Addr) (len2 cap2 : Nat) (qs : List (List Nat)) (st : Nat) (w : World) (hn : rs.length = len) (hlc : len ≤ cap) (hcm : cap ≤ 9223372036854775807) (hR : RowsIn w a rs fun b => b < w.heap.size) (hlen : ∀ i, i < rs.length → (rs.getD i []).length ≤ 140737488355328) (hn2 : qs.length = len2) (hlc2 : len2 ≤ cap2) (hcm2 : cap2 ≤ 9223372036854775807) (hR2 : RowsIn w a2 qs fun b => b < w.heap.size) (hlen2 : ∀ i, i < qs.length → (qs.getD i []).length ≤ 140737488355328) (hst : st < 256)
    (ht : Tab w) (hr : Bruijn w) (t0 : 0 < w.heap.size) (b0 : 1 < w.heap.size) :
    Calls Tryd.prog 4 #[.slice a len cap, .slice a2 len2 cap2, .int .u8 (st : Int)] w fun e w' => e = .returned (.bool true) ∧ Below w.heap.size w w' := by

  have CA := Lib.hid (awake_any w ht hr t0 b0)
  have HTab := Lib.hid ht
  have HBr := Lib.hid hr

  have HN := Lib.hid hn
  have HR := Lib.hid hR
  have HLEN := Lib.hid hlen

  have HN2 := Lib.hid hn2
  have HR2 := Lib.hid hR2
  have HLEN2 := Lib.hid hlen2
  clear ht hr hn hR hlen hn2 hR2 hlen2
  go_enter Tryd.func4, Tryd.ntmps4
  go_wp2_with fail
  refine CA.out.mono ?_
  rintro e w1 ⟨rfl, hB1⟩
  have HB1 := Lib.hid hB1
  have HR1 := Lib.hid (HR.out.later0 hB1)
  have HR21 := Lib.hid (HR2.out.later0 hB1)
  clear hB1 CA
  go_wp2_with fail
  refine (few_any a len cap rs w1 _ HN.out (by omega) HR1.out HLEN.out).mono ?_
  rintro e w' ⟨rfl, rfl⟩
  by_cases hfew : fewB rs = true
  · rw [hfew]
    have HF := Lib.hid (few_true hfew)
    clear hfew
    go_wp2_with fail
    refine (few_any a2 len2 cap2 qs w1 _ HN2.out (by omega) HR21.out HLEN2.out).mono ?_
    rintro e w' ⟨rfl, rfl⟩
    by_cases hfew : fewB qs = true
    · rw [hfew]
      have HF2 := Lib.hid (few_true hfew)
      clear hfew
      go_wp2_with fail
      have hB1 := HB1.out
      have C1 := new_ok 64 500 w1 (by decide) (by omega)
      rw [show ((64 : Nat) : Int) = 64 from rfl, show ((500 : Nat) : Int) = 500 from rfl] at C1
      have HC1 := Lib.hid C1
      clear C1 hB1
      go_wp2_with fail
      refine HC1.out.mono ?_
      rintro e w2 ⟨rfl, hD2, hB2, hz2⟩
      have hB01 := HB1.out
      have hS3 := sys_new (B := w.heap.size) hB01.size hD2 hB2 hz2 (HTab.out.below hB01 t0) (HBr.out.below hB01 b0) t0 b0 1000
      obtain ⟨w3, hw3⟩ : ∃ w3, w3 = w2.alloc (.cells #[.int .i64 (near 1000), .int .i64 0, .int .i64 0] LedT) := ⟨_, rfl⟩
      obtain ⟨gl, hgl⟩ : ∃ gl, gl = w2.heap.size := ⟨_, rfl⟩
      obtain ⟨g, hg⟩ : ∃ g, g = w1.heap.size + 1 := ⟨_, rfl⟩
      generalize newOwn w1.heap.size = own0 at *
      have hC2 := New_all 1000 w2
      rw [← hgl, ← hw3] at hC2
      rw [← hw3, ← hgl, ← hg] at hS3
      have HS3 := Lib.hid hS3
      have HC2 := Lib.hid hC2
      have HB03 : Hid (Below w.heap.size w w3) := by
        rw [hw3]
        exact (hB01.trans (hB2.mono hB01.size)).alloc (Nat.le_trans hB01.size hB2.size) _
      rw [← hg]
      clear hD2 hB2 hz2 HC1 hw3 hgl hg hS3 hC2 hB01
      go_wp2_with fail
      refine HC2.out.mono ?_
      rintro e w' ⟨rfl, hw'⟩
      subst hw'
      clear HC2

      have HRW := Lib.hid (HR.out.later rfl HB03.out HS3.out)
      have HRW2 := Lib.hid (HR2.out.later rfl HB03.out HS3.out)
      have HT2 : Hid (TwoOk (new 64 500) rs qs) := ⟨rfl, rfl, rfl, calm_new _ _, HF.out, HF2.out⟩
      have HCC := Lib.hid (create_any w.heap.size g gl (new 64 500) own0 (near 1000, 0, 0) w' HS3.out)
      go_wp2_with fail
      refine HCC.out.mono ?_
      rintro e w4 ⟨g1, rfl, hC1⟩
      have HC1' := Lib.hid hC1
      have HCC2 := Lib.hid (create_any w.heap.size g gl (new 64 500) own0 _ w4 hC1.sys)
      clear hC1 HCC
      unfold ptr
      go_wp2_with fail
      refine HCC2.out.mono ?_
      rintro e w5 ⟨g2, rfl, hC2⟩
      obtain ⟨LL, hLL, h2⟩ : ∃ LL : Int × Int × Int, LL.2.1 = 128 ∧ Two w.heap.size g gl g1 g2 w' w5 (new 64 500) (new 64 500) own0 own0 LL rs qs 0 0 [] [] (.slice none 0 0) (.slice none 0 0) (.slice none 0 0) (.slice none 0 0) := ⟨_, rfl, Two.start HC1'.out hC2 (by decide) (by decide) rfl⟩
      have hld := h2.sys.led
      rw [hLL] at hld
      have HHe := Lib.hid (Held_all gl LedT _ _ _ w5 hld)
      have HLL := Lib.hid hLL
      have HI0 := Lib.hid h2
      obtain ⟨M, hM⟩ : ∃ M, M = if len < len2 then len2 else len := ⟨_, rfl⟩
      have hM1 : len ≤ M ∧ len2 ≤ M ∧ (M = len ∨ M = len2) := by rw [hM]; split <;> omega
      have hMi : (if len < len2 then (len2 : Int) else (len : Int)) = (M : Int) := by rw [hM]; split <;> rfl
      clear hC2 hLL h2 hld HCC2 HC1' hM
      unfold ptr
      go_wp2_with fail
      refine HHe.out.mono ?_
      rintro e w'' ⟨rfl, rfl⟩
      clear HHe
      go_wp2_with fail
      go_loopw [12] (fun iv wr => ∃ (i k m : Nat) (s : Disk.St) (own : Nat → Nat) (P Q : List Nat) (pv dv pv2 dv2 : Value), i ≤ M ∧ ((i ≤ len ∧ k = i ∨ len ≤ i ∧ k = len) ∧ (i ≤ len2 ∧ m = i ∨ len2 ≤ i ∧ m = len2)) ∧ iv = .int .i64 (i : Int) ∧ Hid (Two w.heap.size g gl g1 g2 w' wr (new 64 500) s own0 own LL rs qs k m P Q pv dv pv2 dv2)) (fun iv _ => M - (intOf iv).toNat)
      case atStart => exact ⟨0, 0, 0, _, own0, _, _, _, _, _, _, Nat.zero_le _, ⟨.inl ⟨by omega, rfl⟩, .inl ⟨by omega, rfl⟩⟩, rfl, HI0⟩
      case round =>
        obtain ⟨i, k, m, s, own, P, Q, pv, dv, pv2, dv2, hiM, hkm, rfl, hI⟩ := hrel
        have HI := hI
        clear hI HI0
        by_cases h1 : i < len
        · obtain rfl : k = i := by omega
          have hI1 := HI.out
          obtain ⟨b, off, ai, ci, e, hcell, hcall⟩ := hI1.addCall HT2.out (by rw [HN.out]; exact h1) (by rw [HN2.out]; omega) HRW.out
          subst e
          have HCA := Lib.hid hcall
          obtain ⟨rl, hrl⟩ : ∃ rl, rl = (rs.getD k []).length := ⟨_, rfl⟩
          rw [← hrl] at HCA hcell
          clear hI1 hcall hrl
          by_cases h2 : k < len2
          · obtain rfl : m = k := by omega
            go_wp2_with fail
            refine HCA.out.mono ?_
            rintro e w6 ⟨rfl, s6, own6, P6, pv6, dv6, hI6⟩
            clear HCA hcell HI
            obtain ⟨b2, off2, ai2, ci2, e, hcell2, hcall2⟩ := hI6.swap.addCall HT2.out.swap (by rw [HN2.out]; exact h2) (by rw [HN.out]; omega) HRW2.out
            subst e
            have HCA2 := Lib.hid hcall2
            obtain ⟨rl2, hrl2⟩ : ∃ rl2, rl2 = (qs.getD m []).length := ⟨_, rfl⟩
            rw [← hrl2] at HCA2 hcell2
            clear hI6 hcall2 hrl2
            go_wp2_with fail
            refine HCA2.out.mono ?_
            rintro e w7 ⟨rfl, s7, own7, Q7, pv7, dv7, hI7⟩
            have HI7 := Lib.hid hI7.swap
            clear hI7 HCA2 hcell2
            go_wp2_with fail
            go_roundw
            case rel => exact ⟨m + 1, m + 1, m + 1, s7, own7, P6, Q7, pv6, dv6, pv7, dv7, by omega, ⟨.inl ⟨by omega, rfl⟩, .inl ⟨by omega, rfl⟩⟩, by go_num, HI7⟩
            case measure => simp [intOf]; omega
          · obtain rfl : m = len2 := by omega
            go_wp2_with fail
            refine HCA.out.mono ?_
            rintro e w6 ⟨rfl, s6, own6, P6, pv6, dv6, hI6⟩
            have HI6 := Lib.hid hI6
            clear HCA hcell HI hI6
            go_wp2_with fail
            go_roundw
            case rel => exact ⟨k + 1, k + 1, m, s6, own6, P6, Q, pv6, dv6, pv2, dv2, by omega, ⟨.inl ⟨by omega, rfl⟩, .inr ⟨by omega, rfl⟩⟩, by go_num, HI6⟩
            case measure => simp [intOf]; omega
        · obtain rfl : k = len := by omega
          by_cases h2 : i < len2
          · obtain rfl : m = i := by omega
            have hI1 := HI.out
            obtain ⟨b2, off2, ai2, ci2, e, hcell2, hcall2⟩ := hI1.swap.addCall HT2.out.swap (by rw [HN2.out]; exact h2) (by rw [HN.out]; omega) HRW2.out
            subst e
            have HCA2 := Lib.hid hcall2
            obtain ⟨rl2, hrl2⟩ : ∃ rl2, rl2 = (qs.getD m []).length := ⟨_, rfl⟩
            rw [← hrl2] at HCA2 hcell2
            clear hI1 hcall2 hrl2 HI
            go_wp2_with fail
            refine HCA2.out.mono ?_
            rintro e w7 ⟨rfl, s7, own7, Q7, pv7, dv7, hI7⟩
            have HI7 := Lib.hid hI7.swap
            clear hI7 HCA2 hcell2
            go_wp2_with fail
            go_roundw
            case rel => exact ⟨m + 1, k, m + 1, s7, own7, P, Q7, pv, dv, pv7, dv7, by omega, ⟨.inr ⟨by omega, rfl⟩, .inl ⟨by omega, rfl⟩⟩, by go_num, HI7⟩
            case measure => simp [intOf]; omega
          · obtain rfl : m = len2 := by omega
            have hiM' : i = M := by omega
            have hI1 := HI.out
            rw [← HN.out, ← HN2.out] at hI1
            have HC1 := Lib.hid (hI1.closeCall HT2.out (Nat.le_refl _))
            have HPG := Lib.hid (hI1.same.page)
            clear hI1 HI
            go_wp2_with fail
            refine HC1.out.mono ?_
            rintro e w6 ⟨gt, s6, rfl, hM6⟩
            have HC2 := Lib.hid (hM6.closeCall HT2.out HS3.out)
            have hpg6 : s6.page = 64 := hM6.same.page
            clear hM6 HC1
            unfold ptr
            go_wp2_with fail
            refine HC2.out.mono ?_
            rintro e w7 ⟨gu, s7, rfl, hops7, hB7⟩
            obtain ⟨L7, hL7, hBt⟩ : ∃ L7 : Int × Int × Int, L7.2.1 = 0 ∧ Both w.heap.size g gl gt gu w' w7 (new 64 500) s7 own0 own L7 rs qs P Q pv pv2 := by
              refine ⟨_, ?_, hB7⟩
              show gvH (gvH LL.2.1 s.page) s6.page = 0
              rw [HLL.out, HPG.out, hpg6]
              decide
            have hBw : w.heap.size ≤ w'.heap.size := HS3.out.size
            have HCO := Lib.hid (hBt.openCall hBw hL7 hBt.same.page hops7)
            clear hB7 hL7 hBt HC2 hops7 hpg6
            unfold ptr
            go_wp2_with fail
            refine HCO.out.mono ?_
            rintro e w8 ⟨gr, pa, L8, rfl, hL8, hX⟩
            have HL8 := Lib.hid hL8
            have HX0 := Lib.hid hX
            clear hL8 hX HCO
            obtain ⟨sm, hsm⟩ : ∃ sm, sm = st % 5 := ⟨_, rfl⟩
            have n1 : (st : Int).tmod 5 = (sm : Int) := by rw [Int.tmod_eq_emod_of_nonneg (by omega)]; omega
            have n2 : (st : Int) % 5 = (sm : Int) := by omega
            have hsm5 : sm < 5 := by omega
            clear hsm
            unfold ptr
            go_wp2_with fail
            go_loopw [18] (fun iv wr => ∃ (x : Nat) (s : Disk.St) (j : Nat) (pa da : Option Addr), x ≤ sm ∧ x ≤ k ∧ iv = .int .i64 (x : Int) ∧ Hid (Rdx w.heap.size g gl gt gu gr w' wr (new 64 500) s own0 own L8 rs qs x P Q pv pv2 j pa da)) (fun iv _ => 5 - (intOf iv).toNat)
            case atStart => exact ⟨0, _, _, _, _, Nat.zero_le _, Nat.zero_le _, rfl, HX0⟩
            case round =>
              obtain ⟨x, s8, j, pa, da, hxs, hxk, rfl, hX⟩ := hrel
              have HX := hX
              clear hX HX0
              by_cases hgo : x < sm ∧ x < k
              · obtain ⟨hg1, hg2⟩ := hgo
                have HC := Lib.hid (HX.out.nextCall hBw HT2.out (by rw [HN.out]; exact hg2))
                have hxi : (x : Int) < (sm : Int) := by omega
                have hxi2 : (x : Int) < (k : Int) := by omega
                clear HX
                go_wp2_with fail
                refine HC.out.mono ?_
                rintro e w9 ⟨ra, rc, s9, j9, pa9, da9, rfl, hrc, hsl, hX9⟩
                have HX9 := Lib.hid hX9
                obtain ⟨b, off, ai, ci, e, h1, h2, h3, h4, h5, _⟩ := (hX9.both.still.rows HRW.out).at_ (i := x) (by rw [HN.out]; exact hg2)
                subst e
                have hc1 := fun y : Nat => conv_str (w9.drewN y) ra _ rc (rs.getD x []) rfl (hsl.drewN y)
                have hc2 := fun y : Nat => conv_str (w9.drewN y) ai _ ci (rs.getD x []) rfl (h4.drewN y)
                obtain ⟨r1, hr1⟩ : ∃ r1, r1 = rs.getD x [] := ⟨_, rfl⟩
                rw [← hr1] at h1 hc1 hc2 ⊢
                clear h2 h3 h4 h5 hr1 hsl hrc hX9 HC
                go_wp2_with fail
                go_quiet (fail)
                have HX10 := Lib.hid (HX9.out.below hBw (drewN_below w9 nq))
                clear hc1 hc2 HX9 h1
                go_wp2_with fail
                exact ⟨⟨x + 1, s9, j9, pa9, da9, by omega, by omega, by go_num, HX10⟩, by simp [intOf]; omega⟩
              · have HC := Lib.hid (HX.out.closeCall hBw HL8.out HX.out.both.same.page)
                have hops8 : s8.ops ≤ 30000000 := by
                  have h1 := HX.out.ops
                  have h2 := stream_take_le rs x
                  have h3 := few_stream HF.out
                  omega
                clear HX
                by_cases hxs2 : x < sm
                · have hxk2 : ¬ (x : Int) < (k : Int) := by omega
                  have hxi : (x : Int) < (sm : Int) := by omega
                  go_wp2_with fail
                  refine HC.out.mono ?_
                  rintro e w9 ⟨rfl, L9, hL9, hB9⟩
                  have HRd := Lib.hid (hB9.readCall hBw HT2.out hL9 (by omega))
                  clear hL9 hB9 HC
                  go_wp2_with fail
                  refine HRd.out.mono ?_
                  rintro e w10 ⟨oa, oc, s10, L10, rfl, hoc, hrows, hops10, hL10, hB10, _⟩
                  have HRd2 := Lib.hid (hB10.swap.readCall hBw HT2.out.swap hL10 (by omega))
                  have HRows := Lib.hid hrows
                  clear hL10 hB10 HRd hrows
                  go_wp2_with fail
                  refine HRd2.out.mono ?_
                  rintro e w11 ⟨oa2, oc2, s11, L11, rfl, hoc2, hrows2, hops11, hL11, hB11, hst11⟩
                  have HRows1 : Hid (RowsIn w11 oa rs fun b => own b = 0 ∧ b ≠ gl) := HRows.out.keep (fun b hb ho => hst11 b hb ho.1 ho.2) (fun _ _ h => h)
                  have HRows2 := Lib.hid hrows2
                  have HB11 := Lib.hid hB11.swap
                  have HL11 := Lib.hid hL11
                  have HRA := Lib.hid (hB11.still.rows HRW.out)
                  have HRB := Lib.hid (hB11.still.rows HRW2.out)
                  rw [HN.out] at hoc ⊢
                  rw [HN2.out] at hoc2 ⊢
                  clear hrows2 hB11 hL11 hst11 HRows HRd2
                  go_wp2_with fail
                  refine (same_any oa _ k k oc cap rs rs w11 _ _ HN.out HN.out (by omega) (by omega) HRows1.out HRA.out).mono ?_
                  rintro e w'' ⟨rfl, u1, rfl⟩
                  rw [decide_eq_true (rfl : rs = rs)]
                  go_wp2_with fail
                  refine (same_any oa2 _ m m oc2 cap2 qs qs (w11.drewN u1) _ _ HN2.out HN2.out (by omega) (by omega) (HRows2.out.keep (fun _ _ _ => rfl) (fun _ _ h => h)) (HRB.out.keep (fun _ _ _ => rfl) (fun _ _ h => h))).mono ?_
                  rintro e w'' ⟨rfl, u2, rfl⟩
                  rw [decide_eq_true (rfl : qs = qs), World.drewN_drewN]
                  obtain ⟨w12, hw12⟩ : ∃ w12, w12 = w11.drewN (u1 + u2) := ⟨_, rfl⟩
                  rw [← hw12]
                  have hB12 := HB11.out.below hBw (by rw [hw12]; exact drewN_below w11 _ : Below w11.heap.size w11 w12)
                  have hld := hB12.sys.led
                  rw [HL11.out] at hld
                  have HHe := Lib.hid (Held_all gl LedT _ _ _ w12 hld)
                  have hPl : P.length ≤ 16384 := by
                    have h1 := hB12.t.tp.len
                    have h2 := need_few (room := s11.page - 10) (n := (Tape.stream rs).length) (by rw [hB12.same.page]; show 54 ≤ 64 - 10; omega) (few_stream HF.out)
                    omega
                  have hQl : Q.length ≤ 16384 := by
                    have h1 := hB12.u.tp.len
                    have h2 := need_few (room := s11.page - 10) (n := (Tape.stream qs).length) (by rw [hB12.same.page]; show 54 ≤ 64 - 10; omega) (few_stream HF2.out)
                    omega
                  have HDr := Lib.hid (drop_any w.heap.size g gl gt s11 own _ P rs.length pv w12 hB12.sys hB12.t.mem hB12.t.free hB12.t.tp.nodup hB12.t.tp.used (by omega))
                  have HB12 := Lib.hid hB12
                  clear hw12 hB12 hld
                  go_wp2_with fail
                  refine HHe.out.mono ?_
                  rintro e w'' ⟨rfl, rfl⟩
                  go_wp2_with fail
                  refine HDr.out.mono ?_
                  rintro e w13 ⟨rfl, hS13, hM13, hV13⟩
                  have hlv : Disk.live (freed s11 P).pages = Q.length := by
                    have h1 := Disk.live_gone s11.pages P HB12.out.t.tp.nodup HB12.out.t.tp.used
                    have h2 := HB12.out.live
                    show Disk.live (Disk.gone s11.pages P) = _
                    omega
                  have HLi := live_any g (freed s11 P) own w13 hS13.disk
                  rw [hlv] at HLi
                  have HLi := Lib.hid HLi
                  have hTu : TpMem w13 gu g Q qs.length false pv2 := HB12.out.u.mem.keep fun b hb => by
                    obtain ⟨_, e2, e3, e4⟩ := HB12.out.u.free b hb
                    exact hV13.same e4 e2 e3 (fun f => HB12.out.apart b f hb)
                  have HCP := Lib.hid (pages_any gu g Q qs.length false pv2 w13 hTu hQl)
                  have HFin : Hid (Below w.heap.size w w13) := HB03.out.trans (HB12.out.still.below.trans (HB12.out.sys.mbelow hV13 (fun b hb => (HB12.out.t.free b hb).1)))
                  clear hS13 hM13 hV13 hlv hTu HDr HHe
                  go_wp2_with fail
                  refine HLi.out.mono ?_
                  rintro e w'' ⟨rfl, rfl⟩
                  go_wp2_with fail
                  refine HCP.out.mono ?_
                  rintro e w14 ⟨pv14, rfl, hrow14, hB14, _⟩
                  obtain ⟨pa14, pc14, hpv14, _⟩ := ints_of_row hrow14
                  subst hpv14
                  have hfin : Below w.heap.size w w14 := HFin.out.trans (hB14.mono HFin.out.size)
                  clear hrow14 hB14
                  go_wp2_with fail
                  go_ret
                  exact ⟨rfl, hfin⟩
                · have hxi : ¬ (x : Int) < (sm : Int) := by omega
                  go_wp2_with fail
                  refine HC.out.mono ?_
                  rintro e w9 ⟨rfl, L9, hL9, hB9⟩
                  have HRd := Lib.hid (hB9.readCall hBw HT2.out hL9 (by omega))
                  clear hL9 hB9 HC
                  go_wp2_with fail
                  refine HRd.out.mono ?_
                  rintro e w10 ⟨oa, oc, s10, L10, rfl, hoc, hrows, hops10, hL10, hB10, _⟩
                  have HRd2 := Lib.hid (hB10.swap.readCall hBw HT2.out.swap hL10 (by omega))
                  have HRows := Lib.hid hrows
                  clear hL10 hB10 HRd hrows
                  go_wp2_with fail
                  refine HRd2.out.mono ?_
                  rintro e w11 ⟨oa2, oc2, s11, L11, rfl, hoc2, hrows2, hops11, hL11, hB11, hst11⟩
                  have HRows1 : Hid (RowsIn w11 oa rs fun b => own b = 0 ∧ b ≠ gl) := HRows.out.keep (fun b hb ho => hst11 b hb ho.1 ho.2) (fun _ _ h => h)
                  have HRows2 := Lib.hid hrows2
                  have HB11 := Lib.hid hB11.swap
                  have HL11 := Lib.hid hL11
                  have HRA := Lib.hid (hB11.still.rows HRW.out)
                  have HRB := Lib.hid (hB11.still.rows HRW2.out)
                  rw [HN.out] at hoc ⊢
                  rw [HN2.out] at hoc2 ⊢
                  clear hrows2 hB11 hL11 hst11 HRows HRd2
                  go_wp2_with fail
                  refine (same_any oa _ k k oc cap rs rs w11 _ _ HN.out HN.out (by omega) (by omega) HRows1.out HRA.out).mono ?_
                  rintro e w'' ⟨rfl, u1, rfl⟩
                  rw [decide_eq_true (rfl : rs = rs)]
                  go_wp2_with fail
                  refine (same_any oa2 _ m m oc2 cap2 qs qs (w11.drewN u1) _ _ HN2.out HN2.out (by omega) (by omega) (HRows2.out.keep (fun _ _ _ => rfl) (fun _ _ h => h)) (HRB.out.keep (fun _ _ _ => rfl) (fun _ _ h => h))).mono ?_
                  rintro e w'' ⟨rfl, u2, rfl⟩
                  rw [decide_eq_true (rfl : qs = qs), World.drewN_drewN]
                  obtain ⟨w12, hw12⟩ : ∃ w12, w12 = w11.drewN (u1 + u2) := ⟨_, rfl⟩
                  rw [← hw12]
                  have hB12 := HB11.out.below hBw (by rw [hw12]; exact drewN_below w11 _ : Below w11.heap.size w11 w12)
                  have hld := hB12.sys.led
                  rw [HL11.out] at hld
                  have HHe := Lib.hid (Held_all gl LedT _ _ _ w12 hld)
                  have hPl : P.length ≤ 16384 := by
                    have h1 := hB12.t.tp.len
                    have h2 := need_few (room := s11.page - 10) (n := (Tape.stream rs).length) (by rw [hB12.same.page]; show 54 ≤ 64 - 10; omega) (few_stream HF.out)
                    omega
                  have hQl : Q.length ≤ 16384 := by
                    have h1 := hB12.u.tp.len
                    have h2 := need_few (room := s11.page - 10) (n := (Tape.stream qs).length) (by rw [hB12.same.page]; show 54 ≤ 64 - 10; omega) (few_stream HF2.out)
                    omega
                  have HDr := Lib.hid (drop_any w.heap.size g gl gt s11 own _ P rs.length pv w12 hB12.sys hB12.t.mem hB12.t.free hB12.t.tp.nodup hB12.t.tp.used (by omega))
                  have HB12 := Lib.hid hB12
                  clear hw12 hB12 hld
                  go_wp2_with fail
                  refine HHe.out.mono ?_
                  rintro e w'' ⟨rfl, rfl⟩
                  go_wp2_with fail
                  refine HDr.out.mono ?_
                  rintro e w13 ⟨rfl, hS13, hM13, hV13⟩
                  have hlv : Disk.live (freed s11 P).pages = Q.length := by
                    have h1 := Disk.live_gone s11.pages P HB12.out.t.tp.nodup HB12.out.t.tp.used
                    have h2 := HB12.out.live
                    show Disk.live (Disk.gone s11.pages P) = _
                    omega
                  have HLi := live_any g (freed s11 P) own w13 hS13.disk
                  rw [hlv] at HLi
                  have HLi := Lib.hid HLi
                  have hTu : TpMem w13 gu g Q qs.length false pv2 := HB12.out.u.mem.keep fun b hb => by
                    obtain ⟨_, e2, e3, e4⟩ := HB12.out.u.free b hb
                    exact hV13.same e4 e2 e3 (fun f => HB12.out.apart b f hb)
                  have HCP := Lib.hid (pages_any gu g Q qs.length false pv2 w13 hTu hQl)
                  have HFin : Hid (Below w.heap.size w w13) := HB03.out.trans (HB12.out.still.below.trans (HB12.out.sys.mbelow hV13 (fun b hb => (HB12.out.t.free b hb).1)))
                  clear hS13 hM13 hV13 hlv hTu HDr HHe
                  go_wp2_with fail
                  refine HLi.out.mono ?_
                  rintro e w'' ⟨rfl, rfl⟩
                  go_wp2_with fail
                  refine HCP.out.mono ?_
                  rintro e w14 ⟨pv14, rfl, hrow14, hB14, _⟩
                  obtain ⟨pa14, pc14, hpv14, _⟩ := ints_of_row hrow14
                  subst hpv14
                  have hfin : Below w.heap.size w w14 := HFin.out.trans (hB14.mono HFin.out.size)
                  clear hrow14 hB14
                  go_wp2_with fail
                  go_ret
                  exact ⟨rfl, hfin⟩
    · have hff : fewB qs = false := by simpa using hfew
      rw [hff]
      clear hfew hff
      go_wp2_with fail
      go_ret
      exact ⟨rfl, HB1.out⟩
  · have hff : fewB rs = false := by simpa using hfew
    rw [hff]
    clear hfew hff
    go_wp2_with fail
    go_ret
    exact ⟨rfl, HB1.out⟩
end Go.Proofs.YtlfjffpbofigmaaDoor
