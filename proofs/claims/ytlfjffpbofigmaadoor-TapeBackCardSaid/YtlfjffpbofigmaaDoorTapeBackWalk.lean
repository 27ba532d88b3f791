/- THE WALK OF TapeBack. -/
import Derived.Test.YtlfjffpbofigmaaDoorTapeCommon
namespace Go.Proofs.YtlfjffpbofigmaaDoor
open Go.RowKit
open Seal
set_option maxRecDepth 100000 in
set_option maxHeartbeats 8000000 in
theorem back_law (pg : Nat) (a : Option Addr) (len cap : Nat) (rs : List (List Nat)) (w : World) (hpg : pg < 256) (hn : rs.length = len) (hlc : len ≤ cap) (hcm : cap ≤ 9223372036854775807) (hR : RowsIn w a rs fun b => b < w.heap.size) (hlen : ∀ i, i < rs.length → (rs.getD i []).length ≤ 140737488355328)
    (ht : Tab w) (hr : Bruijn w) (t0 : 0 < w.heap.size) (b0 : 1 < w.heap.size) :
    Calls Tryd.prog 3 #[.int .u8 (pg : Int), .slice a len cap] w fun e w' => e = .returned (.bool true) ∧ Below w.heap.size w w' := by

  have CA := Lib.hid (awake_any w ht hr t0 b0)
  have HTab := Lib.hid ht
  have HBr := Lib.hid hr

  have HN := Lib.hid hn
  have HR := Lib.hid hR
  have HLEN := Lib.hid hlen
  obtain ⟨sz, hsz⟩ : ∃ sz, sz = 64 * 2 ^ (pg % 4) := ⟨_, rfl⟩
  have hpow : pg % 4 = 0 ∨ pg % 4 = 1 ∨ pg % 4 = 2 ∨ pg % 4 = 3 := by omega
  have hszok : pageOk sz = true ∧ sz ≤ 512 ∧ 64 ≤ sz := by
    rcases hpow with h | h | h | h <;> rw [h] at hsz <;> subst hsz <;> decide
  have HSZ := Lib.hid hsz
  have hshl : wrap64 (64 * 2 ^ (pg % 4)) = (sz : Int) := by
    rcases hpow with h | h | h | h <;> rw [h] at hsz ⊢ <;> subst hsz <;> (rw [← IntWalk.i64_left]; rfl)
  clear ht hr hn hR hlen hsz hpow
  go_enter Tryd.func3, Tryd.ntmps3
  go_wp2_with fail
  refine CA.out.mono ?_
  rintro e w1 ⟨rfl, hB1⟩
  have HB1 := Lib.hid hB1
  have HR1 := Lib.hid (HR.out.later0 hB1)
  clear hB1 CA
  go_wp2_with fail
  refine (few_any a len cap rs w1 _ HN.out (by omega) HR1.out HLEN.out).mono ?_
  rintro e w' ⟨rfl, rfl⟩
  by_cases hfew : fewB rs = true
  · rw [hfew]
    have HF := Lib.hid (few_true hfew)
    clear hfew
    have hB1 := HB1.out
    have C1 := new_ok sz 400 w1 hszok.1 (by omega)
    rw [show ((400 : Nat) : Int) = 400 from rfl] at C1
    have HC1 := Lib.hid C1
    clear C1 hB1
    go_wp2_with fail
    refine HC1.out.mono ?_
    rintro e w2 ⟨rfl, hD2, hB2, hz2⟩
    have hB01 := HB1.out
    have hS3 := sys_new (B := w.heap.size) hB01.size hD2 hB2 hz2 (HTab.out.below hB01 t0) (HBr.out.below hB01 b0) t0 b0 100
    obtain ⟨w3, hw3⟩ : ∃ w3, w3 = w2.alloc (.cells #[.int .i64 (near 100), .int .i64 0, .int .i64 0] LedT) := ⟨_, rfl⟩
    obtain ⟨gl, hgl⟩ : ∃ gl, gl = w2.heap.size := ⟨_, rfl⟩
    obtain ⟨g, hg⟩ : ∃ g, g = w1.heap.size + 1 := ⟨_, rfl⟩
    generalize newOwn w1.heap.size = own0 at *
    have hC2 := New_all 100 w2
    rw [← hgl, ← hw3] at hC2
    rw [← hw3, ← hgl, ← hg] at hS3
    have HS3 := Lib.hid hS3
    have HC2 := Lib.hid hC2
    have HB03 : Hid (Below w.heap.size w w3) := by
      rw [hw3]
      exact (hB01.trans (hB2.mono hB01.size)).alloc (Nat.le_trans hB01.size hB2.size) _
    rw [← hg]
    clear hD2 hB2 hz2 HC1 hw3 hgl hg hS3 hC2 hB01
    go_wp2_with fail
    refine HC2.out.mono ?_
    rintro e w' ⟨rfl, hw'⟩
    subst hw'
    clear HC2
    go_wp2_with fail

    -- the tape is made
    have HRW := Lib.hid (HR.out.later rfl HB03.out HS3.out)
    have CM := make_any w.heap.size g gl (new sz 400) own0 (near 100, 0, 0) a len cap rs w' HS3.out HN.out HRW.out (fun i hi => few_len HF.out i (by rw [HN.out]; exact hi)) (by have := HF.out.1; rw [HN.out] at this; omega) (by have h1 := few_stream HF.out; have h2 := HF.out.1; rw [HN.out] at h2; show 0 + _ + _ < _; omega)
    have HCM := Lib.hid CM
    clear CM
    go_wp2_with fail
    refine HCM.out.mono ?_
    rintro e w5 ⟨E, tv, s5, own5, rfl, hM⟩

    have hE : E = 0 := hM.calm (calm_new _ _) (by
      rw [live_new]
      have h1 := need_few (room := sz - 10) (n := (Tape.stream rs).length) (by omega) (few_stream HF.out)
      show 0 + Tape.need (sz - 10) _ ≤ 400
      omega)
    subst hE
    obtain ⟨gt, P, pv, rfl, hgt, hTp, hWh, hTm, hMv, hGr⟩ := hM.ok rfl
    have hpage : s5.page = sz := hM.same.page
    have hsys := hM.sys
    rw [show (new sz 400).page = sz from rfl, show near 100 = 100 from rfl, hold_back (by omega) (by decide) (by decide), mx_pos (show (0 : Int) < 0 + (sz : Int) by omega), Int.zero_add] at hsys
    have hops : s5.ops ≤ 2000000 := by
      have h0 := hM.ops; have h1 := few_stream HF.out; have h2 := HF.out.1
      have h3 : (new sz 400).ops = 0 := rfl
      omega
    have HS5 := Lib.hid hsys
    have HB5 := Lib.hid (HB03.out.trans (HS3.out.mbelow hMv (fun _ f => f.elim)))
    have HCalm := Lib.hid (hM.same.calm (calm_new _ _))
    have HTp := Lib.hid hTp
    have HWh := Lib.hid hWh
    have HTm := Lib.hid hTm
    have HFr := Lib.hid hMv.free
    have HGr := Lib.hid hGr
    have HPg := Lib.hid hpage
    have HR5 := Lib.hid (HR.out.later0 HB5.out)
    clear hM hTp hWh hTm hMv hGr hsys hpage hgt HCM
    unfold ptr
    go_wp2_with fail
    refine (Held_all gl LedT _ _ _ w5 HS5.out.led).mono ?_
    rintro e w' ⟨rfl, rfl⟩

    -- it is read
    have CR := readL_any w.heap.size g gl gt s5 own5 _ P rs false pv w5 HS5.out HTm.out HFr.out HTp.out (few_len HF.out) (by have := HF.out.1; omega) (by have := few_stream HF.out; omega)
    have HCR := Lib.hid CR
    clear CR
    go_wp2_with fail
    refine HCR.out.mono ?_
    rintro e w6 ⟨E, k, v6, vs6, s6, rfl, hR⟩
    have hE : E = 0 := hR.good HCalm.out HWh.out
    subst hE
    have hk : k = rs.length := hR.all rfl
    subst hk
    have hsys : Sys w.heap.size w6 g gl s6 own5 (backL (tkB 0 s5.page) s5.page ((100 : Int), tkH 0 s5.page, tkM 0 (sz : Int) s5.page)) := hR.sys
    rw [HPg.out, hold_back (by omega) (by decide) (by decide), Int.zero_add, mx_neg (by omega)] at hsys
    have hout := hR.out
    rw [List.take_length] at hout
    have hops6 : s6.ops ≤ 3000000 := by have := hR.ops; have := few_stream HF.out; omega
    have HS6 := Lib.hid hsys
    have HB6 := Lib.hid (HB5.out.trans (HS5.out.mbelow hR.move (fun _ f => f.elim)))
    have HCalm6 := Lib.hid (hR.same.calm HCalm.out)
    have HTp6 : Hid (Tape.Tp s6 P (Tape.stream rs)) := HTp.out.keep hR.same (fun _ _ => by rw [hR.pages])
    have HWh6 : Hid (Tape.Whole s6 P (Tape.stream rs)) := HWh.out.keep hR.same.page (fun _ _ => by rw [hR.pages])
    have HTm6 : Hid (TpMem w6 gt g P rs.length false pv) := HTm.out.keep fun b hb => by
      obtain ⟨_, h2, h3, h4⟩ := HFr.out b hb
      exact hR.move.same h4 h2 h3 (fun f => f)
    have HFr6 : Hid (Free w.heap.size gl w6 own5 (TFoot gt pv)) := Free.size HFr.out hR.move.touch.size
    have HPg6 : Hid (s6.page = sz) := hR.same.page.trans HPg.out
    have HPp6 : Hid (s6.pages = s5.pages) := hR.pages
    have HOut6 := Lib.hid hout

    clear hR hsys hout HCR

    -- it is read
    have CR := readL_any w.heap.size g gl gt s6 own5 _ P rs false pv w6 HS6.out HTm6.out HFr6.out HTp6.out (few_len HF.out) (by have := HF.out.1; omega) (by have := few_stream HF.out; omega)
    have HCR := Lib.hid CR
    clear CR
    go_wp2_with fail
    refine HCR.out.mono ?_
    rintro e w7 ⟨E, k, v7, vs7, s7, rfl, hR⟩
    have hE : E = 0 := hR.good HCalm6.out HWh6.out
    subst hE
    have hk : k = rs.length := hR.all rfl
    subst hk
    have hsys : Sys w.heap.size w7 g gl s7 own5 (backL (tkB 0 s6.page) s6.page ((100 : Int), tkH 0 s6.page, tkM 0 (sz : Int) s6.page)) := hR.sys
    rw [HPg6.out, hold_back (by omega) (by decide) (by decide), Int.zero_add, mx_neg (by omega)] at hsys
    have hout := hR.out
    rw [List.take_length] at hout
    have hops7 : s7.ops ≤ 4000000 := by have := hR.ops; have := few_stream HF.out; omega
    have HS7 := Lib.hid hsys
    have HB7 := Lib.hid (HB6.out.trans (HS6.out.mbelow hR.move (fun _ f => f.elim)))
    have HCalm7 := Lib.hid (hR.same.calm HCalm6.out)
    have HTp7 : Hid (Tape.Tp s7 P (Tape.stream rs)) := HTp6.out.keep hR.same (fun _ _ => by rw [hR.pages])
    have HWh7 : Hid (Tape.Whole s7 P (Tape.stream rs)) := HWh6.out.keep hR.same.page (fun _ _ => by rw [hR.pages])
    have HTm7 : Hid (TpMem w7 gt g P rs.length false pv) := HTm6.out.keep fun b hb => by
      obtain ⟨_, h2, h3, h4⟩ := HFr6.out b hb
      exact hR.move.same h4 h2 h3 (fun f => f)
    have HFr7 : Hid (Free w.heap.size gl w7 own5 (TFoot gt pv)) := Free.size HFr6.out hR.move.touch.size
    have HPg7 : Hid (s7.page = sz) := hR.same.page.trans HPg6.out
    have HPp7 : Hid (s7.pages = s6.pages) := hR.pages
    have HOut7 := Lib.hid hout

    have HOut6 : Hid (OutRows w7 w5.heap.size v6 rs vs6) := HOut6.out.keep fun b hb hlt _ => hR.move.same hlt (HS5.out.disk.fresh b hb) (by have := HS5.out.led.lt; omega) (fun f => f)

    clear hR hsys hout HCR

    have hPl16 : P.length ≤ 16384 := by
      have h1 := HTp.out.len
      have h2 := need_few (room := s5.page - 10) (n := (Tape.stream rs).length) (by rw [HPg.out]; omega) (few_stream HF.out)
      omega
    have HCP := Lib.hid (pages_any gt g P rs.length false pv w7 HTm7.out hPl16)
    obtain ⟨oa6, oc6, hv6, hoc6, hoc6m, hrows6⟩ := HOut6.out.rows
    obtain ⟨oa7, oc7, hv7, hoc7, hoc7m, hrows7⟩ := HOut7.out.rows
    subst hv6
    subst hv7
    have HRows6 := Lib.hid hrows6
    have HRows7 := Lib.hid hrows7
    clear hrows6 hrows7
    go_wp2_with fail
    refine HCP.out.mono ?_
    rintro e w8 ⟨pv8, rfl, hrow8, hB8, _⟩
    obtain ⟨pa8, pc8, hpv8, _⟩ := ints_of_row hrow8
    subst hpv8
    have HB8 := Lib.hid hB8
    have HS8 := Lib.hid (HS7.out.below hB8)
    have HTm8 := Lib.hid (HTm7.out.below hB8)
    have HX := Lib.hid (hB8.block)
    have HRows6' : Hid (RowsIn w8 oa6 rs fun b => w5.heap.size ≤ b ∧ b < w7.heap.size) := HRows6.out.keep (fun b hlt _ => hB8.block b hlt) (fun _ _ h => h)
    have HRows7' : Hid (RowsIn w8 oa7 rs fun b => w6.heap.size ≤ b ∧ b < w7.heap.size) := HRows7.out.keep (fun b hlt _ => hB8.block b hlt) (fun _ _ h => h)
    have HB08 := Lib.hid (HB7.out.trans (hB8.mono HS7.out.size))
    have HR8 := Lib.hid (HR.out.later0 HB08.out)
    clear hrow8 hB8 HRows6 HRows7
    obtain ⟨pl, hpl⟩ : ∃ pl, pl = P.length := ⟨_, rfl⟩
    have HPL := Lib.hid hpl
    have h100 := HF.out.1
    rw [HN.out] at h100
    rw [HN.out, ← hpl]
    clear hpl
    go_wp2_with fail
    refine (same_any oa6 a len len oc6 cap rs rs w8 _ _ HN.out HN.out (by omega) (by omega) HRows6'.out HR8.out).mono ?_
    rintro e w' ⟨rfl, u1, rfl⟩
    rw [decide_eq_true (rfl : rs = rs)]
    go_wp2_with fail
    refine (same_any oa7 a len len oc7 cap rs rs (w8.drewN u1) _ _ HN.out HN.out (by omega) (by omega) (HRows7'.out.keep (fun _ _ _ => rfl) (fun _ _ h => h)) (HR8.out.keep (fun _ _ _ => rfl) (fun _ _ h => h))).mono ?_
    rintro e w' ⟨rfl, u2, rfl⟩
    rw [decide_eq_true (rfl : rs = rs), World.drewN_drewN]
    obtain ⟨w9, hw9⟩ : ∃ w9, w9 = w8.drewN (u1 + u2) := ⟨_, rfl⟩
    rw [← hw9]
    have hB9 : Below w8.heap.size w8 w9 := by rw [hw9]; exact drewN_below w8 _
    have HS9 := Lib.hid (HS8.out.below hB9)
    have HTm9 := Lib.hid (HTm8.out.below hB9)
    have hTm9 := HTm9.out
    rw [HN.out] at hTm9
    have HFr9 : Hid (Free w.heap.size gl w9 own5 (TFoot gt pv)) := Free.size HFr7.out (Nat.le_trans HB8.out.size hB9.size)
    have HB09 := Lib.hid (HB08.out.trans (hB9.mono HB08.out.size))
    have HR9 := Lib.hid (HR.out.later0 HB09.out)
    have HCC := Lib.hid (count_any gt g P len false pv w9 hTm9)
    have hneed : ((Tape.need (sz - 10) (Tape.stream rs).length : Nat) : Int) = (pl : Int) := by rw [HPL.out, HTp.out.len, HPg.out]
    have HCN := need_any sz a len cap rs w9 _ (by omega) HN.out (by omega) HR9.out (by have := HF.out.2; omega)
    rw [hneed] at HCN
    have HCN := Lib.hid HCN
    have hlive : Disk.live s7.pages = pl := by
      have h1 := HGr.out.live
      rw [live_new] at h1
      simp at h1
      rw [HPp7.out, HPp6.out, HPL.out]; exact h1
    have HLi := live_any g s7 own5 w9 HS9.out.disk
    rw [hlive] at HLi
    have HLi := Lib.hid HLi
    have HHe := Lib.hid (Held_all gl LedT _ _ _ w9 HS9.out.led)
    have HMo := Lib.hid (Most_all gl LedT _ _ _ w9 HS9.out.led)
    have HDr := Lib.hid (drop_any w.heap.size g gl gt s7 own5 _ P len pv w9 HS9.out hTm9 HFr9.out HTp7.out.nodup HTp7.out.used (by rw [← HPL.out]; have := HPL.out; omega))
    clear hw9 hB9 hTm9 hneed hlive HCP
    go_wp2_with fail
    refine HCC.out.mono ?_
    rintro e w' ⟨rfl, rfl⟩
    go_wp2_with fail
    refine HCN.out.mono ?_
    rintro e w' ⟨rfl, rfl⟩
    go_wp2_with fail
    refine HLi.out.mono ?_
    rintro e w' ⟨rfl, rfl⟩
    go_wp2_with fail
    refine HHe.out.mono ?_
    rintro e w' ⟨rfl, rfl⟩
    go_wp2_with fail
    refine HMo.out.mono ?_
    rintro e w' ⟨rfl, rfl⟩
    go_wp2_with fail
    refine HDr.out.mono ?_
    rintro e w10 ⟨rfl, hS10, hM10, hV10⟩
    have hlv : Disk.live (freed s7 P).pages = 0 := by
      have h1 := dropped_live HGr.out HTp.out.used
      rw [live_new] at h1
      rw [← h1]
      show Disk.live (Disk.gone s7.pages P) = Disk.live (Disk.gone s5.pages P)
      rw [HPp7.out, HPp6.out]
    have HDr2 := Lib.hid (drop_again gt g P len pv w10 hM10)
    have HLi2 := live_any g (freed s7 P) own5 w10 hS10.disk
    rw [hlv] at HLi2
    have HLi2 := Lib.hid HLi2
    have HFin : Hid (Below w.heap.size w w10) := HB09.out.trans (HS9.out.mbelow hV10 (fun b hb => (HFr9.out b hb).1))
    clear hS10 hM10 hV10 hlv HDr HCC HCN HLi HHe HMo
    go_wp2_with fail
    refine HDr2.out.mono ?_
    rintro e w' ⟨rfl, rfl⟩
    go_wp2_with fail
    refine HLi2.out.mono ?_
    rintro e w' ⟨rfl, rfl⟩
    go_wp2_with fail
    go_ret
    exact ⟨rfl, HFin.out⟩
  · have hff : fewB rs = false := by simpa using hfew
    rw [hff]
    clear hfew hff
    go_wp2_with fail
    go_ret
    exact ⟨rfl, HB1.out⟩
end Go.Proofs.YtlfjffpbofigmaaDoor
