/- THE WALK OF TapeTurned. -/
import Derived.Test.YtlfjffpbofigmaaDoorTapeCommon
import Derived.Test.YtlfjffpbofigmaaDoorTapeTorn
namespace Go.Proofs.YtlfjffpbofigmaaDoor
open Go.RowKit
open Seal
theorem RowsIn.take {w : World} {a : Option Addr} {rs : List (List Nat)} {Ok : Nat → Prop} (h : RowsIn w a rs Ok) (k : Nat) : RowsIn w a (rs.take k) Ok := by
  rcases h with h | ⟨b, off, e, hb, h⟩
  · exact .inl (by rw [h]; simp)
  · refine .inr ⟨b, off, e, hb, fun i hi => ?_⟩
    have hi0 : i < min k rs.length := by simpa using hi
    have hi' : i < k ∧ i < rs.length := by omega
    have hg : (rs.take k).getD i [] = rs.getD i [] := by simp [List.getD_eq_getElem?_getD, hi'.1]
    rw [hg]
    exact h i hi'.2
theorem stream_take_mono (rs : List (List Nat)) {i j : Nat} (h : i ≤ j) : (Tape.stream (rs.take i)).length ≤ (Tape.stream (rs.take j)).length := by
  have := stream_take_le (rs.take j) i
  rwa [List.take_take, Nat.min_eq_left h] at this
set_option maxRecDepth 100000 in
set_option maxHeartbeats 8000000 in
theorem turned_law (a : Option Addr) (len cap : Nat) (rs : List (List Nat)) (y z q : Nat) (w : World) (hn : rs.length = len) (hlc : len ≤ cap) (hcm : cap ≤ 9223372036854775807) (hR : RowsIn w a rs fun b => b < w.heap.size) (hlen : ∀ i, i < rs.length → (rs.getD i []).length ≤ 140737488355328) (hy : y < 4294967296) (hz : z < 4294967296) (hq : q < 4294967296)
    (ht : Tab w) (hr : Bruijn w) (t0 : 0 < w.heap.size) (b0 : 1 < w.heap.size) :
    Calls Tryd.prog 7 #[.slice a len cap, .agg #[.int .u32 (y : Int), .int .u32 (z : Int), .int .u32 (q : Int)]] w fun e w' => e = .returned (.bool true) ∧ Below w.heap.size w w' := by
  go_enter Tryd.func7, Tryd.ntmps7
  go_wp2_with fail
  have hBa : Below w.heap.size w (w.alloc (.cells #[.int .u32 (y : Int), .int .u32 (z : Int), .int .u32 (q : Int)] 61)) := (Below.refl _ _).alloc (Nat.le_refl _) _
  have hsa0 : (w.alloc (.cells #[.int .u32 (y : Int), .int .u32 (z : Int), .int .u32 (q : Int)] 61)).heap.size = w.heap.size + 1 := by simp
  have hn0 : (w.alloc (.cells #[.int .u32 (y : Int), .int .u32 (z : Int), .int .u32 (q : Int)] 61)).cell? ⟨w.heap.size, 0, none⟩ = some (.int .u32 (y : Int)) := by rw [World.cell?_alloc_at _ _ _ _ rfl]; rfl
  have hn1 : (w.alloc (.cells #[.int .u32 (y : Int), .int .u32 (z : Int), .int .u32 (q : Int)] 61)).cell? ⟨w.heap.size, 1, none⟩ = some (.int .u32 (z : Int)) := by rw [World.cell?_alloc_at _ _ _ _ rfl]; rfl
  have hn2 : (w.alloc (.cells #[.int .u32 (y : Int), .int .u32 (z : Int), .int .u32 (q : Int)] 61)).cell? ⟨w.heap.size, 2, none⟩ = some (.int .u32 (q : Int)) := by rw [World.cell?_alloc_at _ _ _ _ rfl]; rfl
  generalize w.alloc (.cells #[.int .u32 (y : Int), .int .u32 (z : Int), .int .u32 (q : Int)] 61) = w0 at hBa hsa0 hn0 hn1 hn2 ⊢
  have HBa := Lib.hid hBa
  have hR0 : RowsIn w0 a rs fun b => b < w0.heap.size := hR.keep (fun b hlt _ => hBa.block b hlt) fun b hlt _ => by omega
  have ht0' := ht.below hBa t0
  have hr0' := hr.below hBa b0
  have hs0 := Nat.lt_of_lt_of_le t0 hBa.size
  have hs1 := Nat.lt_of_lt_of_le b0 hBa.size
  obtain ⟨A, hA⟩ : ∃ A, A = w.heap.size := ⟨_, rfl⟩
  rw [← hA] at hn0 hn1 hn2 hsa0 ⊢
  have HA := Lib.hid hA
  have HN0 := Lib.hid hn0
  have HN1 := Lib.hid hn1
  have HN2 := Lib.hid hn2
  have HA0 : Hid (A < w0.heap.size) := by show A < _; omega
  have CA := Lib.hid (awake_any w0 ht0' hr0' hs0 hs1)
  have HTab := Lib.hid ht0'
  have HBr := Lib.hid hr0'
  have t0 := hs0
  have b0 := hs1
  have HN := Lib.hid hn
  have HR := Lib.hid hR0
  have HLEN := Lib.hid hlen
  clear ht hr hn hR hlen hBa hR0 ht0' hr0' hA hn0 hn1 hn2 hsa0 hs0 hs1
  refine CA.out.mono ?_
  rintro e w1 ⟨rfl, hB1⟩
  have HB1 := Lib.hid hB1
  have HR1 := Lib.hid (HR.out.later0 hB1)
  have hn2 : w1.cell? ⟨A, 2, none⟩ = some (.int .u32 (q : Int)) := (hB1.cell (p := ⟨A, 2, none⟩) HA0.out).trans HN2.out
  clear hB1 CA
  go_wp2_with fail
  refine (few_any a len cap rs w1 _ HN.out (by omega) HR1.out HLEN.out).mono ?_
  rintro e w' ⟨rfl, rfl⟩
  by_cases hfew : fewB rs = true
  · rw [hfew]
    have HF := Lib.hid (few_true hfew)
    clear hfew
    by_cases hq0 : q = 0
    · subst hq0
      go_wp2_with fail
      go_ret
      exact ⟨rfl, HBa.out.trans (HB1.out.mono HBa.out.size)⟩
    have HQ0 := Lib.hid hq0
    have hq1 : ((q : Int) == 0) = false := by rw [beq_eq_false_iff_ne]; omega
    clear hq0
    go_wp2_with fail
    clear hn2 hq1
    have hB1 := HB1.out
    have C1 := new_ok 64 300 w1 (by decide) (by omega)
    rw [show ((64 : Nat) : Int) = 64 from rfl, show ((300 : Nat) : Int) = 300 from rfl] at C1
    have HC1 := Lib.hid C1
    clear C1 hB1
    go_wp2_with fail
    refine HC1.out.mono ?_
    rintro e w2 ⟨rfl, hD2, hB2, hz2⟩
    have hB01 := HB1.out
    have hS3 := sys_new (B := w0.heap.size) hB01.size hD2 hB2 hz2 (HTab.out.below hB01 t0) (HBr.out.below hB01 b0) t0 b0 0
    obtain ⟨w3, hw3⟩ : ∃ w3, w3 = w2.alloc (.cells #[.int .i64 (near 0), .int .i64 0, .int .i64 0] LedT) := ⟨_, rfl⟩
    obtain ⟨gl, hgl⟩ : ∃ gl, gl = w2.heap.size := ⟨_, rfl⟩
    obtain ⟨g, hg⟩ : ∃ g, g = w1.heap.size + 1 := ⟨_, rfl⟩
    generalize newOwn w1.heap.size = own0 at *
    have hC2 := New_all 0 w2
    rw [← hgl, ← hw3] at hC2
    rw [← hw3, ← hgl, ← hg] at hS3
    have HS3 := Lib.hid hS3
    have HC2 := Lib.hid hC2
    have HB03 : Hid (Below w0.heap.size w0 w3) := by
      rw [hw3]
      exact (hB01.trans (hB2.mono hB01.size)).alloc (Nat.le_trans hB01.size hB2.size) _
    rw [← hg]
    clear hD2 hB2 hz2 HC1 hw3 hgl hg hS3 hC2 hB01
    go_wp2_with fail
    refine HC2.out.mono ?_
    rintro e w' ⟨rfl, hw'⟩
    subst hw'
    clear HC2

    -- the tape is made
    have HRW := Lib.hid (HR.out.later rfl HB03.out HS3.out)
    have CM := make_any w0.heap.size g gl (new 64 300) own0 (near 0, 0, 0) a len cap rs w' HS3.out HN.out HRW.out (fun i hi => few_len HF.out i (by rw [HN.out]; exact hi)) (by have := HF.out.1; rw [HN.out] at this; omega) (by have h1 := few_stream HF.out; have h2 := HF.out.1; rw [HN.out] at h2; show 0 + _ + _ < _; omega)
    have HCM := Lib.hid CM
    clear CM
    go_wp2_with fail
    refine HCM.out.mono ?_
    rintro e w5 ⟨E, tv, s5, own5, rfl, hM⟩

    have hE : E = 0 := hM.calm (calm_new _ _) (by
      rw [live_new]
      have h1 := need_few (room := 64 - 10) (n := (Tape.stream rs).length) (by omega) (few_stream HF.out)
      show 0 + Tape.need (64 - 10) _ ≤ 300
      omega)
    subst hE
    obtain ⟨gt, P, pv, rfl, hgt, hTp, hWh, hTm, hMv, hGr⟩ := hM.ok rfl
    have hpage : s5.page = 64 := hM.same.page
    have hsys := hM.sys
    rw [show (new 64 300).page = 64 from rfl, hold_back (by omega) (by decide) (by decide)] at hsys
    have hops : s5.ops ≤ 2000000 := by
      have h0 := hM.ops; have h1 := few_stream HF.out; have h2 := HF.out.1
      have h3 : (new 64 300).ops = 0 := rfl
      omega
    have HS5 := Lib.hid hsys
    have HB5 := Lib.hid (HB03.out.trans (HS3.out.mbelow hMv (fun _ f => f.elim)))
    have HCalm := Lib.hid (hM.same.calm (calm_new _ _))
    have HTp := Lib.hid hTp
    have HWh := Lib.hid hWh
    have HTm := Lib.hid hTm
    have HFr := Lib.hid hMv.free
    have HGr := Lib.hid hGr
    have HPg := Lib.hid hpage
    clear hM hTp hWh hTm hMv hGr hsys hpage hgt HCM
    unfold ptr
    have hPl16 : P.length ≤ 16384 := by
      have h1 := HTp.out.len
      have h2 := need_few (room := s5.page - 10) (n := (Tape.stream rs).length) (by rw [HPg.out]; omega) (few_stream HF.out)
      omega
    have HCP := Lib.hid (pages_any gt g P rs.length false pv w5 HTm.out hPl16)
    go_wp2_with fail
    refine HCP.out.mono ?_
    rintro e w6 ⟨pv6, rfl, hrow6, hB6, _⟩
    obtain ⟨pa6, pc6, hpv6, hpc6, hpc6m, hin6, _⟩ := ints_of_row hrow6
    subst hpv6
    have HS6 := Lib.hid (HS5.out.below hB6)
    have HTm6 := Lib.hid (HTm.out.below hB6)
    have HFr6 : Hid (Free w0.heap.size gl w6 own5 (TFoot gt pv)) := Free.size HFr.out hB6.size
    have HB06 := Lib.hid (HB5.out.trans (hB6.mono HS5.out.size))
    have hn0 : w6.cell? ⟨A, 0, none⟩ = some (.int .u32 (y : Int)) := (HB06.out.cell (p := ⟨A, 0, none⟩) HA0.out).trans HN0.out
    have hn1 : w6.cell? ⟨A, 1, none⟩ = some (.int .u32 (z : Int)) := (HB06.out.cell (p := ⟨A, 1, none⟩) HA0.out).trans HN1.out
    have hn2 : w6.cell? ⟨A, 2, none⟩ = some (.int .u32 (q : Int)) := (HB06.out.cell (p := ⟨A, 2, none⟩) HA0.out).trans HN2.out
    have HIN := Lib.hid hin6
    obtain ⟨pl, hpl⟩ : ∃ pl, pl = P.length := ⟨_, rfl⟩
    have HPL := Lib.hid hpl
    rw [← hpl] at hPl16 hpc6
    rw [← hpl]
    clear hrow6 hB6 hin6 hpl HCP
    by_cases hp0 : pl = 0
    · subst hp0
      go_wp2_with fail
      go_ret
      exact ⟨rfl, HBa.out.trans (HB06.out.mono HBa.out.size)⟩
    obtain ⟨kk, hkk⟩ : ∃ kk, kk = y % pl := ⟨_, rfl⟩
    have hklt : kk < pl := by rw [hkk]; exact Nat.mod_lt _ (by omega)
    obtain ⟨pb, po, hpa, hpcell⟩ := HIN.out.resolve_left (fun e => by rw [HPL.out, e] at hp0; simp at hp0)
    subst hpa
    have hpk := hpcell kk (by rw [← HPL.out]; exact hklt)
    obtain ⟨pn, hpn⟩ : ∃ pn, pn = P.getD kk 0 := ⟨_, rfl⟩
    rw [← hpn] at hpk
    have HPN := Lib.hid hpn
    obtain ⟨bit, hbit⟩ : ∃ bit, bit = z % 481 := ⟨_, rfl⟩
    have hbit481 : bit < 481 := by omega
    have e1 : (pl : Int) % 4294967296 = (pl : Int) := by omega
    have e2 : (y : Int).tmod (pl : Int) = (kk : Int) := by rw [hkk, Int.tmod_eq_emod_of_nonneg (by omega)]; simp
    have e3 : (y : Int) % (pl : Int) = (kk : Int) := by rw [hkk]; simp
    have e4 : (z : Int).tmod 481 = (bit : Int) := by rw [Int.tmod_eq_emod_of_nonneg (by omega)]; omega
    have e5 : (z : Int) % 481 = (bit : Int) := by omega
    have e0 : ((pl : Int) == 0) = false := by rw [beq_eq_false_iff_ne]; omega
    clear hpcell hpn hkk hbit
    go_wp2_with fail
    -- the page's own bytes, and the turn
    have hkP : kk < P.length := by rw [← HPL.out]; exact hklt
    have hgood := HWh.out kk hkP
    unfold Tape.Good at hgood
    rw [← HPN.out] at hgood
    have hbit8 : bit + 32 ≤ 8 * s5.page := by rw [HPg.out]; omega
    obtain ⟨w7, hw7⟩ : ∃ w7, w7 = w6.drew := ⟨_, rfl⟩
    have hB7 : Below w6.heap.size w6 w7 := by rw [hw7]; exact drewN_below w6 1
    have HS7 := Lib.hid (HS6.out.below hB7)
    have HTm7 := Lib.hid (HTm6.out.below hB7)
    have HFr7 : Hid (Free w0.heap.size gl w7 own5 (TFoot gt pv)) := Free.size HFr6.out hB7.size
    have HB07 := Lib.hid (HB06.out.trans (hB7.mono HB06.out.size))
    have hT := turn_ok g s5 own5 pn bit q _ w7 HS7.out.disk hgood (by omega) (by omega)
    have HT := Lib.hid hT
    have q1 : (0 : Int) ≤ (kk : Int) := by omega
    have q2 : (kk : Int) < (pl : Int) := by omega
    clear hT hgood hB7
    refine wp_region_still_tail 11 (by kernel_rfl) (by kernel_rfl) ?_
    simp only [List.take_succ_cons, List.take_zero, List.drop_succ_cons, List.drop_zero]
    iterate 11 still_step
    refine wpStill_nil ?_
    change wpList _ _ _ _ _ w6.drew
    rw [← hw7]
    clear hw7
    go_wp2_with fail
    refine HT.out.mono ?_
    rintro e w8 ⟨rfl, hD8, hO8⟩
    clear hn0 hn1 hn2 hpk e1 e2 e3 e4 e5 q1 q2
    -- the system behind the turn
    obtain ⟨s8, hs8⟩ : ∃ s8, s8 = Tape.tornSt s5 P (Tape.stream rs) kk bit q := ⟨_, rfl⟩
    have hD8' : DiskAt w8 g s8 own5 := by
      rw [hs8]; unfold Tape.tornSt; rw [← HPN.out]; exact hD8
    have HS8 := Lib.hid (HS7.out.only hD8' hO8 (fun _ _ => rfl))
    have hV8 : Move w0.heap.size gl w7 w8 own5 own5 (fun _ => False) (fun _ => False) := Move.of_only (fun _ f => f.elim) hO8 (fun _ _ => rfl)
    have hpok : pageOk s5.page = true := by rw [HPg.out]; decide
    have HTp8 : Hid (Tape.Tp s8 P (Tape.stream rs)) := by rw [hs8]; exact Tape.torn_tp HTp.out HCalm.out hkP hpok hbit8 HQ0.out (by omega)
    have HBad : Hid (¬ Tape.Good s8 P (Tape.stream rs) kk) := by
      rw [hs8]
      refine Tape.torn_bad HTp.out hkP hpok hbit8 HQ0.out (by omega) ?_
      unfold Tape.nextOf
      split
      · have h1 := Disk.used_lt (HTp.out.used _ (Tape.getD_mem (P := P) (i := kk + 1) (by assumption)))
        have h2 := HS5.out.length
        omega
      · omega
    have HCalm8 : Hid (Disk.Calm s8) := by rw [hs8]; exact HCalm.out
    have HPg8 : Hid (s8.page = 64) := by rw [hs8]; exact HPg.out
    have HTm8 : Hid (TpMem w8 gt g P rs.length false pv) := HTm7.out.keep fun b hb => by
      obtain ⟨_, h2, h3, h4⟩ := HFr7.out b hb
      exact hV8.same h4 h2 h3 (fun f => f)
    have HFr8 : Hid (Free w0.heap.size gl w8 own5 (TFoot gt pv)) := Free.size HFr7.out hV8.touch.size
    have HB08 := Lib.hid (HB07.out.trans (HS7.out.mbelow hV8 (fun _ f => f.elim)))
    have hlv8 : Disk.live (Disk.gone s8.pages P) = 0 := by
      have h1 := Disk.live_gone s8.pages P HTp8.out.nodup HTp8.out.used
      have h2 := HGr.out.live
      rw [live_new] at h2
      simp at h2
      have h3 : Disk.live s8.pages = Disk.live s5.pages := by rw [hs8]; exact Disk.live_put_same (HTp.out.used _ (Tape.getD_mem hkP)) _
      omega
    have HLV8 := Lib.hid hlv8
    have hops8 : s8.ops ≤ 2000000 := by rw [hs8]; exact hops
    clear hs8 hD8 hD8' hO8 hV8 hlv8 HT
    have CR := readL_any w0.heap.size g gl gt s8 own5 _ P rs false pv w8 HS8.out HTm8.out HFr8.out HTp8.out (few_len HF.out) (by have := HF.out.1; omega) (by have := few_stream HF.out; omega)
    have HCR := Lib.hid CR
    clear CR
    go_wp2_with fail
    refine HCR.out.mono ?_
    rintro e w9 ⟨E, kr, v9, vs9, s9, rfl, hR⟩
    obtain ⟨j, hj, hjl, hjg⟩ := hR.ahead
    have hjk : j ≤ kk := by
      rcases Nat.lt_or_ge kk j with h | h
      · exact absurd (hjg kk h) HBad.out
      · exact h
    rw [HPg8.out] at hjl
    have hE : E = 18 := by
      rcases hR.err with h | h | h
      · exfalso
        rw [hR.all h, List.take_length] at hjl
        have h2 := HTp.out.len
        rw [HPg.out] at h2
        by_cases hz : (Tape.stream rs).length = 0
        · rw [hz, Tape.need_zero (by omega)] at h2
          omega
        · have h3 := Tape.need_hi (room := 64 - 10) (n := (Tape.stream rs).length) (by omega) (by omega)
          rw [← h2] at h3
          omega
      · exact absurd h (hR.calm HCalm8.out)
      · exact h
    subst hE
    have hkl : (rs.take kr).length = kr := by have := hR.k_le; simp; omega
    have hkr : kr ≤ len := by have := hR.k_le; rw [HN.out] at this; exact this
    have HFar : Hid ((Tape.stream (rs.take kr)).length ≤ 54 * kk) := by show _ ≤ _; omega
    have hsys := hR.sys
    rw [HPg8.out, hold_back (by omega) (by decide) (by decide)] at hsys
    have HS9 := Lib.hid hsys
    have HB09 := Lib.hid (HB08.out.trans (HS8.out.mbelow hR.move (fun _ f => f.elim)))
    have HR9 := Lib.hid (HR.out.later0 HB09.out)
    have HTm9 : Hid (TpMem w9 gt g P rs.length false pv) := HTm8.out.keep fun b hb => by
      obtain ⟨_, h2, h3, h4⟩ := HFr8.out b hb
      exact hR.move.same h4 h2 h3 (fun f => f)
    have HFr9 : Hid (Free w0.heap.size gl w9 own5 (TFoot gt pv)) := Free.size HFr8.out hR.move.touch.size
    have HPp9 : Hid (s9.pages = s8.pages) := hR.pages
    have hops9 : s9.ops ≤ 3000000 := by have := hR.ops; have := few_stream HF.out; omega
    obtain ⟨oa, oc, hv9, hoc, hocm, hrows⟩ := hR.out.rows
    subst hv9
    have HRows := Lib.hid hrows
    rw [hkl] at hoc ⊢
    have HKL := Lib.hid hkl
    have hkk16 : kk < 16384 := by omega
    clear hR hj hjl hjg hjk hsys hrows hkl HCR
    go_wp2_with fail
    go_loop [14, 15] (fun mv av => ∃ m at2 : Nat, m ≤ len ∧ mv = .int .i64 (m : Int) ∧ av = .int .i64 (at2 : Int) ∧ Hid (at2 = (Tape.stream (rs.take m)).length)) (fun mv _ => len - (intOf mv).toNat)
    case atStart => exact ⟨0, 0, Nat.zero_le _, rfl, rfl, by show 0 = _; simp [Tape.stream]⟩
    case round =>
      obtain ⟨m, at2, hm, rfl, rfl, hat⟩ := hrel
      have hatl : at2 ≤ 10400 := by have h1 := hat.out; have h2 := stream_take_le rs m; have h3 := few_stream HF.out; omega
      by_cases hgo : m < len ∧ at2 + 4 + (rs.getD m []).length ≤ 54 * kk
      · obtain ⟨hlt, hle⟩ := hgo
        obtain ⟨b, off, ai, ci, e, h1, _⟩ := HR9.out.at_ (i := m) (by rw [HN.out]; exact hlt)
        subst e
        have hl := few_len HF.out m (by rw [HN.out]; exact hlt)
        have hat' : Hid (at2 + 4 + (rs.getD m []).length = (Tape.stream (rs.take (m + 1))).length) := by
          show _ = _
          rw [take_getD rs (by rw [HN.out]; exact hlt), Tape.stream_snoc, List.length_append, Tape.length_frame, ← hat.out]
          omega
        generalize (rs.getD m []).length = rl at *
        go_wp2_with fail
        go_round
        case rel => exact ⟨m + 1, at2 + 4 + rl, by omega, by go_num, by go_num, hat'⟩
        case measure => simp [intOf]; omega
      · have hkm : kr ≤ m := by
          rcases Nat.lt_or_ge m kr with h | h
          · exfalso
            have hlt : m < len := by omega
            have h1 := stream_take_mono rs (i := m + 1) (j := kr) h
            rw [take_getD rs (by rw [HN.out]; exact hlt), Tape.stream_snoc, List.length_append, Tape.length_frame, ← hat.out] at h1
            have h2 := HFar.out
            exact hgo ⟨hlt, by omega⟩
          · exact h
        by_cases hlt : m < len
        · obtain ⟨b, off, ai, ci, e, h1, _⟩ := HR9.out.at_ (i := m) (by rw [HN.out]; exact hlt)
          subst e
          have hl := few_len HF.out m (by rw [HN.out]; exact hlt)
          have hnle : ¬ at2 + 4 + (rs.getD m []).length ≤ 54 * kk := fun h => hgo ⟨hlt, h⟩
          clear hgo hat
          generalize (rs.getD m []).length = rl at *
          go_wp2_with fail
          refine (same_any oa _ kr kr oc cap (rs.take kr) (rs.take kr) w9 _ _ HKL.out HKL.out (by omega) (by omega) HRows.out (RowsIn.take HR9.out kr)).mono ?_
          rintro e w' ⟨rfl, u1, rfl⟩
          rw [decide_eq_true (rfl : rs.take kr = rs.take kr)]
          obtain ⟨w10, hw10⟩ : ∃ w10, w10 = w9.drewN u1 := ⟨_, rfl⟩
          rw [← hw10]
          have hB10 : Below w9.heap.size w9 w10 := by rw [hw10]; exact drewN_below w9 _
          have HS10 := Lib.hid (HS9.out.below hB10)
          have HTm10 := Lib.hid (HTm9.out.below hB10)
          have HFr10 : Hid (Free w0.heap.size gl w10 own5 (TFoot gt pv)) := Free.size HFr9.out hB10.size
          have HB010 := Lib.hid (HB09.out.trans (hB10.mono HB09.out.size))
          have HHe := Lib.hid (Held_all gl LedT _ _ _ w10 HS10.out.led)
          have HDr := Lib.hid (drop_any w0.heap.size g gl gt s9 own5 _ P rs.length pv w10 HS10.out HTm10.out HFr10.out HTp8.out.nodup (by rw [HPp9.out]; exact HTp8.out.used) (by have := HPL.out; omega))
          clear hw10 hB10
          go_wp2_with fail
          refine HHe.out.mono ?_
          rintro e w' ⟨rfl, rfl⟩
          go_wp2_with fail
          refine HDr.out.mono ?_
          rintro e w11 ⟨rfl, hS11, hM11, hV11⟩
          have hlv : Disk.live (freed s9 P).pages = 0 := by
            show Disk.live (Disk.gone s9.pages P) = 0
            rw [HPp9.out]
            exact HLV8.out
          have HLi := live_any g (freed s9 P) own5 w11 hS11.disk
          rw [hlv] at HLi
          have HLi := Lib.hid HLi
          have HFin : Hid (Below w0.heap.size w0 w11) := HB010.out.trans (HS10.out.mbelow hV11 (fun b hb => (HFr10.out b hb).1))
          clear hS11 hM11 hV11 hlv HDr HHe
          go_wp2_with fail
          refine HLi.out.mono ?_
          rintro e w' ⟨rfl, rfl⟩
          go_wp2_with fail
          go_ret
          exact ⟨rfl, HBa.out.trans (HFin.out.mono HBa.out.size)⟩
        · clear hgo hat
          go_wp2_with fail
          refine (same_any oa _ kr kr oc cap (rs.take kr) (rs.take kr) w9 _ _ HKL.out HKL.out (by omega) (by omega) HRows.out (RowsIn.take HR9.out kr)).mono ?_
          rintro e w' ⟨rfl, u1, rfl⟩
          rw [decide_eq_true (rfl : rs.take kr = rs.take kr)]
          obtain ⟨w10, hw10⟩ : ∃ w10, w10 = w9.drewN u1 := ⟨_, rfl⟩
          rw [← hw10]
          have hB10 : Below w9.heap.size w9 w10 := by rw [hw10]; exact drewN_below w9 _
          have HS10 := Lib.hid (HS9.out.below hB10)
          have HTm10 := Lib.hid (HTm9.out.below hB10)
          have HFr10 : Hid (Free w0.heap.size gl w10 own5 (TFoot gt pv)) := Free.size HFr9.out hB10.size
          have HB010 := Lib.hid (HB09.out.trans (hB10.mono HB09.out.size))
          have HHe := Lib.hid (Held_all gl LedT _ _ _ w10 HS10.out.led)
          have HDr := Lib.hid (drop_any w0.heap.size g gl gt s9 own5 _ P rs.length pv w10 HS10.out HTm10.out HFr10.out HTp8.out.nodup (by rw [HPp9.out]; exact HTp8.out.used) (by have := HPL.out; omega))
          clear hw10 hB10
          go_wp2_with fail
          refine HHe.out.mono ?_
          rintro e w' ⟨rfl, rfl⟩
          go_wp2_with fail
          refine HDr.out.mono ?_
          rintro e w11 ⟨rfl, hS11, hM11, hV11⟩
          have hlv : Disk.live (freed s9 P).pages = 0 := by
            show Disk.live (Disk.gone s9.pages P) = 0
            rw [HPp9.out]
            exact HLV8.out
          have HLi := live_any g (freed s9 P) own5 w11 hS11.disk
          rw [hlv] at HLi
          have HLi := Lib.hid HLi
          have HFin : Hid (Below w0.heap.size w0 w11) := HB010.out.trans (HS10.out.mbelow hV11 (fun b hb => (HFr10.out b hb).1))
          clear hS11 hM11 hV11 hlv HDr HHe
          go_wp2_with fail
          refine HLi.out.mono ?_
          rintro e w' ⟨rfl, rfl⟩
          go_wp2_with fail
          go_ret
          exact ⟨rfl, HBa.out.trans (HFin.out.mono HBa.out.size)⟩
  · have hff : fewB rs = false := by simpa using hfew
    rw [hff]
    clear hfew hff
    go_wp2_with fail
    go_ret
    exact ⟨rfl, HBa.out.trans (HB1.out.mono HBa.out.size)⟩
end Go.Proofs.YtlfjffpbofigmaaDoor
