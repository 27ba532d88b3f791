/- THE WALK OF TapeAborts. -/
import Derived.Test.YtlfjffpbofigmaaDoorTapeCommon
namespace Go.Proofs.YtlfjffpbofigmaaDoor
open Go.RowKit
open Seal
theorem MakeInv.below {B g gl gw : Nat} {s : Disk.St} {own : Nat → Nat} {L : Int × Int × Int} {rs : List (List Nat)} {w : World} {k : Nat} {w' w2 : World} {P : List Nat} {s' : Disk.St} {own' : Nat → Nat} {pv dv : Value} (h : MakeInv B g gl gw s own L rs w k w' P s' own' pv dv) (hb : Below w'.heap.size w' w2) : MakeInv B g gl gw s own L rs w k w2 P s' own' pv dv :=
  ⟨h.sys.below hb, h.same, h.ops, h.wr, h.tight, h.mem.below hb, h.move.trans (Move.of_below h.move.free hb), h.grow⟩
theorem run_makeLong (u : World) : (Instr.makeSlice 46 (.int .i64 1048641) (.int .i64 1048641)).run Tryd.prog u = .ok (.slice (some ⟨u.heap.size, 0, none⟩) 1048641 1048641) (u.alloc (.cells (madeCells #[.int .u8 0] 1048641) 5)) := by
  obtain ⟨i0, hi, hz0, hz1, hz2⟩ := info_parts infoBytes
  have h := run_make (P := Tryd.prog) u 46 5 i0 (.int .u8 0) Tryd.underlying46 hi hz0 .i64 .i64 (1048641 : Int) (1048641 : Int) (by omega) (Int.le_refl _) (by rw [hz2]; decide) (by omega)
  simpa [hz1, Value.cells] using h
set_option maxRecDepth 100000 in
set_option maxHeartbeats 8000000 in
theorem aborts_law (a : Option Addr) (len cap : Nat) (rs : List (List Nat)) (at_ : Nat) (w : World) (hn : rs.length = len) (hlc : len ≤ cap) (hcm : cap ≤ 9223372036854775807) (hR : RowsIn w a rs fun b => b < w.heap.size) (hlen : ∀ i, i < rs.length → (rs.getD i []).length ≤ 140737488355328) (hat : at_ < 256)
    (ht : Tab w) (hr : Bruijn w) (t0 : 0 < w.heap.size) (b0 : 1 < w.heap.size) :
    Calls Tryd.prog 8 #[.slice a len cap, .int .u8 (at_ : Int)] w fun e w' => e = .returned (.bool true) ∧ Below w.heap.size w w' := by

  have CA := Lib.hid (awake_any w ht hr t0 b0)
  have HTab := Lib.hid ht
  have HBr := Lib.hid hr

  have HN := Lib.hid hn
  have HR := Lib.hid hR
  have HLEN := Lib.hid hlen

  have hmk := run_makeLong
  clear ht hr hn hR hlen

  go_enter Tryd.func8, Tryd.ntmps8
  go_wp2_with fail
  refine CA.out.mono ?_
  rintro e w1 ⟨rfl, hB1⟩
  have HB1 := Lib.hid hB1
  have HR1 := Lib.hid (HR.out.later0 hB1)
  clear hB1 CA
  go_wp2_with fail
  refine (few_any a len cap rs w1 _ HN.out (by omega) HR1.out HLEN.out).mono ?_
  rintro e w' ⟨rfl, rfl⟩
  by_cases hfew : fewB rs = true
  · rw [hfew]
    have HF := Lib.hid (few_true hfew)
    clear hfew
    go_wp2_with fail
    have hB1 := HB1.out
    have C1 := new_ok 64 300 w1 (by decide) (by omega)
    rw [show ((64 : Nat) : Int) = 64 from rfl, show ((300 : Nat) : Int) = 300 from rfl] at C1
    have HC1 := Lib.hid C1
    clear C1 hB1
    go_wp2_with fail
    refine HC1.out.mono ?_
    rintro e w2 ⟨rfl, hD2, hB2, hz2⟩
    have hB01 := HB1.out
    have hS3 := sys_new (B := w.heap.size) hB01.size hD2 hB2 hz2 (HTab.out.below hB01 t0) (HBr.out.below hB01 b0) t0 b0 0
    obtain ⟨w3, hw3⟩ : ∃ w3, w3 = w2.alloc (.cells #[.int .i64 (near 0), .int .i64 0, .int .i64 0] LedT) := ⟨_, rfl⟩
    obtain ⟨gl, hgl⟩ : ∃ gl, gl = w2.heap.size := ⟨_, rfl⟩
    obtain ⟨g, hg⟩ : ∃ g, g = w1.heap.size + 1 := ⟨_, rfl⟩
    generalize newOwn w1.heap.size = own0 at *
    have hC2 := New_all 0 w2
    rw [← hgl, ← hw3] at hC2
    rw [← hw3, ← hgl, ← hg] at hS3
    have HS3 := Lib.hid hS3
    have HC2 := Lib.hid hC2
    have HB03 : Hid (Below w.heap.size w w3) := by
      rw [hw3]
      exact (hB01.trans (hB2.mono hB01.size)).alloc (Nat.le_trans hB01.size hB2.size) _
    rw [← hg]
    clear hD2 hB2 hz2 HC1 hw3 hgl hg hS3 hC2 hB01
    go_wp2_with fail
    refine HC2.out.mono ?_
    rintro e w' ⟨rfl, hw'⟩
    subst hw'
    clear HC2

    have HRW := Lib.hid (HR.out.later rfl HB03.out HS3.out)
    have HCC := Lib.hid (create_any w.heap.size g gl (new 64 300) own0 (near 0, 0, 0) w' HS3.out)
    go_wp2_with fail
    refine HCC.out.mono ?_
    rintro e w5 ⟨gw, rfl, hC⟩
    have hI0 : MakeInv w.heap.size g gl gw (new 64 300) own0 (near 0, 0, 0) rs w' 0 w5 [] (new 64 300) own0 (.slice none 0 0) (.slice none 0 0) := by
      refine ⟨hC.sys, Disk.Same.refl _, by simp [Tape.stream], by simpa [Tape.stream] using Tape.Wr.empty (new 64 300), .inl rfl, by simpa [Tape.tail_, Tape.stream] using hC.mem, ?_, ⟨⟨[], by simp, by simp⟩, List.nodup_nil, by simp, fun _ _ => rfl, rfl⟩⟩
      exact hC.move.shrink fun b hb => by
        rcases hb with h | h | h
        · exact h
        · simp [Value.ownBlock] at h
        · simp [Value.ownBlock] at h
    have HI0 := Lib.hid hI0
    have hld := hC.sys.led
    rw [show tkH 0 ((new 64 300).page : Int) = 64 from rfl] at hld
    have HHe := Lib.hid (Held_all gl LedT _ _ _ w5 hld)
    clear hC hI0 hld HCC
    unfold ptr
    go_wp2_with fail
    refine HHe.out.mono ?_
    rintro e w' ⟨rfl, rfl⟩
    obtain ⟨q, hq⟩ : ∃ q, q = at_ % 10 := ⟨_, rfl⟩
    have hq10 : q < 10 := by omega
    have hrem : (at_ : Int).tmod 10 = (q : Int) := by rw [Int.tmod_eq_emod_of_nonneg (by omega), hq]; simp
    have hrem2 : (at_ : Int) % 10 = (q : Int) := by rw [hq]; simp
    have h100 := HF.out.1
    rw [HN.out] at h100
    clear hq HHe
    go_wp2_with fail
    go_loopw [9] (fun iv wr => ∃ (k : Nat) (P : List Nat) (s' : Disk.St) (own' : Nat → Nat) (pv dv : Value), k ≤ len ∧ iv = .int .i64 (k : Int) ∧ Hid (MakeInv w.heap.size g gl gw (new 64 300) own0 (near 0, 0, 0) rs w' k wr P s' own' pv dv)) (fun iv _ => len - (intOf iv).toNat)
    case atStart => exact ⟨0, [], _, own0, _, _, Nat.zero_le _, rfl, HI0⟩
    case round =>
      obtain ⟨k, P, s', own', pv, dv, hk, rfl, hI⟩ := hrel
      have HI := hI
      clear hI HI0
      by_cases hgo : k < len ∧ k < q
      · obtain ⟨hlt, hlq⟩ := hgo
        obtain ⟨b, off, ai, ci, e, h1, h2, h3, h4, h5, h6⟩ := HRW.out.at_ (i := k) (by rw [HN.out]; exact hlt)
        subst e
        have h := HI.out
        have hbOk : own0 b = 0 ∧ b ≠ gl := by
          rcases HRW.out with e | ⟨b2, o2, e, hb2, _⟩
          · have := HN.out; rw [e] at this; simp at this; omega
          · simp only [Option.some.injEq, Addr.mk.injEq, and_true] at e
            rw [e.1]; exact hb2
        have hcell : wr.cell? ⟨b, off + k, none⟩ = some (.slice ai (rs.getD k []).length ci) := (World.cell?_of_block (a := ⟨b, off + k, none⟩) (h.move.same (World.block_lt_of_cell? _ _ h1) hbOk.1 hbOk.2 (fun f => f))).trans h1
        have hsl : SliceIs wr ai (rs.getD k []) := sliceIs_move h4 (fun hne p hp => ⟨(h6 hne p hp).1, (h6 hne p hp).2, fun f => f⟩) h.move
        have hel : rs.getD k [] ≠ [] → Else ai gl own' (WFoot gw pv dv) := else_move h4 (fun hne p hp => ⟨(h6 hne p hp).1, (h6 hne p hp).2, fun f => f⟩) h.move
        have hle := few_len HF.out k (by rw [HN.out]; exact hlt)
        have hst := stream_take_le rs (k + 1)
        have hts := take_getD rs (k := k) (by rw [HN.out]; exact hlt)
        rw [hts, Tape.stream_snoc, List.length_append, Tape.length_frame] at hst
        have hfs := few_stream HF.out
        have h0 : (new 64 300).ops = 0 := rfl
        have C := add_any w.heap.size g gl gw s' own' ((near 0 : Int), tkH 0 ((new 64 300).page : Int), tkM 0 0 ((new 64 300).page : Int)) (tkB 0 ((new 64 300).page : Int)) P (Tape.stream (rs.take k)) (rs.getD k []) k pv dv ai _ ci wr h.sys h.wr h.mem h.move.free h.tight rfl h2 h3 h5 hsl hel hle (by omega) (by have := h.ops; omega)
        have HC := Lib.hid C
        have HTS := Lib.hid hts
        have HST := Lib.hid hst
        obtain ⟨rl, hrl⟩ : ∃ rl, rl = (rs.getD k []).length := ⟨_, rfl⟩
        rw [← hrl] at HC hcell
        have HRL := Lib.hid hrl
        have d1 : decide ((k : Int) < (len : Int)) = true := by simp; omega
        have d2 : (k : Int) < (q : Int) := by omega
        clear h h1 h2 h3 h4 h5 h6 hsl hel C hts hst hle hrl h0
        go_wp2_with fail
        refine HC.out.mono ?_
        rintro e w2 ⟨E, s2, own2, L2, rfl, hA⟩
        have hE : E = 0 := hA.calm (HI.out.same.calm (calm_new _ _)) (by
          have h1 := HI.out.grow.live
          rw [live_new] at h1
          simp at h1
          have h2 : s'.page = 64 := HI.out.same.page
          have h3 : s'.most = 300 := HI.out.same.most
          have h4 := need_few (room := s'.page - 10) (n := (Tape.stream (rs.take k)).length + (4 + (rs.getD k []).length)) (by omega) (by have := HST.out; omega)
          omega)
        subst hE
        obtain ⟨rfl, P2, pv2, dv2, ha1, ha2, ha3, ha4, ha5⟩ := hA.ok rfl
        have h := HI.out
        have hI2 : MakeInv w.heap.size g gl gw (new 64 300) own0 (near 0, 0, 0) rs w' (k + 1) w2 P2 s2 own2 pv2 dv2 := by
          have es : Tape.stream (rs.take (k + 1)) = Tape.stream (rs.take k) ++ Tape.frame (rs.getD k []) := by rw [HTS.out, Tape.stream_snoc]
          refine ⟨hA.sys, h.same.trans hA.same, ?_, by rw [es]; exact ha1, .inr (by rw [es]; exact ha2), by rw [es]; exact ha3, h.move.trans ha4, h.grow.trans ha5⟩
          rw [es, List.length_append, Tape.length_frame]
          have := h.ops; have := hA.ops
          omega
        have hI3 := hI2.below (below_alloc w2 (.cells (madeCells #[.int .u8 0] 1048641) 5))
        have HI3 := Lib.hid hI3
        have HCL := Lib.hid (add_long gw g gl _ _ _ _ _ _ _ (some ⟨w2.heap.size, 0, none⟩) 1048641 1048641 _ hI3.mem (by decide) (by decide))
        clear hA ha1 ha2 ha3 ha4 ha5 hI2 hI3 h HI HC
        go_wp2_with fail
        refine HCL.out.mono ?_
        rintro e w'2 ⟨rfl, hw'2⟩
        rw [hw'2] at HI3
        clear HCL
        go_wp2_with fail
        go_roundw
        case rel => exact ⟨k + 1, P2, s2, own2, pv2, dv2, by omega, by go_num, HI3⟩
        case measure => simp [intOf]; omega
      · have h := HI.out
        have hlk : (Tape.stream (rs.take k)).length ≤ 10400 := Nat.le_trans (stream_take_le rs k) (few_stream HF.out)
        have h0 : (new 64 300).ops = 0 := rfl
        have hpl := grow_len h.grow h.sys.len16
        have C := abort_live w.heap.size g gl gw s' own' ((near 0 : Int), tkH 0 ((new 64 300).page : Int), tkM 0 0 ((new 64 300).page : Int)) (tkB 0 ((new 64 300).page : Int)) P (Tape.tail_ s' P (Tape.stream (rs.take k))) k pv dv wr h.sys h.mem h.move.free h.grow.nodup h.grow.used hpl (by have := h.ops; omega)
        have HC := Lib.hid C
        have HG := Lib.hid h.grow
        have hpg : s'.page = 64 := h.same.page
        rw [hpg] at HC
        have HMB := Lib.hid (HB03.out.trans (HS3.out.mbelow h.move (fun _ f => f.elim)))
        have HSI := Lib.hid h.sys
        have HFI := Lib.hid h.move.free
        have d1 : (k : Int) < (len : Int) → ¬ (k : Int) < (q : Int) := fun h1 h2 => hgo ⟨by omega, by omega⟩
        clear h C hlk h0 hpl hpg HI
        by_cases hl : k < len
        · have d2 : ¬ (k : Int) < (q : Int) := d1 (by omega)
          have d3 : (k : Int) < (len : Int) := by omega
          go_wp2_with fail
          refine HC.out.mono ?_
          rintro e w6 ⟨rfl, hS6, hO6, hM6⟩
          have hld : Sys w.heap.size w6 g gl (freed s' P) own' (near 0, 0, mx 0 (0 + ((64 : Nat) : Int))) := by
            rw [show (new 64 300).page = 64 from rfl, hold_back (by omega) (by decide) (by decide)] at hS6
            exact hS6
          have HCl := Lib.hid (close_over gw w6 hO6)
          have HAd := Lib.hid (add_over gw (.slice none 0 0) w6 hO6)
          have HAb := Lib.hid (abort_over gw w6 hO6)
          have hlv := dropped_live HG.out HG.out.used
          rw [live_new] at hlv
          have HLi := live_any g (freed s' P) own' w6 hS6.disk
          rw [hlv] at HLi
          have HLi := Lib.hid HLi
          have HHe := Lib.hid (Held_all gl LedT _ _ _ w6 hld.led)
          have HFin := Lib.hid (HMB.out.trans (HSI.out.mbelow hM6 (fun b hb => (HFI.out b hb).1)))
          clear hS6 hO6 hM6 hld hlv HC
          go_wp2_with fail
          refine HCl.out.mono ?_
          rintro e w' ⟨rfl, rfl⟩
          go_wp2_with fail
          refine HAd.out.mono ?_
          rintro e w' ⟨rfl, rfl⟩
          go_wp2_with fail
          refine HAb.out.mono ?_
          rintro e w' ⟨rfl, rfl⟩
          go_wp2_with fail
          refine HLi.out.mono ?_
          rintro e w' ⟨rfl, rfl⟩
          go_wp2_with fail
          refine HHe.out.mono ?_
          rintro e w' ⟨rfl, rfl⟩
          go_wp2_with fail
          go_ret
          exact ⟨rfl, HFin.out⟩
        · have d3 : ¬ (k : Int) < (len : Int) := by omega
          go_wp2_with fail
          refine HC.out.mono ?_
          rintro e w6 ⟨rfl, hS6, hO6, hM6⟩
          have hld : Sys w.heap.size w6 g gl (freed s' P) own' (near 0, 0, mx 0 (0 + ((64 : Nat) : Int))) := by
            rw [show (new 64 300).page = 64 from rfl, hold_back (by omega) (by decide) (by decide)] at hS6
            exact hS6
          have HCl := Lib.hid (close_over gw w6 hO6)
          have HAd := Lib.hid (add_over gw (.slice none 0 0) w6 hO6)
          have HAb := Lib.hid (abort_over gw w6 hO6)
          have hlv := dropped_live HG.out HG.out.used
          rw [live_new] at hlv
          have HLi := live_any g (freed s' P) own' w6 hS6.disk
          rw [hlv] at HLi
          have HLi := Lib.hid HLi
          have HHe := Lib.hid (Held_all gl LedT _ _ _ w6 hld.led)
          have HFin := Lib.hid (HMB.out.trans (HSI.out.mbelow hM6 (fun b hb => (HFI.out b hb).1)))
          clear hS6 hO6 hM6 hld hlv HC
          go_wp2_with fail
          refine HCl.out.mono ?_
          rintro e w' ⟨rfl, rfl⟩
          go_wp2_with fail
          refine HAd.out.mono ?_
          rintro e w' ⟨rfl, rfl⟩
          go_wp2_with fail
          refine HAb.out.mono ?_
          rintro e w' ⟨rfl, rfl⟩
          go_wp2_with fail
          refine HLi.out.mono ?_
          rintro e w' ⟨rfl, rfl⟩
          go_wp2_with fail
          refine HHe.out.mono ?_
          rintro e w' ⟨rfl, rfl⟩
          go_wp2_with fail
          go_ret
          exact ⟨rfl, HFin.out⟩
  · have hff : fewB rs = false := by simpa using hfew
    rw [hff]
    clear hfew hff
    go_wp2_with fail
    go_ret
    exact ⟨rfl, HB1.out⟩
end Go.Proofs.YtlfjffpbofigmaaDoor
