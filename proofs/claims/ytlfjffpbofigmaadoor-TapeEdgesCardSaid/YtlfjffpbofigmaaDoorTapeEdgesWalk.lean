/- THE WALK OF TapeEdges. -/
import Derived.Test.YtlfjffpbofigmaaDoorTapeCommon
import Derived.Test.YtlfjffpbofigmaaDoorTapeBuild
namespace Go.Proofs.YtlfjffpbofigmaaDoor
open Go.RowKit
open Seal
set_option maxRecDepth 100000 in
set_option maxHeartbeats 8000000 in
theorem edges_law (pg y z q : Nat) (w : World) (hpg : pg < 256) (hy : y < 256) (hz : z < 256) (hq : q < 256)
    (ht : Tab w) (hr : Bruijn w) (t0 : 0 < w.heap.size) (b0 : 1 < w.heap.size) :
    Calls Tryd.prog 6 #[.int .u8 (pg : Int), .agg #[.int .u8 (y : Int), .int .u8 (z : Int), .int .u8 (q : Int)]] w fun e w' => e = .returned (.bool true) ∧ Below w.heap.size w w' := by
  obtain ⟨i0, hJ, hJ0, hJ1, hJ2⟩ := info_parts infoRows
  obtain ⟨sz, hsz⟩ : ∃ sz, sz = 64 * 2 ^ (pg % 3) := ⟨_, rfl⟩
  have hpow : pg % 3 = 0 ∨ pg % 3 = 1 ∨ pg % 3 = 2 := by omega
  have hszok : pageOk sz = true ∧ sz ≤ 256 ∧ 64 ≤ sz := by
    rcases hpow with h | h | h <;> rw [h] at hsz <;> subst hsz <;> decide
  have hshl : wrap64 (64 * 2 ^ (pg % 3)) = (sz : Int) := by
    rcases hpow with h | h | h <;> rw [h] at hsz ⊢ <;> subst hsz <;> (rw [← IntWalk.i64_left]; rfl)
  clear hsz hpow
  go_enter Tryd.func6, Tryd.ntmps6
  go_wp2_with fail
  have hBa : Below w.heap.size w (w.alloc (.cells #[.int .u8 (y : Int), .int .u8 (z : Int), .int .u8 (q : Int)] 58)) := (Below.refl _ _).alloc (Nat.le_refl _) _
  have hsa0 : (w.alloc (.cells #[.int .u8 (y : Int), .int .u8 (z : Int), .int .u8 (q : Int)] 58)).heap.size = w.heap.size + 1 := by simp
  have hnn : ∀ j, j < 3 → (w.alloc (.cells #[.int .u8 (y : Int), .int .u8 (z : Int), .int .u8 (q : Int)] 58)).cell? ⟨w.heap.size, j, none⟩ = some (.int .u8 (([y, z, q].getD j 0 : Nat) : Int)) := by
    intro j hj
    rw [World.cell?_alloc_at _ _ _ _ rfl]
    match j, hj with
    | 0, _ => rfl
    | 1, _ => rfl
    | 2, _ => rfl
  generalize w.alloc (.cells #[.int .u8 (y : Int), .int .u8 (z : Int), .int .u8 (q : Int)] 58) = w0 at hBa hsa0 hnn ⊢
  have HBa := Lib.hid hBa
  have ht0' := ht.below hBa t0
  have hr0' := hr.below hBa b0
  have hs0 := Nat.lt_of_lt_of_le t0 hBa.size
  have hs1 := Nat.lt_of_lt_of_le b0 hBa.size
  obtain ⟨A, hA⟩ : ∃ A, A = w.heap.size := ⟨_, rfl⟩
  rw [← hA] at hnn hsa0 ⊢
  have HA := Lib.hid hA
  have HNN := Lib.hid hnn
  have hN256 : ∀ j, [y, z, q].getD j 0 < 256 := by
    intro j
    match j with
    | 0 => exact hy
    | 1 => exact hz
    | 2 => exact hq
    | j + 3 => show 0 < 256; omega
  have HN256 := Lib.hid hN256
  have HA0 : Hid (A < w0.heap.size) := by show A < _; omega
  have CA := Lib.hid (awake_any w0 ht0' hr0' hs0 hs1)
  have HTab := Lib.hid ht0'
  have HBr := Lib.hid hr0'
  have t0 := hs0
  have b0 := hs1
  clear ht hr hBa ht0' hr0' hA hnn hsa0 hs0 hs1 hN256
  refine CA.out.mono ?_
  rintro e w1 ⟨rfl, hB1⟩
  have HB1 := Lib.hid hB1
  clear hB1 CA
  go_wp2_with fail

  have hB1 := HB1.out
  have C1 := new_ok sz 300 w1 hszok.1 (by omega)
  rw [show ((300 : Nat) : Int) = 300 from rfl] at C1
  have HC1 := Lib.hid C1
  clear C1 hB1
  go_wp2_with fail
  refine HC1.out.mono ?_
  rintro e w2 ⟨rfl, hD2, hB2, hz2⟩
  have hB01 := HB1.out
  have hS3 := sys_new (B := w0.heap.size) hB01.size hD2 hB2 hz2 (HTab.out.below hB01 t0) (HBr.out.below hB01 b0) t0 b0 0
  obtain ⟨w3, hw3⟩ : ∃ w3, w3 = w2.alloc (.cells #[.int .i64 (near 0), .int .i64 0, .int .i64 0] LedT) := ⟨_, rfl⟩
  obtain ⟨gl, hgl⟩ : ∃ gl, gl = w2.heap.size := ⟨_, rfl⟩
  obtain ⟨g, hg⟩ : ∃ g, g = w1.heap.size + 1 := ⟨_, rfl⟩
  generalize newOwn w1.heap.size = own0 at *
  have hC2 := New_all 0 w2
  rw [← hgl, ← hw3] at hC2
  rw [← hw3, ← hgl, ← hg] at hS3
  have HS3 := Lib.hid hS3
  have HC2 := Lib.hid hC2
  have HB03 : Hid (Below w0.heap.size w0 w3) := by
    rw [hw3]
    exact (hB01.trans (hB2.mono hB01.size)).alloc (Nat.le_trans hB01.size hB2.size) _
  rw [← hg]
  clear hD2 hB2 hz2 HC1 hw3 hgl hg hS3 hC2 hB01
  go_wp2_with fail
  refine HC2.out.mono ?_
  rintro e w' ⟨rfl, hw'⟩
  subst hw'
  clear HC2

  have HE0 := Lib.hid (Edge.start w')
  go_wp2_with fail
  go_loopw [9, 10, 11] (fun bv sv iv wr => ∃ (i c sum : Nat) (va : Option Addr) (vc : Nat) (xs : List (List Nat)) (vs : List Value), i ≤ 3 ∧ c ≤ 3 * i ∧ iv = .int .i64 (i : Int) ∧ sv = .int .i64 (sum : Int) ∧ bv = .slice va (2 * c) vc ∧ Hid (Edge w' wr c (.slice va (2 * c) vc) sum xs vs)) (fun _ _ iv _ => 3 - (intOf iv).toNat)
  case atStart => exact ⟨0, 0, 0, none, 0, [], [], by omega, by omega, rfl, rfl, rfl, HE0⟩
  case round =>
    obtain ⟨i, c, sum, va, vc, xs, vs, hi3, hc3, rfl, rfl, rfl, hE⟩ := hrel
    have HE := hE
    clear hE HE0
    have hbb := Lib.hid (HB03.out.trans (HE.out.below.mono HB03.out.size))
    by_cases hi : i < 3
    · have hi' : (i : Int) < 3 := by omega
      obtain ⟨nn, hnn⟩ : ∃ nn, nn = [y, z, q].getD i 0 := ⟨_, rfl⟩
      have hn256 := HN256.out i
      rw [← hnn] at hn256
      have HNI := Lib.hid hnn
      clear hnn
      go_wp2_with fail
      go_wp2_with fail
      go_loopw [9, 10, 12] (fun bv sv kv wq => ∃ (k c sum : Nat) (va : Option Addr) (vc : Nat) (xs : List (List Nat)) (vs : List Value), k ≤ 3 ∧ c ≤ 3 * i + k ∧ kv = .int .i64 (k : Int) ∧ sv = .int .i64 (sum : Int) ∧ bv = .slice va (2 * c) vc ∧ Hid (Edge w' wq c (.slice va (2 * c) vc) sum xs vs)) (fun _ _ kv _ => 4 - (intOf kv).toNat)
      case atStart => exact ⟨0, c, sum, va, vc, xs, vs, by omega, by omega, rfl, rfl, rfl, HE⟩
      case round =>
        obtain ⟨k, c, sum, va, vc, xs, vs, hk3, hck, rfl, rfl, rfl, hE⟩ := hrel
        have HE := hE
        clear hE
        have hcell : wr.cell? ⟨A, i, none⟩ = some (.int .u8 (nn : Int)) := by
          have h1 := ((HB03.out.trans (HE.out.below.mono HB03.out.size)).cell (p := ⟨A, i, none⟩) HA0.out).trans (HNN.out i hi)
          rw [HNI.out]; exact h1
        obtain ⟨nm, hnm⟩ : ∃ nm, nm = nn % 4 := ⟨_, rfl⟩
        have hnm4 : nm < 4 := by omega
        have n1 : (nn : Int).tmod 4 = (nm : Int) := by rw [Int.tmod_eq_emod_of_nonneg (by omega)]; omega
        have n2 : (nn : Int) % 4 = (nm : Int) := by omega
        have hsum := HE.out.hi
        have hsum2 : sum ≤ 3168 := by omega
        clear hnm hsum
        by_cases hkn : k < nm
        · obtain ⟨rr, hrr⟩ : ∃ rr, rr = (sum + 4) % (sz - 10) := ⟨_, rfl⟩
          have hrlt : rr < sz - 10 := by rw [hrr]; exact Nat.mod_lt _ (by omega)
          have r0 : (((sum : Int) + 4 : Int)) = ((sum + 4 : Nat) : Int) := by simp
          have r00 : (sz : Int) - 10 = ((sz - 10 : Nat) : Int) := by omega
          have r1 : ((sum : Int) + 4).tmod ((sz : Int) - 10) = (rr : Int) := by rw [r0, r00, Int.tmod_eq_emod_of_nonneg (by omega), hrr]; simp
          have r2 : ((sum : Int) + 4) % ((sz : Int) - 10) = (rr : Int) := by rw [r0, r00, hrr]; simp
          have r3 : ((sz : Int) - 10 == 0) = false := by rw [beq_eq_false_iff_ne]; omega
          obtain ⟨mm, hmm⟩ : ∃ mm, mm = sz - 10 - rr + i - 1 := ⟨_, rfl⟩
          have hm256 : mm ≤ 256 := by omega
          have m1 : (sz : Int) - 10 - (rr : Int) + (i : Int) - 1 = (mm : Int) := by omega
          have hmk := run_makeBytes mm (by omega)
          clear hrr hmm r0 r00
          have hown0 := HE.out.out.row
          rw [HE.out.len] at hown0
          have hown := ((ownsRow_base (Nat.zero_le _) hown0 : wr.ownsRow 0 46 1 (.slice va (2 * c) vc) (2 * c) vs).alloc (.cells (madeCells #[.int .u8 0] mm) 5)).alloc (.cells #[.slice (some ⟨wr.heap.size, 0, none⟩) mm mm, .slice none 0 0] 46)
          have hnw : ∀ j u, ([.slice (some ⟨wr.heap.size, 0, none⟩) mm mm, .slice none 0 0] : List Value)[j]? = some u → ((wr.alloc (.cells (madeCells #[.int .u8 0] mm) 5)).alloc (.cells #[.slice (some ⟨wr.heap.size, 0, none⟩) mm mm, .slice none 0 0] 46)).cell? (Addr.add ⟨wr.heap.size + 1, 0, none⟩ j) = some u := by
            intro j u hj
            have hrow := heap_alloc_new (wr.alloc (.cells (madeCells #[.int .u8 0] mm) 5)) (.cells #[.slice (some ⟨wr.heap.size, 0, none⟩) mm mm, .slice none 0 0] 46)
            rw [show (wr.alloc (.cells (madeCells #[.int .u8 0] mm) 5)).heap.size = wr.heap.size + 1 by simp] at hrow
            match j, hj with
            | 0, hj =>
              simp at hj; subst hj
              exact cell_of_row _ _ 0 _ _ _ hrow
            | 1, hj =>
              simp at hj; subst hj
              exact cell_of_row _ _ 1 _ _ _ hrow
            | j + 2, hj => simp at hj
          have HOWN := Lib.hid hown
          have HNW := Lib.hid hnw
          clear hown0 hown hnw
          go_wp2_with (at_builtin; refine wpList_append_or _ rfl _ _ 22 rfl 46 i0 (.slice none 0 0) 24 Tryd.underlying22 hJ hJ0 hJ1 hJ2 rfl (.slice va (2 * c) vc) (2 * c) vs rfl HOWN.out ⟨wr.heap.size + 1, 0, none⟩ 2 2 [.slice (some ⟨wr.heap.size, 0, none⟩) mm mm, .slice none 0 0] (by first | rfl | simp) rfl (by decide) HNW.out (fun u hu => by simp at hu; rcases hu with rfl | rfl <;> rfl) (by unfold maxLen; omega) (by omega) ?_)
          intro v' w3 hrow hLie
          obtain ⟨va2, vn2, vc2, hv'⟩ := row_slice hrow
          have hvn2 := row_len hrow hv'
          subst hvn2
          subst hv'
          have HE3 := Lib.hid (HE.out.more hm256 hrow hLie)
          clear hrow hLie HOWN HNW
          go_wp2_with fail
          go_roundw
          case rel => exact ⟨k + 1, c + 1, sum + 8 + mm, va2, vc2, _, _, by omega, by omega, by go_num, by go_num, rfl, HE3⟩
          case measure => simp [intOf]; omega
        · go_wp2_with fail
          go_roundw
          case rel => exact ⟨i + 1, c, sum, va, vc, xs, vs, by omega, by omega, by go_num, by go_num, rfl, HE⟩
          case measure => simp [intOf]; omega
    · have hi3' : i = 3 := by omega
      subst hi3'
      have hlen := HE.out.len
      obtain ⟨oa, oc, hv, hoc, hocm, hrows⟩ := HE.out.out.rows
      rw [hlen] at hv hoc
      obtain ⟨rfl, rfl⟩ : va = oa ∧ vc = oc := by simp at hv; exact hv
      have hstr : (Tape.stream xs).length ≤ 2376 := by have h1 := HE.out.tot; have h2 := HE.out.hi; omega
      have hR0 : RowsIn wr va xs fun b => own0 b = 0 ∧ b ≠ gl := hrows.keep (fun _ _ _ => rfl) (fun b _ hb => ⟨HS3.out.disk.fresh b hb.1, by have h1 := HS3.out.led.lt; have h2 := hb.1; omega⟩)
      have HRW := Lib.hid hR0
      have HLEN := Lib.hid hlen
      have HSTR := Lib.hid hstr
      have hSr := HS3.out.below HE.out.below
      have HSr := Lib.hid hSr
      have HBr2 := hbb
      have hc9 : c ≤ 9 := by omega
      have CM := make_any w0.heap.size g gl (new sz 300) own0 (near 0, 0, 0) va (2 * c) vc xs wr hSr hlen hR0 (fun i hi => by have := HE.out.each i (by rw [HE.out.len]; exact hi); omega) (by omega) (by show 0 + _ + _ < _; omega)
      have HCM := Lib.hid CM
      clear CM hv hrows hlen hR0 hSr
      go_wp2_with fail
      refine HCM.out.mono ?_
      rintro e w5 ⟨E, tv, s5, own5, rfl, hM⟩
      have hE : E = 0 := hM.calm (calm_new _ _) (by
        rw [live_new]
        have h1 := need_few (room := sz - 10) (n := (Tape.stream xs).length) (by omega) (by omega)
        show 0 + Tape.need (sz - 10) _ ≤ 300
        omega)
      subst hE
      obtain ⟨gt, P, pv, rfl, hgt, hTp, hWh, hTm, hMv, hGr⟩ := hM.ok rfl
      have hpage : s5.page = sz := hM.same.page
      have hsys := hM.sys
      have hops : s5.ops ≤ 2000000 := by
        have h0 := hM.ops
        rw [HLEN.out] at h0
        have h3 : (new sz 300).ops = 0 := rfl
        omega
      have HS5 := Lib.hid hsys
      have HB5 := Lib.hid (HBr2.out.trans (HSr.out.mbelow hMv (fun _ f => f.elim)))
      have HCalm := Lib.hid (hM.same.calm (calm_new _ _))
      have HRW5 : Hid (RowsIn w5 va xs fun b => own5 b = 0 ∧ b ≠ gl) := HRW.out.keep (fun b hlt hb => hMv.same hlt hb.1 hb.2 (fun f => f)) (fun b hlt hb => ⟨(hMv.marks b hlt).trans hb.1, hb.2⟩)
      have HTp := Lib.hid hTp
      have HWh := Lib.hid hWh
      have HTm := Lib.hid hTm
      have HFr := Lib.hid hMv.free
      have HGr := Lib.hid hGr
      have HPg := Lib.hid hpage
      clear hM hTp hWh hTm hMv hGr hsys hpage hgt HCM
      unfold ptr
      have CR := readL_any w0.heap.size g gl gt s5 own5 _ P xs false pv w5 HS5.out HTm.out HFr.out HTp.out (fun i hi => by have := HE.out.each i hi; omega) (by rw [HLEN.out]; omega) (by omega)
      have HCR := Lib.hid CR
      clear CR
      go_wp2_with fail
      refine HCR.out.mono ?_
      rintro e w6 ⟨E, k, v6, vs6, s6, rfl, hR⟩
      have hE : E = 0 := hR.good HCalm.out HWh.out
      subst hE
      have hk : k = xs.length := hR.all rfl
      subst hk
      have hout := hR.out
      rw [List.take_length] at hout
      have hops6 : s6.ops ≤ 3000000 := by have := hR.ops; omega
      have HS6 := Lib.hid hR.sys
      have HB6 := Lib.hid (HB5.out.trans (HS5.out.mbelow hR.move (fun _ f => f.elim)))
      have HTm6 : Hid (TpMem w6 gt g P xs.length false pv) := HTm.out.keep fun b hb => by
        obtain ⟨_, h2, h3, h4⟩ := HFr.out b hb
        exact hR.move.same h4 h2 h3 (fun f => f)
      have HFr6 : Hid (Free w0.heap.size gl w6 own5 (TFoot gt pv)) := Free.size HFr.out hR.move.touch.size
      have HRW6 : Hid (RowsIn w6 va xs fun b => own5 b = 0 ∧ b ≠ gl) := HRW5.out.keep (fun b hlt hb => hR.move.same hlt hb.1 hb.2 (fun f => f)) (fun _ _ hb => hb)
      have HPp6 : Hid (s6.pages = s5.pages) := hR.pages
      obtain ⟨oa6, oc6, hv6, hoc6, hoc6m, hrows6⟩ := hout.rows
      subst hv6
      have HRows6 := Lib.hid hrows6
      have hPl16 : P.length ≤ 16384 := by
        have h1 := HTp.out.len
        have h2 := need_few (room := s5.page - 10) (n := (Tape.stream xs).length) (by rw [HPg.out]; omega) (by omega)
        omega
      rw [HLEN.out] at hoc6 ⊢
      clear hR hout hrows6 HCR
      go_wp2_with fail
      refine (same_any oa6 va (2 * c) (2 * c) oc6 vc xs xs w6 _ _ HLEN.out HLEN.out (by omega) (by omega) HRows6.out HRW6.out).mono ?_
      rintro e w' ⟨rfl, u1, rfl⟩
      rw [decide_eq_true (rfl : xs = xs)]
      obtain ⟨w7, hw7⟩ : ∃ w7, w7 = w6.drewN u1 := ⟨_, rfl⟩
      rw [← hw7]
      have hB7 : Below w6.heap.size w6 w7 := by rw [hw7]; exact drewN_below w6 _
      have HS7 := Lib.hid (HS6.out.below hB7)
      have HTm7 := Lib.hid (HTm6.out.below hB7)
      have HFr7 : Hid (Free w0.heap.size gl w7 own5 (TFoot gt pv)) := Free.size HFr6.out hB7.size
      have HB07 := Lib.hid (HB6.out.trans (hB7.mono HB6.out.size))
      have HRW7 : Hid (RowsIn w7 va xs fun b => own5 b = 0 ∧ b ≠ gl) := HRW6.out.keep (fun b hlt _ => hB7.block b hlt) (fun _ _ hb => hb)
      have HCP := Lib.hid (pages_any gt g P xs.length false pv w7 HTm7.out hPl16)
      clear hw7 hB7
      go_wp2_with fail
      refine HCP.out.mono ?_
      rintro e w8 ⟨pv8, rfl, hrow8, hB8, _⟩
      obtain ⟨pa8, pc8, hpv8, _⟩ := ints_of_row hrow8
      subst hpv8
      have HS8 := Lib.hid (HS7.out.below hB8)
      have HTm8 := Lib.hid (HTm7.out.below hB8)
      have HFr8 : Hid (Free w0.heap.size gl w8 own5 (TFoot gt pv)) := Free.size HFr7.out hB8.size
      have HB08 := Lib.hid (HB07.out.trans (hB8.mono HB07.out.size))
      have HRW8 : Hid (RowsIn w8 va xs fun b => own5 b = 0 ∧ b ≠ gl) := HRW7.out.keep (fun b hlt _ => hB8.block b hlt) (fun _ _ hb => hb)
      obtain ⟨pl, hpl⟩ : ∃ pl, pl = P.length := ⟨_, rfl⟩
      have HPL := Lib.hid hpl
      rw [← hpl]
      have hneed : ((Tape.need (sz - 10) (Tape.stream xs).length : Nat) : Int) = (pl : Int) := by rw [HPL.out, HTp.out.len, HPg.out]
      have HCN := need_any sz va (2 * c) vc xs w8 _ (by omega) HLEN.out (by omega) HRW8.out (by have := length_stream xs; omega)
      rw [hneed] at HCN
      have HCN := Lib.hid HCN
      have HDr := Lib.hid (drop_any w0.heap.size g gl gt s6 own5 _ P xs.length pv w8 HS8.out HTm8.out HFr8.out HTp.out.nodup (by rw [HPp6.out]; exact HTp.out.used) (by omega))
      clear hrow8 hB8 hpl hneed HCP
      go_wp2_with fail
      refine HCN.out.mono ?_
      rintro e w' ⟨rfl, rfl⟩
      go_wp2_with fail
      refine HDr.out.mono ?_
      rintro e w10 ⟨rfl, hS10, hM10, hV10⟩
      have hlv : Disk.live (freed s6 P).pages = 0 := by
        have h1 := dropped_live HGr.out HTp.out.used
        rw [live_new] at h1
        rw [← h1]
        show Disk.live (Disk.gone s6.pages P) = Disk.live (Disk.gone s5.pages P)
        rw [HPp6.out]
      have HLi := live_any g (freed s6 P) own5 w10 hS10.disk
      rw [hlv] at HLi
      have HLi := Lib.hid HLi
      have HFin : Hid (Below w0.heap.size w0 w10) := HB08.out.trans (HS8.out.mbelow hV10 (fun b hb => (HFr8.out b hb).1))
      clear hS10 hM10 hV10 hlv HDr HCN
      go_wp2_with fail
      refine HLi.out.mono ?_
      rintro e w' ⟨rfl, rfl⟩
      go_wp2_with fail
      go_ret
      exact ⟨rfl, HBa.out.trans (HFin.out.mono HBa.out.size)⟩
end Go.Proofs.YtlfjffpbofigmaaDoor
