/- THE WALK OF tape's awake. -/
import Derived.Test.YtbkiahnljklhpaaDoorTapeReadL
import Derived.Lib.SlBytesConst
namespace Go.Proofs.YtbkiahnljklhpaaDoor
open Go.RowKit
open Seal
theorem sys_new {B : Nat} {w1 w2 : World} {g page most : Nat} {own0 : Nat → Nat} (hB : B ≤ w1.heap.size) (hD : DiskAt w2 g (new page most) own0) (hb : Below w1.heap.size w1 w2) (h0 : ∀ b, b < w1.heap.size → own0 b = 0) (ht : Tab w1) (hr : Bruijn w1) (t0 : 1 < B) (b0 : 0 < B) (bud : Int) :
    Sys B (w2.alloc (.cells #[.int .i64 (near bud), .int .i64 0, .int .i64 0] LedT)) g w2.heap.size (new page most) own0 (near bud, 0, 0) := by
  have h2 := below_alloc w2 (.cells #[.int .i64 (near bud), .int .i64 0, .int .i64 0] LedT)
  have h12 : Below w1.heap.size w1 (w2.alloc (.cells #[.int .i64 (near bud), .int .i64 0, .int .i64 0] LedT)) := hb.trans (h2.mono hb.size)
  have hn := near_bounds bud
  refine ⟨hD.below h2, heap_alloc_new w2 _, ⟨hn.1, hn.2, Int.le_refl _, by show (0 : Int) ≤ _; decide⟩, hD.fresh _ (Nat.le_refl _), fun b hb2 => h0 b (Nat.lt_of_lt_of_le hb2 hB), Nat.le_trans hB hb.size, ht.below h12 (Nat.lt_of_lt_of_le t0 hB), hr.below h12 (Nat.lt_of_lt_of_le b0 hB), t0, b0, by have := hb.size; simp; omega⟩
theorem hold_takes {p : Nat} (h : p ≤ 4096) {H : Int} (h0 : 0 ≤ H) (h1 : H ≤ 100000000) : tkB H p = true ∧ tkH H p = H + p := by
  have e : tkB H p = true := by unfold tkB; simp; omega
  refine ⟨e, ?_⟩
  unfold tkH; rw [if_pos e]
theorem hold_back {p : Nat} (h : p ≤ 4096) {b H M : Int} (h0 : 0 ≤ H) (h1 : H ≤ 100000000) : backL (tkB H p) p (b, tkH H p, tkM H M p) = (b, H, mx M (H + p)) := by
  obtain ⟨e1, e2⟩ := hold_takes h h0 h1
  unfold backL tkM
  rw [e1, e2]
  simp only [if_true]
  unfold gvH gvB
  rw [if_pos (by simp; omega)]
  congr 1
  congr 1
  omega
theorem Sys.mbelow {B g gl : Nat} {w w' : World} {s : Disk.St} {own own' : Nat → Nat} {L : Int × Int × Int} {F F' : Nat → Prop} (hS : Sys B w g gl s own L) (hM : Move B gl w w' own own' F F') (hF : ∀ b, F b → B ≤ b) : Below B w w' := hM.below hS.size hS.low hS.glb hF
theorem live_new (page most : Nat) : Disk.live (new page most).pages = 0 := rfl
theorem calm_new (page most : Nat) : Disk.Calm (new page most) := fun _ _ => rfl
def abc : List Nat := [97, 98, 99]
def wakes : List (List Nat) := [abc, List.replicate 99 0]
theorem wakes_len : (Tape.stream wakes).length = 110 := by rw [length_stream]; rfl
/-- A tape is dropped: nothing of it is left. -/
theorem dropped_live {s0 s : Disk.St} {P : List Nat} (hg : Disk.Grow s0 s [] P) (hp : ∀ m, m ∈ P → Disk.used s.pages m = true) : Disk.live (freed s P).pages = Disk.live s0.pages := by
  have h1 := Disk.live_gone s.pages P hg.nodup hp
  have h2 := hg.live
  simp at h2
  show Disk.live (Disk.gone s.pages P) = _
  omega
theorem wakes_rows {W : World} {b1 b2 b3 : Nat} {f1 f2 f3 : Nat × Nat} {T : TypeId} {Ok : Nat → Prop} (h1 : W.heap[b1]? = some (.cells #[.int .u8 97, .int .u8 98, .int .u8 99] 5 f1)) (h2 : W.heap[b2]? = some (.cells (madeCells #[.int .u8 0] 99) 5 f2))
    (h3 : W.heap[b3]? = some (.cells #[.slice (some ⟨b1, 0, none⟩) 3 3, .slice (some ⟨b2, 0, none⟩) 99 99] T f3)) (k1 : Ok b1) (k2 : Ok b2) (k3 : Ok b3) : RowsIn W (some ⟨b3, 0, none⟩) wakes Ok := by
  refine .inr ⟨_, 0, rfl, k3, fun i hi => ?_⟩
  have hi2 : i = 0 ∨ i = 1 := by have : i < 2 := hi; omega
  rcases hi2 with rfl | rfl
  · refine ⟨some ⟨b1, 0, none⟩, 3, ?_, by decide, by decide, .inr ⟨_, 0, rfl, fun j hj => ?_⟩, by intro c hc; revert c; decide, fun _ p hp => by obtain rfl := Option.some.inj hp; exact k1⟩
    · rw [cell_of_row _ _ _ _ _ _ h3]; rfl
    · have hj3 : j = 0 ∨ j = 1 ∨ j = 2 := by have : j < 3 := hj; omega
      rw [cell_of_row _ _ _ _ _ _ h1]
      rcases hj3 with rfl | rfl | rfl <;> rfl
  · refine ⟨some ⟨b2, 0, none⟩, 99, ?_, by decide, by decide, .inr ⟨_, 0, rfl, fun j hj => ?_⟩, by intro c hc; revert c; decide, fun _ p hp => by obtain rfl := Option.some.inj hp; exact k2⟩
    · rw [cell_of_row _ _ _ _ _ _ h3]; rfl
    · have hj99 : j < 99 := hj
      rw [cell_of_row _ _ _ _ _ _ h2, Nat.zero_add, ← Array.getElem?_toList, toList_madeCells_one]
      show (List.replicate 99 (Value.int .u8 0))[j]? = some (.int .u8 ((((List.replicate 99 0 : List Nat).getD j 0 : Nat)) : Int))
      rw [List.getElem?_replicate, if_pos hj99, List.getD_eq_getElem?_getD, List.getElem?_replicate, if_pos hj99]
      rfl
set_option maxRecDepth 100000 in
set_option maxHeartbeats 4000000 in
theorem awake_any (w : World) (ht : Tab w) (hr : Bruijn w) (t0 : 1 < w.heap.size) (b0 : 0 < w.heap.size) :
    Calls Tryd.prog 13 #[] w fun e w' => e = .returned (.bool true) ∧ Below w.heap.size w w' := by
  have C1 := new_ok 64 9 w (by decide) (by omega)
  rw [show ((64 : Nat) : Int) = 64 from rfl, show ((9 : Nat) : Int) = 9 from rfl] at C1
  have HC1 := Lib.hid C1
  have HTab := Lib.hid ht
  have HBr := Lib.hid hr
  have hmk := run_makeBytes 99 (by decide)
  rw [show ((99 : Nat) : Int) = 99 from rfl] at hmk
  have kc := fun (w : World) (C : Array Value) (n c : Nat) => Lib.run_convert_bytes_const (P := Tryd.prog) w 29 5 C n c Tryd.underlying29 Tryd.underlying5
  clear C1 ht hr
  go_enter Tryd.func13, Tryd.ntmps13
  go_wp2_with fail
  refine HC1.out.mono ?_
  rintro e w2 ⟨rfl, hD2, hB2, hz2⟩
  have hS3 := sys_new (Nat.le_refl _) hD2 hB2 hz2 HTab.out HBr.out t0 b0 0
  obtain ⟨w3, hw3⟩ : ∃ w3, w3 = w2.alloc (.cells #[.int .i64 (near 0), .int .i64 0, .int .i64 0] LedT) := ⟨_, rfl⟩
  obtain ⟨gl, hgl⟩ : ∃ gl, gl = w2.heap.size := ⟨_, rfl⟩
  obtain ⟨g, hg⟩ : ∃ g, g = w.heap.size + 1 := ⟨_, rfl⟩
  generalize newOwn w.heap.size = own0 at *
  have hC2 := New_all 0 w2
  rw [← hgl, ← hw3] at hC2
  rw [← hw3, ← hgl, ← hg] at hS3
  have HS3 := Lib.hid hS3
  have HC2 := Lib.hid hC2
  have HB03 : Hid (Below w.heap.size w w3) := by rw [hw3]; exact hB2.alloc hB2.size _
  rw [← hg]
  clear hD2 hB2 hz2 HC1 hw3 hgl hg hS3 hC2
  go_wp2_with fail
  refine HC2.out.mono ?_
  rintro e w' ⟨rfl, hw'⟩
  subst hw'
  obtain ⟨O1, hO1⟩ : ∃ O1 : Obj, O1 = .cells #[.int .u8 97, .int .u8 98, .int .u8 99] 5 (3, 4) := ⟨_, rfl⟩
  obtain ⟨O2, hO2⟩ : ∃ O2 : Obj, O2 = .cells (madeCells #[.int .u8 0] 99) 5 (0, 0) := ⟨_, rfl⟩
  obtain ⟨O3, hO3⟩ : ∃ O3 : Obj, O3 = .cells #[.slice (some ⟨w'.heap.size, 0, none⟩) 3 3, .slice (some ⟨w'.heap.size + 1, 0, none⟩) 99 99] 29 (0, 0) := ⟨_, rfl⟩
  have hrow : RowsIn (((w'.alloc O1).alloc O2).alloc O3) (some ⟨w'.heap.size + 1 + 1, 0, none⟩) wakes fun b => own0 b = 0 ∧ b ≠ gl := by
    have hsz : ((w'.alloc O1).alloc O2).heap.size = w'.heap.size + 1 + 1 := by simp
    have hgl := HS3.out.led.lt
    have hfr : ∀ b, w'.heap.size ≤ b → own0 b = 0 ∧ b ≠ gl := fun b hb => ⟨HS3.out.disk.fresh b hb, by omega⟩
    have h3 := heap_alloc_new ((w'.alloc O1).alloc O2) O3
    rw [hsz] at h3
    have h2 : (((w'.alloc O1).alloc O2).alloc O3).heap[w'.heap.size + 1]? = some O2 := by
      rw [Below.heap_alloc _ _ _ (by simp)]
      have := heap_alloc_new (w'.alloc O1) O2
      rw [show (w'.alloc O1).heap.size = w'.heap.size + 1 by simp] at this
      exact this
    have h1 : (((w'.alloc O1).alloc O2).alloc O3).heap[w'.heap.size]? = some O1 := by
      rw [Below.heap_alloc _ _ _ (by simp; omega), Below.heap_alloc _ _ _ (by simp)]
      exact heap_alloc_new w' O1
    exact wakes_rows (h1.trans (by rw [hO1])) (h2.trans (by rw [hO2])) (h3.trans (by rw [hO3])) (hfr _ (Nat.le_refl _)) (hfr _ (by omega)) (hfr _ (by omega))
  have hb5 : Below w'.heap.size w' (((w'.alloc O1).alloc O2).alloc O3) := (((Below.refl _ _).alloc (Nat.le_refl _) _).alloc (by simp) _).alloc (by simp; omega) _
  have hS5 := HS3.out.below hb5
  have HR := Lib.hid hrow
  have HS5 := Lib.hid hS5
  have HB5 := Lib.hid hb5
  have CM := make_any w.heap.size g gl (new 64 9) own0 (near 0, 0, 0) (some ⟨w'.heap.size + 1 + 1, 0, none⟩) 2 2 wakes _ hS5 rfl hrow (fun i hi => by
    have hi2 : i = 0 ∨ i = 1 := by omega
    rcases hi2 with rfl | rfl <;> decide) (by decide) (by rw [wakes_len]; decide)
  have HCM := Lib.hid CM
  clear hrow hb5 hS5 CM HC2
  go_wp2_with fail
  rw [← hO1, ← hO2, ← hO3]
  refine HCM.out.mono ?_
  rintro e w5 ⟨E, tv, s5, own5, rfl, hM⟩
  have hE : E = 0 := hM.calm (calm_new _ _) (by rw [live_new, wakes_len]; decide)
  subst hE
  obtain ⟨gt, P, pv, rfl, hgt, hTp, hWh, hTm, hMv, hGr⟩ := hM.ok rfl
  have hpage : s5.page = 64 := hM.same.page
  have hPl : P.length = 3 := by rw [hTp.len, hpage, wakes_len]; rfl
  have hsys := hM.sys
  rw [show (new 64 9).page = 64 from rfl, show near 0 = 0 from rfl, hold_back (by decide) (by decide) (by decide)] at hsys
  have hops : s5.ops ≤ 100000 := by have := hM.ops; rw [wakes_len] at this; exact Nat.le_trans this (by decide)
  have HS5b := Lib.hid hsys
  have HB35 := Lib.hid ((HB03.out.trans (HB5.out.mono HB03.out.size)).trans (HS5.out.mbelow hMv (fun _ f => f.elim)))
  have CR := readL_any w.heap.size g gl gt s5 own5 _ P wakes false pv w5 hsys hTm hMv.free hTp (fun i hi => by
    have hi2 : i = 0 ∨ i = 1 := by have : i < 2 := hi; omega
    rcases hi2 with rfl | rfl <;> decide) (by decide) (by rw [wakes_len]; omega)
  have HCR := Lib.hid CR
  have HM := Lib.hid hM
  have HTp := Lib.hid hTp
  have HWh := Lib.hid hWh
  have HTm := Lib.hid hTm
  have HMv := Lib.hid hMv
  have HGr := Lib.hid hGr
  have HPl := Lib.hid hPl
  have HPg := Lib.hid hpage
  clear hM hTp hWh hTm hMv hGr hPl hsys CR hpage HCM
  unfold ptr
  go_wp2_with fail
  refine HCR.out.mono ?_
  rintro e w6 ⟨E, k, v, vs, s6, rfl, hR⟩
  have hE : E = 0 := hR.good (HM.out.same.calm (calm_new _ _)) HWh.out
  subst hE
  have hk : k = 2 := hR.all rfl
  subst hk
  have hp5 := HPg.out
  have hsys6 := hR.sys
  rw [hp5, hold_back (by decide) (by decide) (by decide)] at hsys6
  have hTp6 : Tape.Tp s6 P (Tape.stream wakes) := HTp.out.keep hR.same (fun _ _ => by rw [hR.pages])
  have hTm6 : TpMem w6 gt g P wakes.length false pv := HTm.out.keep fun b hb => by
    obtain ⟨_, h2, h3, h4⟩ := HMv.out.free b hb
    exact hR.move.same h4 h2 h3 (fun f => f)
  have hF6 : Free w.heap.size gl w6 own5 (TFoot gt pv) := Free.size HMv.out.free hR.move.touch.size
  have hout := hR.out
  rw [show wakes.take 2 = wakes from rfl] at hout
  obtain ⟨oa, oc, hv, hoc, _, hrows⟩ := hout.rows
  obtain ⟨b0', o0, a0, c0, e0, k0, k0b, _, k0s, _, _⟩ := hrows.at_ (i := 0) (by decide)
  obtain ⟨b1', o1, a1, c1, e1, k1, _, _, _, _, _⟩ := hrows.at_ (i := 1) (by decide)
  rw [e0] at e1
  simp only [Option.some.injEq, Addr.mk.injEq, and_true] at e1
  obtain ⟨rfl, rfl⟩ := e1
  subst e0
  rw [show wakes.getD 0 [] = abc from rfl] at k0 k0s
  rw [show wakes.getD 1 [] = List.replicate 99 0 from rfl] at k1
  rw [show abc.length = 3 from rfl, Nat.add_zero] at k0
  rw [List.length_replicate] at k1
  rw [show wakes.length = 2 from rfl] at hv hTm6
  subst hv
  have hconv : (convert 29 9 (.slice a0 3 c0)).run Tryd.prog w6 = .ok (.string ⟨#[97, 98, 99]⟩) w6 := conv_str w6 a0 3 c0 abc rfl k0s
  have hpl16 : P.length ≤ 16384 := by rw [HPl.out]; decide
  have HCC := Lib.hid (count_any gt g P 2 false pv w6 hTm6)
  have HCP := Lib.hid (pages_any gt g P 2 false pv w6 hTm6 hpl16)
  have HS6 := Lib.hid hsys6
  have HTm6 := Lib.hid hTm6
  have HTp6 := Lib.hid hTp6
  have HF6 := Lib.hid hF6
  have HB56 := Lib.hid (HB35.out.trans (HS5b.out.mbelow hR.move (fun _ f => f.elim)))
  have hops6 : s6.ops ≤ 200000 := by have := hR.ops; rw [wakes_len] at this; omega
  have HPG6 : Hid (s6.pages = s5.pages) := hR.pages
  clear hR hsys6 hTp6 hTm6 hF6 hout hrows k0s k0b hpl16 hoc hp5 HCR
  go_wp2_with fail
  refine HCC.out.mono ?_
  rintro e w' ⟨rfl, rfl⟩
  go_wp2_with fail
  refine HCP.out.mono ?_
  rintro e w7 ⟨pv7, rfl, hrow7, hB7, _⟩
  obtain ⟨pa7, pc7, hpv7, _⟩ := ints_of_row hrow7
  rw [HPl.out] at hpv7
  subst hpv7
  have hS7 := HS6.out.below hB7
  have hM7 := HTm6.out.below hB7
  have hF7 := HF6.out.size hB7.size
  have HS7 := Lib.hid hS7
  have HHe := Lib.hid (Held_all gl LedT _ _ _ w7 hS7.led)
  have HDr := Lib.hid (drop_any w.heap.size g gl gt s6 own5 _ P 2 pv w7 hS7 hM7 hF7 HTp6.out.nodup HTp6.out.used (by rw [HPl.out]; omega))
  have HB7 := Lib.hid hB7
  clear hrow7 hB7 hS7 hM7 hF7 HCC HCP
  simp only []
  go_wp2_with fail
  refine HHe.out.mono ?_
  rintro e w' ⟨rfl, rfl⟩
  go_wp2_with fail
  refine HDr.out.mono ?_
  rintro e w8 ⟨rfl, hS8, _, hV8⟩
  have hlv : Disk.live (freed s6 P).pages = 0 := by
    have := dropped_live HGr.out HTp.out.used
    rw [live_new] at this
    rw [← this]
    show Disk.live (Disk.gone s6.pages P) = Disk.live (Disk.gone s5.pages P)
    rw [HPG6.out]
  have HLi := Lib.hid (live_any g (freed s6 P) own5 w8 hS8.disk)
  rw [hlv] at HLi
  have hfin : Below w.heap.size w w8 := (HB56.out.trans (HB7.out.mono HS6.out.size)).trans (HS7.out.mbelow hV8 (fun b hb => (HF6.out b hb).1))
  have HFin := Lib.hid hfin
  clear hS8 hV8 hlv hfin HDr HHe
  go_wp2_with fail
  refine HLi.out.mono ?_
  rintro e w' ⟨rfl, rfl⟩
  go_wp2_with fail
  go_ret
  exact ⟨rfl, HFin.out⟩
end Go.Proofs.YtbkiahnljklhpaaDoor
