/- THE WALKS OF Writer's write AND turn. -/
import Derived.Test.YtbkiahnljklhpaaDoorTapeLeaf
import Derived.Deep.RegionHeld3
namespace Go.Proofs.YtbkiahnljklhpaaDoor
open Go.RowKit
open Seal
/-- What a Write of page n leaves, E being its error. -/
def wroteE (s : Disk.St) (E n : Nat) (b : List Nat) : Disk.St := if E = 0 then { tick s with pages := Disk.put s.pages n (some b), writes := s.writes + 1 } else tick s
theorem Sys.below {B : Nat} {w w' : World} {g gl : Nat} {s : Disk.St} {own : Nat → Nat} {L : Int × Int × Int} (h : Sys B w g gl s own L) (hb : Below w.heap.size w w') : Sys B w' g gl s own L := h.stay hb.size fun b hlt _ => hb.block b hlt
theorem WrMem.below {w w' : World} {gw g gl page : Nat} {hb : Bool} {P D : List Nat} {cnt : Nat} {pv dv : Value} (h : WrMem w gw g gl page hb P D cnt pv dv) (k : Below w.heap.size w w') : WrMem w' gw g gl page hb P D cnt pv dv := h.keep fun b hb => k.block b (h.lt b hb)
theorem WrMem.only {w w' : World} {gw g gl page B : Nat} {hb : Bool} {P D : List Nat} {cnt : Nat} {pv dv : Value} {own : Nat → Nat} (h : WrMem w gw g gl page hb P D cnt pv dv) (hF : Free B gl w own (WFoot gw pv dv)) (k : Only own w w') : WrMem w' gw g gl page hb P D cnt pv dv := h.keep fun b hb => k.block b (h.lt b hb) (hF b hb).2.1
theorem Free.size {B gl : Nat} {w w' : World} {own : Nat → Nat} {F : Nat → Prop} (h : Free B gl w own F) (hs : w.heap.size ≤ w'.heap.size) : Free B gl w' own F := fun b hb => by
  obtain ⟨h1, h2, h3, h4⟩ := h b hb; exact ⟨h1, h2, h3, Nat.lt_of_lt_of_le h4 hs⟩
theorem Move.of_below {B gl : Nat} {w w' : World} {own : Nat → Nat} {F : Nat → Prop} (hF : Free B gl w own F) (h : Below w.heap.size w w') : Move B gl w w' own own F F :=
  ⟨Touch.of_below h, fun _ _ => rfl, fun _ _ h => h, hF.size h.size⟩
theorem pageB_nat {p : Nat} (h : pageOk p = true) : pageB (p : Int) = true := by unfold pageB; rwa [Int.toNat_natCast]
set_option maxRecDepth 100000 in
set_option maxHeartbeats 2000000 in
theorem twrite_any (B g gl gw : Nat) (s : Disk.St) (own : Nat → Nat) (L : Int × Int × Int) (hb : Bool) (P D : List Nat) (cnt : Nat) (pv dv : Value) (next : Int) (w : World) (hS : Sys B w g gl s own L) (hM : WrMem w gw g gl s.page hb P D cnt pv dv) (hF : Free B gl w own (WFoot gw pv dv))
    (ho : s.ops < 4611686018427387904) (hP : 0 < P.length) (hPl : P.length ≤ 16384) (hD : D.length + 10 ≤ s.page) (hDo : Oct D) (hn0 : -1 ≤ next) (hn : next < 16384) (hu : Disk.used s.pages (P.getD (P.length - 1) 0) = true) (E M : Nat) (hEM : Disk.hit 4 (s.plan (s.ops + 1 - s.begun)) = (E, M)) :
    Calls Tryd.prog 47 #[.pointer (some ⟨gw, 0, none⟩), .int .i64 next] w fun e w' => e = .returned (.int .i64 (E : Int)) ∧ Sys B w' g gl (wroteE s E (P.getD (P.length - 1) 0) (closeB s.page (next + 1).toNat D)) own L ∧ WrMem w' gw g gl s.page hb P D cnt pv dv ∧ Move B gl w w' own own (WFoot gw pv dv) (WFoot gw pv dv) := by
  have hpage := hS.pageOk
  have hpb := pageOk_bounds hpage
  obtain ⟨da, dcap, hdv, hdn, hdm, hsl⟩ := slice_of_row hM.drow
  obtain ⟨pa, pcap, hpv, hpn, hpm, hin, _⟩ := ints_of_row hM.prow
  have c0 := hM.obj.c0
  have c3 := hM.obj.c3
  have c4 := hM.obj.c4
  unfold ptr at c0
  rw [hdv] at c4
  rw [hpv] at c3
  have CP := page_any g s own w.drew (hS.disk.drewN 1)
  have hszp : 1 < w.heap.size := World.block_lt_of_cell? w _ (hS.tab 0 (by decide))
  have CC := close_at (s.page : Int) next da D.length dcap D w.drew rfl (pageB_nat hpage) hn0 hn (by omega) hDo (by exact hsl) (by exact hS.tab) hszp
  rw [Int.toNat_natCast] at CC
  obtain ⟨pb, poff, e, hrd⟩ := hin.resolve_left (fun e => by rw [e] at hP; simp at hP)
  subst e
  have hc5 := hrd (P.length - 1) (by omega)
  have hpbl : pb < w.heap.size := World.block_lt_of_cell? w _ hc5
  have HCP := Lib.hid CP
  have HCC := Lib.hid CC
  have HS := Lib.hid hS
  have HM := Lib.hid hM
  have HF := Lib.hid hF
  have HU := Lib.hid hu
  have HEM := Lib.hid hEM
  have hgl := hM.obj.lt
  have hlast : ((P.length : Nat) : Int) - 1 = ((P.length - 1 : Nat) : Int) := by omega
  have HDO := Lib.hid hDo
  clear hS hM hF hu hEM CP CC hin hrd hdv hpv hsl hDo
  generalize hlen : P.length = pl at *
  generalize P.getD (pl - 1) 0 = last at *
  have hq0 : (0 : Int) ≤ ((pl - 1 : Nat) : Int) := by omega
  have hq1 : ((pl - 1 : Nat) : Int) < (pl : Int) := by omega
  have hq2 : IntKind.i64.wrap ((pl - 1 : Nat) : Int) = ((pl - 1 : Nat) : Int) := IntWalk.i64_in _ (by omega)
  have hq3 : pl - 1 < pl := by omega
  generalize pl - 1 = q at *
  go_enter Tryd.func47, Tryd.ntmps47
  go_wp2_with fail
  go_region_held3 (fun w' => w'.cell? ⟨gw, 0, none⟩ = some (.pointer (some ⟨g, 0, none⟩)) ∧ w'.cell? ⟨gw, 4, none⟩ = some (.slice da D.length dcap)) (first | go_keep | exact ⟨c0, c4⟩ | exact ⟨c01, c41⟩)
    (first
      | (go_at_call 41; refine HCP.out.mono ?_; rintro e w' ⟨rfl, rfl⟩)
      | (go_at_call 58; refine HCC.out.mono ?_; rintro e w1 ⟨rfl, hR1, hB1⟩
         have c01 := (hB1.cell (p := ⟨gw, 0, none⟩) hgl).trans c0
         have c41 := (hB1.cell (p := ⟨gw, 4, none⟩) hgl).trans c4))
  have hBw : Below w.heap.size w w1 := ⟨hB1.os, hB1.tape, hB1.output, hB1.size, hB1.block⟩
  have c31 := (hBw.cell (p := ⟨gw, 3, none⟩) hgl).trans c3
  have c51 := (hBw.cell (p := ⟨pb, poff + q, none⟩) hpbl).trans hc5
  have hS1 := HS.out.below hBw
  have hM1 := HM.out.below hBw
  have hrl : Row w1 w.heap.size (closeB s.page (next + 1).toNat D) := hR1
  have hlb := length_closeB s.page (next + 1).toNat D hD
  have hrd1 := hrl.reads 0 s.page (by omega)
  rw [List.drop_zero, List.take_of_length_le (by omega)] at hrd1
  have hsrc : SrcOk w1 own (some ⟨w.heap.size, 0, none⟩) (closeB s.page (next + 1).toNat D) := ⟨.inr ⟨_, 0, rfl, hrd1⟩, oct_closeB _ _ _ HDO.out, fun p hp => by
    obtain rfl := Option.some.inj hp; exact HS.out.disk.fresh _ (Nat.le_refl _)⟩
  have HFin : Hid (Calls Tryd.prog 8 #[.pointer (some ⟨g, 0, none⟩), .int .i64 (last : Int), .slice (some ⟨w.heap.size, 0, none⟩) s.page s.page] w1.drew fun e w' => e = .returned (.int .i64 (E : Int)) ∧ DiskAt w' g (wroteE s E last (closeB s.page (next + 1).toNat D)) own ∧ Only own w1 w') := by
    unfold wroteE
    by_cases hE : E = 0
    · subst hE
      rw [if_pos rfl]
      refine (write_ok g s own last (some ⟨w.heap.size, 0, none⟩) s.page _ w1.drew (hS1.disk.drewN 1) ho M HEM.out HU.out hlb (by exact hsrc)).mono ?_
      rintro e w2 ⟨rfl, h2, h3⟩
      exact ⟨rfl, h2, ⟨h3.os, h3.tape, h3.output, h3.size, h3.block⟩⟩
    · rw [if_neg hE]
      refine (write_err g s own (last : Int) _ w1.drew (hS1.disk.drewN 1) ho E M HEM.out hE).mono ?_
      rintro e w2 ⟨rfl, h2, h3⟩
      exact ⟨rfl, h2, ⟨h3.os, h3.tape, h3.output, h3.size, h3.block⟩⟩
  have HS1 := Lib.hid hS1
  have HM1 := Lib.hid hM1
  have HBW := Lib.hid hBw
  clear hB1 hBw hR1 hS1 hM1 hrl hrd1 hsrc hlb c0 c3 c4 hc5
  go_wp2_with fail
  refine wp_region_still_tail 17 (by kernel_rfl) (by kernel_rfl) ?_
  simp only [List.take_succ_cons, List.take_zero, List.drop_succ_cons, List.drop_zero]
  iterate 17 still_step
  refine wpStill_nil ?_
  change wpList _ _ _ _ _ w1.drew
  go_wp2_with fail
  refine HFin.out.mono ?_
  rintro e w2 ⟨rfl, hD2, hO2⟩
  have HD2 := Lib.hid hD2
  have HO2 := Lib.hid hO2
  clear hD2 hO2
  go_wp2_with fail
  go_ret
  have hF1 := HF.out.size HBW.out.size
  exact ⟨rfl, HS1.out.only HD2.out HO2.out (fun _ _ => rfl), HM1.out.only hF1 HO2.out, (Move.of_below HF.out HBW.out).trans (Move.of_only hF1 HO2.out fun _ _ => rfl)⟩
end Go.Proofs.YtbkiahnljklhpaaDoor
