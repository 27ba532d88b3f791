/- THE WALKS OF Tape's Open, Count, Pages, Drop. -/
import Derived.Test.YtbkiahnljklhpaaDoorTapeTape
namespace Go.Proofs.YtbkiahnljklhpaaDoor
open Go.RowKit
open Seal
theorem TpMem.c (i : Nat) {w : World} {gt g : Nat} {P : List Nat} {cnt : Nat} {dropped : Bool} {pv : Value} (h : TpMem w gt g P cnt dropped pv) : w.cell? ⟨gt, i, none⟩ = (#[ptr g, pv, nat cnt, .bool dropped] : Array Value)[i]? := cell_of_row w gt i _ _ _ h.obj
set_option maxRecDepth 100000 in
set_option maxHeartbeats 400000 in
theorem count_any (gt g : Nat) (P : List Nat) (cnt : Nat) (dropped : Bool) (pv : Value) (w : World) (h : TpMem w gt g P cnt dropped pv) :
    Calls Tryd.prog 28 #[.pointer (some ⟨gt, 0, none⟩)] w fun e w' => e = .returned (.int .i64 ((cnt : Nat) : Int)) ∧ w = w' := by
  have c2 : w.cell? ⟨gt, 2, none⟩ = some (.int .i64 ((cnt : Nat) : Int)) := h.c 2
  clear h
  go_enter Tryd.func28, Tryd.ntmps28
  go_wp2_with fail
  go_ret
  exact ⟨rfl, rfl⟩
set_option maxRecDepth 100000 in
set_option maxHeartbeats 400000 in
theorem pages_any (gt g : Nat) (P : List Nat) (cnt : Nat) (dropped : Bool) (pv : Value) (w : World) (h : TpMem w gt g P cnt dropped pv) (hl : P.length ≤ 16384) :
    Calls Tryd.prog 29 #[.pointer (some ⟨gt, 0, none⟩)] w fun e w' => ∃ v, e = .returned v ∧ w'.ownsRow 0 3 1 v P.length (i64s P) ∧ Below w.heap.size w w' ∧ (∀ b, v.ownBlock = some b → w.heap.size ≤ b) := by
  obtain ⟨pa, pcap, hpv, _, _, hin, _⟩ := ints_of_row h.prow
  have c1 : w.cell? ⟨gt, 1, none⟩ = some (.slice pa P.length pcap) := by rw [← hpv]; exact h.c 1
  have hnil : P.length = 0 → pa = none ∧ pcap = 0 := fun h0 => by
    have := h.nilp (List.eq_nil_of_length_eq_zero h0)
    rw [hpv] at this
    simp at this
    exact ⟨this.1, this.2.2⟩
  have HC := Lib.hid (cloneInts_any pa P.length pcap P w rfl hl hin hnil)
  obtain ⟨pl, hpl⟩ : ∃ pl, pl = P.length := ⟨_, rfl⟩
  rw [← hpl] at c1 HC
  have HPL := Lib.hid hpl
  rw [← hpl]
  clear h hpv hin hnil hl hpl
  go_enter Tryd.func29, Tryd.ntmps29
  go_wp2_with fail
  refine HC.out.mono ?_
  rintro e w1 ⟨v, rfl, hrow, hB, hf⟩
  have HROW := Lib.hid hrow
  have HB := Lib.hid hB
  have HF := Lib.hid hf
  clear hrow hB hf HC
  go_wp2_with fail
  go_ret
  exact ⟨v, rfl, HROW.out, HB.out, HF.out⟩
set_option maxRecDepth 100000 in
set_option maxHeartbeats 400000 in
theorem drop_again (gt g : Nat) (P : List Nat) (cnt : Nat) (pv : Value) (w : World) (h : TpMem w gt g P cnt true pv) :
    Calls Tryd.prog 22 #[.pointer (some ⟨gt, 0, none⟩)] w fun e w' => e = .returned (.int .i64 21) ∧ w = w' := by
  have c3 : w.cell? ⟨gt, 3, none⟩ = some (.bool true) := h.c 3
  clear h
  go_enter Tryd.func22, Tryd.ntmps22
  go_wp2_with fail
  go_ret
  exact ⟨rfl, rfl⟩
set_option maxRecDepth 100000 in
set_option maxHeartbeats 1000000 in
theorem drop_any (B g gl gt : Nat) (s : Disk.St) (own : Nat → Nat) (L : Int × Int × Int) (P : List Nat) (cnt : Nat) (pv : Value) (w : World) (hS : Sys B w g gl s own L) (h : TpMem w gt g P cnt false pv) (hF : Free B gl w own (TFoot gt pv))
    (hnd : P.Nodup) (hu : ∀ n ∈ P, Disk.used s.pages n = true) (ho : s.ops + P.length < 4611686018427387900) :
    Calls Tryd.prog 22 #[.pointer (some ⟨gt, 0, none⟩)] w fun e w' => e = .returned (.int .i64 0) ∧ Sys B w' g gl (freed s P) own L ∧ TpMem w' gt g P cnt true pv ∧ Move B gl w w' own own (TFoot gt pv) (TFoot gt pv) := by
  obtain ⟨pa, pcap, hpv, _, _, hin, hpb⟩ := ints_of_row h.prow
  have c0 : w.cell? ⟨gt, 0, none⟩ = some (.pointer (some ⟨g, 0, none⟩)) := h.c 0
  have c1 : w.cell? ⟨gt, 1, none⟩ = some (.slice pa P.length pcap) := by rw [← hpv]; exact h.c 1
  have c3 : w.cell? ⟨gt, 3, none⟩ = some (.bool false) := h.c 3
  have f3 : w.frozen? ⟨gt, 3, none⟩ = false := frozen_of_row w gt 3 _ _ h.obj
  have hPl : P.length ≤ 16384 := by
    have := Disk.live_gone s.pages P hnd hu
    have := Disk.live_le s.pages
    have := hS.len16
    omega
  obtain ⟨wS, hwS⟩ : ∃ wS, wS = w.setCell ⟨gt, 3, none⟩ (.bool true) := ⟨_, rfl⟩
  have hset : ∀ x, x ≠ gt → wS.heap[x]? = w.heap[x]? := fun x hx => by rw [hwS]; exact Below.heap_setCell _ _ _ _ (fun e => hx e)
  have hsz : wS.heap.size = w.heap.size := by rw [hwS]; simp [World.setCell]
  have hT : Touch (TFoot gt pv) w wS := by rw [hwS]; exact (Touch.refl _ _).setCell (.inl (.inl rfl)) _
  have hfo : ∀ x, TFoot gt pv x → (x < w.heap.size → TFoot gt pv x) ∧ x < wS.heap.size := fun x hx => ⟨fun _ => hx, by rw [hsz]; exact h.lt x hx⟩
  obtain ⟨hS1, hV1⟩ := push_fin hS (Move.refl hF) hT hfo
  have hm1 : TpMem wS gt g P cnt true pv := by
    refine ⟨?_, ownsRow_keep h.prow fun b hb => hset b (fun e => h.np (by rw [hb, e])), h.np, h.nilp⟩
    rw [hwS, heap_setCell_same w gt 3 _ _ _ h.obj]; rfl
  have hin1 : Ints wS pa P := hin.keep fun p hp => hset p.block (fun e => h.np (by rw [(hpb p hp).1, e]))
  have d0 : wS.cell? ⟨gt, 0, none⟩ = some (.pointer (some ⟨g, 0, none⟩)) := hm1.c 0
  have d1 : wS.cell? ⟨gt, 1, none⟩ = some (.slice pa P.length pcap) := by rw [← hpv]; exact hm1.c 1
  have HC := Lib.hid (freeAll_any g s own pa P.length pcap P wS.drew (hS1.disk.drewN 1) (by omega) rfl hPl (by exact hin1) (fun p hp => (hF p.block (.inr (hpb p hp).1)).2.1) hnd hu)
  have HS1 := Lib.hid hS1
  have HV1 := Lib.hid hV1
  have HM1 := Lib.hid hm1
  have HWS := Lib.hid hwS
  obtain ⟨pl, hpl⟩ : ∃ pl, pl = P.length := ⟨_, rfl⟩
  rw [← hpl] at d1 HC
  clear hS h hF hnd hu hin hin1 hpb hset hT hfo hS1 hV1 hm1 hwS c0 c1 hpv hpl
  go_enter Tryd.func22, Tryd.ntmps22
  go_wp2_with fail
  rw [← HWS.out]
  refine wp_region_still_tail 8 (by kernel_rfl) (by kernel_rfl) ?_
  simp only [List.take_succ_cons, List.take_zero, List.drop_succ_cons, List.drop_zero]
  iterate 8 still_step
  refine wpStill_nil ?_
  change wpList _ _ _ _ _ wS.drew
  go_wp2_with fail
  refine HC.out.mono ?_
  rintro e w1 ⟨rfl, hD, hO⟩
  have hO1 : Only own wS w1 := ⟨hO.os, hO.tape, hO.output, hO.size, hO.block⟩
  have HD := Lib.hid hD
  have HO := Lib.hid hO1
  clear hD hO hO1 HC
  go_wp2_with fail
  go_ret
  exact ⟨rfl, HS1.out.only HD.out HO.out fun _ _ => rfl, HM1.out.keep fun b hb => HO.out.block b (HM1.out.lt b hb) (HV1.out.free b hb).2.1, HV1.out.trans (Move.of_only HV1.out.free HO.out fun _ _ => rfl)⟩
/-- A reader that was just opened. -/
structure OpenPost (B g gl : Nat) (s : Disk.St) (own : Nat → Nat) (L : Int × Int × Int) (P S : List Nat) (rs : List (List Nat)) (w : World) (gr : Nat) (pa : Option Addr) (w' : World) : Prop where
  sys : Sys B w' g gl s own (L.1, tkH L.2.1 s.page, tkM L.2.1 L.2.2 s.page)
  rdr : Rdr B w' g gl gr s own (tkB L.2.1 s.page) P S rs 0 0 pa none
  fresh : w.heap.size ≤ gr
  move : Move B gl w w' own own (fun _ => False) (RFoot gr none)
set_option maxRecDepth 100000 in
set_option maxHeartbeats 1000000 in
theorem topen_any (B g gl gt : Nat) (s : Disk.St) (own : Nat → Nat) (L : Int × Int × Int) (P S : List Nat) (rs : List (List Nat)) (dropped : Bool) (pv : Value) (w : World) (hS : Sys B w g gl s own L) (h : TpMem w gt g P rs.length dropped pv) (hF : Free B gl w own (TFoot gt pv))
    (hst : S = Tape.stream rs) :
    Calls Tryd.prog 33 #[.pointer (some ⟨gt, 0, none⟩), .pointer (some ⟨gl, 0, none⟩)] w fun e w' => ∃ gr pa, e = .returned (ptr gr) ∧ (∀ q, pa = some q → pv.ownBlock = some q.block) ∧ OpenPost B g gl s own L P S rs w gr pa w' := by
  obtain ⟨pa, pcap, hpv, hpn, hpm, hin, hpb⟩ := ints_of_row h.prow
  have c0 : w.cell? ⟨gt, 0, none⟩ = some (.pointer (some ⟨g, 0, none⟩)) := h.c 0
  have c1 : w.cell? ⟨gt, 1, none⟩ = some (.slice pa P.length pcap) := by rw [← hpv]; exact h.c 1
  obtain ⟨n, hn⟩ : ∃ n, n = rs.length := ⟨_, rfl⟩
  have c2 : w.cell? ⟨gt, 2, none⟩ = some (.int .i64 ((n : Nat) : Int)) := by rw [hn]; exact h.c 2
  have HCP := Lib.hid (page_any g s own w.drew (hS.disk.drewN 1))
  have HCH := Lib.hid (holdOf_any s.page gl L.1 L.2.1 L.2.2 w.drew (hS.led.drewN 1) hS.fair)
  have hgt := h.lt gt (.inl rfl)
  have hgtl := (hF gt (.inl rfl)).2.2.1
  obtain ⟨pl, hpl⟩ : ∃ pl, pl = P.length := ⟨_, rfl⟩
  rw [← hpl] at c1
  have HS := Lib.hid hS
  have HM := Lib.hid h
  have HF := Lib.hid hF
  have HIN := Lib.hid hin
  have HPB := Lib.hid hpb
  have HST := Lib.hid hst
  have HN := Lib.hid hn
  have HPL := Lib.hid hpl
  have HPC : Hid (P.length ≤ pcap ∧ pcap ≤ 9223372036854775807) := ⟨hpn, hpm⟩
  have hmf : ∀ (fn : Fn) (first cap : Array Value) (w : World), (Instr.makeFunc fn first cap).run Tryd.prog w = .ok (.func fn first cap) w := fun _ _ _ _ => rfl
  clear hS h hF hin hpb hst hn hpl hpv hpn hpm
  go_enter Tryd.func33, Tryd.ntmps33
  go_wp2_with fail
  go_region_held3 (fun w' => w'.cell? ⟨gt, 0, none⟩ = some (.pointer (some ⟨g, 0, none⟩)) ∧ w'.cell? ⟨gt, 1, none⟩ = some (.slice pa pl pcap) ∧ w'.cell? ⟨gt, 2, none⟩ = some (.int .i64 ((n : Nat) : Int))) (first | go_keep | exact ⟨c0, c1, c2⟩ | exact ⟨c01, c11, c21⟩)
    (first
      | (go_at_call 41; refine HCP.out.mono ?_; rintro e w' ⟨rfl, rfl⟩)
      | (go_at_call 40; refine HCH.out.mono ?_; rintro e w1 ⟨rfl, hL1, hT1⟩
         have hb0 := hT1.block gt hgt hgtl
         have c01 := (World.cell?_of_block (a := ⟨gt, 0, none⟩) hb0).trans c0
         have c11 := (World.cell?_of_block (a := ⟨gt, 1, none⟩) hb0).trans c1
         have c21 := (World.cell?_of_block (a := ⟨gt, 2, none⟩) hb0).trans c2))
  all_goals
    have hT2 : Touch (fun x => x = gl) w w1 := ⟨hT1.os, hT1.tape, hT1.output, hT1.size, hT1.block⟩
    have HT2 := Lib.hid hT2
    have HL1 := Lib.hid hL1
    clear hT1 hT2 hL1 hb0 c01 c11 c21
    go_wp2_with fail
    go_ret
    have hf : Free B gl w own (fun _ => False) := fun _ h => h.elim
    have hz := HT2.out.size
    have hS1 := HS.out.led' (F := fun _ => False) (L' := (L.1, tkH L.2.1 s.page, tkM L.2.1 L.2.2 s.page)) HL1.out (HS.out.fair.take _) (HT2.out.mono fun _ _ h => .inl h) (fun _ h => h.elim)
    refine ⟨w1.heap.size, pa, rfl, fun q hq => (HPB.out q hq).1, hS1.below (below_alloc w1 _), ⟨⟨pcap, 0, ?_⟩, ?_, ?_, fun q hq => ?_, Nat.zero_le _, Nat.zero_le _, HST.out, fun i hi => by omega⟩, hz, ?_⟩
    · refine ⟨?_, ?_, .inl (by simp [atHand]), fun c hc => by simp [atHand] at hc, HPC.out, ⟨by simp [atHand], by decide⟩, fun q hq => by cases hq⟩
      · unfold Obj7
        rw [heap_alloc_new, HPL.out, HN.out]
        simp [atHand, ptr, nat]
      · exact (HIN.out.keep (w' := w1.alloc _) fun p hp => by
          have hlt := HM.out.lt p.block (.inr (HPB.out p hp).1)
          rw [Below.heap_alloc w1 _ _ (Nat.lt_of_lt_of_le hlt hz)]
          exact HT2.out.block p.block hlt (HF.out p.block (.inr (HPB.out p hp).1)).2.2.1)
    · intro b hb
      rcases hb with rfl | ⟨q, hq, _⟩
      · exact ⟨hS1.size, hS1.disk.fresh _ (Nat.le_refl _), by have := hS1.led.lt; omega, by simp⟩
      · cases hq
    · intro p hp
      have hlt := HM.out.lt p.block (.inr (HPB.out p hp).1)
      obtain ⟨h1, h2, h3, _⟩ := HF.out p.block (.inr (HPB.out p hp).1)
      refine ⟨h2, h3, fun hf => ?_⟩
      rcases hf with e | ⟨q, hq, _⟩
      · omega
      · cases hq
    · have hlt := HM.out.lt q.block (.inr (HPB.out q hq).1)
      simp
      omega
    · refine (Move.of_led hf (HT2.out.mono fun _ _ h => .inl h) (fun _ h => h)).trans ⟨Touch.of_below (below_alloc w1 _), fun _ _ => rfl, fun x hx e => ?_, fun x e => ?_⟩
      · rcases e with e | ⟨q, hq, _⟩
        · omega
        · cases hq
      · rcases e with rfl | ⟨q, hq, _⟩
        · exact ⟨hS1.size, hS1.disk.fresh _ (Nat.le_refl _), by have := hS1.led.lt; omega, by simp⟩
        · cases hq
end Go.Proofs.YtbkiahnljklhpaaDoor
