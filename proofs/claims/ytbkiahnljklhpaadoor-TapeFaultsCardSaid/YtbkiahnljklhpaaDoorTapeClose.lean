/- THE WALKS OF Writer's Close AND OF Create. -/
import Derived.Test.YtbkiahnljklhpaaDoorTapeAdd
namespace Go.Proofs.YtbkiahnljklhpaaDoor
open Go.RowKit
open Seal
/-- A tape in memory. -/
structure TpMem (w : World) (gt g : Nat) (P : List Nat) (cnt : Nat) (dropped : Bool) (pv : Value) : Prop where
  obj : w.heap[gt]? = some (.cells #[ptr g, pv, nat cnt, .bool dropped] TpT (0, 0))
  prow : w.ownsRow 0 3 1 pv P.length (i64s P)
  np : pv.ownBlock ≠ some gt
  nilp : P = [] → pv = .slice none 0 0
def TFoot (gt : Nat) (pv : Value) (b : Nat) : Prop := b = gt ∨ pv.ownBlock = some b
theorem TpMem.lt {w : World} {gt g : Nat} {P : List Nat} {cnt : Nat} {dropped : Bool} {pv : Value} (h : TpMem w gt g P cnt dropped pv) : ∀ b, TFoot gt pv b → b < w.heap.size := by
  intro b hb
  rcases hb with rfl | hb
  · exact heap_lt h.obj
  · exact (h.prow.lt b hb).2
theorem TpMem.keep {w w' : World} {gt g : Nat} {P : List Nat} {cnt : Nat} {dropped : Bool} {pv : Value} (h : TpMem w gt g P cnt dropped pv) (k : ∀ b, TFoot gt pv b → w'.heap[b]? = w.heap[b]?) : TpMem w' gt g P cnt dropped pv :=
  ⟨(k gt (.inl rfl)).trans h.obj, ownsRow_keep h.prow fun b hb => k b (.inr hb), h.np, h.nilp⟩
theorem TpMem.below {w w' : World} {gt g : Nat} {P : List Nat} {cnt : Nat} {dropped : Bool} {pv : Value} (h : TpMem w gt g P cnt dropped pv) (k : Below w.heap.size w w') : TpMem w' gt g P cnt dropped pv := h.keep fun b hb => k.block b (h.lt b hb)
/-- What a Close leaves. -/
structure ClosePost (B g gl gw : Nat) (s : Disk.St) (own : Nat → Nat) (L : Int × Int × Int) (hb : Bool) (P S : List Nat) (cnt : Nat) (pv dv : Value) (w : World) (E : Nat) (tv : Value) (w' : World) (s' : Disk.St) : Prop where
  sys : Sys B w' g gl s' own (backL hb s.page L)
  same : Disk.Same s s'
  ops : s'.ops ≤ s.ops + 1 + 16384
  err : E = 0 ∨ E = 16
  calm : Disk.Calm s → E = 0
  over : Over7 w' gw WrT
  ok : E = 0 → ∃ gt, tv = ptr gt ∧ w.heap.size ≤ gt ∧ Tape.Tp s' P S ∧ Tape.Whole s' P S ∧ TpMem w' gt g P cnt false pv ∧ Move B gl w w' own own (WFoot gw pv dv) (fun b => b = gw ∨ TFoot gt pv b) ∧ (∀ n, n ∉ P → s'.pages.getD n none = s.pages.getD n none) ∧ Disk.live s'.pages = Disk.live s.pages
  bad : E ≠ 0 → tv = .pointer none ∧ Move B gl w w' own own (WFoot gw pv dv) (fun b => b = gw) ∧ Gone s s' P
def CloseEnd (B g gl gw : Nat) (s : Disk.St) (own : Nat → Nat) (L : Int × Int × Int) (hb : Bool) (P S : List Nat) (cnt : Nat) (pv dv : Value) (w : World) (e : Ending) (w' : World) : Prop :=
  ∃ (E : Nat) (tv : Value) (s' : Disk.St), e = .returned (.tuple #[tv, .int .i64 (E : Int)]) ∧ ClosePost B g gl gw s own L hb P S cnt pv dv w E tv w' s'
/-- The tape is made of a writer's fields, and the writer is over: what becomes of the world. -/
theorem close_fin {B g gl gw : Nat} {s : Disk.St} {own0 own : Nat → Nat} {L : Int × Int × Int} {hb : Bool} {P D : List Nat} {cnt : Nat} {pv dv : Value} {w0 w w2 : World} {F : Nat → Prop} (hS : Sys B w g gl s own L) (hM : WrMem w gw g gl s.page hb P D cnt pv dv) (hV : Move B gl w0 w own0 own F (WFoot gw pv dv))
    (o : Obj) (ho : o = .cells #[ptr g, pv, nat cnt, .bool false] TpT (0, 0)) (hL : Led w2 gl LedT (backL hb s.page L).1 (backL hb s.page L).2.1 (backL hb s.page L).2.2) (hT : Touch (fun x => x = gl ∨ x = gw) (w.alloc o) w2) :
    Sys B w2 g gl s own (backL hb s.page L) ∧ TpMem w2 w.heap.size g P cnt false pv ∧ Move B gl w0 w2 own0 own F (fun b => b = gw ∨ TFoot w.heap.size pv b) := by
  have hgw := hM.obj.lt
  have hgl := hS.led.lt
  have hT2 : Touch (fun x => x = gl ∨ (x = gw)) w w2 := ((Touch.refl _ w).alloc o).trans hT fun _ _ h => h
  have hgwF := hV.free gw (.inl rfl)
  have hsz : (w.alloc o).heap.size = w.heap.size + 1 := by simp
  have hsz2 := hT.size
  have hpb : ∀ b, pv.ownBlock = some b → w2.heap[b]? = w.heap[b]? := fun b hb => by
    have hlt := (hM.prow.lt b hb).2
    refine hT2.block b hlt fun h => ?_
    rcases h with h | h
    · exact (hV.free b (.inr (.inl hb))).2.2.1 h
    · exact hM.np (by rw [hb, h])
  refine ⟨hS.led' hL (backL_fair hS.fair) hT2 fun b hb => by subst hb; exact ⟨hgwF.1, hgwF.2.1⟩, ⟨?_, ownsRow_keep hM.prow hpb, fun e => by have := (hM.prow.lt _ e).2; omega, hM.nilp⟩, ?_⟩
  · have := hT.block w.heap.size (by omega) (fun h => by rcases h with h | h <;> omega)
    rw [this, ho]
    exact heap_alloc_new w _
  · refine hV.trans ⟨hT2.mono fun b _ h => h.elim (fun h => .inr (.inl h)) (fun h => .inr (.inr (.inl h))), fun _ _ => rfl, fun b hb h => ?_, fun b h => ?_⟩
    · rcases h with h | h | h
      · exact .inl h
      · omega
      · exact .inr (.inl h)
    · rcases h with rfl | rfl | h
      · exact ⟨hgwF.1, hgwF.2.1, hgwF.2.2.1, by omega⟩
      · exact ⟨hS.size, hS.disk.fresh _ (Nat.le_refl _), by omega, by omega⟩
      · obtain ⟨h1, h2, h3, h4⟩ := hV.free b (.inr (.inl h))
        exact ⟨h1, h2, h3, by omega⟩
set_option maxRecDepth 100000 in
set_option maxHeartbeats 2000000 in
theorem close_any (B g gl gw : Nat) (s : Disk.St) (own : Nat → Nat) (L : Int × Int × Int) (hb : Bool) (P S : List Nat) (cnt : Nat) (pv dv : Value) (w : World) (hS : Sys B w g gl s own L) (hW : Tape.Wr s P S) (hM : WrMem w gw g gl s.page hb P (Tape.tail_ s P S) cnt pv dv) (hF : Free B gl w own (WFoot gw pv dv))
    (ht : P = [] ∨ Tape.tail_ s P S ≠ []) (ho : s.ops < 4611686018400000000) :
    Calls Tryd.prog 32 #[.pointer (some ⟨gw, 0, none⟩)] w (CloseEnd B g gl gw s own L hb P S cnt pv dv w) := by
  have hpage := hS.pageOk
  have hpb := pageOk_bounds hpage
  have c0 := hM.obj.c0
  unfold ptr at c0
  have c3 := hM.obj.c3
  have c5 := hM.obj.c5
  unfold nat at c5
  have c6 := hM.obj.c6
  obtain ⟨pa, pcap, hpv, _, _, _, _⟩ := ints_of_row hM.prow
  have hPl : P.length ≤ 16384 := by
    have := Disk.live_gone s.pages P hW.nodup hW.used
    have := Disk.live_le s.pages
    have := hS.len16
    omega
  have hD10 : (Tape.tail_ s P S).length + 10 ≤ s.page := by have := hW.tail_le; omega
  obtain ⟨E2, M2, hEM2⟩ : ∃ E2 M2, Disk.hit 4 (s.plan (s.ops + 1 - s.begun)) = (E2, M2) := ⟨_, _, rfl⟩
  have hE2 : E2 = 0 ∨ E2 = 16 := by have := hit_write (s.plan (s.ops + 1 - s.begun)); rw [hEM2] at this; exact this
  have hcalm2 : Disk.Calm s → E2 = 0 := fun h => by
    have := h.hit hS.since 4; rw [hEM2] at this; exact (Prod.mk.inj this).1
  rcases Nat.eq_zero_or_pos P.length with hP0 | hP0
  · -- an empty tape
    have hP : P = [] := List.eq_nil_of_length_eq_zero hP0
    have hpn := hM.nilp hP
    subst hpn
    have hTp := hW.close (s' := s) (by omega) ht rfl (fun h => by omega) (fun _ _ _ => rfl)
    have HTP := Lib.hid hTp
    have HSW := Lib.hid hS
    have HMW := Lib.hid hM
    have HVW := Lib.hid (Move.refl hF)
    clear hS hW hM hF ht hEM2 hE2 hcalm2 hTp hpv hP hP0 hPl hD10
    go_enter Tryd.func32, Tryd.ntmps32
    go_wp2_with fail
    refine wp_region_still_tail 12 (by kernel_rfl) (by kernel_rfl) ?_
    simp only [List.take_succ_cons, List.take_zero, List.drop_succ_cons, List.drop_zero]
    iterate 12 still_step
    refine wpStill_nil ?_
    change wpList _ _ _ _ _ w.drew
    go_wp2_with fail
    have hgwF := HVW.out.free gw (.inl rfl)
    have CE := wend_any gw gl s.page hb (ptr g) (.slice none 0 0) dv (nat cnt) (.bool false) L (w.alloc (.cells #[.pointer (some ⟨g, 0, none⟩), .slice none 0 0, .int .i64 (cnt : Int), .bool false] TpT)).drew (HMW.out.obj.same (by exact Below.heap_alloc w _ gw HMW.out.obj.lt)) (HSW.out.led.same (by exact Below.heap_alloc w _ gl HSW.out.led.lt)) HSW.out.fair hgwF.2.2.1
    refine CE.mono ?_
    rintro e w2 ⟨rfl, hOv, hL, hT⟩
    have HOv := Lib.hid hOv
    have HL := Lib.hid hL
    have HT : Hid (Touch (fun x => x = gl ∨ x = gw) (w.alloc (.cells #[.pointer (some ⟨g, 0, none⟩), .slice none 0 0, .int .i64 (cnt : Int), .bool false] TpT)) w2) := ⟨hT.os, hT.tape, hT.output, hT.size, hT.block⟩
    clear hOv hL hT CE
    go_wp2_with fail
    go_ret2

    obtain ⟨h1, h2, h3⟩ := close_fin HSW.out HMW.out HVW.out _ rfl (by exact HL.out) HT.out
    exact ⟨0, ptr w.heap.size, s, rfl, h1, Disk.Same.refl s, by omega, .inl rfl, fun _ => rfl, HOv.out, fun _ => ⟨w.heap.size, rfl, Nat.le_refl _, HTP.out.1, HTP.out.2, h2, h3, fun _ _ => rfl, rfl⟩, fun h => absurd rfl h⟩
  · -- the last page is written
    have hlastP : P.getD (P.length - 1) 0 ∈ P := Tape.getD_mem (by omega)
    have hlastu := hW.used _ hlastP
    have C2 := twrite_any B g gl gw s own L hb P (Tape.tail_ s P S) cnt pv dv (-1) w hS hM hF (by omega) hP0 hPl hD10 (oct_drop _ hW.oct) (by omega) (by omega) hlastu E2 M2 hEM2
    rw [show ((-1 : Int) + 1).toNat = 0 from rfl] at C2
    obtain ⟨pl, hpl⟩ : ∃ pl, pl = P.length := ⟨_, rfl⟩
    rw [← hpl] at hpv
    subst hpv
    have dpl : (0 : Int) < (pl : Int) := by omega
    have HC2 := Lib.hid C2
    have HW := Lib.hid hW
    have HTG := Lib.hid ht
    have HPL := Lib.hid hpl
    have HLU := Lib.hid hlastu
    have HLP := Lib.hid hlastP
    have HE2 := Lib.hid hE2
    have HCM := Lib.hid hcalm2
    have HP0 := Lib.hid hP0
    have HPl := Lib.hid hPl
    clear hS hW hM hF ht hEM2 hE2 hcalm2 hP0 hPl hD10 C2 hpl hlastu hlastP
    go_enter Tryd.func32, Tryd.ntmps32
    go_wp2_with fail
    refine HC2.out.mono ?_
    rintro e W1 ⟨rfl, hS1, hM1, hV1⟩
    have HSW := Lib.hid hS1
    have HMW := Lib.hid hM1
    have HVW := Lib.hid hV1
    clear HC2
    by_cases hE : E2 = 0
    · subst hE
      have hs' : wroteE s 0 (P.getD (P.length - 1) 0) (closeB s.page 0 (Tape.tail_ s P S)) = { tick s with pages := Disk.put s.pages (P.getD (P.length - 1) 0) (some (closeB s.page 0 (Tape.tail_ s P S))), writes := s.writes + 1 } := if_pos rfl
      have HS' := Lib.hid hs'
      have c0 := hM1.obj.c0
      unfold ptr at c0
      have c3 := hM1.obj.c3
      have c5 := hM1.obj.c5
      unfold nat at c5
      clear hS1 hM1 hV1 hs'
      go_wp2_with fail
      refine wp_region_still_tail 12 (by kernel_rfl) (by kernel_rfl) ?_
      simp only [List.take_succ_cons, List.take_zero, List.drop_succ_cons, List.drop_zero]
      iterate 12 still_step
      refine wpStill_nil ?_
      change wpList _ _ _ _ _ W1.drew
      go_wp2_with fail
      have hgwF := HVW.out.free gw (.inl rfl)
      have CE := wend_any gw gl s.page hb (ptr g) (.slice pa pl pcap) dv (nat cnt) (.bool false) L (W1.alloc (.cells #[.pointer (some ⟨g, 0, none⟩), .slice pa pl pcap, .int .i64 (cnt : Int), .bool false] TpT)).drew (HMW.out.obj.same (by exact Below.heap_alloc W1 _ gw HMW.out.obj.lt)) (HSW.out.led.same (by exact Below.heap_alloc W1 _ gl HSW.out.led.lt)) HSW.out.fair hgwF.2.2.1
      refine CE.mono ?_
      rintro e w2 ⟨rfl, hOv, hL, hT⟩
      have HOv := Lib.hid hOv
      have HL := Lib.hid hL
      have HT : Hid (Touch (fun x => x = gl ∨ x = gw) (W1.alloc (.cells #[.pointer (some ⟨g, 0, none⟩), .slice pa pl pcap, .int .i64 (cnt : Int), .bool false] TpT)) w2) := ⟨hT.os, hT.tape, hT.output, hT.size, hT.block⟩
      clear hOv hL hT CE
      go_wp2_with fail
      go_ret2

      have hsm := wrote_same s 0 (P.getD (P.length - 1) 0) (closeB s.page 0 (Tape.tail_ s P S))
      have hpe : (wroteE s 0 (P.getD (P.length - 1) 0) (closeB s.page 0 (Tape.tail_ s P S))).page = s.page := hsm.page
      obtain ⟨h1, h2, h3⟩ := close_fin HSW.out (by rw [hpe]; exact HMW.out) HVW.out _ rfl (by rw [hpe]; exact HL.out) HT.out
      rw [hpe] at h1
      have hTp := HW.out.close (s' := wroteE s 0 (P.getD (P.length - 1) 0) (closeB s.page 0 (Tape.tail_ s P S))) (by omega) HTG.out hpe (fun _ => by
        rw [HS'.out]; exact Disk.getD_put_same _ (Nat.le_of_lt (Disk.used_lt HLU.out))) (fun m _ hne => wrote_getD _ _ _ _ hne)
      exact ⟨0, ptr W1.heap.size, _, rfl, h1, hsm, by rw [wrote_ops]; omega, .inl rfl, fun _ => rfl, HOv.out, fun _ => ⟨W1.heap.size, rfl, HVW.out.touch.size, hTp.1, hTp.2, h2, h3, fun n hn => wrote_getD _ _ _ _ (fun e => hn (by rw [e]; exact HLP.out)), wrote_live _ _ _ _ HLU.out⟩, fun h => absurd rfl h⟩
    · have hs' : wroteE s E2 (P.getD (P.length - 1) 0) (closeB s.page 0 (Tape.tail_ s P S)) = tick s := if_neg hE
      have hSt : Sys B W1 g gl (tick s) own L := by rw [← hs']; exact hS1
      have CA := abort_live B g gl gw (tick s) own L hb P (Tape.tail_ s P S) cnt (.slice pa pl pcap) dv W1 hSt hM1 hV1.free HW.out.nodup (fun n hn => HW.out.used n hn) HPl.out (by have := HPl.out; show s.ops + 1 + _ < _; omega)
      have HCA := Lib.hid CA
      have HE := Lib.hid hE
      have dE : ((E2 : Int) != 0) = true := by rw [bne_iff_ne]; omega
      clear hS1 hM1 hV1 hs' hSt CA hE
      go_wp2_with fail
      refine HCA.out.mono ?_
      rintro e w4 ⟨rfl, hS4, hO4, hM4⟩
      have HS4 := Lib.hid hS4
      have HO4 := Lib.hid hO4
      have HM4 := Lib.hid hM4
      clear hS4 hO4 hM4 HCA
      go_wp2_with fail
      go_ret2
      have hg := freed_gone (s := tick s) HW.out.nodup (fun n hn => HW.out.used n hn)
      exact ⟨E2, .pointer none, freed (tick s) P, rfl, HS4.out, (Disk.Same.trans (b := tick s) ⟨rfl, rfl, rfl, rfl, Nat.le_succ _⟩ (freed_same (tick s) P)), (by show s.ops + 1 + P.length ≤ _; have := HPl.out; omega), HE2.out, HCM.out, HO4.out, fun h => absurd h HE.out, fun _ => ⟨rfl, HVW.out.trans HM4.out, ⟨hg.pages, hg.live⟩⟩⟩
/-- A writer that was just made. -/
structure CreatePost (B g gl : Nat) (s : Disk.St) (own : Nat → Nat) (L : Int × Int × Int) (w : World) (gw : Nat) (w' : World) : Prop where
  sys : Sys B w' g gl s own (L.1, tkH L.2.1 s.page, tkM L.2.1 L.2.2 s.page)
  mem : WrMem w' gw g gl s.page (tkB L.2.1 s.page) [] [] 0 (.slice none 0 0) (.slice none 0 0)
  fresh : w.heap.size ≤ gw
  move : Move B gl w w' own own (fun _ => False) (fun b => b = gw)
set_option maxRecDepth 100000 in
set_option maxHeartbeats 1000000 in
theorem create_any (B g gl : Nat) (s : Disk.St) (own : Nat → Nat) (L : Int × Int × Int) (w : World) (hS : Sys B w g gl s own L) :
    Calls Tryd.prog 30 #[.pointer (some ⟨g, 0, none⟩), .pointer (some ⟨gl, 0, none⟩)] w fun e w' => ∃ gw, e = .returned (ptr gw) ∧ CreatePost B g gl s own L w gw w' := by
  have HCP := Lib.hid (page_any g s own w hS.disk)
  have HCH := Lib.hid (holdOf_any s.page gl L.1 L.2.1 L.2.2 w hS.led hS.fair)
  have HS := Lib.hid hS
  have hfair : Fair L.1 (tkH L.2.1 s.page) := hS.fair.take _
  have HFA := Lib.hid hfair
  clear hS hfair
  have hmf : ∀ (fn : Fn) (first cap : Array Value) (w : World), (Instr.makeFunc fn first cap).run Tryd.prog w = .ok (.func fn first cap) w := fun _ _ _ _ => rfl
  go_enter Tryd.func30, Tryd.ntmps30
  go_wp2_with fail
  refine HCP.out.mono ?_
  rintro e w' ⟨rfl, rfl⟩
  go_wp2_with fail
  refine HCH.out.mono ?_
  rintro e w1 ⟨rfl, hL1, hT1⟩
  clear HCP HCH
  have hS1 := HS.out.led' (F := fun _ => False) (L' := (L.1, tkH L.2.1 s.page, tkM L.2.1 L.2.2 s.page)) hL1 HFA.out (hT1.mono fun _ _ h => .inl h) (fun _ h => h.elim)
  have HS1 := Lib.hid hS1
  have HT1 := Lib.hid hT1
  obtain ⟨b, hb⟩ : ∃ b, b = tkB L.2.1 s.page := ⟨_, rfl⟩
  rw [← hb]
  have HB := Lib.hid hb
  clear hS1 hL1 hT1 hb
  have hfin : ∀ o : Obj, o = .cells #[ptr g, holdN b s.page, holdG b gl, .slice none 0 0, .slice none 0 0, .int .i64 0, .bool false] WrT (0, 0) → CreatePost B g gl s own L w w1.heap.size (w1.alloc o) := fun o ho => by
    have hf : Free B gl w own (fun _ => False) := fun _ h => h.elim
    have hz := HT1.out.size
    refine ⟨HS1.out.below (below_alloc w1 o), ⟨by unfold Obj7; rw [heap_alloc_new, ho, HB.out]; rfl, World.ownsRow_nil _ _ _ _, World.ownsRow_nil _ _ _ _, fun _ h => (by simp [Value.ownBlock] at h), (by simp [Value.ownBlock]), (by simp [Value.ownBlock]), fun _ => rfl⟩, hz, ?_⟩
    refine (Move.of_led hf (HT1.out.mono fun _ _ h => .inl h) (fun _ h => h)).trans ⟨Touch.of_below (below_alloc w1 o), fun _ _ => rfl, fun x hx e => by omega, fun x e => ?_⟩
    subst e
    exact ⟨HS1.out.size, HS1.out.disk.fresh _ (Nat.le_refl _), by have := HS1.out.led.lt; omega, by simp⟩
  have HFin := Lib.hid hfin
  clear hfin
  cases b
  · go_wp2_with fail
    go_ret
    exact ⟨_, rfl, HFin.out _ rfl⟩
  · go_wp2_with fail
    go_ret
    exact ⟨_, rfl, HFin.out _ rfl⟩
end Go.Proofs.YtbkiahnljklhpaaDoor
