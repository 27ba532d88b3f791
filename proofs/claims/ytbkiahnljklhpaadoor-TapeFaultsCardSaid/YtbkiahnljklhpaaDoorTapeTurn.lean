/- THE WALK OF Writer's turn. -/
import Derived.Test.YtbkiahnljklhpaaDoorTapeWrite
import Derived.Deep.RegionHeld3
namespace Go.Proofs.YtbkiahnljklhpaaDoor
open Go.RowKit
open Seal
theorem app_alloc (l : List Nat) : ∀ r : Nat × Nat, (r.1 = 0 ∨ r.1 = 17) → ((l.foldl (Disk.app 1) r).1 = 0 ∨ (l.foldl (Disk.app 1) r).1 = 17) := by
  induction l with
  | nil => intro r h; exact h
  | cons k t ih =>
    intro r h
    rw [List.foldl_cons]
    refine ih _ ?_
    unfold Disk.app
    repeat' split
    all_goals first | exact h | exact .inr rfl | omega
theorem hit_alloc (l : List Nat) : (Disk.hit 1 l).1 = 0 ∨ (Disk.hit 1 l).1 = 17 := app_alloc l _ (.inl rfl)
theorem app_write (l : List Nat) : ∀ r : Nat × Nat, (r.1 = 0 ∨ r.1 = 16) → ((l.foldl (Disk.app 4) r).1 = 0 ∨ (l.foldl (Disk.app 4) r).1 = 16) := by
  induction l with
  | nil => intro r h; exact h
  | cons k t ih =>
    intro r h
    rw [List.foldl_cons]
    refine ih _ ?_
    unfold Disk.app
    repeat' split
    all_goals first | exact h | exact .inr rfl | omega
theorem hit_write (l : List Nat) : (Disk.hit 4 l).1 = 0 ∨ (Disk.hit 4 l).1 = 16 := app_write l _ (.inl rfl)
theorem app_read (l : List Nat) : ∀ r : Nat × Nat, (r.1 = 0 ∨ r.1 = 16) → ((l.foldl (Disk.app 3) r).1 = 0 ∨ (l.foldl (Disk.app 3) r).1 = 16) := by
  induction l with
  | nil => intro r h; exact h
  | cons k t ih =>
    intro r h
    rw [List.foldl_cons]
    refine ih _ ?_
    unfold Disk.app
    repeat' split
    all_goals first | exact h | exact .inr rfl | omega
theorem hit_read (l : List Nat) : (Disk.hit 3 l).1 = 0 ∨ (Disk.hit 3 l).1 = 16 := app_read l _ (.inl rfl)
/-- The slice dv[:0]. -/
def cut0 : Value → Value
  | .slice a _ c => .slice a 0 c
  | v => v
theorem cut0_block (v : Value) : (cut0 v).ownBlock = v.ownBlock := by
  unfold cut0
  split
  · rename_i a n c; cases a <;> rfl
  · rfl
theorem cut0_row {w : World} {dv : Value} {n : Nat} {xs : List Value} (h : w.ownsRow 0 5 1 dv n xs) : w.ownsRow 0 5 1 (cut0 dv) 0 [] := by
  rcases h.2 with ⟨rfl, rfl⟩ | ⟨g, cap, cur, rfl, hb, hg, hn, hcm, hcs, _⟩
  · exact ⟨rfl, .inl ⟨rfl, rfl⟩⟩
  · exact ⟨rfl, .inr ⟨g, cap, cur, rfl, hb, hg, Nat.zero_le _, hcm, hcs, by simp⟩⟩
/-- A number is put behind a writer's, its data are cut. -/
theorem WrMem.push {w2 w3 : World} {gw g gl page : Nat} {hb : Bool} {P D : List Nat} {cnt : Nat} {pv dv v' : Value} (h : WrMem w2 gw g gl page hb P D cnt pv dv) (n : Nat) (o : Obj) (hrow : w3.ownsRow 0 3 1 v' (P.length + 1) (i64s P ++ i64s [n])) (hL : Lies (w2.alloc o) w3 pv v') :
    WrMem ((w3.setCell ⟨gw, 3, none⟩ v').setCell ⟨gw, 4, none⟩ (cut0 dv)) gw g gl page hb (P ++ [n]) [] cnt v' (cut0 dv) ∧ Touch (WFoot gw pv dv) w2 ((w3.setCell ⟨gw, 3, none⟩ v').setCell ⟨gw, 4, none⟩ (cut0 dv)) ∧
    (∀ b, WFoot gw v' (cut0 dv) b → (b < w2.heap.size → WFoot gw pv dv b) ∧ b < ((w3.setCell ⟨gw, 3, none⟩ v').setCell ⟨gw, 4, none⟩ (cut0 dv)).heap.size) := by
  have hgl := h.obj.lt
  have hsz : (w2.alloc o).heap.size = w2.heap.size + 1 := by simp
  have hL' := lies_size hL
  have hgwne : pv.ownBlock ≠ some gw := h.np
  have hobj : Obj7 w3 gw WrT (ptr g) (holdN hb page) (holdG hb gl) pv dv (nat cnt) (.bool false) :=
    h.obj.same ((lies_block hL (by omega) hgwne).trans (Below.heap_alloc w2 o gw hgl))
  have hvb : v'.ownBlock = pv.ownBlock ∨ v'.ownBlock = some (w2.heap.size + 1) := by
    rcases hL with ⟨e, _⟩ | ⟨e, _⟩
    · exact .inl e
    · exact .inr (by rw [e, hsz])
  have hvgw : v'.ownBlock ≠ some gw := by
    rcases hvb with e | e
    · rw [e]; exact hgwne
    · rw [e]; simp; omega
  have hdgw : (cut0 dv).ownBlock ≠ some gw := by rw [cut0_block]; exact h.nd
  have hset : ∀ b, b ≠ gw → ((w3.setCell ⟨gw, 3, none⟩ v').setCell ⟨gw, 4, none⟩ (cut0 dv)).heap[b]? = w3.heap[b]? := fun b hb => by
    rw [Below.heap_setCell _ _ _ _ (fun e => hb e), Below.heap_setCell _ _ _ _ (fun e => hb e)]
  have hsz4 : ((w3.setCell ⟨gw, 3, none⟩ v').setCell ⟨gw, 4, none⟩ (cut0 dv)).heap.size = w3.heap.size := by simp [World.setCell]
  have hdv3 : w3.ownsRow 0 5 1 dv D.length (u8s D) := ownsRow_keep h.drow fun b hb => by
    have hbl := (h.drow.lt b hb).2
    exact (lies_block hL (by omega) (fun e => h.apart b e hb)).trans (Below.heap_alloc w2 o b hbl)
  refine ⟨⟨(hobj.s3 _).s4 _, ?_, ?_, fun b hb1 hb2 => ?_, hvgw, hdgw, fun e => by simp at e⟩, ?_, fun b hb => ?_⟩
  · have := ownsRow_keep hrow fun b hb => hset b (fun e => hvgw (by rw [hb, e]))
    simpa [i64s] using this
  · exact cut0_row (ownsRow_keep hdv3 fun b hb => hset b (fun e => h.nd (by rw [hb, e])))
  · rw [cut0_block] at hb2
    rcases hvb with e | e
    · exact h.apart b (by rw [← e]; exact hb1) hb2
    · rw [e] at hb1
      have := (h.drow.lt b hb2).2
      simp at hb1
      omega
  · have hT := lies_touch hL
    have h1 : Touch (WFoot gw pv dv) w2 w3 := ((Touch.refl _ w2).alloc o).trans hT fun i _ hi => .inr (.inl hi)
    exact (h1.setCell (.inl (.inl rfl)) _).setCell (.inl (.inl rfl)) _
  · have hlt : b < w3.heap.size := by
      rcases hb with rfl | hb | hb
      · omega
      · exact (hrow.lt b hb).2
      · rw [cut0_block] at hb; exact (hdv3.lt b hb).2
    refine ⟨fun hb2 => ?_, by rw [hsz4]; exact hlt⟩
    rcases hb with rfl | hb | hb
    · exact .inl rfl
    · rcases hvb with e | e
      · exact .inr (.inl (by rw [← e]; exact hb))
      · rw [e] at hb; simp at hb; omega
    · rw [cut0_block] at hb; exact .inr (.inr hb)
/-- What a page that is begun leaves. -/
structure TurnPost (B g gl gw : Nat) (s : Disk.St) (own : Nat → Nat) (L : Int × Int × Int) (hb : Bool) (P S : List Nat) (cnt : Nat) (pv dv : Value) (w : World) (E : Nat) (w' : World) (P' D' : List Nat) (s' : Disk.St) (own' : Nat → Nat) (pv' dv' : Value) : Prop where
  sys : Sys B w' g gl s' own' L
  mem : WrMem w' gw g gl s'.page hb P' D' cnt pv' dv'
  move : Move B gl w w' own own' (WFoot gw pv dv) (WFoot gw pv' dv')
  same : Disk.Same s s'
  ops : s'.ops ≤ s.ops + 2
  grow : Disk.Grow s s' P P'
  ok : E = 0 → Tape.Wr s' P' S ∧ D' = [] ∧ Tape.tail_ s' P' S = [] ∧ P'.length = P.length + 1
  err : E = 0 ∨ E = 16 ∨ E = 17
  calm : Disk.Calm s → Disk.live s.pages < s.most → E = 0
  full : Disk.Calm s → E ≠ 0 → E = 17
def TurnEnd (B g gl gw : Nat) (s : Disk.St) (own : Nat → Nat) (L : Int × Int × Int) (hb : Bool) (P S : List Nat) (cnt : Nat) (pv dv : Value) (w : World) (e : Ending) (w' : World) : Prop :=
  ∃ (E : Nat) (P' D' : List Nat) (s' : Disk.St) (own' : Nat → Nat) (pv' dv' : Value), e = .returned (.int .i64 (E : Int)) ∧ TurnPost B g gl gw s own L hb P S cnt pv dv w E w' P' D' s' own' pv' dv'
/-- The disk once a page is begun, and the one ahead of it written (or not, E being the error). -/
def begunS (s : Disk.St) : Disk.St := { tick s with pages := Disk.put s.pages (Disk.leastFree s.pages) (some (List.replicate s.page 0)) }
theorem begun_same (s : Disk.St) : Disk.Same s (begunS s) := ⟨rfl, rfl, rfl, rfl, Nat.le_succ _⟩
theorem wrote_same (s : Disk.St) (E n : Nat) (b : List Nat) : Disk.Same s (wroteE s E n b) := by
  unfold wroteE; split
  · exact ⟨rfl, rfl, rfl, rfl, Nat.le_succ _⟩
  · exact ⟨rfl, rfl, rfl, rfl, Nat.le_succ _⟩
theorem wrote_ops (s : Disk.St) (E n : Nat) (b : List Nat) : (wroteE s E n b).ops = s.ops + 1 := by unfold wroteE; split <;> rfl
theorem wrote_getD (s : Disk.St) (E n : Nat) (b : List Nat) {m : Nat} (h : m ≠ n) : (wroteE s E n b).pages.getD m none = s.pages.getD m none := by
  unfold wroteE; split
  · exact Disk.getD_put_other _ h
  · rfl
theorem wrote_used (s : Disk.St) (E n : Nat) (b : List Nat) (hu : Disk.used s.pages n = true) (m : Nat) : Disk.used (wroteE s E n b).pages m = Disk.used s.pages m := by
  unfold wroteE; split
  · show Disk.used (Disk.put s.pages n (some b)) m = _
    rw [Disk.used_put _ (Nat.le_of_lt (Disk.used_lt hu))]
    split
    · rename_i e; subst e; rw [hu]; rfl
    · rfl
  · rfl
theorem wrote_live (s : Disk.St) (E n : Nat) (b : List Nat) (hu : Disk.used s.pages n = true) : Disk.live (wroteE s E n b).pages = Disk.live s.pages := by
  unfold wroteE; split
  · exact Disk.live_put_same hu b
  · rfl
theorem begun_grow {s : Disk.St} {P : List Nat} (hn : P.Nodup) (hu : ∀ n ∈ P, Disk.used s.pages n = true) : Disk.Grow s (begunS s) P (P ++ [Disk.leastFree s.pages]) := by
  have hl := Disk.leastFree_le s.pages
  have hf := Disk.leastFree_not s.pages
  have hnm : Disk.leastFree s.pages ∉ P := fun h => by rw [hu _ h] at hf; cases hf
  refine ⟨⟨_, rfl, fun n h => by simp at h; subst h; exact hf⟩, ?_, fun n h => ?_, fun n h => ?_, ?_⟩
  · rw [List.nodup_append]
    exact ⟨hn, by simp, fun a ha b hb => by simp at hb; subst hb; exact fun e => hnm (e ▸ ha)⟩
  · show Disk.used (Disk.put _ _ _) n = true
    rw [Disk.used_put _ hl]
    split
    · rfl
    · rcases List.mem_append.1 h with h | h
      · exact hu n h
      · simp at h; contradiction
  · exact Disk.getD_put_other _ (fun e => h (by simp [e]))
  · show Disk.live (Disk.put _ _ _) + _ = _
    rw [Disk.live_put_new hl hf]; simp; omega
theorem wrote_grow {s s1 : Disk.St} {P P' : List Nat} (h : Disk.Grow s s1 P P') (E n : Nat) (b : List Nat) (hn : n ∈ P') : Disk.Grow s (wroteE s1 E n b) P P' :=
  ⟨h.ext, h.nodup, fun m hm => by rw [wrote_used _ _ _ _ (h.used n hn)]; exact h.used m hm, fun m hm => (wrote_getD _ _ _ _ (fun e => hm (by rw [e]; exact hn))).trans (h.other m hm), by rw [wrote_live _ _ _ _ (h.used n hn)]; exact h.live⟩
theorem push_fin {B g gl : Nat} {w WW w' : World} {s : Disk.St} {own0 own : Nat → Nat} {L : Int × Int × Int} {F F1 F2 : Nat → Prop} (hS : Sys B WW g gl s own L) (hV : Move B gl w WW own0 own F F1) (hT : Touch F1 WW w') (hf : ∀ b, F2 b → (b < WW.heap.size → F1 b) ∧ b < w'.heap.size) :
    Sys B w' g gl s own L ∧ Move B gl w w' own0 own F F2 :=
  ⟨hS.touch hT fun b _ hb => by
    obtain ⟨h1, h2, h3, _⟩ := hV.free b hb; exact ⟨h1, h2, h3⟩, hV.trans (Move.of_touch hV.free hS.size hS.led.lt hS.disk.fresh hT hf)⟩
set_option maxRecDepth 100000 in
set_option maxHeartbeats 2000000 in
theorem turn_any (B g gl gw : Nat) (s : Disk.St) (own : Nat → Nat) (L : Int × Int × Int) (hb : Bool) (P S : List Nat) (cnt : Nat) (pv dv : Value) (w : World) (hS : Sys B w g gl s own L) (hW : Tape.Wr s P S) (hM : WrMem w gw g gl s.page hb P (Tape.tail_ s P S) cnt pv dv) (hF : Free B gl w own (WFoot gw pv dv))
    (ho : s.ops < 4611686018427387900) (hfull : 0 < P.length → (Tape.tail_ s P S).length = s.page - 10) :
    Calls Tryd.prog 57 #[.pointer (some ⟨gw, 0, none⟩)] w (TurnEnd B g gl gw s own L hb P S cnt pv dv w) := by
  have hpage := hS.pageOk
  have hpb := pageOk_bounds hpage
  have hlen := hS.length
  have hlive := Disk.live_le s.pages
  have c0 := hM.obj.c0
  unfold ptr at c0
  have hgw := hM.obj.lt
  obtain ⟨pa, pcap, hpv, _, _, _, _⟩ := ints_of_row hM.prow
  obtain ⟨pl, hpl⟩ : ∃ pl, pl = P.length := ⟨_, rfl⟩
  obtain ⟨dl, hdl⟩ : ∃ dl, dl = (Tape.tail_ s P S).length := ⟨_, rfl⟩
  rw [← hpl] at hpv
  subst hpv
  have HPL := Lib.hid hpl
  have HDL := Lib.hid hdl
  have HS := Lib.hid hS
  have HM := Lib.hid hM
  have HF := Lib.hid hF
  have HW := Lib.hid hW
  obtain ⟨E1, M1, hEM1⟩ : ∃ E1 M1, Disk.hit 1 (s.plan (s.ops + 1 - s.begun)) = (E1, M1) := ⟨_, _, rfl⟩
  have hE1 : E1 = 0 ∨ E1 = 17 := by have := hit_alloc (s.plan (s.ops + 1 - s.begun)); rw [hEM1] at this; exact this
  have hcalm1 : Disk.Calm s → E1 = 0 := fun h => by
    have := h.hit hS.since 1; rw [hEM1] at this; exact (Prod.mk.inj this).1
  by_cases hbad : E1 ≠ 0 ∨ Disk.live s.pages = s.most
  · -- no page is to be had
    have C : ∃ E : Nat, E = 17 ∧ Calls Tryd.prog 7 #[.pointer (some ⟨g, 0, none⟩)] w fun e w' => e = .returned (.tuple #[.int .i64 0, .int .i64 (E : Int)]) ∧ DiskAt w' g (tick s) own ∧ Only own w w' := by
      rcases Nat.eq_zero_or_pos E1 with h0 | h0
      · subst h0
        exact ⟨17, rfl, alloc_full g s own w hS.disk (by omega) M1 hEM1 (by rcases hbad with h | h; exact absurd rfl h; exact h)⟩
      · exact ⟨E1, by omega, alloc_err g s own w hS.disk (by omega) E1 M1 hEM1 (by omega)⟩
    obtain ⟨E, hE17, hC⟩ := C
    have HC := Lib.hid hC
    have HE17 := Lib.hid hE17
    have d : ((E : Int) != 0) = true := by rw [bne_iff_ne]; omega
    have HBAD := Lib.hid hbad
    clear hS hM hF hW hEM1 hC hbad hE17 hpl hdl
    go_enter Tryd.func57, Tryd.ntmps57
    go_wp2_with fail
    refine HC.out.mono ?_
    rintro e w1 ⟨rfl, hD, hO⟩
    have HD := Lib.hid hD
    have HO := Lib.hid hO
    clear hD hO HC
    go_wp2_with fail
    go_ret
    refine ⟨E, P, Tape.tail_ s P S, tick s, own, .slice pa pl pcap, dv, rfl, HS.out.only HD.out HO.out (fun _ _ => rfl), HM.out.only HF.out HO.out, Move.of_only HF.out HO.out fun _ _ => rfl, ⟨rfl, rfl, rfl, rfl, Nat.le_succ _⟩, Nat.le_succ _, ?_, fun e => by have := HE17.out; omega, .inr (.inr HE17.out), fun hc hl => ?_, fun _ _ => HE17.out⟩
    · exact ⟨⟨[], by simp, by simp⟩, HW.out.nodup, HW.out.used, fun _ _ => rfl, rfl⟩
    · rcases HBAD.out with h | h
      · exact absurd (hcalm1 hc) h
      · omega
  · obtain ⟨hE0, hlm⟩ : E1 = 0 ∧ Disk.live s.pages < s.most := ⟨by omega, by omega⟩
    subst hE0
    have HC := Lib.hid (alloc_ok g s own w hS.disk (by omega) hS.bru (hS.low _ hS.bru0) M1 hEM1 hlm)
    have hlf : Disk.leastFree s.pages < 16384 := by have := Disk.leastFree_lt hlm; omega
    have hGr := begun_grow hW.nodup hW.used
    have HGr := Lib.hid hGr
    obtain ⟨i0, hi, hz0, hz1, hz2⟩ := info_parts infoInt
    have hPl : P.length ≤ 16384 := by
      have h1 := hGr.live
      have h2 := Disk.live_le (begunS s).pages
      have h3 : (begunS s).pages.length ≤ s.most := Disk.length_put _ (by have := Disk.leastFree_lt hlm; omega) hlen.1
      simp at h1
      have h4 : P.length ≤ Disk.live s.pages := by
        have := Disk.live_gone s.pages P hW.nodup hW.used; omega
      omega
    rw [← hpl] at hPl
    rcases Nat.eq_zero_or_pos pl with hP0 | hP0
    · -- the first page
      subst hP0
      have hP : P = [] := List.eq_nil_of_length_eq_zero HPL.out.symm
      have HP := Lib.hid hP
      clear hS hM hF hW hEM1 hGr hbad hP hcalm1 hE1 hfull hpl hdl
      obtain ⟨n, hn⟩ : ∃ n, n = Disk.leastFree s.pages := ⟨_, rfl⟩
      rw [← hn] at HC HGr hlf
      have HN := Lib.hid hn
      clear hn
      go_enter Tryd.func57, Tryd.ntmps57
      go_wp2_with fail
      refine HC.out.mono ?_
      rintro e WW ⟨rfl, own', hD, hO, hm⟩
      have HSW : Hid (Sys B WW g gl (begunS s) own' L) := HS.out.only (by unfold begunS; rw [← HN.out]; exact hD) hO hm
      have HMW : Hid (WrMem WW gw g gl s.page hb P (Tape.tail_ s P S) cnt (.slice pa 0 pcap) dv) := HM.out.only HF.out hO
      have HVW : Hid (Move B gl w WW own own' (WFoot gw (.slice pa 0 pcap) dv) (WFoot gw (.slice pa 0 pcap) dv)) := Move.of_only HF.out hO hm
      clear hD hO hm HC

      have c3W := HMW.out.obj.c3
      have c4W := HMW.out.obj.c4
      have f3W := HMW.out.obj.fr 3
      have f4W := HMW.out.obj.fr 4
      have hgwW := HMW.out.obj.lt
      have hnew : (WW.alloc (.cells #[.int .i64 (n : Int)] 3)).cell? ⟨WW.heap.size, 0, none⟩ = some (.int .i64 (n : Int)) := by
        rw [cell_of_row _ _ 0 _ _ _ (heap_alloc_new WW _)]; rfl
      have hown := HMW.out.prow.alloc (.cells #[.int .i64 (n : Int)] 3)
      rw [← HPL.out] at hown
      have hnw : ∀ j u, (i64s [n])[j]? = some u → (WW.alloc (.cells #[.int .i64 (n : Int)] 3)).cell? (Addr.add ⟨WW.heap.size, 0, none⟩ j) = some u := by
        intro j u hj
        cases j with
        | zero => simp [i64s] at hj; subst hj; exact hnew
        | succ j => simp [i64s] at hj
      have HOWN := Lib.hid hown
      have HNW := Lib.hid hnw
      obtain ⟨da, dcap, hdv, _, _, _⟩ := slice_of_row HMW.out.drow
      have hdvn : da = none → dcap = 0 := by
        rcases HMW.out.drow.2 with ⟨h1, _⟩ | ⟨g1, cap1, _, h1, _⟩
        · rw [h1] at hdv; simp at hdv; intro _; exact hdv.2.2.symm
        · rw [h1] at hdv; simp at hdv; intro e; rw [e] at hdv; simp at hdv
      have hcut : cut0 dv = .slice da 0 dcap := by rw [hdv]; rfl
      have HCUT := Lib.hid hcut
      rw [hdv, ← HDL.out] at c4W
      have HDVN := Lib.hid hdvn
      clear hown hnw hnew hcut hdv hdvn
      go_wp2_with (at_builtin; refine wpList_append_or _ rfl _ _ 68 rfl 3 i0 (.int .i64 0) 8 Tryd.underlying68 hi hz0 hz1 hz2 rfl (.slice pa 0 pcap) 0 (i64s P) rfl HOWN.out ⟨WW.heap.size, 0, none⟩ 1 1 (i64s [n]) rfl (by simp [i64s]) (by decide) HNW.out (one_i64s _) (by unfold maxLen; omega) (by omega) ?_)
      intro v' w3 hrow hLie
      have hpush := HMW.out.push n (.cells #[.int .i64 (n : Int)] 3) (v' := v') (w3 := w3) (by rw [← HPL.out]; exact hrow) hLie
      have hsz3 := lies_size hLie
      have hgw3 : w3.heap[gw]? = WW.heap[gw]? := (lies_block hLie (by simp; omega) HMW.out.np).trans (Below.heap_alloc WW _ gw hgwW)
      have c33 : w3.cell? ⟨gw, 3, none⟩ = some (.slice pa 0 pcap) := by rw [World.cell?_of_block hgw3]; exact c3W
      have c43 : w3.cell? ⟨gw, 4, none⟩ = some (.slice da dl dcap) := by rw [World.cell?_of_block hgw3]; exact c4W
      have f33 : w3.frozen? ⟨gw, 3, none⟩ = false := by rw [World.frozen?_of_block hgw3]; exact f3W
      have f43 : w3.frozen? ⟨gw, 4, none⟩ = false := by rw [World.frozen?_of_block hgw3]; exact f4W
      obtain ⟨va, vn, vc, hv'⟩ : ∃ va vn vc, v' = .slice va vn vc := by
        rcases hrow.2 with ⟨h1, _⟩ | ⟨g1, cap1, _, h1, _⟩ <;> exact ⟨_, _, _, h1⟩
      have HPUSH := Lib.hid hpush
      subst hv'
      clear hrow hLie hpush hsz3 hgw3 c3W c4W f3W f4W

      go_wp2_with fail
      go_ret
      obtain ⟨hm1, ht1, hf1⟩ := HPUSH.out
      rw [HCUT.out] at hm1 ht1 hf1
      obtain ⟨hs2, hv2⟩ := push_fin HSW.out HVW.out ht1 hf1

      refine ⟨0, P ++ [n], [], begunS s, own', _, _, rfl, hs2, hm1, hv2, begun_same s, Nat.le_succ _, HGr.out, fun _ => ?_, .inl rfl, fun _ _ => rfl, fun _ h => absurd rfl h⟩
      have hu : Disk.used (begunS s).pages n = true := HGr.out.used n (by simp)
      have hw := HW.out
      have hp := HP.out
      subst hp
      have hw2 := Tape.Wr.first (s' := begunS s) hw hu
      refine ⟨hw2, rfl, ?_, by simp⟩
      have h0 := hw.hi
      simp at h0
      subst h0
      simp [Tape.tail_]
    · -- a page behind a full one
      have hD10 : (Tape.tail_ s P S).length + 10 ≤ s.page := by have := hW.tail_le; omega
      have hDo : Oct (Tape.tail_ s P S) := oct_drop _ hW.oct
      have hPpos : 0 < P.length := by omega
      have hDfull := hfull hPpos
      have hlastP : P.getD (P.length - 1) 0 ∈ P := Tape.getD_mem (by omega)
      have hlastu : Disk.used (begunS s).pages (P.getD (P.length - 1) 0) = true := hGr.used _ (List.mem_append_left _ hlastP)
      obtain ⟨E2, M2, hEM2⟩ : ∃ E2 M2, Disk.hit 4 ((begunS s).plan ((begunS s).ops + 1 - (begunS s).begun)) = (E2, M2) := ⟨_, _, rfl⟩
      have hE2 : E2 = 0 ∨ E2 = 16 := by have := hit_write ((begunS s).plan ((begunS s).ops + 1 - (begunS s).begun)); rw [hEM2] at this; exact this
      have hcalm2 : Disk.Calm s → E2 = 0 := fun h => by
        have := ((begun_same s).calm h).hit (by have := hS.since; exact Nat.le_succ_of_le this) 4; rw [hEM2] at this; exact (Prod.mk.inj this).1
      have HD10 := Lib.hid hD10
      have HDO := Lib.hid hDo
      have HDF := Lib.hid hDfull
      have HLU := Lib.hid hlastu
      have HEM2 := Lib.hid hEM2
      have HE2 := Lib.hid hE2
      have HC2 := Lib.hid hcalm2
      have HLP := Lib.hid hlastP
      obtain ⟨n, hn⟩ : ∃ n, n = Disk.leastFree s.pages := ⟨_, rfl⟩
      rw [← hn] at HC HGr hlf
      have HN := Lib.hid hn
      have hnP : n ∉ P := fun h => by
        have h1 := hW.used n h
        rw [hn, Disk.leastFree_not] at h1; cases h1
      have HNP := Lib.hid hnP
      have HPos := Lib.hid hPpos
      have HPl2 : Hid (P.length ≤ 16384) := by show P.length ≤ _; rw [← hpl]; exact hPl
      have dpl : (0 : Int) < (pl : Int) := by omega
      clear hS hM hF hW hEM1 hGr hbad hcalm1 hE1 hfull hpl hdl hD10 hDo hDfull hlastu hEM2 hE2 hcalm2 hn hnP hPpos hlastP
      go_enter Tryd.func57, Tryd.ntmps57
      go_wp2_with fail
      refine HC.out.mono ?_
      rintro e W1 ⟨rfl, own', hD, hO, hm⟩
      have hS1 : Sys B W1 g gl (begunS s) own' L := HS.out.only (by unfold begunS; rw [← HN.out]; exact hD) hO hm
      have hM1 : WrMem W1 gw g gl s.page hb P (Tape.tail_ s P S) cnt (.slice pa pl pcap) dv := HM.out.only HF.out hO
      have hV1 : Move B gl w W1 own own' (WFoot gw (.slice pa pl pcap) dv) (WFoot gw (.slice pa pl pcap) dv) := Move.of_only HF.out hO hm
      have C2 := twrite_any B g gl gw (begunS s) own' L hb P (Tape.tail_ s P S) cnt (.slice pa pl pcap) dv (n : Int) W1 hS1 hM1 hV1.free (by show s.ops + 1 < _; omega) HPos.out HPl2.out HD10.out HDO.out (by omega) (by omega) HLU.out E2 M2 HEM2.out
      rw [show ((n : Int) + 1).toNat = n + 1 by omega] at C2
      have HC3 := Lib.hid C2
      have HV1 := Lib.hid hV1
      have c31 := hM1.obj.c3
      have HLst : Hid (∃ x, x = P.getD (P.length - 1) 0) := ⟨_, rfl⟩
      clear hD hO hm HC C2 hS1 hM1 hV1
      go_wp2_with fail
      refine HC3.out.mono ?_
      rintro e WW ⟨rfl, hS2, hM2, hV2⟩
      have HSW := Lib.hid hS2
      have HMW : Hid (WrMem WW gw g gl s.page hb P (Tape.tail_ s P S) cnt (.slice pa pl pcap) dv) := hM2
      have HVW := Lib.hid (HV1.out.trans hV2)
      clear hS2 hM2 hV2 HC3 c31

      have c3W := HMW.out.obj.c3
      have c4W := HMW.out.obj.c4
      have f3W := HMW.out.obj.fr 3
      have f4W := HMW.out.obj.fr 4
      have hgwW := HMW.out.obj.lt
      have hnew : (WW.alloc (.cells #[.int .i64 (n : Int)] 3)).cell? ⟨WW.heap.size, 0, none⟩ = some (.int .i64 (n : Int)) := by
        rw [cell_of_row _ _ 0 _ _ _ (heap_alloc_new WW _)]; rfl
      have hown := HMW.out.prow.alloc (.cells #[.int .i64 (n : Int)] 3)
      rw [← HPL.out] at hown
      have hnw : ∀ j u, (i64s [n])[j]? = some u → (WW.alloc (.cells #[.int .i64 (n : Int)] 3)).cell? (Addr.add ⟨WW.heap.size, 0, none⟩ j) = some u := by
        intro j u hj
        cases j with
        | zero => simp [i64s] at hj; subst hj; exact hnew
        | succ j => simp [i64s] at hj
      have HOWN := Lib.hid hown
      have HNW := Lib.hid hnw
      obtain ⟨da, dcap, hdv, _, _, _⟩ := slice_of_row HMW.out.drow
      have hdvn : da = none → dcap = 0 := by
        rcases HMW.out.drow.2 with ⟨h1, _⟩ | ⟨g1, cap1, _, h1, _⟩
        · rw [h1] at hdv; simp at hdv; intro _; exact hdv.2.2.symm
        · rw [h1] at hdv; simp at hdv; intro e; rw [e] at hdv; simp at hdv
      have hcut : cut0 dv = .slice da 0 dcap := by rw [hdv]; rfl
      have HCUT := Lib.hid hcut
      rw [hdv, ← HDL.out] at c4W
      have HDVN := Lib.hid hdvn
      clear hown hnw hnew hcut hdv hdvn
      go_wp2_with (at_builtin; refine wpList_append_or _ rfl _ _ 68 rfl 3 i0 (.int .i64 0) 8 Tryd.underlying68 hi hz0 hz1 hz2 rfl (.slice pa pl pcap) pl (i64s P) rfl HOWN.out ⟨WW.heap.size, 0, none⟩ 1 1 (i64s [n]) rfl (by simp [i64s]) (by decide) HNW.out (one_i64s _) (by unfold maxLen; omega) (by omega) ?_)
      intro v' w3 hrow hLie
      have hpush := HMW.out.push n (.cells #[.int .i64 (n : Int)] 3) (v' := v') (w3 := w3) (by rw [← HPL.out]; exact hrow) hLie
      have hsz3 := lies_size hLie
      have hgw3 : w3.heap[gw]? = WW.heap[gw]? := (lies_block hLie (by simp; omega) HMW.out.np).trans (Below.heap_alloc WW _ gw hgwW)
      have c33 : w3.cell? ⟨gw, 3, none⟩ = some (.slice pa pl pcap) := by rw [World.cell?_of_block hgw3]; exact c3W
      have c43 : w3.cell? ⟨gw, 4, none⟩ = some (.slice da dl dcap) := by rw [World.cell?_of_block hgw3]; exact c4W
      have f33 : w3.frozen? ⟨gw, 3, none⟩ = false := by rw [World.frozen?_of_block hgw3]; exact f3W
      have f43 : w3.frozen? ⟨gw, 4, none⟩ = false := by rw [World.frozen?_of_block hgw3]; exact f4W
      obtain ⟨va, vn, vc, hv'⟩ : ∃ va vn vc, v' = .slice va vn vc := by
        rcases hrow.2 with ⟨h1, _⟩ | ⟨g1, cap1, _, h1, _⟩ <;> exact ⟨_, _, _, h1⟩
      have HPUSH := Lib.hid hpush
      subst hv'
      clear hrow hLie hpush hsz3 hgw3 c3W c4W f3W f4W

      go_wp2_with fail
      go_ret
      obtain ⟨hm1, ht1, hf1⟩ := HPUSH.out
      rw [HCUT.out] at hm1 ht1 hf1
      obtain ⟨hs2, hv2⟩ := push_fin HSW.out HVW.out ht1 hf1

      have hle := HN.out
      refine ⟨E2, P ++ [n], [], wroteE (begunS s) E2 (P.getD (P.length - 1) 0) (closeB s.page (n + 1) (Tape.tail_ s P S)), own', _, _, rfl, hs2, ?_, hv2, (begun_same s).trans (wrote_same _ _ _ _), ?_, wrote_grow HGr.out _ _ _ (List.mem_append_left _ HLP.out), fun h0 => ?_, ?_, fun h _ => HC2.out h, fun h h0 => absurd (HC2.out h) h0⟩
      · rw [(wrote_same _ _ _ _).page]; exact hm1
      · rw [wrote_ops]; show s.ops + 1 + 1 ≤ _; omega
      · subst h0
        have hl : (wroteE (begunS s) 0 (P.getD (P.length - 1) 0) (closeB s.page (n + 1) (Tape.tail_ s P S))).pages.getD (P.getD (P.length - 1) 0) none = some (closeB s.page (n + 1) (Tape.tail_ s P S)) := by
          unfold wroteE; rw [if_pos rfl]
          exact Disk.getD_put_same _ (Nat.le_of_lt (Disk.used_lt HLU.out))
        have hk : ∀ m ∈ P, m ≠ P.getD (P.length - 1) 0 → (wroteE (begunS s) 0 (P.getD (P.length - 1) 0) (closeB s.page (n + 1) (Tape.tail_ s P S))).pages.getD m none = s.pages.getD m none := fun m hm hne => by
          rw [wrote_getD _ _ _ _ hne]
          exact Disk.getD_put_other _ (fun e => HNP.out (by rw [hle, ← e]; exact hm))
        obtain ⟨h1, h2⟩ := HW.out.next HPos.out HDF.out (wrote_same (begunS s) 0 (P.getD (P.length - 1) 0) (closeB s.page (n + 1) (Tape.tail_ s P S))).page HNP.out (by rw [wrote_used _ _ _ _ HLU.out]; exact HGr.out.used n (by simp)) hl hk
        exact ⟨h1, rfl, h2, by simp⟩
      · rcases HE2.out with h | h
        · exact .inl h
        · exact .inr (.inl h)
end Go.Proofs.YtbkiahnljklhpaaDoor
