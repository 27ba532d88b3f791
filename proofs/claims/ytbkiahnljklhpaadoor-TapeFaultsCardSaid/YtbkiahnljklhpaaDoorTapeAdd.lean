/- THE WALKS OF Writer's Abort, Add, Close, AND OF Create. -/
import Derived.Test.YtbkiahnljklhpaaDoorTapeLay
namespace Go.Proofs.YtbkiahnljklhpaaDoor
open Go.RowKit
open Seal
/-- The ledger and somebody's blocks have turned. -/
theorem Sys.led' {F : Nat → Prop} {B : Nat} {w w' : World} {g gl : Nat} {s : Disk.St} {own : Nat → Nat} {L L' : Int × Int × Int} (h : Sys B w g gl s own L) (hl : Led w' gl LedT L'.1 L'.2.1 L'.2.2) (hf : Fair L'.1 L'.2.1) (hT : Touch (fun x => x = gl ∨ F x) w w') (hF : ∀ b, F b → B ≤ b ∧ own b = 0) : Sys B w' g gl s own L' := by
  have hk : ∀ b, b < w.heap.size → b < B ∨ (own b ≠ 0) → w'.heap[b]? = w.heap[b]? := fun b hb hr => hT.block b hb fun hp => by
    rcases hp with rfl | hp
    · rcases hr with hr | hr
      · have := h.glb; omega
      · exact hr h.apart
    · obtain ⟨h1, h2⟩ := hF b hp
      rcases hr with hr | hr
      · omega
      · exact hr h2
  refine ⟨h.disk.stay hT.size fun b hb h0 => hk b hb (.inr h0), hl, hf, h.apart, h.low, h.glb, ?_, ?_, h.tab0, h.bru0, Nat.le_trans h.size hT.size⟩
  · intro j hj
    exact (World.cell?_of_block (hk _ (Nat.lt_of_lt_of_le h.tab0 h.size) (.inl h.tab0))).trans (h.tab j hj)
  · intro j hj
    exact (World.cell?_of_block (hk _ (Nat.lt_of_lt_of_le h.bru0 h.size) (.inl h.bru0))).trans (h.bru j hj)
theorem Move.of_led {B gl : Nat} {w w' : World} {own : Nat → Nat} {F F' : Nat → Prop} (hF : Free B gl w own F) (hT : Touch (fun x => x = gl ∨ F x) w w') (hF' : ∀ b, F' b → F b) : Move B gl w w' own own F F' :=
  ⟨hT.mono fun _ _ h => h.elim (fun h => .inr (.inl h)) (fun h => .inr (.inr h)), fun _ _ => rfl, fun _ _ h => hF' _ h, fun b hb => by
    obtain ⟨h1, h2, h3, h4⟩ := hF b (hF' b hb); exact ⟨h1, h2, h3, Nat.lt_of_lt_of_le h4 hT.size⟩⟩
theorem Move.shrink {B gl : Nat} {w w' : World} {own own' : Nat → Nat} {F F' F'' : Nat → Prop} (h : Move B gl w w' own own' F F') (hs : ∀ b, F'' b → F' b) : Move B gl w w' own own' F F'' :=
  ⟨h.touch, h.marks, fun b hb h2 => h.foot b hb (hs b h2), fun b hb => h.free b (hs b hb)⟩
/-- Of a row of numbers nothing is left; the others are as they were. -/
structure Gone (s s' : Disk.St) (P : List Nat) : Prop where
  pages : ∀ n, s'.pages.getD n none = if n ∈ P then none else s.pages.getD n none
  live : Disk.live s'.pages + P.length = Disk.live s.pages
theorem freed_same (s : Disk.St) (P : List Nat) : Disk.Same s (freed s P) := ⟨rfl, rfl, rfl, rfl, Nat.le_add_right _ _⟩
theorem freed_gone {s : Disk.St} {P : List Nat} (hn : P.Nodup) (hu : ∀ n ∈ P, Disk.used s.pages n = true) : Gone s (freed s P) P := ⟨Disk.getD_gone s.pages P hu, Disk.live_gone s.pages P hn hu⟩
theorem not_used {l : Disk.Pages} {n : Nat} (h : Disk.used l n = false) : l.getD n none = none := by
  unfold Disk.used at h
  cases hx : l.getD n none with
  | none => rfl
  | some b => rw [hx] at h; cases h
theorem grow_gone {s s1 : Disk.St} {P P1 : List Nat} (h : Disk.Grow s s1 P P1) : Gone s (freed s1 P1) P := by
  have h1 := freed_gone h.nodup h.used
  obtain ⟨Q, hQ, hq⟩ := h.ext
  refine ⟨fun n => ?_, by have := h1.live; have := h.live; omega⟩
  rw [h1.pages n]
  by_cases hP : n ∈ P
  · rw [if_pos (by rw [hQ]; simp [hP]), if_pos hP]
  · rw [if_neg hP]
    by_cases hP1 : n ∈ P1
    · rw [if_pos hP1]
      rw [hQ] at hP1
      rcases List.mem_append.1 hP1 with h2 | h2
      · exact absurd h2 hP
      · exact (not_used (hq n h2)).symm
    · rw [if_neg hP1]; exact h.other n hP1
theorem grow_len {s s1 : Disk.St} {P P1 : List Nat} (h : Disk.Grow s s1 P P1) (hl : s1.pages.length ≤ 16384) : P1.length ≤ 16384 := by
  have h1 := Disk.live_gone s1.pages P1 h.nodup h.used
  have h2 := Disk.live_le s1.pages
  omega
theorem Sys.len16 {B : Nat} {w : World} {g gl : Nat} {s : Disk.St} {own : Nat → Nat} {L : Int × Int × Int} (h : Sys B w g gl s own L) : s.pages.length ≤ 16384 := by have := h.length; omega
set_option maxRecDepth 100000 in
set_option maxHeartbeats 1000000 in
theorem abort_live (B g gl gw : Nat) (s : Disk.St) (own : Nat → Nat) (L : Int × Int × Int) (hb : Bool) (P D : List Nat) (cnt : Nat) (pv dv : Value) (w : World) (hS : Sys B w g gl s own L) (hM : WrMem w gw g gl s.page hb P D cnt pv dv) (hF : Free B gl w own (WFoot gw pv dv))
    (hnd : P.Nodup) (hu : ∀ n ∈ P, Disk.used s.pages n = true) (hpl : P.length ≤ 16384) (ho : s.ops + P.length < 4611686018427387900) :
    Calls Tryd.prog 46 #[.pointer (some ⟨gw, 0, none⟩)] w fun e w' => e = .returned (.tuple #[]) ∧ Sys B w' g gl (freed s P) own (backL hb s.page L) ∧ Over7 w' gw WrT ∧ Move B gl w w' own own (WFoot gw pv dv) (fun b => b = gw) := by
  obtain ⟨pa, pcap, hpv, _, _, hin, hpb⟩ := ints_of_row hM.prow
  have c0 := hM.obj.c0
  have c3 := hM.obj.c3
  have c6 := hM.obj.c6
  unfold ptr at c0
  rw [hpv] at c3
  have hown : ∀ p, pa = some p → own p.block = 0 := fun p hp => (hF p.block (.inr (.inl (hpb p hp).1))).2.1
  have CF := freeAll_any g s own pa P.length pcap P w.drew (hS.disk.drewN 1) (by omega) rfl hpl (by exact hin) hown hnd hu
  have HCF := Lib.hid CF
  have HS := Lib.hid hS
  have HM := Lib.hid hM
  have HF := Lib.hid hF
  obtain ⟨pl, hpl2⟩ : ∃ pl, pl = P.length := ⟨_, rfl⟩
  rw [← hpl2] at HCF c3
  clear hS hM hF CF hin hown hnd hu hpv hpb hpl2
  go_enter Tryd.func46, Tryd.ntmps46
  go_wp2_with fail
  refine wp_region_still_tail 8 (by kernel_rfl) (by kernel_rfl) ?_
  simp only [List.take_succ_cons, List.take_zero, List.drop_succ_cons, List.drop_zero]
  iterate 8 still_step
  refine wpStill_nil ?_
  change wpList _ _ _ _ _ w.drew
  go_wp2_with fail
  refine HCF.out.mono ?_
  rintro e w1 ⟨rfl, hD, hO⟩
  have hO1 : Only own w w1 := ⟨hO.os, hO.tape, hO.output, hO.size, hO.block⟩
  have hS1 := HS.out.only hD hO1 fun _ _ => rfl
  have hM1 := HM.out.only HF.out hO1
  have hgwF := HF.out gw (.inl rfl)
  have CE := wend_any gw gl s.page hb (ptr g) pv dv (nat cnt) (.bool false) L w1 hM1.obj hS1.led hS1.fair hgwF.2.2.1
  have HCE := Lib.hid CE
  have HS1 := Lib.hid hS1
  have HO1 := Lib.hid hO1
  clear hD hO hO1 hS1 hM1 CE HCF
  go_wp2_with fail
  refine HCE.out.mono ?_
  rintro e w2 ⟨rfl, hOv, hL, hT⟩
  have HOv := Lib.hid hOv
  have HL := Lib.hid hL
  have HT := Lib.hid hT
  clear hOv hL hT HCE
  go_wp2_with fail
  go_end0
  have hF1 := HF.out.size HO1.out.size
  have hT2 : Touch (fun x => x = gl ∨ WFoot gw pv dv x) w1 w2 := HT.out.mono fun _ _ h => h.elim .inl (fun h => .inr (.inl h))
  exact ⟨rfl, HS1.out.led' HL.out (backL_fair HS1.out.fair) hT2 (fun b hb => ⟨(hF1 b hb).1, (hF1 b hb).2.1⟩), HOv.out, (Move.of_only HF.out HO1.out fun _ _ => rfl).trans (Move.of_led hF1 hT2 fun b hb => .inl hb)⟩
set_option maxRecDepth 100000 in
set_option maxHeartbeats 400000 in
theorem abort_over (gw : Nat) (w : World) (h : Over7 w gw WrT) : Calls Tryd.prog 46 #[.pointer (some ⟨gw, 0, none⟩)] w fun e w' => e = .returned (.tuple #[]) ∧ w = w' := by
  have c6 := Obj7.c6 h
  clear h
  go_enter Tryd.func46, Tryd.ntmps46
  go_wp2_with fail
  exact bodyPost_ret (results_none Tryd.results46 _ _ _) rfl ⟨rfl, rfl⟩
set_option maxRecDepth 100000 in
set_option maxHeartbeats 400000 in
theorem add_over (gw : Nat) (v : Value) (w : World) (h : Over7 w gw WrT) : Calls Tryd.prog 31 #[.pointer (some ⟨gw, 0, none⟩), v] w fun e w' => e = .returned (.int .i64 21) ∧ w = w' := by
  have c6 := Obj7.c6 h
  clear h
  go_enter Tryd.func31, Tryd.ntmps31
  go_wp2_with fail
  go_ret
  exact ⟨rfl, rfl⟩
set_option maxRecDepth 100000 in
set_option maxHeartbeats 400000 in
theorem close_over (gw : Nat) (w : World) (h : Over7 w gw WrT) : Calls Tryd.prog 32 #[.pointer (some ⟨gw, 0, none⟩)] w fun e w' => e = .returned (.tuple #[.pointer none, .int .i64 21]) ∧ w = w' := by
  have c6 := Obj7.c6 h
  clear h
  go_enter Tryd.func32, Tryd.ntmps32
  go_wp2_with fail
  go_ret2
  exact ⟨rfl, rfl⟩
set_option maxRecDepth 100000 in
set_option maxHeartbeats 400000 in
theorem add_long (gw g gl page : Nat) (hb : Bool) (P D : List Nat) (cnt : Nat) (pv dv : Value) (a : Option Addr) (n cap : Nat) (w : World) (h : WrMem w gw g gl page hb P D cnt pv dv) (hn : 1048640 < n) (hm : n ≤ 9223372036854775807) : Calls Tryd.prog 31 #[.pointer (some ⟨gw, 0, none⟩), .slice a n cap] w fun e w' => e = .returned (.int .i64 3) ∧ w = w' := by
  have c6 := h.obj.c6
  clear h
  go_enter Tryd.func31, Tryd.ntmps31
  go_wp2_with fail
  go_ret
  exact ⟨rfl, rfl⟩
/-- What an Add leaves. -/
structure AddPost (B g gl gw : Nat) (s : Disk.St) (own : Nat → Nat) (L : Int × Int × Int) (hb : Bool) (P S b : List Nat) (cnt : Nat) (pv dv : Value) (w : World) (E : Nat) (w' : World) (s' : Disk.St) (own' : Nat → Nat) (L' : Int × Int × Int) : Prop where
  sys : Sys B w' g gl s' own' L'
  same : Disk.Same s s'
  ops : s'.ops ≤ s.ops + 2 * (4 + b.length) + 16384
  err : E = 0 ∨ E = 16 ∨ E = 17
  calm : Disk.Calm s → Disk.live s.pages + Tape.need (s.page - 10) (S.length + (4 + b.length)) ≤ s.most + P.length → E = 0
  full : Disk.Calm s → E ≠ 0 → E = 17
  ok : E = 0 → L' = L ∧ ∃ P' pv' dv', Tape.Wr s' P' (S ++ Tape.frame b) ∧ Tape.tail_ s' P' (S ++ Tape.frame b) ≠ [] ∧ WrMem w' gw g gl s'.page hb P' (Tape.tail_ s' P' (S ++ Tape.frame b)) (cnt + 1) pv' dv' ∧ Move B gl w w' own own' (WFoot gw pv dv) (WFoot gw pv' dv') ∧ Disk.Grow s s' P P'
  bad : E ≠ 0 → L' = backL hb s.page L ∧ Over7 w' gw WrT ∧ Move B gl w w' own own' (WFoot gw pv dv) (fun b => b = gw) ∧ Gone s s' P
def AddEnd (B g gl gw : Nat) (s : Disk.St) (own : Nat → Nat) (L : Int × Int × Int) (hb : Bool) (P S b : List Nat) (cnt : Nat) (pv dv : Value) (w : World) (e : Ending) (w' : World) : Prop :=
  ∃ (E : Nat) (s' : Disk.St) (own' : Nat → Nat) (L' : Int × Int × Int), e = .returned (.int .i64 (E : Int)) ∧ AddPost B g gl gw s own L hb P S b cnt pv dv w E w' s' own' L'
theorem else_move {B gl : Nat} {w w' : World} {own own' : Nat → Nat} {F F' : Nat → Prop} {a : Option Addr} {l : List Nat} (hl : SliceIs w a l) (h : l ≠ [] → Else a gl own F) (hm : Move B gl w w' own own' F F') : l ≠ [] → Else a gl own' F' := fun hne p hp => by
  obtain ⟨h1, h2, h3⟩ := h hne p hp
  have h4 : p.block < w.heap.size := by
    obtain ⟨b, off, e, h5⟩ := hl.resolve_left hne
    rw [hp] at e
    obtain rfl := Option.some.inj e
    exact World.block_lt_of_cell? w _ (h5 0 (List.length_pos_iff.2 hne))
  exact ⟨(hm.marks _ h4).trans h1, h2, fun h5 => h3 (hm.foot _ h4 h5)⟩
theorem sliceIs_move {B gl : Nat} {w w' : World} {own own' : Nat → Nat} {F F' : Nat → Prop} {a : Option Addr} {l : List Nat} (h : SliceIs w a l) (he : l ≠ [] → Else a gl own F) (hm : Move B gl w w' own own' F F') : SliceIs w' a l := by
  by_cases hne : l = []
  · exact .inl hne
  obtain ⟨b, off, rfl, h5⟩ := h.resolve_left hne
  · refine .inr ⟨b, off, rfl, fun j hj => ?_⟩
    obtain ⟨h1, h2, h3⟩ := he hne _ rfl
    exact (World.cell?_of_block (hm.same (World.block_lt_of_cell? w _ (h5 j hj)) h1 h2 h3)).trans (h5 j hj)
theorem nat_succ (n : Nat) : nat (n + 1) = .int .i64 ((n : Int) + 1) := by unfold nat; congr 1
set_option maxRecDepth 100000 in
set_option maxHeartbeats 2000000 in
theorem add_any (B g gl gw : Nat) (s : Disk.St) (own : Nat → Nat) (L : Int × Int × Int) (hb : Bool) (P S b : List Nat) (cnt : Nat) (pv dv : Value) (a : Option Addr) (len cap : Nat) (w : World) (hS : Sys B w g gl s own L) (hW : Tape.Wr s P S) (hM : WrMem w gw g gl s.page hb P (Tape.tail_ s P S) cnt pv dv) (hF : Free B gl w own (WFoot gw pv dv))
    (ht : P = [] ∨ Tape.tail_ s P S ≠ []) (hlen : b.length = len) (hlc : len ≤ cap) (hcm : cap ≤ 9223372036854775807) (hbo : Oct b) (hbs : SliceIs w a b) (hel : b ≠ [] → Else a gl own (WFoot gw pv dv)) (hb32 : len ≤ 1048640) (hcnt : cnt < 1099511627776) (ho : s.ops < 4611686018400000000) :
    Calls Tryd.prog 31 #[.pointer (some ⟨gw, 0, none⟩), .slice a len cap] w (AddEnd B g gl gw s own L hb P S b cnt pv dv w) := by
  have c6 := hM.obj.c6
  have CH := head_any len w
  have HCH := Lib.hid CH
  have HS := Lib.hid hS
  have HM := Lib.hid hM
  have HF := Lib.hid hF
  have HW := Lib.hid hW
  have HT := Lib.hid ht
  have HLEN := Lib.hid hlen
  have HBO := Lib.hid hbo
  have HBS := Lib.hid hbs
  have HEL := Lib.hid hel
  clear hS hM hF hW ht hlen hbo hbs hel CH
  go_enter Tryd.func31, Tryd.ntmps31
  go_wp2_with fail
  refine HCH.out.mono ?_
  rintro e w1 ⟨rfl, hR1, hB1⟩
  have hS1 := HS.out.below hB1
  have hM1 := HM.out.below hB1
  have hF1 := HF.out.size hB1.size
  have hV1 : Move B gl w w1 own own (WFoot gw pv dv) (WFoot gw pv dv) := Move.of_below HF.out hB1
  have hhd : SliceIs w1 (some ⟨w.heap.size, 0, none⟩) (le len 4) := by
    have := hR1.reads 0 4 (by rw [length_le]; decide)
    rw [List.drop_zero, List.take_of_length_le (by rw [length_le]; exact Nat.le_refl _)] at this
    exact .inr ⟨_, 0, rfl, this⟩
  have hel1 : Else (some ⟨w.heap.size, 0, none⟩) gl own (WFoot gw pv dv) := fun p hp => by
    obtain rfl := Option.some.inj hp
    refine ⟨HS.out.disk.fresh _ (Nat.le_refl _), fun e => ?_, fun h => ?_⟩
    · have h1 := HS.out.led.lt; have h2 : w.heap.size = gl := e; omega
    · exact Nat.lt_irrefl _ (HM.out.lt _ h)
  have C1 := lay_any B g gl gw s own L hb P S (le len 4) cnt pv dv (some ⟨w.heap.size, 0, none⟩) 4 4 w1 hS1 HW.out hM1 hF1 HT.out (length_le _ _) (Nat.le_refl _) (by decide) (oct_le _ _) hhd (fun _ => hel1) (by decide) (by omega)
  have HC1 := Lib.hid C1
  have HV1 := Lib.hid hV1
  have HB1 := Lib.hid hB1
  clear hR1 hB1 hS1 hM1 hF1 hhd hel1 C1 hV1 HCH
  go_wp2_with fail
  refine HC1.out.mono ?_
  rintro e w2 ⟨E, P2, D2, s2, own2, pv2, dv2, rfl, hT⟩
  have hV2 := HV1.out.trans hT.move
  by_cases hE : E = 0
  · subst hE
    obtain ⟨hw2, hd2, ht2⟩ := hT.ok rfl
    subst hd2
    have hbs2 : SliceIs w2 a b := sliceIs_move HBS.out HEL.out hV2
    have hel2 := else_move HBS.out HEL.out hV2
    have C2 := lay_any B g gl gw s2 own2 L hb P2 (S ++ le len 4) b cnt pv2 dv2 a len cap w2 hT.sys hw2 hT.mem hT.move.free ht2 HLEN.out hlc hcm HBO.out hbs2 hel2 (by omega) (by have := hT.ops; rw [length_le] at this; omega)
    have HC2 := Lib.hid C2
    have HTT := Lib.hid hT
    have HV2 := Lib.hid hV2
    have HW2 := Lib.hid hw2
    clear hT hV2 hw2 ht2 hbs2 hel2 C2 HC1
    go_wp2_with fail
    refine HC2.out.mono ?_
    rintro e w3 ⟨E, P3, D3, s3, own3, pv3, dv3, rfl, hT3⟩
    have hV3 := HV2.out.trans hT3.move
    by_cases hE : E = 0
    · subst hE
      obtain ⟨hw3, hd3, ht3⟩ := hT3.ok rfl
      subst hd3
      have e1 : S ++ le len 4 ++ b = S ++ Tape.frame b := by unfold Tape.frame; rw [HLEN.out, List.append_assoc]
      rw [e1] at hw3 ht3
      have hM3 := hT3.mem
      rw [e1] at hM3
      have c5 := hM3.obj.c5
      have f5 := hM3.obj.fr 5
      unfold nat at c5
      have hne : Tape.tail_ s3 P3 (S ++ Tape.frame b) ≠ [] := by
        rcases ht3 with h | h
        · subst h
          intro _
          have := hw3.hi
          rw [List.length_append, Tape.length_frame] at this
          simp at this
        · exact h
      have hI : IntKind.i64.wrap ((cnt : Int) + 1) = (cnt : Int) + 1 := IntWalk.i64_in _ (by omega)
      have HT3 := Lib.hid hT3
      have HM3 := Lib.hid hM3
      have HV3 := Lib.hid hV3
      have HW3 := Lib.hid hw3
      have HNE := Lib.hid hne
      clear hT3 hM3 hV3 hw3 ht3 hne e1 HC2
      go_wp2_with fail
      go_ret
      have hT := HTT.out
      have hT3 := HT3.out
      have hgwF := hT3.move.free gw (.inl rfl)
      have hTo : Touch (WFoot gw pv3 dv3) w3 (w3.setCell ⟨gw, 5, none⟩ (.int .i64 ((cnt : Int) + 1))) := (Touch.refl _ _).setCell (.inl (.inl rfl)) _
      have hset : ∀ x, x ≠ gw → (w3.setCell ⟨gw, 5, none⟩ (.int .i64 ((cnt : Int) + 1))).heap[x]? = w3.heap[x]? := fun x hx => Below.heap_setCell _ _ _ _ (fun e => hx e)
      have hfo : ∀ x, WFoot gw pv3 dv3 x → (x < w3.heap.size → WFoot gw pv3 dv3 x) ∧ x < (w3.setCell ⟨gw, 5, none⟩ (.int .i64 ((cnt : Int) + 1))).heap.size := fun x hx => ⟨fun _ => hx, by have := HM3.out.lt x hx; simpa [World.setCell] using this⟩
      obtain ⟨hs4, hv4⟩ := push_fin hT3.sys HV3.out hTo hfo
      have hm4 : WrMem (w3.setCell ⟨gw, 5, none⟩ (.int .i64 ((cnt : Int) + 1))) gw g gl s3.page hb P3 (Tape.tail_ s3 P3 (S ++ Tape.frame b)) (cnt + 1) pv3 dv3 := by
        have h := HM3.out
        refine ⟨?_, ownsRow_keep h.prow fun x hx => hset x (fun e => h.np (by rw [hx, e])), ownsRow_keep h.drow fun x hx => hset x (fun e => h.nd (by rw [hx, e])), h.apart, h.np, h.nd, h.nilp⟩
        rw [nat_succ]
        exact h.obj.s5 _
      refine ⟨0, s3, own3, L, rfl, hs4, hT.same.trans hT3.same, ?_, .inl rfl, fun _ _ => rfl, fun _ h => absurd rfl h, fun _ => ⟨rfl, P3, pv3, dv3, HW3.out, HNE.out, hm4, hv4, hT.grow.trans hT3.grow⟩, fun h => absurd rfl h⟩
      have h1 := hT.ops
      have h2 := hT3.ops
      rw [length_le] at h1
      rw [HLEN.out] at h2 ⊢
      omega
    · have CA := abort_live B g gl gw s3 own3 L hb P3 D3 cnt pv3 dv3 w3 hT3.sys hT3.mem hT3.move.free hT3.grow.nodup hT3.grow.used (grow_len hT3.grow hT3.sys.len16) (by have h1 := grow_len hT3.grow hT3.sys.len16; have h2 := HTT.out.ops; have h3 := hT3.ops; rw [length_le] at h2; rw [HLEN.out] at h3; omega)
      have HCA := Lib.hid CA
      have HTA := Lib.hid hT3
      have HVA := Lib.hid hV3
      have HE := Lib.hid hE
      have dE : ((E : Int) != 0) = true := by rw [bne_iff_ne]; omega
      have dE2 : ((E : Int) == 0) = false := by rw [beq_eq_false_iff_ne]; omega
      clear hT3 hV3 hE CA
      go_wp2_with fail
      refine HCA.out.mono ?_
      rintro e w4 ⟨rfl, hS4, hO4, hM4⟩
      have HS4 := Lib.hid hS4
      have HO4 := Lib.hid hO4
      have HM4 := Lib.hid hM4
      clear hS4 hO4 hM4 HCA
      go_wp2_with fail
      go_ret
      have hT3 := HTA.out
      have h1 := grow_len hT3.grow hT3.sys.len16
      refine ⟨E, freed s3 P3, own3, backL hb s3.page L, rfl, HS4.out, (HTT.out.same.trans hT3.same).trans (freed_same _ _), ?_, hT3.err, ?_, ?_, fun h => absurd h HE.out, fun _ => ⟨by rw [((HTT.out.same.trans hT3.same)).page], HO4.out, HVA.out.trans HM4.out, grow_gone (HTT.out.grow.trans hT3.grow)⟩⟩
      · show s3.ops + P3.length ≤ _
        rw [HLEN.out]
        have h2 := HTT.out.ops; have h3 := hT3.ops; rw [length_le] at h2; rw [HLEN.out] at h3
        omega
      · intro hc hl
        refine absurd (hT3.calm (HTT.out.same.calm hc) ?_) HE.out
        have h4 := HTT.out.grow.live
        have h5 := HTT.out.same.page
        have h6 := HTT.out.same.most
        rw [h5, h6, List.length_append, length_le, Nat.add_assoc]
        omega
      · exact fun hc h => hT3.full (HTT.out.same.calm hc) h
  · skip
    have CA := abort_live B g gl gw s2 own2 L hb P2 D2 cnt pv2 dv2 w2 hT.sys hT.mem hT.move.free hT.grow.nodup hT.grow.used (grow_len hT.grow hT.sys.len16) (by have h1 := grow_len hT.grow hT.sys.len16; have h2 := hT.ops; rw [length_le] at h2; omega)
    have HCA := Lib.hid CA
    have HTA := Lib.hid hT
    have HVA := Lib.hid hV2
    have HE := Lib.hid hE
    have dE : ((E : Int) != 0) = true := by rw [bne_iff_ne]; omega
    have dE2 : ((E : Int) == 0) = false := by rw [beq_eq_false_iff_ne]; omega
    clear hT hV2 hE CA
    go_wp2_with fail
    refine HCA.out.mono ?_
    rintro e w4 ⟨rfl, hS4, hO4, hM4⟩
    have HS4 := Lib.hid hS4
    have HO4 := Lib.hid hO4
    have HM4 := Lib.hid hM4
    clear hS4 hO4 hM4 HCA
    go_wp2_with fail
    go_ret
    have hT := HTA.out
    have h1 := grow_len hT.grow hT.sys.len16
    refine ⟨E, freed s2 P2, own2, backL hb s2.page L, rfl, HS4.out, (hT.same).trans (freed_same _ _), ?_, hT.err, ?_, ?_, fun h => absurd h HE.out, fun _ => ⟨by rw [((hT.same)).page], HO4.out, HVA.out.trans HM4.out, grow_gone (hT.grow)⟩⟩
    · show s2.ops + P2.length ≤ _
      rw [HLEN.out]
      have h2 := hT.ops; rw [length_le] at h2
      omega
    · intro hc hl
      refine absurd (hT.calm hc ?_) HE.out
      have h4 : Tape.need (s.page - 10) (S.length + (le len 4).length) ≤ Tape.need (s.page - 10) (S.length + (4 + b.length)) := Tape.need_mono (by rw [length_le]; omega)
      omega
    · exact fun hc h => hT.full hc h
end Go.Proofs.YtbkiahnljklhpaaDoor
