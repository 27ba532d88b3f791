/- THE WALK OF Writer's lay. -/
import Derived.Test.YtbkiahnljklhpaaDoorTapeTurn
import Derived.Deep.RegionHeld3
import Derived.Deep.RegionLaw
namespace Go.Proofs.YtbkiahnljklhpaaDoor
open Go.RowKit
open Seal
/-- A slice of bytes that is nobody's of F, the disk's or the ledger's. -/
def Else (a : Option Addr) (gl : Nat) (own : Nat → Nat) (F : Nat → Prop) : Prop := ∀ p, a = some p → own p.block = 0 ∧ p.block ≠ gl ∧ ¬ F p.block
structure LayPost (B g gl gw : Nat) (s : Disk.St) (own : Nat → Nat) (L : Int × Int × Int) (hb : Bool) (P S b : List Nat) (cnt : Nat) (pv dv : Value) (w : World) (E : Nat) (w' : World) (P' D' : List Nat) (s' : Disk.St) (own' : Nat → Nat) (pv' dv' : Value) : Prop where
  sys : Sys B w' g gl s' own' L
  mem : WrMem w' gw g gl s'.page hb P' D' cnt pv' dv'
  move : Move B gl w w' own own' (WFoot gw pv dv) (WFoot gw pv' dv')
  same : Disk.Same s s'
  ops : s'.ops ≤ s.ops + 2 * b.length
  grow : Disk.Grow s s' P P'
  ok : E = 0 → Tape.Wr s' P' (S ++ b) ∧ D' = Tape.tail_ s' P' (S ++ b) ∧ (P' = [] ∨ Tape.tail_ s' P' (S ++ b) ≠ [])
  err : E = 0 ∨ E = 16 ∨ E = 17
  calm : Disk.Calm s → Disk.live s.pages + Tape.need (s.page - 10) (S.length + b.length) ≤ s.most + P.length → E = 0
  full : Disk.Calm s → E ≠ 0 → E = 17
def LayEnd (B g gl gw : Nat) (s : Disk.St) (own : Nat → Nat) (L : Int × Int × Int) (hb : Bool) (P S b : List Nat) (cnt : Nat) (pv dv : Value) (w : World) (e : Ending) (w' : World) : Prop :=
  ∃ (E : Nat) (P' D' : List Nat) (s' : Disk.St) (own' : Nat → Nat) (pv' dv' : Value), e = .returned (.int .i64 (E : Int)) ∧ LayPost B g gl gw s own L hb P S b cnt pv dv w E w' P' D' s' own' pv' dv'
/-- What a round of lay keeps: k bytes are laid. -/
structure LayInv (B g gl gw : Nat) (s : Disk.St) (own : Nat → Nat) (L : Int × Int × Int) (hb : Bool) (P S b : List Nat) (cnt : Nat) (pv dv : Value) (w : World) (k : Nat) (w' : World) (P' : List Nat) (s' : Disk.St) (own' : Nat → Nat) (pv' dv' : Value) : Prop where
  sys : Sys B w' g gl s' own' L
  mem : WrMem w' gw g gl s'.page hb P' (Tape.tail_ s' P' (S ++ b.take k)) cnt pv' dv'
  move : Move B gl w w' own own' (WFoot gw pv dv) (WFoot gw pv' dv')
  same : Disk.Same s s'
  ops : s'.ops ≤ s.ops + 2 * k
  grow : Disk.Grow s s' P P'
  wr : Tape.Wr s' P' (S ++ b.take k)
  tight : P' = [] ∨ Tape.tail_ s' P' (S ++ b.take k) ≠ []
/-- Where a page more is wanted, so many are needed. -/
theorem need_more {s : Disk.St} {P S : List Nat} (hp : 10 < s.page) (h : Tape.Wr s P S) (hfull : 0 < P.length → (Tape.tail_ s P S).length = s.page - 10) {n : Nat} (hn : S.length < n) : P.length + 1 ≤ Tape.need (s.page - 10) n := by
  have h1 : S.length = P.length * (s.page - 10) := by
    rcases Nat.eq_zero_or_pos P.length with e | e
    · have := h.hi; rw [e] at this ⊢; omega
    · have h2 := hfull e
      have h3 : P.length * (s.page - 10) = (P.length - 1) * (s.page - 10) + (s.page - 10) := by rw [← Nat.succ_mul]; congr 1; omega
      have h4 := h.lo
      unfold Tape.tail_ at h2
      rw [List.length_drop] at h2
      omega
  have h5 := Tape.need_lo (room := s.page - 10) (n := n) (by omega)
  rcases Nat.lt_or_ge P.length (Tape.need (s.page - 10) n) with h6 | h6
  · exact h6
  · have := Nat.mul_le_mul_right (s.page - 10) h6
    omega
/-- Bytes are put behind a writer's data. -/
theorem WrMem.add {w2 w3 : World} {gw g gl page : Nat} {hb : Bool} {P D : List Nat} {cnt : Nat} {pv dv v' : Value} (h : WrMem w2 gw g gl page hb P D cnt pv dv) (c : List Nat) (hrow : w3.ownsRow 0 5 1 v' (D.length + c.length) (u8s D ++ u8s c)) (hL : Lies w2 w3 dv v') :
    WrMem (w3.setCell ⟨gw, 4, none⟩ v') gw g gl page hb P (D ++ c) cnt pv v' ∧ Touch (WFoot gw pv dv) w2 (w3.setCell ⟨gw, 4, none⟩ v') ∧
    (∀ b, WFoot gw pv v' b → (b < w2.heap.size → WFoot gw pv dv b) ∧ b < (w3.setCell ⟨gw, 4, none⟩ v').heap.size) := by
  have hgl := h.obj.lt
  have hL' := lies_size hL
  have hobj : Obj7 w3 gw WrT (ptr g) (holdN hb page) (holdG hb gl) pv dv (nat cnt) (.bool false) := h.obj.same (lies_block hL hgl h.nd)
  have hvb : v'.ownBlock = dv.ownBlock ∨ v'.ownBlock = some w2.heap.size := by
    rcases hL with ⟨e, _⟩ | ⟨e, _⟩
    · exact .inl e
    · exact .inr e
  have hvgw : v'.ownBlock ≠ some gw := by
    rcases hvb with e | e
    · rw [e]; exact h.nd
    · rw [e]; simp; omega
  have hset : ∀ b, b ≠ gw → (w3.setCell ⟨gw, 4, none⟩ v').heap[b]? = w3.heap[b]? := fun b hb => Below.heap_setCell _ _ _ _ (fun e => hb e)
  have hsz4 : (w3.setCell ⟨gw, 4, none⟩ v').heap.size = w3.heap.size := by simp [World.setCell]
  have hpv3 : w3.ownsRow 0 3 1 pv P.length (i64s P) := ownsRow_keep h.prow fun b hb => lies_block hL (h.prow.lt b hb).2 (fun e => h.apart b hb e)
  refine ⟨⟨hobj.s4 _, ?_, ?_, fun b hb1 hb2 => ?_, h.np, hvgw, h.nilp⟩, ?_, fun b hb => ?_⟩
  · exact ownsRow_keep hpv3 fun b hb => hset b (fun e => h.np (by rw [hb, e]))
  · have := ownsRow_keep hrow fun b hb => hset b (fun e => hvgw (by rw [hb, e]))
    rw [List.length_append]
    rw [show u8s (D ++ c) = u8s D ++ u8s c by simp [u8s]]
    exact this
  · rcases hvb with e | e
    · exact h.apart b hb1 (by rw [← e]; exact hb2)
    · rw [e] at hb2
      have := (h.prow.lt b hb1).2
      simp at hb2
      omega
  · have hT := lies_touch hL
    have h1 : Touch (WFoot gw pv dv) w2 w3 := hT.mono fun i _ hi => .inr (.inr hi)
    exact h1.setCell (.inl (.inl rfl)) _
  · have hlt : b < w3.heap.size := by
      rcases hb with rfl | hb | hb
      · omega
      · exact (hpv3.lt b hb).2
      · exact (hrow.lt b hb).2
    refine ⟨fun hb2 => ?_, by rw [hsz4]; exact hlt⟩
    rcases hb with rfl | hb | hb
    · exact .inl rfl
    · exact .inr (.inl hb)
    · rcases hvb with e | e
      · exact .inr (.inr (by rw [← e]; exact hb))
      · rw [e] at hb; simp at hb; omega
theorem row_slice {w : World} {base : Nat} {e : TypeId} {size : Nat} {v : Value} {n : Nat} {xs : List Value} (h : w.ownsRow base e size v n xs) : ∃ a m c, v = .slice a m c := by
  rcases h.2 with ⟨h1, _⟩ | ⟨g1, cap1, _, h1, _⟩
  · exact ⟨_, _, _, h1⟩
  · exact ⟨_, _, _, h1⟩
theorem reads_news {w : World} {b off : Nat} {l : List Nat} (h : Reads w b off l) : ∀ j u, (u8s l)[j]? = some u → w.cell? (Addr.add ⟨b, off, none⟩ j) = some u := by
  intro j u hj
  have hjl : j < l.length := by
    have := (List.getElem?_eq_some_iff.1 hj).1
    simpa [u8s] using this
  rw [add_plain, h j hjl, ← hj]
  simp [u8s, u8, List.getD_eq_getElem?_getD, List.getElem?_eq_getElem hjl]
theorem slice_len {a : Option Addr} (n m : Nat) {c : Nat} (h : n = m) : Value.slice a n c = Value.slice a m c := by rw [h]
theorem take_part (b : List Nat) (k m : Nat) : b.take (k + m) = b.take k ++ (b.drop k).take m := List.take_add
set_option maxRecDepth 100000 in
set_option maxHeartbeats 4000000 in
theorem lay_any (B g gl gw : Nat) (s : Disk.St) (own : Nat → Nat) (L : Int × Int × Int) (hb : Bool) (P S b : List Nat) (cnt : Nat) (pv dv : Value) (a : Option Addr) (len cap : Nat) (w : World) (hS : Sys B w g gl s own L) (hW : Tape.Wr s P S) (hM : WrMem w gw g gl s.page hb P (Tape.tail_ s P S) cnt pv dv) (hF : Free B gl w own (WFoot gw pv dv))
    (ht : P = [] ∨ Tape.tail_ s P S ≠ []) (hlen : b.length = len) (hlc : len ≤ cap) (hcm : cap ≤ 9223372036854775807) (hbo : Oct b) (hbs : SliceIs w a b) (hel : b ≠ [] → Else a gl own (WFoot gw pv dv)) (hb32 : len ≤ 4294967296) (ho : s.ops + 2 * len < 4611686018427387900) :
    Calls Tryd.prog 44 #[.pointer (some ⟨gw, 0, none⟩), .slice a len cap] w (LayEnd B g gl gw s own L hb P S b cnt pv dv w) := by
  have hpage := hS.pageOk
  have hpb := pageOk_bounds hpage
  have c0 := hM.obj.c0
  unfold ptr at c0
  have HCP := Lib.hid (page_any g s own w hS.disk)
  obtain ⟨room, hroom⟩ : ∃ room, room = s.page - 10 := ⟨_, rfl⟩
  have hro : roomOf (s.page : Int) = (room : Int) := by unfold roomOf; rw [if_pos (pageB_nat hpage)]; omega
  have HRO := Lib.hid hro
  have hr64 : 54 ≤ room ∧ room ≤ 4086 := by omega
  have HR := Lib.hid hroom
  have HS := Lib.hid hS
  have HM := Lib.hid hM
  have HF := Lib.hid hF
  have HW := Lib.hid hW
  have HT := Lib.hid ht
  have HLEN := Lib.hid hlen
  have HBO := Lib.hid hbo
  have HBS := Lib.hid hbs
  have HEL := Lib.hid hel
  have hI0 : LayInv B g gl gw s own L hb P S b cnt pv dv w 0 w P s own pv dv := by
    refine ⟨hS, by simpa using hM, Move.refl hF, Disk.Same.refl s, by omega, ?_, by simpa using hW, by simpa using ht⟩
    exact ⟨⟨[], by simp, by simp⟩, hW.nodup, hW.used, fun _ _ => rfl, rfl⟩
  have HI0 := Lib.hid hI0
  clear hS hM hF hW ht hlen hbo hbs hel hroom hro hI0
  go_enter Tryd.func44, Tryd.ntmps44
  go_wp2_with fail
  refine HCP.out.mono ?_
  rintro e w' ⟨rfl, rfl⟩
  go_wp2_with fail
  refine (room_any s.page _ (by omega) (by omega)).mono ?_
  rintro e w' ⟨rfl, rfl⟩
  rw [HRO.out]
  clear HCP c0
  go_wp2_with fail
  go_loopw [1] (fun bs wr => ∃ (k : Nat) (a' : Option Addr) (c' : Nat) (P' : List Nat) (s' : Disk.St) (own' : Nat → Nat) (pv' dv' : Value), k ≤ len ∧ bs = .slice a' (len - k) c' ∧ len - k ≤ c' ∧ c' ≤ 9223372036854775807 ∧ Hid (k < len → ∃ ba off, a = some ⟨ba, off, none⟩ ∧ a' = some ⟨ba, off + k, none⟩) ∧ Hid (LayInv B g gl gw s own L hb P S b cnt pv dv w k wr P' s' own' pv' dv')) (fun bs _ => match bs with | .slice _ n _ => n | _ => 0)
  case atStart =>
    refine ⟨0, a, cap, P, s, own, pv, dv, Nat.zero_le _, rfl, by omega, hcm, ?_, HI0⟩
    exact fun h => by
      rcases HBS.out with e | ⟨ba, off, e, _⟩
      · have := HLEN.out; rw [e] at this; simp at this; omega
      · exact ⟨ba, off, e, by rw [e]; simp⟩
  case round =>
    obtain ⟨k, a', c', P', s', own', pv', dv', hk, rfl, hc1, hc2, ha', hI⟩ := hrel
    by_cases hlt : k < len
    · obtain ⟨ba, off, rfl, rfl⟩ := ha'.out hlt
      have hI2 := hI.out
      obtain ⟨q, hq⟩ : ∃ q, len - k = q := ⟨_, rfl⟩
      have hq1 : 1 ≤ q ∧ k + q = len := by omega
      rw [hq]
      rw [hq] at hc1
      have HRD : Hid (Reads w ba off b) := by
        obtain ⟨b2, o2, e, h⟩ := HBS.out.resolve_left (fun e => by have := HLEN.out; rw [e] at this; simp at this; omega)
        simp only [Option.some.injEq, Addr.mk.injEq, and_true] at e
        obtain ⟨rfl, rfl⟩ := e
        exact h
      obtain ⟨hS1, hM1, hV1, hSm, hops, hGr, hW1, htg⟩ := hI2
      obtain ⟨pa, pcap, hpv, _, _, _, _⟩ := ints_of_row hM1.prow
      obtain ⟨da, dcap, hdv, _, _, _⟩ := slice_of_row hM1.drow
      obtain ⟨pl, hpl⟩ : ∃ pl, pl = P'.length := ⟨_, rfl⟩
      obtain ⟨dl, hdl⟩ : ∃ dl, dl = (Tape.tail_ s' P' (S ++ b.take k)).length := ⟨_, rfl⟩
      rw [← hpl] at hpv
      rw [← hdl] at hdv
      subst hpv
      subst hdv
      have htl := hW1.tail_le
      rw [hSm.page, ← HR.out, ← hdl] at htl
      have HPL := Lib.hid hpl
      have HDL := Lib.hid hdl
      have HSW := Lib.hid hS1
      have HMW := Lib.hid hM1
      have HVW := Lib.hid hV1
      have HSM := Lib.hid hSm
      have HOPS : Hid (s'.ops ≤ s.ops + 2 * k + 2) := Nat.le_trans hops (by omega)
      have HOP0 := Lib.hid hops
      have HGr := Lib.hid hGr
      have HW1 := Lib.hid hW1
      have c3 := hM1.obj.c3
      have c4 := hM1.obj.c4
      have hopb : s'.ops < 4611686018427387900 := by omega
      have HFR : Hid (Free B gl wr own' (WFoot gw (.slice pa pl pcap) (.slice da dl dcap))) := hV1.free
      clear hS1 hM1 hV1 hSm hops hGr hW1 htg hpl hdl hI ha' HI0 hq
      by_cases hturn : pl = 0 ∨ dl = room
      · have hfull : 0 < P'.length → (Tape.tail_ s' P' (S ++ b.take k)).length = s'.page - 10 := fun h => by
          rw [← HPL.out] at h
          rw [← HDL.out, HSM.out.page, ← HR.out]
          rcases hturn with h2 | h2
          · omega
          · exact h2
        have hneed : P'.length + 1 ≤ Tape.need (s'.page - 10) (S.length + b.length) := need_more (by have := pageOk_bounds HSW.out.pageOk; omega) HW1.out hfull (by rw [List.length_append, List.length_take, HLEN.out]; omega)
        have HNEED := Lib.hid hneed
        have HCT := Lib.hid (turn_any B g gl gw s' own' L hb P' (S ++ b.take k) cnt (.slice pa pl pcap) (.slice da dl dcap) wr HSW.out HW1.out HMW.out HFR.out hopb hfull)
        clear hfull hneed
        by_cases hp0 : pl = 0
        · subst hp0
          clear hturn
          go_wp2_with fail
          refine HCT.out.mono ?_
          rintro e W2 ⟨E, P2, D2, s2, own2, pv2, dv2, rfl, hT⟩
          by_cases hE : E = 0
          · subst hE
            obtain ⟨hw2, hd2, ht2, hpl2⟩ := hT.ok rfl
            subst hd2
            obtain ⟨pa2, pcap2, hpv2, _, _, _, _⟩ := ints_of_row hT.mem.prow
            obtain ⟨da2, dcap2, hdv2, _, _, _⟩ := slice_of_row hT.mem.drow
            obtain ⟨pl2, hq2⟩ : ∃ pl2, pl2 = P2.length := ⟨_, rfl⟩
            obtain ⟨dl2, hdl2⟩ : ∃ dl2 : Nat, dl2 = 0 := ⟨_, rfl⟩
            rw [← hq2] at hpv2
            rw [List.length_nil, ← hdl2] at hdv2
            subst hpv2
            subst hdv2
            have hP2 : 1 ≤ pl2 := by omega
            have hdne : dl2 < room := by omega
            clear HPL HDL HMW
            have HPL := Lib.hid hq2
            have HDL : Hid (dl2 = (Tape.tail_ s2 P2 (S ++ b.take k)).length) := by rw [ht2]; exact hdl2
            have HMW : Hid (WrMem W2 gw g gl s2.page hb P2 (Tape.tail_ s2 P2 (S ++ b.take k)) cnt (.slice pa2 pl2 pcap2) (.slice da2 dl2 dcap2)) := by rw [ht2]; exact hT.mem
            have HVW := Lib.hid (HVW.out.trans hT.move)
            have HSW := Lib.hid hT.sys
            have HOPS : Hid (s2.ops ≤ s.ops + 2 * k + 2) := Nat.le_trans hT.ops (by have := HOP0.out; omega)
            have HGr := Lib.hid (HGr.out.trans hT.grow)
            have HSM := Lib.hid (HSM.out.trans hT.same)
            have HW1 := Lib.hid hw2
            clear hT hw2 ht2 hpl2 hq2 hdl2 HCT HNEED HFR c3 c4 hopb
            obtain ⟨r, hr⟩ : ∃ r, room = dl2 + r := ⟨room - dl2, by omega⟩
            have hr1 : 1 ≤ r := by omega
            have hri : (room : Int) - (dl2 : Int) = (r : Int) := by omega
            have HRR := Lib.hid hr
            obtain ⟨m, hm⟩ : ∃ m, m = min q r := ⟨_, rfl⟩
            have hm1 : 1 ≤ m ∧ m ≤ q ∧ m ≤ r := by omega
            have hmc : m ≤ c' := by omega
            have hmci : (m : Int) ≤ (c' : Int) := by omega
            have HMM := Lib.hid hm
            obtain ⟨i0, hi, hz0, hz1, hz2⟩ := info_parts infoByte
            have hrdW : Reads W2 ba (off + k) ((b.drop k).take m) := fun j hj => by
              have h1 : j < m ∧ k + j < len := by
                rw [List.length_take, List.length_drop, HLEN.out] at hj; omega
              have h2 := HRD.out (k + j) (by rw [HLEN.out]; omega)
              have h3 := HEL.out (fun e => by have := HLEN.out; rw [e] at this; simp at this; omega) _ rfl
              have h4 := (World.cell?_of_block (HVW.out.same (World.block_lt_of_cell? w _ h2) h3.1 h3.2.1 h3.2.2)).trans h2
              rw [show off + (k + j) = off + k + j by omega] at h4
              rw [h4]
              simp [List.getD_eq_getElem?_getD, List.getElem?_drop, h1.1]
            have hlm : ((b.drop k).take m).length = m := by rw [List.length_take, List.length_drop, HLEN.out]; omega
            have HRDW := Lib.hid (reads_news hrdW)
            have HLM := Lib.hid hlm
            have hownD := HMW.out.drow
            rw [← HDL.out] at hownD
            have HOWND := Lib.hid hownD
            have k3 := HMW.out.obj.c3
            have k4 := HMW.out.obj.c4
            have f4 := HMW.out.obj.fr 4
            have HDLT := Lib.hid hdne
            clear hrdW hlm hownD hr hm hdne
            by_cases hqr : q ≤ r
            all_goals
              first
                | (have hmv : m = q := by have := HMM.out; omega
                   have hqi : (q : Int) ≤ (r : Int) := by omega
                   clear HMM
                   subst hmv)
                | (have hmv : m = r := by have := HMM.out; omega
                   have hqi : (r : Int) < (q : Int) := by omega
                   clear HMM
                   subst hmv)
              go_wp2_with fail
              go_region_law ((refine step_append_or rfl (.tmp 51) (.tmp 54) 29 rfl 5 i0 (.int .u8 0) 1 Tryd.underlying29 hi hz0 hz1 hz2 rfl (.slice da2 dl2 dcap2) dl2 (u8s (Tape.tail_ s2 P2 (S ++ b.take k))) rfl HOWND.out.drew ⟨ba, off + k, none⟩ _ c' (u8s ((b.drop k).take _)) rfl (by rw [length_u8s]; exact HLM.out) (by omega) HRDW.out (one_u8s _) (by unfold maxLen; omega) (by omega) ?_; intro v' w3 hrow hLie; have hLie2 := lies_undrew hLie; have hgw3 : w3.heap[gw]? = W2.heap[gw]? := lies_block hLie2 HMW.out.obj.lt HMW.out.nd; have k43 : w3.cell? ⟨gw, 4, none⟩ = some (.slice da2 dl2 dcap2) := (World.cell?_of_block hgw3).trans k4; have f43 : w3.frozen? ⟨gw, 4, none⟩ = false := (World.frozen?_of_block hgw3).trans f4; obtain ⟨va, vn, vc, hv'⟩ := row_slice hrow; subst hv'; have HROW := Lib.hid hrow; have HLIE := Lib.hid hLie2; clear hrow hLie hLie2 hgw3))
              go_wp2_with fail
              refine ⟨⟨k + m, _, c' - m, P2, s2, own2, .slice pa2 pl2 pcap2, .slice va vn vc, by omega, slice_len _ _ (by omega), by omega, by omega, ?_, ?_⟩, by simp only []; omega⟩
              · exact fun h => ⟨ba, off, rfl, by rw [if_neg (by omega), Nat.add_assoc]⟩
              · have hadd := HMW.out.add ((b.drop k).take m) (v' := .slice va vn vc) (w3 := w3) (by rw [← HDL.out, HLM.out]; exact HROW.out) HLIE.out
                obtain ⟨hm2, ht2, hf2⟩ := hadd
                obtain ⟨hs2, hv2⟩ := push_fin HSW.out HVW.out ht2 hf2
                have hro : room = s2.page - 10 := by rw [HSM.out.page]; exact HR.out
                obtain ⟨hw1, hw2⟩ := HW1.out.put ((b.drop k).take m) (oct_take _ (oct_drop _ HBO.out)) (by rw [← HPL.out]; omega) (by rw [← HDL.out, HLM.out, ← hro]; have := HRR.out; omega)
                rw [List.append_assoc, ← take_part] at hw1 hw2
                refine ⟨hs2, by rw [hw2]; exact hm2, hv2, HSM.out, by have := HOPS.out; omega, HGr.out, hw1, .inr ?_⟩
                rw [hw2]
                intro e
                have e2 := congrArg List.length e
                rw [List.length_append, HLM.out] at e2
                simp at e2
                omega
          · have dE : ((E : Int) != 0) = true := by rw [bne_iff_ne]; omega
            have HT := Lib.hid hT
            have HE := Lib.hid hE
            clear hT hE HCT
            go_wp2_with fail
            go_ret
            have hT := HT.out
            refine ⟨E, P2, D2, s2, own2, pv2, dv2, rfl, hT.sys, hT.mem, HVW.out.trans hT.move, HSM.out.trans hT.same, ?_, HGr.out.trans hT.grow, fun h => absurd h HE.out, hT.err, fun hc hl => ?_, fun hc h => hT.full (HSM.out.calm hc) h⟩
            · have h1 := hT.ops
              have h2 := HOP0.out
              rw [HLEN.out]
              omega
            · refine hT.calm (HSM.out.calm hc) ?_
              have h1 := HGr.out.live
              have h2 := HNEED.out
              rw [HSM.out.page] at h2
              rw [HSM.out.most]
              omega
        · have hdr : room = dl := by omega
          subst hdr
          have d1 : ((pl : Int) == 0) = false := by rw [beq_eq_false_iff_ne]; omega
          clear hturn
          go_wp2_with fail
          refine HCT.out.mono ?_
          rintro e W2 ⟨E, P2, D2, s2, own2, pv2, dv2, rfl, hT⟩
          by_cases hE : E = 0
          · subst hE
            obtain ⟨hw2, hd2, ht2, hpl2⟩ := hT.ok rfl
            subst hd2
            obtain ⟨pa2, pcap2, hpv2, _, _, _, _⟩ := ints_of_row hT.mem.prow
            obtain ⟨da2, dcap2, hdv2, _, _, _⟩ := slice_of_row hT.mem.drow
            obtain ⟨pl2, hq2⟩ : ∃ pl2, pl2 = P2.length := ⟨_, rfl⟩
            obtain ⟨dl2, hdl2⟩ : ∃ dl2 : Nat, dl2 = 0 := ⟨_, rfl⟩
            rw [← hq2] at hpv2
            rw [List.length_nil, ← hdl2] at hdv2
            subst hpv2
            subst hdv2
            have hP2 : 1 ≤ pl2 := by omega
            have hdne : dl2 < room := by omega
            clear HPL HDL HMW
            have HPL := Lib.hid hq2
            have HDL : Hid (dl2 = (Tape.tail_ s2 P2 (S ++ b.take k)).length) := by rw [ht2]; exact hdl2
            have HMW : Hid (WrMem W2 gw g gl s2.page hb P2 (Tape.tail_ s2 P2 (S ++ b.take k)) cnt (.slice pa2 pl2 pcap2) (.slice da2 dl2 dcap2)) := by rw [ht2]; exact hT.mem
            have HVW := Lib.hid (HVW.out.trans hT.move)
            have HSW := Lib.hid hT.sys
            have HOPS : Hid (s2.ops ≤ s.ops + 2 * k + 2) := Nat.le_trans hT.ops (by have := HOP0.out; omega)
            have HGr := Lib.hid (HGr.out.trans hT.grow)
            have HSM := Lib.hid (HSM.out.trans hT.same)
            have HW1 := Lib.hid hw2
            clear hT hw2 ht2 hpl2 hq2 hdl2 HCT HNEED HFR c3 c4 hopb
            obtain ⟨r, hr⟩ : ∃ r, room = dl2 + r := ⟨room - dl2, by omega⟩
            have hr1 : 1 ≤ r := by omega
            have hri : (room : Int) - (dl2 : Int) = (r : Int) := by omega
            have HRR := Lib.hid hr
            obtain ⟨m, hm⟩ : ∃ m, m = min q r := ⟨_, rfl⟩
            have hm1 : 1 ≤ m ∧ m ≤ q ∧ m ≤ r := by omega
            have hmc : m ≤ c' := by omega
            have hmci : (m : Int) ≤ (c' : Int) := by omega
            have HMM := Lib.hid hm
            obtain ⟨i0, hi, hz0, hz1, hz2⟩ := info_parts infoByte
            have hrdW : Reads W2 ba (off + k) ((b.drop k).take m) := fun j hj => by
              have h1 : j < m ∧ k + j < len := by
                rw [List.length_take, List.length_drop, HLEN.out] at hj; omega
              have h2 := HRD.out (k + j) (by rw [HLEN.out]; omega)
              have h3 := HEL.out (fun e => by have := HLEN.out; rw [e] at this; simp at this; omega) _ rfl
              have h4 := (World.cell?_of_block (HVW.out.same (World.block_lt_of_cell? w _ h2) h3.1 h3.2.1 h3.2.2)).trans h2
              rw [show off + (k + j) = off + k + j by omega] at h4
              rw [h4]
              simp [List.getD_eq_getElem?_getD, List.getElem?_drop, h1.1]
            have hlm : ((b.drop k).take m).length = m := by rw [List.length_take, List.length_drop, HLEN.out]; omega
            have HRDW := Lib.hid (reads_news hrdW)
            have HLM := Lib.hid hlm
            have hownD := HMW.out.drow
            rw [← HDL.out] at hownD
            have HOWND := Lib.hid hownD
            have k3 := HMW.out.obj.c3
            have k4 := HMW.out.obj.c4
            have f4 := HMW.out.obj.fr 4
            have HDLT := Lib.hid hdne
            clear hrdW hlm hownD hr hm hdne
            by_cases hqr : q ≤ r
            all_goals
              first
                | (have hmv : m = q := by have := HMM.out; omega
                   have hqi : (q : Int) ≤ (r : Int) := by omega
                   clear HMM
                   subst hmv)
                | (have hmv : m = r := by have := HMM.out; omega
                   have hqi : (r : Int) < (q : Int) := by omega
                   clear HMM
                   subst hmv)
              go_wp2_with fail
              go_region_law ((refine step_append_or rfl (.tmp 51) (.tmp 54) 29 rfl 5 i0 (.int .u8 0) 1 Tryd.underlying29 hi hz0 hz1 hz2 rfl (.slice da2 dl2 dcap2) dl2 (u8s (Tape.tail_ s2 P2 (S ++ b.take k))) rfl HOWND.out.drew ⟨ba, off + k, none⟩ _ c' (u8s ((b.drop k).take _)) rfl (by rw [length_u8s]; exact HLM.out) (by omega) HRDW.out (one_u8s _) (by unfold maxLen; omega) (by omega) ?_; intro v' w3 hrow hLie; have hLie2 := lies_undrew hLie; have hgw3 : w3.heap[gw]? = W2.heap[gw]? := lies_block hLie2 HMW.out.obj.lt HMW.out.nd; have k43 : w3.cell? ⟨gw, 4, none⟩ = some (.slice da2 dl2 dcap2) := (World.cell?_of_block hgw3).trans k4; have f43 : w3.frozen? ⟨gw, 4, none⟩ = false := (World.frozen?_of_block hgw3).trans f4; obtain ⟨va, vn, vc, hv'⟩ := row_slice hrow; subst hv'; have HROW := Lib.hid hrow; have HLIE := Lib.hid hLie2; clear hrow hLie hLie2 hgw3))
              go_wp2_with fail
              refine ⟨⟨k + m, _, c' - m, P2, s2, own2, .slice pa2 pl2 pcap2, .slice va vn vc, by omega, slice_len _ _ (by omega), by omega, by omega, ?_, ?_⟩, by simp only []; omega⟩
              · exact fun h => ⟨ba, off, rfl, by rw [if_neg (by omega), Nat.add_assoc]⟩
              · have hadd := HMW.out.add ((b.drop k).take m) (v' := .slice va vn vc) (w3 := w3) (by rw [← HDL.out, HLM.out]; exact HROW.out) HLIE.out
                obtain ⟨hm2, ht2, hf2⟩ := hadd
                obtain ⟨hs2, hv2⟩ := push_fin HSW.out HVW.out ht2 hf2
                have hro : room = s2.page - 10 := by rw [HSM.out.page]; exact HR.out
                obtain ⟨hw1, hw2⟩ := HW1.out.put ((b.drop k).take m) (oct_take _ (oct_drop _ HBO.out)) (by rw [← HPL.out]; omega) (by rw [← HDL.out, HLM.out, ← hro]; have := HRR.out; omega)
                rw [List.append_assoc, ← take_part] at hw1 hw2
                refine ⟨hs2, by rw [hw2]; exact hm2, hv2, HSM.out, by have := HOPS.out; omega, HGr.out, hw1, .inr ?_⟩
                rw [hw2]
                intro e
                have e2 := congrArg List.length e
                rw [List.length_append, HLM.out] at e2
                simp at e2
                omega
          · have dE : ((E : Int) != 0) = true := by rw [bne_iff_ne]; omega
            have HT := Lib.hid hT
            have HE := Lib.hid hE
            clear hT hE HCT
            go_wp2_with fail
            go_ret
            have hT := HT.out
            refine ⟨E, P2, D2, s2, own2, pv2, dv2, rfl, hT.sys, hT.mem, HVW.out.trans hT.move, HSM.out.trans hT.same, ?_, HGr.out.trans hT.grow, fun h => absurd h HE.out, hT.err, fun hc hl => ?_, fun hc h => hT.full (HSM.out.calm hc) h⟩
            · have h1 := hT.ops
              have h2 := HOP0.out
              rw [HLEN.out]
              omega
            · refine hT.calm (HSM.out.calm hc) ?_
              have h1 := HGr.out.live
              have h2 := HNEED.out
              rw [HSM.out.page] at h2
              rw [HSM.out.most]
              omega
      · have hp0 : 1 ≤ pl := by omega
        have hdne : dl < room := by omega
        have d1 : ((pl : Int) == 0) = false := by rw [beq_eq_false_iff_ne]; omega
        have d2 : ((dl : Int) == (room : Int)) = false := by rw [beq_eq_false_iff_ne]; omega
        clear hturn
        obtain ⟨r, hr⟩ : ∃ r, room = dl + r := ⟨room - dl, by omega⟩
        have hr1 : 1 ≤ r := by omega
        have hri : (room : Int) - (dl : Int) = (r : Int) := by omega
        have HRR := Lib.hid hr
        obtain ⟨m, hm⟩ : ∃ m, m = min q r := ⟨_, rfl⟩
        have hm1 : 1 ≤ m ∧ m ≤ q ∧ m ≤ r := by omega
        have hmc : m ≤ c' := by omega
        have hmci : (m : Int) ≤ (c' : Int) := by omega
        have HMM := Lib.hid hm
        obtain ⟨i0, hi, hz0, hz1, hz2⟩ := info_parts infoByte
        have hrdW : Reads wr ba (off + k) ((b.drop k).take m) := fun j hj => by
          have h1 : j < m ∧ k + j < len := by
            rw [List.length_take, List.length_drop, HLEN.out] at hj; omega
          have h2 := HRD.out (k + j) (by rw [HLEN.out]; omega)
          have h3 := HEL.out (fun e => by have := HLEN.out; rw [e] at this; simp at this; omega) _ rfl
          have h4 := (World.cell?_of_block (HVW.out.same (World.block_lt_of_cell? w _ h2) h3.1 h3.2.1 h3.2.2)).trans h2
          rw [show off + (k + j) = off + k + j by omega] at h4
          rw [h4]
          simp [List.getD_eq_getElem?_getD, List.getElem?_drop, h1.1]
        have hlm : ((b.drop k).take m).length = m := by rw [List.length_take, List.length_drop, HLEN.out]; omega
        have HRDW := Lib.hid (reads_news hrdW)
        have HLM := Lib.hid hlm
        have hownD := HMW.out.drow
        rw [← HDL.out] at hownD
        have HOWND := Lib.hid hownD
        have k3 := HMW.out.obj.c3
        have k4 := HMW.out.obj.c4
        have f4 := HMW.out.obj.fr 4
        have HDLT := Lib.hid hdne
        clear hrdW hlm hownD hr hm hdne
        by_cases hqr : q ≤ r
        all_goals
          first
            | (have hmv : m = q := by have := HMM.out; omega
               have hqi : (q : Int) ≤ (r : Int) := by omega
               clear HMM
               subst hmv)
            | (have hmv : m = r := by have := HMM.out; omega
               have hqi : (r : Int) < (q : Int) := by omega
               clear HMM
               subst hmv)
          go_wp2_with fail
          go_region_law ((refine step_append_or rfl (.tmp 51) (.tmp 54) 29 rfl 5 i0 (.int .u8 0) 1 Tryd.underlying29 hi hz0 hz1 hz2 rfl (.slice da dl dcap) dl (u8s (Tape.tail_ s' P' (S ++ b.take k))) rfl HOWND.out.drew ⟨ba, off + k, none⟩ _ c' (u8s ((b.drop k).take _)) rfl (by rw [length_u8s]; exact HLM.out) (by omega) HRDW.out (one_u8s _) (by unfold maxLen; omega) (by omega) ?_; intro v' w3 hrow hLie; have hLie2 := lies_undrew hLie; have hgw3 : w3.heap[gw]? = wr.heap[gw]? := lies_block hLie2 HMW.out.obj.lt HMW.out.nd; have k43 : w3.cell? ⟨gw, 4, none⟩ = some (.slice da dl dcap) := (World.cell?_of_block hgw3).trans k4; have f43 : w3.frozen? ⟨gw, 4, none⟩ = false := (World.frozen?_of_block hgw3).trans f4; obtain ⟨va, vn, vc, hv'⟩ := row_slice hrow; subst hv'; have HROW := Lib.hid hrow; have HLIE := Lib.hid hLie2; clear hrow hLie hLie2 hgw3))
          go_wp2_with fail
          refine ⟨⟨k + m, _, c' - m, P', s', own', .slice pa pl pcap, .slice va vn vc, by omega, slice_len _ _ (by omega), by omega, by omega, ?_, ?_⟩, by simp only []; omega⟩
          · exact fun h => ⟨ba, off, rfl, by rw [if_neg (by omega), Nat.add_assoc]⟩
          · have hadd := HMW.out.add ((b.drop k).take m) (v' := .slice va vn vc) (w3 := w3) (by rw [← HDL.out, HLM.out]; exact HROW.out) HLIE.out
            obtain ⟨hm2, ht2, hf2⟩ := hadd
            obtain ⟨hs2, hv2⟩ := push_fin HSW.out HVW.out ht2 hf2
            have hro : room = s'.page - 10 := by rw [HSM.out.page]; exact HR.out
            obtain ⟨hw1, hw2⟩ := HW1.out.put ((b.drop k).take m) (oct_take _ (oct_drop _ HBO.out)) (by rw [← HPL.out]; omega) (by rw [← HDL.out, HLM.out, ← hro]; have := HRR.out; omega)
            rw [List.append_assoc, ← take_part] at hw1 hw2
            refine ⟨hs2, by rw [hw2]; exact hm2, hv2, HSM.out, by have := HOPS.out; omega, HGr.out, hw1, .inr ?_⟩
            rw [hw2]
            intro e
            have e2 := congrArg List.length e
            rw [List.length_append, HLM.out] at e2
            simp at e2
            omega
    · have hk' : k = len := by omega
      subst hk'
      rw [Nat.sub_self]
      clear HI0
      go_wp2_with fail
      go_ret
      have hI2 := hI.out
      have hbt : b.take k = b := List.take_of_length_le (by rw [HLEN.out]; exact Nat.le_refl _)
      obtain ⟨h1, h2, h3, h4, h5, h6, h7, h8⟩ := hI2
      rw [hbt] at h2 h7 h8
      exact ⟨0, P', _, s', own', pv', dv', rfl, h1, h2, h3, h4, by rw [HLEN.out]; exact h5, h6, fun _ => ⟨h7, rfl, h8⟩, .inl rfl, fun _ _ => rfl, fun _ h => absurd rfl h⟩
end Go.Proofs.YtbkiahnljklhpaaDoor
