/- THE WALKS OF Reader's record AND Next. -/
import Derived.Test.YtbkiahnljklhpaaDoorTapeReadR
namespace Go.Proofs.YtbkiahnljklhpaaDoor
open Go.RowKit
open Seal
/-- What a record that came leaves. -/
structure RecOk (B g gl gr : Nat) (s : Disk.St) (own : Nat → Nat) (hb : Bool) (P S : List Nat) (j p left : Nat) (r : List Nat) (pa da : Option Addr) (w : World) (v : Value) (w' : World) (j' : Nat) (pa' : Option Addr) (pc' : Nat) (da' : Option Addr) (dc' : Nat) : Prop where
  mem : RdMem w' gr g gl s.page hb (P.drop j') (atHand s S j' (p + (4 + r.length))) left pa' pc' da' dc'
  else_ : Else pa' gl own (RFoot gr da')
  from_ : ∀ q, pa' = some q → ∃ q', pa = some q' ∧ q.block = q'.block
  row : w'.ownsRow w.heap.size 5 1 v r.length (u8s r)
  apart : ∀ b q, v.ownBlock = some b → da' = some q → q.block ≠ b
  lo : j ≤ j'
  hi : j' ≤ P.length
  in_ : p + (4 + r.length) ≤ min (j' * (s.page - 10)) S.length
  good : ∀ i, j ≤ i → i < j' → Tape.Good s P S i
structure RecPost (B g gl gr : Nat) (s : Disk.St) (own : Nat → Nat) (L : Int × Int × Int) (hb : Bool) (P S : List Nat) (j p left : Nat) (r : List Nat) (pa da : Option Addr) (w : World) (E : Nat) (v : Value) (w' : World) (s' : Disk.St) (da' : Option Addr) : Prop where
  sys : Sys B w' g gl s' own L
  same : Disk.Same s s'
  pages : s'.pages = s.pages
  ops : s'.ops ≤ s.ops + (4 + r.length)
  any : RdAny w' gr g gl s.page hb left
  move : Move B gl w w' own own (RFoot gr da) (RFoot gr da')
  err : E = 0 ∨ E = 16 ∨ E = 18
  ok : E = 0 → ∃ j' pa' pc' dc', RecOk B g gl gr s own hb P S j p left r pa da w v w' j' pa' pc' da' dc'
  bad : E ≠ 0 → v = .slice none 0 0
  calm : Disk.Calm s → E ≠ 16
  good : Disk.Calm s → (∀ i, j ≤ i → i < Tape.need (s.page - 10) (p + (4 + r.length)) → Tape.Good s P S i) → E = 0
def RecEnd (B g gl gr : Nat) (s : Disk.St) (own : Nat → Nat) (L : Int × Int × Int) (hb : Bool) (P S : List Nat) (j p left : Nat) (r : List Nat) (pa da : Option Addr) (w : World) (e : Ending) (w' : World) : Prop :=
  ∃ (E : Nat) (v : Value) (s' : Disk.St) (da' : Option Addr), e = .returned (.tuple #[v, .int .i64 (E : Int)]) ∧ RecPost B g gl gr s own L hb P S j p left r pa da w E v w' s' da'
theorem atHand_same {s s' : Disk.St} (h : s'.page = s.page) (S : List Nat) (j p : Nat) : atHand s' S j p = atHand s S j p := by unfold atHand; rw [h]
theorem good_same {s s' : Disk.St} (h : s'.page = s.page) (hp : s'.pages = s.pages) {P S : List Nat} {i : Nat} : Tape.Good s' P S i ↔ Tape.Good s P S i := by unfold Tape.Good; rw [h, hp]
theorem frame_at {S r Z : List Nat} {p : Nat} (h : S.drop p = Tape.frame r ++ Z) : p + (4 + r.length) ≤ S.length ∧ (S.drop p).take 4 = le r.length 4 ∧ (S.drop (p + 4)).take r.length = r := by
  have hl := congrArg List.length h
  rw [List.length_drop, List.length_append, Tape.length_frame] at hl
  refine ⟨by omega, ?_, ?_⟩
  · rw [h]
    unfold Tape.frame
    rw [List.append_assoc]
    exact List.take_left' (length_le _ _)
  · rw [← List.drop_drop, h]
    unfold Tape.frame
    rw [List.append_assoc, List.drop_left' (length_le _ _)]
    exact List.take_left' rfl
set_option maxRecDepth 100000 in
set_option maxHeartbeats 2000000 in
theorem record_any (B g gl gr : Nat) (s : Disk.St) (own : Nat → Nat) (L : Int × Int × Int) (hb : Bool) (P S : List Nat) (j p left : Nat) (r Z : List Nat) (pa : Option Addr) (pc : Nat) (da : Option Addr) (dc : Nat) (w : World) (hS : Sys B w g gl s own L) (hT : Tape.Tp s P S) (hM : RdMem w gr g gl s.page hb (P.drop j) (atHand s S j p) left pa pc da dc)
    (hF : Free B gl w own (RFoot gr da)) (hel : Else pa gl own (RFoot gr da)) (hpal : ∀ q, pa = some q → q.block < w.heap.size) (hj : j ≤ P.length) (hin : p ≤ min (j * (s.page - 10)) S.length) (hr : S.drop p = Tape.frame r ++ Z) (hrl : r.length < 4294967296) (ho : s.ops + (4 + r.length) < 4611686018427387900) :
    Calls Tryd.prog 50 #[.pointer (some ⟨gr, 0, none⟩)] w (RecEnd B g gl gr s own L hb P S j p left r pa da w) := by
  obtain ⟨hfl, hf1, hf2⟩ := frame_at hr
  have HC1 := Lib.hid (rread_any B g gl gr s own L hb P S j p 4 left pa pc da dc w hS hT hM hF hel hpal hj hin (by omega) (by omega))
  rw [show ((4 : Nat) : Int) = 4 from rfl] at HC1
  have HS := Lib.hid hS
  have HT := Lib.hid hT
  have HF := Lib.hid hF
  have HPAL := Lib.hid hpal
  have HF1 := Lib.hid hf1
  have HF2 := Lib.hid hf2
  have hgrw := hM.obj.lt
  have hglw := hS.led.lt
  clear hS hT hM hF hel hpal hj hin hr hf1 hf2
  go_enter Tryd.func50, Tryd.ntmps50
  go_wp2_with fail
  refine HC1.out.mono ?_
  rintro e w1 ⟨E, v, s1, da1, rfl, hT1⟩
  by_cases hE : E = 0
  · subst hE
    obtain ⟨j1, pa1, pc1, dc1, hI⟩ := hT1.ok rfl
    obtain ⟨va, vc, hv, hvn, hvm, hvs⟩ := slice_of_row (D := le r.length 4) (w := w1) (dv := v) (by rw [length_le, ← HF1.out]; exact ownsRow_base (Nat.zero_le _) hI.row)
    rw [length_le] at hv
    subst hv
    have HCL := Lib.hid (length_any va 4 vc (le r.length 4) w1 (length_le _ _) rfl (oct_le _ _) hvs)
    have hnum : num (le r.length 4) = r.length := by rw [num_le]; exact Nat.mod_eq_of_lt hrl
    rw [hnum] at HCL
    have hpg := hI.same.page
    have HC2 := Lib.hid (rread_any B g gl gr s1 own L hb P S j1 (p + 4) r.length left pa1 pc1 da1 dc1 w1 hI.sys (HT.out.keep hI.same (fun _ _ => by rw [hI.pages])) (by rw [hpg, atHand_same hpg]; exact hI.mem) hI.move.free hI.else_ (fun q hq => by
      obtain ⟨q', hq', e⟩ := hI.from_ q hq
      have h1 := HPAL.out q' hq'
      have h2 := hI.move.touch.size
      omega) hI.hi (by rw [hpg]; exact hI.in_) (by omega) (by have := hI.ops; omega))
    have HI := Lib.hid hI
    clear hI hT1 hvs hvn hvm HC1 hnum hpg
    go_wp2_with fail
    refine HCL.out.mono ?_
    rintro e w' ⟨rfl, rfl⟩
    go_wp2_with fail
    refine HC2.out.mono ?_
    rintro e w2 ⟨E2, v2, s2, da2, rfl, hT2⟩
    have HT2 := Lib.hid hT2
    clear hT2 HC2 HCL
    go_wp2_with fail
    go_ret2
    have h := HI.out
    have h2 := HT2.out
    have hpg := h.same.page
    refine ⟨E2, v2, s2, da2, rfl, h2.sys, h.same.trans h2.same, h2.pages.trans h.pages, by have := h.ops; have := h2.ops; omega, by have := h2.any; rw [hpg] at this; exact this, h.move.trans h2.move, h2.err, fun h0 => ?_, h2.bad, fun hc => h2.calm (h.same.calm hc), fun hc hg => h2.good (h.same.calm hc) fun i h3 h4 => ?_⟩
    · obtain ⟨j2, pa2, pc2, dc2, hI2⟩ := h2.ok h0
      refine ⟨j2, pa2, pc2, dc2, ?_, hI2.else_, fun q hq => ?_, ?_, hI2.apart, Nat.le_trans h.lo hI2.lo, hI2.hi, ?_, fun i h3 h4 => ?_⟩
      · have := hI2.mem
        rw [hpg, atHand_same hpg, Nat.add_assoc] at this
        exact this
      · obtain ⟨q', hq', e⟩ := hI2.from_ q hq
        obtain ⟨q'', hq'', e2⟩ := h.from_ q' hq'
        exact ⟨q'', hq'', e.trans e2⟩
      · have := hI2.row
        rw [HF2.out] at this
        exact ownsRow_base h.move.touch.size this
      · have := hI2.in_
        rw [hpg, Nat.add_assoc] at this
        exact this
      · rcases Nat.lt_or_ge i j1 with h5 | h5
        · exact h.good i h3 h5
        · exact (good_same hpg h.pages).1 (hI2.good i h5 h4)
    · rw [hpg, Nat.add_assoc] at h4
      exact (good_same hpg h.pages).2 (hg i (Nat.le_trans h.lo h3) h4)
  · have dE : ((E : Int) != 0) = true := by rw [bne_iff_ne]; omega
    have HT1 := Lib.hid hT1
    have HE := Lib.hid hE
    clear hT1 hE HC1
    go_wp2_with fail
    go_ret2
    have h := HT1.out
    exact ⟨E, .slice none 0 0, s1, da1, rfl, h.sys, h.same, h.pages, by have := h.ops; omega, h.any, h.move, h.err, fun h0 => absurd h0 HE.out, fun _ => rfl, h.calm, fun hc hg => h.good hc fun i h3 h4 => hg i h3 (Nat.lt_of_lt_of_le h4 (Tape.need_mono (by omega)))⟩
end Go.Proofs.YtbkiahnljklhpaaDoor
