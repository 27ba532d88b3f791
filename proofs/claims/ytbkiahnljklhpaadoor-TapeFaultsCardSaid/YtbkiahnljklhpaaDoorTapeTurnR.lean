/- THE WALK OF Reader's turn. -/
import Derived.Test.YtbkiahnljklhpaaDoorTapeClose
import Derived.Deep.RegionHeld3
namespace Go.Proofs.YtbkiahnljklhpaaDoor
open Go.RowKit
open Seal
/-- A reader in memory: its pages that are still to be read, the data at hand. -/
structure RdMem (w : World) (gr g gl page : Nat) (hb : Bool) (R D : List Nat) (left : Nat) (pa : Option Addr) (pc : Nat) (da : Option Addr) (dc : Nat) : Prop where
  obj : Obj7 w gr RdT (ptr g) (holdN hb page) (holdG hb gl) (.slice pa R.length pc) (.slice da D.length dc) (nat left) (.bool false)
  rows : Ints w pa R
  data : SliceIs w da D
  oct : Oct D
  pcap : R.length ≤ pc ∧ pc ≤ 9223372036854775807
  dcap : D.length ≤ dc ∧ dc ≤ 9223372036854775807
  dgr : ∀ q, da = some q → q.block ≠ gr
def RFoot (gr : Nat) (da : Option Addr) (b : Nat) : Prop := b = gr ∨ ∃ p, da = some p ∧ p.block = b
/-- A reader that is to be closed: whatever lies in it. -/
def RdAny (w : World) (gr g gl page : Nat) (hb : Bool) (left : Nat) : Prop := ∃ pv dv, Obj7 w gr RdT (ptr g) (holdN hb page) (holdG hb gl) pv dv (nat left) (.bool false)
theorem RdMem.any {w : World} {gr g gl page : Nat} {hb : Bool} {R D : List Nat} {left : Nat} {pa : Option Addr} {pc : Nat} {da : Option Addr} {dc : Nat} (h : RdMem w gr g gl page hb R D left pa pc da dc) : RdAny w gr g gl page hb left := ⟨_, _, h.obj⟩
/-- What a page that is read leaves. -/
structure RTurnPost (B g gl gr : Nat) (s : Disk.St) (own : Nat → Nat) (L : Int × Int × Int) (hb : Bool) (P S : List Nat) (j left : Nat) (pa da : Option Addr) (w : World) (E : Nat) (w' : World) (s' : Disk.St) (da' : Option Addr) : Prop where
  sys : Sys B w' g gl s' own L
  same : Disk.Same s s'
  pages : s'.pages = s.pages
  ops : s'.ops ≤ s.ops + 1
  any : RdAny w' gr g gl s.page hb left
  move : Move B gl w w' own own (RFoot gr da) (RFoot gr da')
  err : E = 0 ∨ E = 16 ∨ E = 18
  ok : E = 0 → Tape.Good s P S j ∧ ∃ pa' pc' dc', RdMem w' gr g gl s.page hb (P.drop (j + 1)) (Tape.chunk (s.page - 10) S j) left pa' pc' da' dc' ∧ (∀ p, pa' = some p → ∃ q, pa = some q ∧ p.block = q.block)
  calm : Disk.Calm s → E ≠ 16
  good : Disk.Calm s → Tape.Good s P S j → E = 0
def RTurnEnd (B g gl gr : Nat) (s : Disk.St) (own : Nat → Nat) (L : Int × Int × Int) (hb : Bool) (P S : List Nat) (j left : Nat) (pa da : Option Addr) (w : World) (e : Ending) (w' : World) : Prop :=
  ∃ (E : Nat) (s' : Disk.St) (da' : Option Addr), e = .returned (.int .i64 (E : Int)) ∧ RTurnPost B g gl gr s own L hb P S j left pa da w E w' s' da'
theorem set_same (l : List Nat) : l.set 0 (l.getD 0 0 ^^^ 0) = l := by
  cases l with
  | nil => rfl
  | cons a t => simp
theorem nextOf_le {s : Disk.St} {P : List Nat} (hl : s.pages.length ≤ 16384) (hu : ∀ n ∈ P, Disk.used s.pages n = true) (i : Nat) : Tape.nextOf P i ≤ 16384 := by
  unfold Tape.nextOf
  split
  · rename_i h
    have := Disk.used_lt (hu _ (Tape.getD_mem h))
    omega
  · omega
/-- What the bytes that come of page j say. -/
theorem page_says {s : Disk.St} {P S : List Nat} (hT : Tape.Tp s P S) (hpage : pageOk s.page = true) (hl : s.pages.length ≤ 16384) {j : Nat} (hj : j < P.length) {bs : List Nat} (hbs : s.pages.getD (P.getD j 0) none = some bs) {M : Nat} (hM : M < 2) (hc : Disk.Calm s → M = 0) :
    (Tape.Good s P S j ∧ openB (bs.set 0 (bs.getD 0 0 ^^^ M)) = ((Tape.nextOf P j : Int) - 1, Tape.chunk (s.page - 10) S j, 0)) ∨ (openB (bs.set 0 (bs.getD 0 0 ^^^ M)) = (0, [], 18) ∧ (Disk.Calm s → ¬ Tape.Good s P S j)) := by
  have hpb := pageOk_bounds hpage
  have hd : (Tape.chunk (s.page - 10) S j).length + 10 ≤ s.page := by rw [Tape.length_chunk]; omega
  have ho := Tape.oct_chunk hT.oct (s.page - 10) j
  have key : Tape.Good s P S j → openB bs = ((Tape.nextOf P j : Int) - 1, Tape.chunk (s.page - 10) S j, 0) := fun g => by
    unfold Tape.Good at g
    rw [hbs] at g
    obtain rfl := Option.some.inj g
    exact Tape.open_good hpage (nextOf_le hl hT.used j) hd ho
  rcases hT.page j hj with g | ⟨c, b2, h2, h3⟩
  · rcases Nat.lt_or_ge M 1 with h0 | h0
    · obtain rfl : M = 0 := by omega
      rw [set_same]
      exact .inl ⟨g, key g⟩
    · obtain rfl : M = 1 := by omega
      refine .inr ⟨?_, fun h => absurd (hc h) (by decide)⟩
      have g2 := g
      unfold Tape.Good at g2
      rw [hbs] at g2
      obtain rfl := Option.some.inj g2
      exact Tape.open_turned hpage hd ho
  · obtain rfl : M = 0 := hc c
    rw [hbs] at h2
    obtain rfl := Option.some.inj h2
    rw [set_same]
    refine .inr ⟨h3, fun _ g => ?_⟩
    have := key g
    rw [h3] at this
    have e := congrArg (fun x => x.2.2) this
    simp at e
theorem Ints.drop1 {w : World} {b off : Nat} {l : List Nat} (h : ∀ j, j < l.length → w.cell? ⟨b, off + j, none⟩ = some (.int .i64 ((l.getD j 0 : Nat) : Int))) : ∀ j, j < (l.drop 1).length → w.cell? ⟨b, off + 1 + j, none⟩ = some (.int .i64 (((l.drop 1).getD j 0 : Nat) : Int)) := by
  intro j hj
  have := h (1 + j) (by rw [List.length_drop] at hj; omega)
  rw [← Nat.add_assoc] at this
  rw [this]
  simp [List.getD_eq_getElem?_getD, Nat.add_comm]
theorem read_has {w : World} {g : Nat} {s : Disk.St} {own : Nat → Nat} (h : DiskAt w g s own) {n : Nat} (hu : Disk.used s.pages n = true) : ∃ bs, s.pages.getD n none = some bs ∧ bs.length = s.page ∧ Oct bs := by
  obtain ⟨bs, hb⟩ := Disk.used_some hu
  obtain ⟨pv, gu, mv, xs, ws, R⟩ := h
  obtain ⟨_, _, _, _, _, _, _, _, _, h1, h2⟩ := page_at R hb
  exact ⟨bs, hb, h1, h2⟩
theorem oct_masked {bs : List Nat} (h : Oct bs) (M : Nat) (hM : M < 2) (h0 : 0 < bs.length) : Oct (bs.set 0 (bs.getD 0 0 ^^^ M)) := by
  intro c hc
  rcases List.mem_or_eq_of_mem_set hc with h1 | h1
  · exact h c h1
  · rw [h1]
    exact Nat.xor_lt_two_pow (n := 8) (h _ (by rw [List.getD_eq_getElem?_getD, List.getElem?_eq_getElem h0]; exact List.getElem_mem _)) (by omega)
/-- What Open answers, with the slice's room. -/
def OpenEnd2 (w : World) (r : Int × List Nat × Int) (e : Ending) (w' : World) : Prop :=
  ∃ a c, e = .returned (.tuple #[.int .i64 r.1, .slice a r.2.1.length c, .int .i64 r.2.2]) ∧ SliceIs w' a r.2.1 ∧ (∀ p, a = some p → w.heap.size ≤ p.block ∧ p.block < w'.heap.size) ∧ Below w.heap.size w w' ∧ r.2.1.length ≤ c ∧ c ≤ 9223372036854775807
theorem open_any2 (a : Option Addr) (cap : Nat) (l : List Nat) (w : World) (hp : pageOk l.length = true) (hcap : l.length ≤ cap) (hb : Oct l) (hc : SliceIs w a l) (ht : Tab w) :
    Calls Tryd.prog 64 #[.slice a l.length cap] w (OpenEnd2 w (openB l)) := by
  have hpb := pageOk_bounds hp
  obtain ⟨b, off, rfl, hr⟩ := hc.resolve_left (fun e => by rw [e] at hpb; simp at hpb)
  have hbw : b < w.heap.size := World.block_lt_of_cell? w _ (hr 0 (by omega))
  by_cases hs : num (l.drop (l.length - 4)) = crc (l.take (l.length - 4))
  · by_cases hk : num (l.take 4) ≤ 16384 ∧ num ((l.drop 4).take 2) ≤ l.length - 10
    · refine (open_ok b off cap l w hp hcap hb hr ht hs hk hbw).mono ?_
      rintro e w' ⟨rfl, hR, hB⟩
      have ho : openB l = ((num (l.take 4) : Int) - 1, (l.drop 6).take (num ((l.drop 4).take 2)), 0) := by unfold openB; rw [if_pos hp, if_pos hs, if_pos hk]
      have hl : ((l.drop 6).take (num ((l.drop 4).take 2))).length = num ((l.drop 4).take 2) := by
        simp; omega
      rw [ho]
      refine ⟨_, _, by rw [hl], .inr ⟨_, 0, rfl, ?_⟩, fun p hp => ?_, hB, Nat.le_of_eq hl, by omega⟩
      · have := hR.reads 0 _ (Nat.le_of_eq (Nat.zero_add _))
        rw [List.drop_zero, List.take_length] at this
        exact this
      · obtain rfl := Option.some.inj hp
        exact ⟨Nat.le_refl _, hR.lt⟩
    · refine (open_form b off cap l w hp hcap hb hr ht hs (by omega)).mono ?_
      rintro e w' ⟨rfl, q, rfl⟩
      have ho : openB l = (0, [], 4) := by unfold openB; rw [if_pos hp, if_pos hs, if_neg hk]
      rw [ho]
      exact ⟨none, 0, rfl, .inl rfl, fun p hp => (by cases hp), drewN_below w q, Nat.le_refl _, by decide⟩
  · refine (open_sum b off cap l w hp hcap hb hr ht hs).mono ?_
    rintro e w' ⟨rfl, q, rfl⟩
    have ho : openB l = (0, [], 18) := by unfold openB; rw [if_pos hp, if_neg hs]
    rw [ho]
    exact ⟨none, 0, rfl, .inl rfl, fun p hp => (by cases hp), drewN_below w q, Nat.le_refl _, by decide⟩
theorem open_at2 (a : Option Addr) (n cap : Nat) (l : List Nat) (w : World) (hl : l.length = n) (hp : pageOk n = true) (hcap : n ≤ cap) (hb : Oct l) (hc : SliceIs w a l) (ht : Tab w) :
    Calls Tryd.prog 64 #[.slice a n cap] w (OpenEnd2 w (openB l)) := by
  subst hl; exact open_any2 a cap l w hp hcap hb hc ht
set_option maxRecDepth 100000 in
set_option maxHeartbeats 2000000 in
theorem rturn_any (B g gl gr : Nat) (s : Disk.St) (own : Nat → Nat) (L : Int × Int × Int) (hb : Bool) (P S D : List Nat) (j left : Nat) (pa : Option Addr) (pc : Nat) (da : Option Addr) (dc : Nat) (w : World) (hS : Sys B w g gl s own L) (hT : Tape.Tp s P S) (hM : RdMem w gr g gl s.page hb (P.drop j) D left pa pc da dc)
    (hF : Free B gl w own (RFoot gr da)) (hel : Else pa gl own (RFoot gr da)) (hj : j < P.length) (ho : s.ops < 4611686018427387900) :
    Calls Tryd.prog 63 #[.pointer (some ⟨gr, 0, none⟩)] w (RTurnEnd B g gl gr s own L hb P S j left pa da w) := by
  have hpage := hS.pageOk
  have hpb := pageOk_bounds hpage
  have c0 := hM.obj.c0
  unfold ptr at c0
  have c3 := hM.obj.c3
  have c4 := hM.obj.c4
  have f3 := hM.obj.fr 3
  have f4 := hM.obj.fr 4
  have hgr := hM.obj.lt
  have hRl : (P.drop j).length = P.length - j := List.length_drop
  obtain ⟨pb, off, e, hrd⟩ := hM.rows.resolve_left (fun e => by rw [e] at hRl; simp at hRl; omega)
  subst e
  have hP0 : (P.drop j).getD 0 0 = P.getD j 0 := by simp [List.getD_eq_getElem?_getD, List.getElem?_drop]
  have hc0 := hrd 0 (by omega)
  rw [hP0, Nat.add_zero] at hc0
  have hPj : P.getD j 0 ∈ P := Tape.getD_mem hj
  obtain ⟨bs, hbs, hbl, hbo⟩ := read_has hS.disk (hT.used _ hPj)
  obtain ⟨E1, M1, hEM1⟩ : ∃ E1 M1, Disk.hit 3 (s.plan (s.ops + 1 - s.begun)) = (E1, M1) := ⟨_, _, rfl⟩
  have hE1 : E1 = 0 ∨ E1 = 16 := by have := hit_read (s.plan (s.ops + 1 - s.begun)); rw [hEM1] at this; exact this
  have hM2 : M1 < 2 := by have := (Disk.hit_small 3 (s.plan (s.ops + 1 - s.begun))).2; rw [hEM1] at this; exact this
  have hcalm : Disk.Calm s → E1 = 0 ∧ M1 = 0 := fun h => by
    have := h.hit hS.since 3; rw [hEM1] at this; exact Prod.mk.inj this
  have hpbl : pb < w.heap.size := World.block_lt_of_cell? w _ hc0
  obtain ⟨n, hn⟩ : ∃ n, n = P.getD j 0 := ⟨_, rfl⟩
  obtain ⟨rl, hrl⟩ : ∃ rl, rl = (P.drop j).length := ⟨_, rfl⟩
  rw [← hn] at hc0 hbs hPj
  rw [← hrl] at c3
  have hr1 : 0 < rl := by omega
  have d0 : ((rl : Int) == 0) = false := by rw [beq_eq_false_iff_ne]; omega
  have d1 : (0 : Int) < (rl : Int) := by omega
  have HS := Lib.hid hS
  have HM := Lib.hid hM
  have HF := Lib.hid hF
  have HT := Lib.hid hT
  have HEL := Lib.hid hel
  have HRD := Lib.hid hrd
  have HBO := Lib.hid hbo
  have HBL := Lib.hid hbl
  have HBS := Lib.hid hbs
  have HCALM := Lib.hid hcalm
  have HN := Lib.hid hn
  have HRL := Lib.hid hrl
  have HE1 := Lib.hid hE1
  by_cases hE : E1 = 0
  · subst hE
    have HC := Lib.hid (read_ok g s own n bs w.drew (hS.disk.drewN 1) (by omega) M1 hEM1 hbs)
    have hsay := page_says hT hpage hS.len16 hj (by rw [← hn]; exact hbs) hM2 (fun h => (hcalm h).2)
    have HSAY := Lib.hid hsay
    have hol := oct_masked hbo M1 hM2 (by omega)
    have HOL := Lib.hid hol
    clear hS hM hF hT hel hrd hbo hbl hbs hcalm hn hrl hsay hol hEM1 hE1 hP0 hRl hPj
    go_enter Tryd.func63, Tryd.ntmps63
    go_wp2_with fail
    have hgrF := HF.out gr (.inl rfl)
    have hpbF := HEL.out _ rfl
    go_region_held3 (fun w' => w'.cell? ⟨gr, 0, none⟩ = some (.pointer (some ⟨g, 0, none⟩)) ∧ w'.cell? ⟨gr, 3, none⟩ = some (.slice (some ⟨pb, off, none⟩) rl pc) ∧ w'.cell? ⟨pb, off, none⟩ = some (.int .i64 (n : Int))) (first | go_keep | exact ⟨c0, c3, hc0⟩ | exact ⟨c01, c31, cp1⟩)
      (first
        | (go_at_call 10; refine HC.out.mono ?_; rintro e w1 ⟨v, rfl, hrow, hD1, hO1⟩
           have c01 := (World.cell?_of_block (a := ⟨gr, 0, none⟩) (hO1.block gr hgr hgrF.2.1)).trans c0
           have c31 := (World.cell?_of_block (a := ⟨gr, 3, none⟩) (hO1.block gr hgr hgrF.2.1)).trans c3
           have cp1 := (World.cell?_of_block (a := ⟨pb, off, none⟩) (hO1.block pb hpbl hpbF.1)).trans hc0))
    have hO : Only own w w1 := ⟨hO1.os, hO1.tape, hO1.output, hO1.size, hO1.block⟩
    have hS1 := HS.out.only hD1 hO fun _ _ => rfl
    have hlen2 : (bs.set 0 (bs.getD 0 0 ^^^ M1)).length = s.page := by rw [List.length_set]; exact HBL.out
    obtain ⟨va, vc, hv, hvn, hvm, hvs⟩ := slice_of_row (D := bs.set 0 (bs.getD 0 0 ^^^ M1)) (w := w1) (dv := v) (by rw [hlen2]; exact ownsRow_base (Nat.zero_le _) hrow)
    rw [hlen2] at hv hvn
    subst hv
    have HOP := Lib.hid (open_at2 va s.page vc _ w1 hlen2 hpage hvn HOL.out hvs hS1.tab)
    have c41 := (World.cell?_of_block (a := ⟨gr, 4, none⟩) (hO1.block gr hgr hgrF.2.1)).trans c4
    have f31 := (World.frozen?_of_block (a := ⟨gr, 3, none⟩) (hO1.block gr hgr hgrF.2.1)).trans f3
    have f41 := (World.frozen?_of_block (a := ⟨gr, 4, none⟩) (hO1.block gr hgr hgrF.2.1)).trans f4
    have HO := Lib.hid hO
    have HS1 := Lib.hid hS1
    have hgr1 : gr < w1.heap.size := Nat.lt_of_lt_of_le hgr hO.size
    clear hrow hD1 hO1 hO hS1 hlen2 hvs hvn hvm c0 c3 c4 f3 f4 hc0
    rcases HSAY.out with ⟨hg, heq⟩ | ⟨heq, hng⟩
    · -- the page is as it was sealed
      have HOP2 := HOP.out
      rw [heq] at HOP2
      have HOP3 := Lib.hid HOP2
      have HG := Lib.hid hg
      have hnx : Tape.nextOf P j = if rl = 1 then 0 else P.getD (j + 1) 0 + 1 := by
        have h1 := HRL.out
        rw [List.length_drop] at h1
        unfold Tape.nextOf
        by_cases h2 : rl = 1
        · rw [if_pos h2, if_neg (by omega)]
        · rw [if_neg h2, if_pos (by omega)]
      have HNX := Lib.hid hnx
      have hcl : (Tape.chunk (s.page - 10) S j).length ≤ 4096 := by rw [Tape.length_chunk]; omega
      obtain ⟨ck, hck⟩ : ∃ ck, ck = Tape.chunk (s.page - 10) S j := ⟨_, rfl⟩
      rw [← hck] at HOP3 hcl
      have HCK := Lib.hid hck
      obtain ⟨nx, hnx2⟩ : ∃ nx, nx = Tape.nextOf P j := ⟨_, rfl⟩
      rw [← hnx2] at HOP3 HNX
      clear HOP HOP2 heq hg hnx hck hnx2 HSAY
      go_wp2_with fail
      refine HOP3.out.mono ?_
      rintro e w2 ⟨oa, oc, rfl, hsl2, hfr2, hB2, hoc1, hoc2⟩
      simp only []
      have hgr2 : gr < w2.heap.size := Nat.lt_of_lt_of_le hgr1 hB2.size
      have c32 := (hB2.cell (p := ⟨gr, 3, none⟩) hgr1).trans c31
      have c42 := (hB2.cell (p := ⟨gr, 4, none⟩) hgr1).trans c41
      have f32 := (hB2.frozen (p := ⟨gr, 3, none⟩) hgr1).trans f31
      have f42 := (hB2.frozen (p := ⟨gr, 4, none⟩) hgr1).trans f41
      have hoc : ck.length ≤ oc ∧ oc ≤ 9223372036854775807 := ⟨hoc1, hoc2⟩
      have HSL := Lib.hid hsl2
      have HFR := Lib.hid hfr2
      have HB2 := Lib.hid hB2
      have hpbl1 : pb < w1.heap.size := Nat.lt_of_lt_of_le hpbl HO.out.size
      have hpbl2 : pb < w2.heap.size := Nat.lt_of_lt_of_le hpbl1 hB2.size
      have hpgr : pb ≠ gr := fun e => (HEL.out _ rfl).2.2 (.inl e)
      have hpcells : ∀ i, i < (P.drop j).length → w2.cell? ⟨pb, off + i, none⟩ = some (.int .i64 (((P.drop j).getD i 0 : Nat) : Int)) := fun i hi =>
        (hB2.cell (p := ⟨pb, off + i, none⟩) hpbl1).trans ((World.cell?_of_block (a := ⟨pb, off + i, none⟩) (HO.out.block pb hpbl (HEL.out _ rfl).1)).trans (HRD.out i hi))
      have hpl1 := HM.out.pcap
      rw [← HRL.out] at hpl1
      have HPC := Lib.hid hpcells
      have hd2 : (1 : Int) ≤ (rl : Int) := by omega
      have hd3 : (1 : Int) ≤ (pc : Int) := by omega
      clear c31 c41 f31 f41 hsl2 hfr2 hpcells hB2 HOP3
      have hfin : ∀ (pa' : Option Addr) (R : List Nat) (pc' n : Nat), n = R.length → R = P.drop (j + 1) → R.length ≤ pc' ∧ pc' ≤ 9223372036854775807 → (R = [] ∨ pa' = some ⟨pb, off + 1, none⟩) → (∀ p, pa' = some p → p.block = pb) →
          RTurnPost B g gl gr s own L hb P S j left (some ⟨pb, off, none⟩) da w 0 ((w2.setCell ⟨gr, 3, none⟩ (.slice pa' n pc')).setCell ⟨gr, 4, none⟩ (.slice oa ck.length oc)) (tick s) oa := by
        intro pa' R pc' n hn hR hpc' hpa hblk
        subst hn
        have hset : ∀ x, x ≠ gr → ((w2.setCell ⟨gr, 3, none⟩ (.slice pa' R.length pc')).setCell ⟨gr, 4, none⟩ (.slice oa ck.length oc)).heap[x]? = w2.heap[x]? := fun x hx => by
          rw [Below.heap_setCell _ _ _ _ (fun e => hx e), Below.heap_setCell _ _ _ _ (fun e => hx e)]
        have hsz : ((w2.setCell ⟨gr, 3, none⟩ (.slice pa' R.length pc')).setCell ⟨gr, 4, none⟩ (.slice oa ck.length oc)).heap.size = w2.heap.size := by simp [World.setCell]
        have hobj2 : Obj7 w2 gr RdT (ptr g) (holdN hb s.page) (holdG hb gl) (.slice (some ⟨pb, off, none⟩) (P.drop j).length pc) (.slice da D.length dc) (nat left) (.bool false) :=
          (HM.out.obj.same (HO.out.block gr hgr (HF.out gr (.inl rfl)).2.1)).same (HB2.out.block gr hgr1)
        have hobj := (hobj2.s3 (.slice pa' R.length pc')).s4 (.slice oa ck.length oc)
        have hF1 := HF.out.size HO.out.size
        have hT : Touch (RFoot gr da) w1 ((w2.setCell ⟨gr, 3, none⟩ (.slice pa' R.length pc')).setCell ⟨gr, 4, none⟩ (.slice oa ck.length oc)) := ((Touch.of_below HB2.out).setCell (.inl (.inl rfl)) _).setCell (.inl (.inl rfl)) _
        have hf2 : ∀ b, RFoot gr oa b → (b < w1.heap.size → RFoot gr da b) ∧ b < ((w2.setCell ⟨gr, 3, none⟩ (.slice pa' R.length pc')).setCell ⟨gr, 4, none⟩ (.slice oa ck.length oc)).heap.size := fun b hb2 => by
          rw [hsz]
          rcases hb2 with rfl | ⟨p, hp, rfl⟩
          · exact ⟨fun _ => .inl rfl, hgr2⟩
          · obtain ⟨h1, h2⟩ := HFR.out p hp
            exact ⟨fun h => by omega, h2⟩
        have hV1 : Move B gl w w1 own own (RFoot gr da) (RFoot gr da) := Move.of_only HF.out HO.out fun _ _ => rfl
        obtain ⟨hs, hv⟩ := push_fin HS1.out hV1 hT hf2
        refine ⟨hs, ⟨rfl, rfl, rfl, rfl, Nat.le_succ _⟩, rfl, Nat.le_refl _, ⟨_, _, hobj⟩, hv, .inl rfl, fun _ => ⟨HG.out, pa', pc', oc, ⟨by rw [← hR, ← HCK.out]; exact hobj, ?_, ?_, ?_, by rw [← hR]; exact hpc', by rw [← HCK.out]; exact hoc, fun q hq e => by have h3 := (HFR.out q hq).1; omega⟩, fun p hp => ⟨_, rfl, hblk p hp⟩⟩, fun _ => by decide, fun _ _ => rfl⟩
        · rw [← hR]
          rcases hpa with h | h
          · exact .inl h
          · refine .inr ⟨pb, off + 1, h, fun i hi => ?_⟩
            rw [World.cell?_of_block (hset pb hpgr), hR]
            have := Ints.drop1 HPC.out i (by rw [List.drop_drop]; rw [hR] at hi; exact hi)
            rw [this, List.drop_drop]
        · rw [← HCK.out]
          rcases HSL.out with h | ⟨b, o, h1, h2⟩
          · exact .inl h
          · refine .inr ⟨b, o, h1, fun i hi => ?_⟩
            have hbb := HFR.out _ h1
            rw [World.cell?_of_block (hset b (fun e => by have h3 : w1.heap.size ≤ b := hbb.1; omega))]
            exact h2 i hi
        · exact Tape.oct_chunk HT.out.oct _ _
      have HFIN := Lib.hid hfin
      clear hfin
      by_cases hr : rl = 1
      · have hn0 : nx = 0 := by rw [HNX.out, if_pos hr]
        subst hn0
        subst hr
        have hR0 : P.drop (j + 1) = [] := List.drop_eq_nil_of_le (by have := HRL.out; rw [List.length_drop] at this; omega)
        have HR0 := Lib.hid hR0
        clear hR0
        clear hd2 hd3
        by_cases hpc1 : pc = 1
        · subst hpc1
          go_wp2_with fail
          go_ret
          exact ⟨0, tick s, oa, rfl, HFIN.out _ [] 0 0 rfl HR0.out.symm ⟨Nat.zero_le _, by decide⟩ (.inl rfl) (fun p hp => by obtain rfl := Option.some.inj hp; rfl)⟩
        · have hd3 : (1 : Int) ≤ (pc : Int) := by omega
          go_wp2_with fail
          go_ret
          exact ⟨0, tick s, oa, rfl, HFIN.out _ [] (pc - 1) 0 rfl HR0.out.symm ⟨Nat.zero_le _, by omega⟩ (.inl rfl) (fun p hp => by obtain rfl := Option.some.inj hp; rfl)⟩
      · have hn0 : nx = P.getD (j + 1) 0 + 1 := by rw [HNX.out, if_neg hr]
        subst hn0
        have hpc1 : ¬ pc = 1 := by omega
        have hlr : (P.drop (j + 1)).length = rl - 1 := by have := HRL.out; rw [List.length_drop] at this ⊢; omega
        have HLR := Lib.hid hlr
        have hcn : w2.cell? ⟨pb, off + 1, none⟩ = some (.int .i64 ((P.getD (j + 1) 0 : Nat) : Int)) := by
          have := HPC.out 1 (by rw [← HRL.out]; omega)
          rw [this]
          simp [List.getD_eq_getElem?_getD, List.getElem?_drop]
        have hset1 : ∀ v, (w2.setCell ⟨gr, 3, none⟩ v).cell? ⟨pb, off + 1, none⟩ = some (.int .i64 ((P.getD (j + 1) 0 : Nat) : Int)) := fun v => by
          rw [World.cell?_of_block (Below.heap_setCell _ _ _ _ (fun e => hpgr e))]; exact hcn
        have hd4 : (0 : Int) < (rl : Int) - 1 := by omega
        have hd5 : 0 < rl - 1 := by omega
        clear hlr hcn
        generalize P.getD (j + 1) 0 = nn at *
        go_wp2_with fail
        go_ret
        exact ⟨0, tick s, oa, rfl, HFIN.out _ (P.drop (j + 1)) (pc - 1) (rl - 1) HLR.out.symm rfl ⟨by rw [HLR.out]; omega, by omega⟩ (.inr rfl) (fun p hp => by obtain rfl := Option.some.inj hp; rfl)⟩
    · -- the sum is another
      have HOP2 := HOP.out
      rw [heq] at HOP2
      have HOP3 := Lib.hid HOP2
      have HNG := Lib.hid hng
      clear HOP HOP2 heq hng HSAY
      go_wp2_with fail
      refine HOP3.out.mono ?_
      rintro e w2 ⟨oa, oc, rfl, hsl2, hfr2, hB2, _, _⟩
      have HB2 := Lib.hid hB2
      clear hsl2 hfr2 hB2 HOP3
      simp only []
      go_wp2_with fail
      go_ret
      have hobj2 : Obj7 w2 gr RdT (ptr g) (holdN hb s.page) (holdG hb gl) (.slice (some ⟨pb, off, none⟩) (P.drop j).length pc) (.slice da D.length dc) (nat left) (.bool false) :=
        (HM.out.obj.same (HO.out.block gr hgr (HF.out gr (.inl rfl)).2.1)).same (HB2.out.block gr hgr1)
      have hV1 : Move B gl w w1 own own (RFoot gr da) (RFoot gr da) := Move.of_only HF.out HO.out fun _ _ => rfl
      exact ⟨18, tick s, da, rfl, HS1.out.below HB2.out, ⟨rfl, rfl, rfl, rfl, Nat.le_succ _⟩, rfl, Nat.le_refl _, ⟨_, _, hobj2⟩, hV1.trans (Move.of_below hV1.free HB2.out), .inr (.inr rfl), (fun h => absurd h (by decide)), (fun _ => by decide), fun hc hg => absurd hg (HNG.out hc)⟩
  · -- the disk's error
    have HC := Lib.hid (read_err g s own (n : Int) w.drew (hS.disk.drewN 1) (by omega) E1 M1 hEM1 hE)
    have d : ((E1 : Int) != 0) = true := by rw [bne_iff_ne]; omega
    have HE := Lib.hid hE
    clear hS hM hF hT hel hrd hbo hbl hbs hcalm hn hrl hEM1 hE1 hP0 hRl hPj hE
    go_enter Tryd.func63, Tryd.ntmps63
    go_wp2_with fail
    have hgrF := HF.out gr (.inl rfl)
    have hpbF := HEL.out _ rfl
    go_region_held3 (fun w' => w'.cell? ⟨gr, 0, none⟩ = some (.pointer (some ⟨g, 0, none⟩)) ∧ w'.cell? ⟨gr, 3, none⟩ = some (.slice (some ⟨pb, off, none⟩) rl pc) ∧ w'.cell? ⟨pb, off, none⟩ = some (.int .i64 (n : Int))) (first | go_keep | exact ⟨c0, c3, hc0⟩ | exact ⟨c01, c31, cp1⟩)
      (first
        | (go_at_call 10; refine HC.out.mono ?_; rintro e w1 ⟨rfl, hD1, hO1⟩
           have c01 := (World.cell?_of_block (a := ⟨gr, 0, none⟩) (hO1.block gr hgr hgrF.2.1)).trans c0
           have c31 := (World.cell?_of_block (a := ⟨gr, 3, none⟩) (hO1.block gr hgr hgrF.2.1)).trans c3
           have cp1 := (World.cell?_of_block (a := ⟨pb, off, none⟩) (hO1.block pb hpbl hpbF.1)).trans hc0))
    have hO : Only own w w1 := ⟨hO1.os, hO1.tape, hO1.output, hO1.size, hO1.block⟩
    have HS1 := Lib.hid (HS.out.only hD1 hO fun _ _ => rfl)
    have HO := Lib.hid hO
    clear hD1 hO1 hO c0 c3 c4 f3 f4 hc0
    go_wp2_with fail
    go_ret
    exact ⟨E1, tick s, da, rfl, HS1.out, ⟨rfl, rfl, rfl, rfl, Nat.le_succ _⟩, rfl, Nat.le_refl _, ⟨_, _, HM.out.obj.same (HO.out.block gr hgr (HF.out gr (.inl rfl)).2.1)⟩, Move.of_only HF.out HO.out fun _ _ => rfl, (by rcases HE1.out with h | h; exact absurd h HE.out; exact .inr (.inl h)), fun h => absurd h HE.out, fun hc => absurd (HCALM.out hc).1 HE.out, fun hc _ => (HCALM.out hc).1⟩
end Go.Proofs.YtbkiahnljklhpaaDoor
