/- THE WALK OF Write. -/
import Derived.Test.YtbkiahnljklhpaaDoorDiskWrite
namespace Go.Proofs.YtbkiahnljklhpaaDoor
open Go.RowKit
open Seal
/-- A page's bytes are others: the rest stands. -/
theorem DiskRep.rewrite {w w' : World} {g : Nat} {s : Disk.St} {own : Nat → Nat} {pv : Value} {gu : Nat} {mv : Value} {xs : List Value} {ws : List Nat} (R : DiskRep w g s own pv gu mv xs ws) {k b : Nat} {data : List Nat}
    (hu : Disk.used s.pages k = true) (hx : xs.getD k undef = .slice (some ⟨b, 0, none⟩) s.page s.page) (hob : own b = 11 + 2 * k) (hr : Row w' b data) (hl : data.length = s.page) (hoct : Oct data) (hG : w.grownBy w' (some b)) :
    DiskRep w' g { s with pages := Disk.put s.pages k (some data) } own pv gu mv xs ws := by
  have hn := Disk.used_lt hu
  have hk : ∀ x, x < w.heap.size → own x ≠ 11 + 2 * k → w'.heap[x]? = w.heap[x]? := fun x hx hne => hG.block x hx (fun e => by simp only [Option.some.injEq] at e; subst e; exact hne hob)
  have hlen : (Disk.put s.pages k (some data)).length = s.pages.length := by unfold Disk.put; rw [if_neg (by omega)]; simp
  have hput : Disk.put s.pages k (some data) = s.pages.set k (some data) := by unfold Disk.put; rw [if_neg (by omega)]
  have hxl := R.pages.length
  refine ⟨?_, R.mark, ⟨?_, R.pages.mark, ?_⟩, ?_, R.plan.keep fun x hx hr => ⟨hk x hx (by unfold isPlan at hr; omega), rfl⟩, R.page, ?_, R.top, R.since, R.few, fun x hx => R.fresh x (Nat.le_trans hG.size hx)⟩
  · show DBlk w' g s.page s.most pv _ (Disk.live (Disk.put s.pages k (some data))) _ _ _ _
    rw [Disk.live_put_same hu]
    exact R.blk.same (hk g (heap_lt R.blk) (by rw [R.mark]; omega))
  · show World.ownsRow _ 0 _ 1 _ (Disk.put s.pages k (some data)).length _
    rw [hlen]
    exact ownsRow_keep R.pages.row fun x hx => hk x (R.pages.row.lt x hx).2 (by rw [R.pages.mark x hx]; omega)
  · intro i hi
    have hi' : i < s.pages.length := by have : i < (Disk.put s.pages k (some data)).length := hi; omega
    show PageAt w' own s.page i (xs.getD i undef) ((Disk.put s.pages k (some data)).getD i none)
    rw [hput]
    by_cases hin : k = i
    · subst hin
      rw [show (s.pages.set k (some data)).getD k none = some data by simp [List.getD_eq_getElem?_getD, hn]]
      exact ⟨b, hx, hob, hr, hl, hoct⟩
    · rw [show (s.pages.set k (some data)).getD i none = s.pages.getD i none by simp [List.getD_eq_getElem?_getD, hin]]
      exact (R.pages.at_ i hi').keep fun x hx hr => ⟨hk x hx (by omega), rfl⟩
  · have hU := R.used.keep (w' := w') (own' := own) fun x hx hr => ⟨hk x hx (by omega), rfl⟩
    exact ⟨hU.mark, hU.row, hU.words.same k hu data⟩
  · show (Disk.put s.pages k (some data)).length ≤ s.most
    rw [hlen]; exact R.most
theorem DiskRep.count {w : World} {g : Nat} {s : Disk.St} {own : Nat → Nat} {pv : Value} {gu : Nat} {mv : Value} {xs : List Value} {ws : List Nat} (R : DiskRep w g s own pv gu mv xs ws) (hf : s.writes + 1 ≤ s.ops) :
    DiskRep (w.setCell ⟨g, 6, none⟩ (.int .i64 ((s.writes + 1 : Nat) : Int))) g { s with writes := s.writes + 1 } own pv gu mv xs ws := by
  have hk : ∀ x, own x ≠ 1 → (w.setCell ⟨g, 6, none⟩ (.int .i64 ((s.writes + 1 : Nat) : Int))).heap[x]? = w.heap[x]? := fun x hx => Below.heap_setCell _ _ _ _ (fun e => hx (by rw [e]; exact R.mark))
  refine ⟨R.blk.s6 _, R.mark, R.pages.keep fun x _ hr => ⟨hk x (by unfold isPage at hr; omega), rfl⟩, R.used.keep fun x _ hr => ⟨hk x (by omega), rfl⟩, R.plan.keep fun x _ hr => ⟨hk x (by unfold isPlan at hr; omega), rfl⟩, R.page, R.most, R.top, R.since, hf, fun x hx => R.fresh x (by simpa [World.setCell] using hx)⟩
/-- What a Write asks of the bytes that come in: they are not the disk's own. -/
def SrcOk (w : World) (own : Nat → Nat) (a : Option Addr) (l : List Nat) : Prop := SliceIs w a l ∧ Oct l ∧ ∀ p, a = some p → own p.block = 0
theorem SliceIs.only {own : Nat → Nat} {w w' : World} {a : Option Addr} {l : List Nat} (h : SliceIs w a l) (k : Only own w w') (h0 : ∀ p, a = some p → own p.block = 0) : SliceIs w' a l := by
  rcases h with h | ⟨b, off, rfl, h⟩
  · exact .inl h
  · refine .inr ⟨b, off, rfl, fun j hj => ?_⟩
    have hc := h j hj
    exact (World.cell?_of_block (k.block b (World.block_lt_of_cell? w _ hc) (h0 _ rfl))).trans hc
set_option maxRecDepth 100000 in
set_option maxHeartbeats 1000000 in
theorem write_err (g : Nat) (s : Disk.St) (own : Nat → Nat) (n : Int) (v : Value) (w : World) (h : DiskAt w g s own) (ho : s.ops < 4611686018427387904) (E M : Nat) (hEM : Disk.hit 4 (s.plan (s.ops + 1 - s.begun)) = (E, M)) (hE : E ≠ 0) :
    Calls Tryd.prog 8 #[.pointer (some ⟨g, 0, none⟩), .int .i64 n, v] w fun e w' => e = .returned (.int .i64 (E : Int)) ∧ DiskAt w' g (tick s) own ∧ Only own w w' := by
  have C := begin_core g s own 4 w h ho _ rfl E M hEM
  rw [show ((4 : Nat) : Int) = 4 from rfl] at C
  have HC := Lib.hid C
  have d : ((E : Int) != 0) = true := by rw [bne_iff_ne]; omega
  clear C h hE hEM
  go_enter Tryd.func8, Tryd.ntmps8
  go_wp2_with fail
  refine HC.out.mono ?_
  rintro e w1 ⟨rfl, hD, hO⟩
  have HD := Lib.hid (hD.below (below_alloc w1 (opRow 4 E M)))
  have HO := Lib.hid (hO.alloc (opRow 4 E M))
  clear hD hO
  go_wp2_with fail
  go_ret
  exact ⟨rfl, HD.out, HO.out⟩
set_option maxRecDepth 100000 in
set_option maxHeartbeats 1000000 in
theorem write_none (g : Nat) (s : Disk.St) (own : Nat → Nat) (n : Int) (v : Value) (w : World) (h : DiskAt w g s own) (ho : s.ops < 4611686018427387904) (M : Nat) (hEM : Disk.hit 4 (s.plan (s.ops + 1 - s.begun)) = (0, M)) (hu : hasB s.pages n = false) :
    Calls Tryd.prog 8 #[.pointer (some ⟨g, 0, none⟩), .int .i64 n, v] w fun e w' => e = .returned (.int .i64 20) ∧ DiskAt w' g (tick s) own ∧ Only own w w' := by
  have C := begin_core g s own 4 w h ho _ rfl 0 M hEM
  rw [show ((4 : Nat) : Int) = 4 from rfl, show ((0 : Nat) : Int) = 0 from rfl] at C
  have HC := Lib.hid C
  have HU := Lib.hid hu
  clear C h hEM hu
  go_enter Tryd.func8, Tryd.ntmps8
  go_wp2_with fail
  refine HC.out.mono ?_
  rintro e w1 ⟨rfl, hD, hO⟩
  have hD2 := hD.below (below_alloc w1 (opRow 4 0 M))
  have C2 := has_any g (tick s) own n _ hD2
  rw [show hasB (tick s).pages n = false from HU.out] at C2
  have HC2 := Lib.hid C2
  have HD := Lib.hid hD2
  have HO := Lib.hid (hO.alloc (opRow 4 0 M))
  clear hD hO hD2 C2
  go_wp2_with fail
  refine HC2.out.mono ?_
  rintro e w3 ⟨rfl, rfl⟩
  go_wp2_with fail
  go_ret
  exact ⟨rfl, HD.out, HO.out⟩
set_option maxRecDepth 100000 in
set_option maxHeartbeats 1000000 in
theorem write_len (g : Nat) (s : Disk.St) (own : Nat → Nat) (k : Nat) (a : Option Addr) (n c : Nat) (w : World) (h : DiskAt w g s own) (ho : s.ops < 4611686018427387904) (M : Nat) (hEM : Disk.hit 4 (s.plan (s.ops + 1 - s.begun)) = (0, M)) (hu : Disk.used s.pages k = true) (hne : n ≠ s.page) :
    Calls Tryd.prog 8 #[.pointer (some ⟨g, 0, none⟩), .int .i64 (k : Int), .slice a n c] w fun e w' => e = .returned (.int .i64 1) ∧ DiskAt w' g (tick s) own ∧ Only own w w' := by
  have C := begin_core g s own 4 w h ho _ rfl 0 M hEM
  rw [show ((4 : Nat) : Int) = 4 from rfl, show ((0 : Nat) : Int) = 0 from rfl] at C
  have HC := Lib.hid C
  have HU := Lib.hid hu
  have d1 : ((n : Int) != (s.page : Int)) = true := by rw [bne_iff_ne]; omega
  clear C h hEM hu hne
  go_enter Tryd.func8, Tryd.ntmps8
  go_wp2_with fail
  refine HC.out.mono ?_
  rintro e w1 ⟨rfl, hD, hO⟩
  have hD2 := hD.below (below_alloc w1 (opRow 4 0 M))
  have hO2 := hO.alloc (opRow 4 0 M)
  unfold opRow at hD2 hO2
  rw [show ((4 : Nat) : Int) = 4 from rfl, show ((0 : Nat) : Int) = 0 from rfl] at hD2 hO2
  have C2 := has_any g (tick s) own (k : Int) _ hD2
  rw [show hasB (tick s).pages (k : Int) = true from (hasB_nat _ _).trans HU.out] at C2
  have HC2 := Lib.hid C2
  have HD := Lib.hid hD2
  have HO := Lib.hid hO2
  obtain ⟨pv, gu, mv, xs, ws, R⟩ := hD2
  have c0 : (w1.alloc (.cells #[.int .i64 4, .int .i64 0, .int .u8 (M : Int)] 60)).cell? ⟨g, 0, none⟩ = some (.int .i64 (s.page : Int)) := R.blk.c0
  clear hD hO hO2 R C2
  go_wp2_with fail
  refine HC2.out.mono ?_
  rintro e w3 ⟨rfl, rfl⟩
  go_wp2_with fail
  go_ret
  exact ⟨rfl, HD.out, HO.out⟩
theorem DiskAt.few_le {w : World} {g : Nat} {s : Disk.St} {own : Nat → Nat} (h : DiskAt w g s own) : s.writes ≤ s.ops := by
  obtain ⟨pv, gu, mv, xs, ws, h⟩ := h
  exact h.few
theorem DiskAt.page_ok {w : World} {g : Nat} {s : Disk.St} {own : Nat → Nat} (h : DiskAt w g s own) : pageOk s.page = true := by
  obtain ⟨pv, gu, mv, xs, ws, h⟩ := h
  exact h.page
theorem infoSize : (Tryd.prog.info? 5).map (·.size) = some 1 := by kernel_rfl
set_option maxRecDepth 100000 in
set_option maxHeartbeats 1000000 in
theorem write_ok (g : Nat) (s : Disk.St) (own : Nat → Nat) (k : Nat) (a : Option Addr) (c : Nat) (l : List Nat) (w : World) (h : DiskAt w g s own) (ho : s.ops < 4611686018427387904) (M : Nat) (hEM : Disk.hit 4 (s.plan (s.ops + 1 - s.begun)) = (0, M)) (hu : Disk.used s.pages k = true) (hl : l.length = s.page) (hS : SrcOk w own a l) :
    Calls Tryd.prog 8 #[.pointer (some ⟨g, 0, none⟩), .int .i64 (k : Int), .slice a s.page c] w fun e w' => e = .returned (.int .i64 0) ∧ DiskAt w' g { tick s with pages := Disk.put s.pages k (some l), writes := s.writes + 1 } own ∧ Only own w w' := by
  have C := begin_core g s own 4 w h ho _ rfl 0 M hEM
  rw [show ((4 : Nat) : Int) = 4 from rfl, show ((0 : Nat) : Int) = 0 from rfl] at C
  have HC := Lib.hid C
  have hfew := h.few_le
  have hpg0 := pageOk_bounds h.page_ok
  obtain ⟨sb, so, rfl, hrd⟩ := hS.1.resolve_left (fun e => by rw [e] at hl; simp at hl; omega)
  have HU := Lib.hid hu
  have HS := Lib.hid hS
  have HL := Lib.hid hl
  clear C h hEM hu hS hl hrd
  go_enter Tryd.func8, Tryd.ntmps8
  go_wp2_with fail
  refine HC.out.mono ?_
  rintro e w1 ⟨rfl, hD, hO⟩
  have hD2 := hD.below (below_alloc w1 (opRow 4 0 M))
  have hO2 := hO.alloc (opRow 4 0 M)
  unfold opRow at hD2 hO2
  rw [show ((4 : Nat) : Int) = 4 from rfl, show ((0 : Nat) : Int) = 0 from rfl] at hD2 hO2
  obtain ⟨w2, hw2⟩ : ∃ w2, w2 = w1.alloc (.cells #[.int .i64 4, .int .i64 0, .int .u8 (M : Int)] 60) := ⟨_, rfl⟩
  rw [← hw2] at hD2 hO2
  have C2 := has_any g (tick s) own (k : Int) _ hD2
  rw [show hasB (tick s).pages (k : Int) = true from (hasB_nat _ _).trans HU.out] at C2
  rw [hw2] at C2
  have HC2 := Lib.hid C2
  have HO := Lib.hid hO2
  obtain ⟨pv, gu, mv, xs, ws, R⟩ := hD2
  obtain ⟨bs, hp⟩ := Disk.used_some HU.out
  obtain ⟨gp, cap, b, hk, hpv, hnc, hcell, hob, hr, hbl, hoct⟩ := page_at R (show (tick s).pages.getD k none = some bs from hp)
  subst hpv
  have hxk : xs.getD k undef = .slice (some ⟨b, 0, none⟩) s.page s.page := by
    obtain ⟨a1, cap1, hpv1, _, _, _, hrow1⟩ := row_form R.pages.row
    obtain ⟨gp1, ha1, _, hc1, _⟩ := hrow1 (Nat.lt_of_le_of_lt (Nat.zero_le _) hk)
    simp only [Value.slice.injEq, true_and] at hpv1
    rw [ha1] at hpv1
    simp only [Option.some.injEq, Addr.mk.injEq, and_true] at hpv1
    obtain ⟨rfl, _⟩ := hpv1
    have := hc1 k hk
    rw [hcell] at this
    exact (Option.some.inj this).symm
  have c2 : w2.cell? ⟨g, 2, none⟩ = some (.slice (some ⟨gp, 0, none⟩) s.pages.length cap) := R.blk.c2
  have c0 : w2.cell? ⟨g, 0, none⟩ = some (.int .i64 (s.page : Int)) := R.blk.c0
  have hcell' : w2.cell? ⟨gp, k, none⟩ = some (.slice (some ⟨b, 0, none⟩) s.page s.page) := hcell
  have hpg : 64 ≤ s.page ∧ s.page ≤ 4096 := pageOk_bounds R.page
  have hbl' : bs.length = s.page := hbl
  have d1 : ((s.page : Int) != (s.page : Int)) = false := by simp
  have d2 : (k : Int) < (s.pages.length : Int) := by have : k < s.pages.length := hk; omega
  have hsrc2 : SliceIs w2 (some ⟨sb, so, none⟩) l := HS.out.1.only hO2 HS.out.2.2
  have hg1 := R.mark
  have hgb : g ≠ b := fun e => by rw [e, hob] at hg1; omega
  -- the copy, and what it leaves
  have hG : w2.grownBy (w2.setRow b (u8s l).toArray) (some b) := ⟨rfl, rfl, rfl, by simp [World.setRow], fun x _ hx => setRow_other w2 b x _ (fun e => hx (by rw [e]))⟩
  have hRow : Row (w2.setRow b (u8s l).toArray) b l := setRow_heap w2 b _ _ _ _ hr
  have hR3 := R.rewrite (show Disk.used (tick s).pages k = true from HU.out) hxk hob hRow HL.out HS.out.2.1 hG
  have hR4 := hR3.count (show s.writes + 1 ≤ s.ops + 1 from Nat.succ_le_succ hfew)
  have hO4 : Only own w ((w2.setRow b (u8s l).toArray).setCell ⟨g, 6, none⟩ (.int .i64 ((s.writes + 1 : Nat) : Int))) := (hO2.grown hG (.inl (by rw [hob]; omega))).setCell (.inl (by show own g ≠ 0; rw [hg1]; decide)) _
  have e6 : (w2.setRow b (u8s l).toArray).cell? ⟨g, 6, none⟩ = some (.int .i64 (s.writes : Int)) := hR3.blk.c6
  have z6 : (w2.setRow b (u8s l).toArray).frozen? ⟨g, 6, none⟩ = false := hR3.blk.fr 6
  have hwb : s.writes ≤ s.ops + 1 := R.few
  have hr' : w2.heap[b]? = some (.cells (u8s bs).toArray 5 (0, 0)) := hr
  rw [show (((tick s).writes + 1 : Nat) : Int) = (s.writes : Int) + 1 from by show ((s.writes + 1 : Nat) : Int) = _; omega] at hR4
  rw [show ((s.writes + 1 : Nat) : Int) = (s.writes : Int) + 1 by omega] at hO4
  have HR4 := Lib.hid hR4
  have HO4 := Lib.hid hO4
  have HSRC := Lib.hid hsrc2
  have HR := Lib.hid hr'
  have HBL := Lib.hid hbl'
  have HW2 := Lib.hid hw2
  clear hD hO hO2 R C2 hr hr' hRow hR3 hR4 hO4 hG hsrc2 hbl hbl' hoct hcell hxk hw2 hob hp hg1
  rw [HW2.out] at c2 c0 hcell'
  generalize s.pages.length = m at *
  go_wp2_with fail
  refine HC2.out.mono ?_
  rintro e w3 ⟨rfl, rfl⟩
  rw [← HW2.out] at c2 c0 hcell' ⊢
  have hdr : List.drop (u8s l).length (u8s bs) = [] := by rw [List.drop_eq_nil_iff]; simp [u8s, HL.out, HBL.out]
  go_wp2_with (with_reducible refine wpList_copy_own rfl (.tmp 34) (.tmp 35) 29 29 rfl 5 Tryd.underlying29 infoSize b 0 _ _ _ _ _ rfl rfl (u8s bs).toArray 5 HR.out (u8s l) ?c2 ?c3 ?c4 (one_octs l) ?_)
  case c2 => simp [u8s, HL.out]
  case c3 =>
    intro j v hj
    have hjl : j < l.length := by
      have := (List.getElem?_eq_some_iff.1 hj).1
      simpa [u8s] using this
    obtain ⟨sb', so', he, hrd⟩ := HSRC.out.resolve_left (fun e => by rw [e] at hjl; simp at hjl)
    simp only [Option.some.injEq, Addr.mk.injEq, and_true] at he
    obtain ⟨rfl, rfl⟩ := he
    have e : (⟨sb, so, none⟩ : Addr).add j = ⟨sb, so + j, none⟩ := by unfold Addr.add; split <;> simp_all
    rw [e, hrd j hjl, ← hj]
    simp [u8s, u8, List.getD_eq_getElem?_getD, List.getElem?_eq_getElem hjl]
  case c4 => simp [u8s, HL.out, HBL.out]
  go_ret
  exact ⟨rfl, ⟨_, _, _, _, _, HR4.out⟩, HO4.out⟩
end Go.Proofs.YtbkiahnljklhpaaDoor
