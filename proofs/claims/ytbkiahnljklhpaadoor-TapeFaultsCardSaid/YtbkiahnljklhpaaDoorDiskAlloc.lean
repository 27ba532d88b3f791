/- THE WALK OF Alloc. -/
import Derived.Test.YtbkiahnljklhpaaDoorDiskReadPage
import Derived.Test.YtbkiahnljklhpaaDoorAppend
import Derived.Laws.ShiftsVarLaws
namespace Go.Proofs.YtbkiahnljklhpaaDoor
open Go.RowKit
open Seal
theorem pow_lt64 (r : Nat) (hr : r < 64) : 2 ^ r < 18446744073709551616 := by
  have : 2 ^ r < 2 ^ 64 := Nat.pow_lt_pow_right (by decide) hr
  omega
theorem wrap_pow (r : Nat) (hr : r < 64) : IntKind.u64.wrap ((2 : Int) ^ r) = ((2 ^ r : Nat) : Int) := by
  have h := pow_lt64 r hr
  have e2 : (2 : Int) ^ r = ((2 ^ r : Nat) : Int) := by simp
  rw [e2, IntKind.wrap_u64]
  generalize 2 ^ r = P at *
  omega
def upd (own : Nat → Nat) (b r : Nat) : Nat → Nat := fun x => if x = b then r else own x
theorem upd_same (own : Nat → Nat) (b r : Nat) : upd own b r b = r := if_pos rfl
theorem upd_other (own : Nat → Nat) {b x : Nat} (r : Nat) (h : x ≠ b) : upd own b r x = own x := if_neg h
theorem infoRow : (Tryd.prog.info? 29).map (fun i => (i.zero, i.size, i.bytes)) = some (some (.slice none 0 0), 1, 24) := by kernel_rfl
theorem infoBytes : (Tryd.prog.info? 5).map (fun i => (i.zero, i.size, i.bytes)) = some (some (.int .u8 0), 1, 1) := by kernel_rfl
theorem run_makeBytes (n : Nat) (hn : n ≤ 4096) (u : World) : (Instr.makeSlice 29 (.int .i64 (n : Int)) (.int .i64 (n : Int))).run Tryd.prog u = .ok (.slice (some ⟨u.heap.size, 0, none⟩) n n) (u.alloc (.cells (madeCells #[.int .u8 0] n) 5)) := by
  obtain ⟨i0, hi, hz0, hz1, hz2⟩ := info_parts infoBytes
  have h := run_make (P := Tryd.prog) u 29 5 i0 (.int .u8 0) Tryd.underlying29 hi hz0 .i64 .i64 (n : Int) (n : Int) (by omega) (Int.le_refl _) (by rw [hz2]; omega) (by omega)
  rw [Int.toNat_natCast] at h
  simpa [hz1, Value.cells] using h
/-- With a page that is not in use put behind the others. -/
def more (s : Disk.St) : Disk.St := { s with pages := s.pages ++ [none] }
theorem used_more (l : Disk.Pages) (n : Nat) : Disk.used (l ++ [none]) n = Disk.used l n := by
  unfold Disk.used
  simp only [List.getD_eq_getElem?_getD]
  rcases Nat.lt_trichotomy n l.length with h | h | h
  · rw [List.getElem?_append_left h]
  · subst h; simp
  · rw [List.getElem?_eq_none (by simp; omega), List.getElem?_eq_none (by omega)]
theorem live_more (l : Disk.Pages) : Disk.live (l ++ [none]) = Disk.live l := by simp [Disk.live]
theorem words_more {ws : List Nat} {nw : Nat} {l : Disk.Pages} (h : Disk.Words ws nw l) : Disk.Words ws nw (l ++ [none]) := ⟨h.len, h.lt, fun n hn => by rw [used_more]; exact h.bit n hn⟩
theorem put_more (l : Disk.Pages) (p : Option (List Nat)) : Disk.put (l ++ [none]) l.length p = Disk.put l l.length p := by
  unfold Disk.put
  rw [if_neg (by simp), if_pos rfl]
  simp
set_option maxRecDepth 100000 in
set_option maxHeartbeats 1000000 in
theorem alloc_err (g : Nat) (s : Disk.St) (own : Nat → Nat) (w : World) (h : DiskAt w g s own) (ho : s.ops < 4611686018427387904) (E M : Nat) (hEM : Disk.hit 1 (s.plan (s.ops + 1 - s.begun)) = (E, M)) (hE : E ≠ 0) :
    Calls Tryd.prog 7 #[.pointer (some ⟨g, 0, none⟩)] w fun e w' => e = .returned (.tuple #[.int .i64 0, .int .i64 (E : Int)]) ∧ DiskAt w' g (tick s) own ∧ Only own w w' := by
  have C := begin_core g s own 1 w h ho _ rfl E M hEM
  rw [show ((1 : Nat) : Int) = 1 from rfl] at C
  have HC := Lib.hid C
  have d : ((E : Int) != 0) = true := by rw [bne_iff_ne]; omega
  clear C h hE hEM
  go_enter Tryd.func7, Tryd.ntmps7
  go_wp2_with fail
  refine HC.out.mono ?_
  rintro e w1 ⟨rfl, hD, hO⟩
  have HD := Lib.hid hD
  have HO := Lib.hid hO
  clear hD hO
  go_wp2_with fail
  have hop := opn_new w1 1 E M
  have hD2 := HD.out.below (below_alloc w1 (opRow 1 E M))
  have hO2 := HO.out.alloc (opRow 1 E M)
  unfold opRow at hop hD2 hO2
  rw [show ((1 : Nat) : Int) = 1 from rfl] at hop hD2 hO2
  obtain ⟨O, hOe⟩ : ∃ O, O = w1.heap.size := ⟨_, rfl⟩
  obtain ⟨w2, hw2⟩ : ∃ w2, w2 = w1.alloc (.cells #[.int .i64 1, .int .i64 (E : Int), .int .u8 (M : Int)] 60) := ⟨_, rfl⟩
  rw [← hw2] at hop hD2 hO2 ⊢
  rw [← hOe] at hop ⊢
  have c1 := hop.c1
  have HD2 := Lib.hid hD2
  have HO2 := Lib.hid hO2
  clear hop hD2 hO2 hw2 hOe
  go_quiet (fail)
  go_wp2_with fail
  go_ret2
  exact ⟨rfl, HD2.out.drewN _, HO2.out.drewN _⟩
/-- What an Alloc has done before it marks its number: the new page lies in its place. -/
structure Laid (w w' : World) (g : Nat) (s : Disk.St) (own own' : Nat → Nat) (pv : Value) (gu : Nat) (mv : Value) (xs : List Value) (ws : List Nat) (n : Nat) : Prop where
  blk : DBlk w' g s.page s.most pv (.slice (some ⟨gu, 0, none⟩) ((s.most + 63) / 64) ((s.most + 63) / 64)) (Disk.live s.pages) s.ops s.writes s.begun mv
  mark : own' g = 1
  pages : PagesAt w' own' s.page pv (Disk.put s.pages n (some (List.replicate s.page 0))) xs
  used : UsedAt w' own' gu ((s.most + 63) / 64) s.pages ws
  plan : PlanAt w' own' mv (s.ops - s.begun) s.plan
  only : Only own w w'
  same : ∀ b, b < w.heap.size → own' b = own b
  fresh : ∀ b, w'.heap.size ≤ b → own' b = 0
theorem mem_replicate_oct (n : Nat) : Oct (List.replicate n 0) := by
  intro c hc
  rw [List.mem_replicate] at hc
  omega
theorem DiskAt.most_le {w : World} {g : Nat} {s : Disk.St} {own : Nat → Nat} (h : DiskAt w g s own) : s.pages.length ≤ s.most := by
  obtain ⟨pv, gu, mv, xs, ws, h⟩ := h
  exact h.most
theorem DiskRep.lay {w : World} {g : Nat} {s : Disk.St} {own : Nat → Nat} {gp cap : Nat} {gu : Nat} {mv : Value} {xs : List Value} {ws : List Nat} (R : DiskRep w g s own (.slice (some ⟨gp, 0, none⟩) s.pages.length cap) gu mv xs ws) {n : Nat} (hn : n < s.pages.length) :
    Laid w ((w.setCell ⟨gp, n, none⟩ (.slice (some ⟨w.heap.size, 0, none⟩) s.page s.page)).alloc (.cells (madeCells #[.int .u8 0] s.page) 5)).drew g s own (upd own w.heap.size (11 + 2 * n)) (.slice (some ⟨gp, 0, none⟩) s.pages.length cap) gu mv (xs.set n (.slice (some ⟨w.heap.size, 0, none⟩) s.page s.page)) ws n := by
  have hgp : own gp = 2 := R.pages.mark gp rfl
  have hxl := R.pages.length
  obtain ⟨hst, hgr⟩ := R.pages.row.stored n (.slice (some ⟨w.heap.size, 0, none⟩) s.page s.page)
  have hgl := heap_lt R.blk
  have hk : ∀ b, b < w.heap.size → own b ≠ 2 → ((w.setCell ⟨gp, n, none⟩ (.slice (some ⟨w.heap.size, 0, none⟩) s.page s.page)).alloc (.cells (madeCells #[.int .u8 0] s.page) 5)).drew.heap[b]? = w.heap[b]? ∧ upd own w.heap.size (11 + 2 * n) b = own b := by
    intro b hb h2
    refine ⟨?_, upd_other _ _ (by omega)⟩
    show ((w.setCell ⟨gp, n, none⟩ _).alloc _).heap[b]? = _
    rw [Below.heap_alloc _ _ _ (by simpa [World.setCell] using hb)]
    exact Below.heap_setCell _ _ _ _ (fun e => h2 (by rw [e]; exact hgp))
  have hsz : (w.setCell ⟨gp, n, none⟩ (.slice (some ⟨w.heap.size, 0, none⟩) s.page s.page)).heap.size = w.heap.size := by simp [World.setCell]
  refine ⟨R.blk.same (hk g hgl (by rw [R.mark]; decide)).1, ?_, ?_, R.used.keep fun b hb hr => hk b hb (by omega), R.plan.keep fun b hb hr => hk b hb (by unfold isPlan at hr; omega), ?_, fun b hb => upd_other _ _ (by omega), ?_⟩
  · rw [upd_other _ _ (by omega)]; exact R.mark
  · refine ⟨?_, fun b hb => ?_, fun i hi => ?_⟩
    · have e : (Disk.put s.pages n (some (List.replicate s.page 0))).length = s.pages.length := by
        unfold Disk.put; rw [if_neg (by omega)]; simp
      rw [e]
      exact (hst.alloc _)
    · have : b = gp := by simpa [Value.ownBlock] using hb.symm
      subst this
      rw [upd_other _ _ (by have := (R.pages.row.lt b rfl).2; omega)]; exact hgp
    · have e : Disk.put s.pages n (some (List.replicate s.page 0)) = s.pages.set n (some (List.replicate s.page 0)) := by unfold Disk.put; rw [if_neg (by omega)]
      rw [e] at hi ⊢
      rw [List.length_set] at hi
      simp only [List.getD_eq_getElem?_getD, List.getElem?_set, hxl]
      by_cases hin : n = i
      · subst hin
        simp only [if_true, if_pos hn, Option.getD_some]
        refine ⟨w.heap.size, rfl, upd_same _ _ _, ?_, by simp, mem_replicate_oct _⟩
        have := Row.made (w := w.setCell ⟨gp, n, none⟩ (.slice (some ⟨w.heap.size, 0, none⟩) s.page s.page)) s.page
        rw [hsz] at this
        exact this
      · rw [if_neg hin, if_neg hin]
        have := R.pages.at_ i hi
        simp only [List.getD_eq_getElem?_getD] at this
        exact this.keep fun b hb hr => hk b hb (by omega)
  · refine ⟨rfl, rfl, rfl, ?_, fun b hb h0 => (hk b hb (by rw [h0]; decide)).1⟩
    show w.heap.size ≤ ((w.setCell ⟨gp, n, none⟩ _).alloc _).heap.size
    simp [World.setCell]
  · intro b hb
    have hb' : w.heap.size + 1 ≤ b := by
      have : (((w.setCell ⟨gp, n, none⟩ (.slice (some ⟨w.heap.size, 0, none⟩) s.page s.page)).alloc (.cells (madeCells #[.int .u8 0] s.page) 5)).drew).heap.size = w.heap.size + 1 := by
        show ((w.setCell ⟨gp, n, none⟩ _).alloc _).heap.size = _
        simp [World.setCell]
      omega
    rw [upd_other _ _ (by omega)]
    exact R.fresh b (by omega)
theorem Laid.finish {w w' : World} {g : Nat} {s : Disk.St} {own own' : Nat → Nat} {pv : Value} {gu : Nat} {mv : Value} {xs : List Value} {ws : List Nat} {n : Nat} (L : Laid w w' g s own own' pv gu mv xs ws n)
    (hn : n ≤ s.pages.length) (hm : n < s.most) (hu : Disk.used s.pages n = false) (h1 : pageOk s.page = true) (h2 : s.pages.length ≤ s.most) (h3 : s.most ≤ 16384) (h4 : s.begun ≤ s.ops) (h5 : s.writes ≤ s.ops) :
    DiskAt (((w'.setCell ⟨gu, n / 64, none⟩ (.int .u64 ((ws.getD (n / 64) 0 ||| 2 ^ (n % 64) : Nat) : Int))).setCell ⟨g, 4, none⟩ (.int .i64 ((Disk.live s.pages + 1 : Nat) : Int))).drew) g { s with pages := Disk.put s.pages n (some (List.replicate s.page 0)) } own'
    ∧ Only own w (((w'.setCell ⟨gu, n / 64, none⟩ (.int .u64 ((ws.getD (n / 64) 0 ||| 2 ^ (n % 64) : Nat) : Int))).setCell ⟨g, 4, none⟩ (.int .i64 ((Disk.live s.pages + 1 : Nat) : Int))).drew) := by
  have hgu := L.used.mark
  have hg := L.mark
  have hne : g ≠ gu := fun e => by rw [e, hgu] at hg; cases hg
  have hgl := heap_lt L.blk
  have hgul := heap_lt L.used.row
  have hk : ∀ b, own' b ≠ 1 → own' b ≠ 3 → ((w'.setCell ⟨gu, n / 64, none⟩ (.int .u64 ((ws.getD (n / 64) 0 ||| 2 ^ (n % 64) : Nat) : Int))).setCell ⟨g, 4, none⟩ (.int .i64 ((Disk.live s.pages + 1 : Nat) : Int))).drew.heap[b]? = w'.heap[b]? := by
    intro b b1 b3
    show ((w'.setCell ⟨gu, n / 64, none⟩ _).setCell ⟨g, 4, none⟩ _).heap[b]? = _
    rw [Below.heap_setCell _ _ _ _ (fun e => b1 (by rw [e]; exact hg)), Below.heap_setCell _ _ _ _ (fun e => b3 (by rw [e]; exact hgu))]
  have hz : ((w'.setCell ⟨gu, n / 64, none⟩ (.int .u64 ((ws.getD (n / 64) 0 ||| 2 ^ (n % 64) : Nat) : Int))).setCell ⟨g, 4, none⟩ (.int .i64 ((Disk.live s.pages + 1 : Nat) : Int))).drew.heap.size = w'.heap.size := by
    show ((w'.setCell ⟨gu, n / 64, none⟩ _).setCell ⟨g, 4, none⟩ _).heap.size = _
    simp [World.setCell]
  refine ⟨⟨pv, gu, mv, xs, ws.set (n / 64) (ws.getD (n / 64) 0 ||| 2 ^ (n % 64)), ?_, hg, L.pages.keep fun b hb hr => ⟨hk b (by unfold isPage at hr; omega) (by unfold isPage at hr; omega), rfl⟩, ⟨hgu, ?_, ?_⟩, L.plan.keep fun b hb hr => ⟨hk b (by unfold isPlan at hr; omega) (by unfold isPlan at hr; omega), rfl⟩, h1, Disk.length_put _ hm h2, h3, h4, h5, fun b hb => L.fresh b (by omega)⟩, ?_⟩
  · have hb := (L.blk.same (w' := w'.setCell ⟨gu, n / 64, none⟩ (.int .u64 ((ws.getD (n / 64) 0 ||| 2 ^ (n % 64) : Nat) : Int))) (Below.heap_setCell _ _ _ _ hne)).s4 (Disk.live s.pages + 1)
    rw [← Disk.live_put_new hn hu (List.replicate s.page 0)] at hb ⊢
    exact hb
  · show ((w'.setCell ⟨gu, n / 64, none⟩ _).setCell ⟨g, 4, none⟩ _).heap[gu]? = _
    rw [Below.heap_setCell _ _ _ _ (fun e => hne e.symm)]
    exact words_set L.used.row _ _
  · exact L.used.words.set n hn (by omega) _
  · have hO : Only own' w' ((w'.setCell ⟨gu, n / 64, none⟩ (.int .u64 ((ws.getD (n / 64) 0 ||| 2 ^ (n % 64) : Nat) : Int))).setCell ⟨g, 4, none⟩ (.int .i64 ((Disk.live s.pages + 1 : Nat) : Int))).drew :=
      ((((Only.refl _ _).setCell (.inl (by show own' gu ≠ 0; rw [hgu]; decide)) _).setCell (.inl (by show own' g ≠ 0; rw [hg]; decide)) _).drew)
    exact L.only.trans' hO fun i hi h0 => by rw [L.same i hi]; exact h0
theorem Lies.block {w w' : World} {v v' : Value} (h : Lies w w' v v') {b : Nat} (hb : b < w.heap.size) (hne : v.ownBlock ≠ some b) : w'.heap[b]? = w.heap[b]? := by
  rcases h with ⟨_, h⟩ | ⟨_, h⟩
  · exact h.block b hb (fun e => hne e.symm)
  · exact h.block b hb (by simp)
theorem DiskRep.grow {w w' : World} {g : Nat} {s : Disk.St} {own : Nat → Nat} {pv v' : Value} {gu : Nat} {mv : Value} {xs : List Value} {ws : List Nat} {o : Obj} (R : DiskRep w g s own pv gu mv xs ws) (hm : s.pages.length < s.most)
    (hrow : w'.ownsRow 0 29 1 v' (s.pages.length + 1) (xs ++ [.slice none 0 0])) (hl : Lies (w.alloc o) w' pv v') :
    ∃ own1, DiskRep (w'.setCell ⟨g, 2, none⟩ v') g (more s) own1 v' gu mv (xs ++ [.slice none 0 0]) ws ∧ Only own w (w'.setCell ⟨g, 2, none⟩ v') ∧ ∀ b, b < w.heap.size → own1 b = own b := by
  have hxl := R.pages.length
  have hg1 := R.mark
  have hgl := heap_lt R.blk
  have hzz : (w'.setCell ⟨g, 2, none⟩ v').heap.size = w'.heap.size := by simp [World.setCell]
  -- what is not the row's block, nor g, is as it was
  have hw' : ∀ b, b < w.heap.size → own b ≠ 2 → w'.heap[b]? = w.heap[b]? := by
    intro b hb h2
    rcases hl with ⟨_, hgr⟩ | ⟨_, hgr⟩
    · rw [hgr.block b (by simp; omega) (fun e => h2 (R.pages.mark b e.symm))]
      exact Below.heap_alloc w o b hb
    · rw [hgr.block b (by simp; omega) (by simp)]
      exact Below.heap_alloc w o b hb
  have hk : ∀ b, b < w.heap.size → own b ≠ 2 → own b ≠ 1 → (w'.setCell ⟨g, 2, none⟩ v').heap[b]? = w.heap[b]? := fun b hb h2 h1 => by
    rw [Below.heap_setCell _ _ _ _ (fun e => h1 (by rw [e]; exact hg1))]
    exact hw' b hb h2
  have hsz : w.heap.size + 1 ≤ w'.heap.size := by
    rcases hl with ⟨_, hgr⟩ | ⟨_, hgr⟩ <;> (have := hgr.size; simpa using this)
  obtain ⟨own1, ho1, ho2, ho3⟩ : ∃ own1 : Nat → Nat, (∀ b, b < w.heap.size → own1 b = own b) ∧ (∀ b, v'.ownBlock = some b → own1 b = 2) ∧ ∀ b, w'.heap.size ≤ b → own1 b = 0 := by
    rcases hl with ⟨he, hgr⟩ | ⟨he, hgr⟩
    · exact ⟨own, fun _ _ => rfl, fun b hb => R.pages.mark b (by rw [← he]; exact hb), fun b hb => R.fresh b (by omega)⟩
    · have hlt := (hrow.lt _ he).2
      refine ⟨upd own (w.alloc o).heap.size 2, fun b hb => upd_other _ _ (by simp; omega), fun b hb => ?_, fun b hb => ?_⟩
      · rw [he] at hb
        simp only [Option.some.injEq] at hb
        rw [← hb]
        exact upd_same _ _ _
      · rw [upd_other _ _ (by omega)]
        exact R.fresh b (by omega)
  have hgv : ∀ b, v'.ownBlock = some b → b ≠ g := fun b hb e => by
    have h2 := ho2 b hb
    rw [e, ho1 g hgl, hg1] at h2
    cases h2
  refine ⟨own1, ⟨?_, (ho1 g hgl).trans hg1, ⟨?_, ho2, ?_⟩, ?_, R.plan.keep fun b hb hr => ⟨hk b hb (by unfold isPlan at hr; omega) (by unfold isPlan at hr; omega), ho1 b hb⟩, R.page, ?_, R.top, R.since, R.few, fun b hb => ho3 b (by omega)⟩, ?_, ho1⟩
  · have hb := (R.blk.same (hw' g hgl (by rw [hg1]; decide))).s2 v'
    show DBlk _ g s.page s.most v' _ (Disk.live (s.pages ++ [none])) _ _ _ _
    rw [live_more]
    exact hb
  · show World.ownsRow _ 0 _ 1 v' (s.pages ++ [none]).length _
    rw [List.length_append, List.length_singleton]
    exact ownsRow_keep hrow fun b hb => Below.heap_setCell _ _ _ _ (hgv b hb)
  · intro i hi
    have hi' : i < s.pages.length + 1 := by
      have : i < (s.pages ++ [none]).length := hi
      simpa using this
    show PageAt _ own1 s.page i ((xs ++ [Value.slice none 0 0]).getD i undef) ((s.pages ++ [none]).getD i none)
    simp only [List.getD_eq_getElem?_getD]
    rcases Nat.lt_or_ge i s.pages.length with h | h
    · rw [List.getElem?_append_left h, List.getElem?_append_left (by omega)]
      have := R.pages.at_ i h
      simp only [List.getD_eq_getElem?_getD] at this
      exact this.keep fun b hb hr => ⟨hk b hb (by omega) (by omega), ho1 b hb⟩
    · have e : i = s.pages.length := by omega
      subst e
      rw [List.getElem?_append_right (Nat.le_refl _), List.getElem?_append_right (by omega), hxl]
      simp [PageAt]
  · have hu := R.used.keep (w' := w'.setCell ⟨g, 2, none⟩ v') (own' := own1) fun b hb hr => ⟨hk b hb (by omega) (by omega), ho1 b hb⟩
    exact ⟨hu.mark, hu.row, words_more hu.words⟩
  · show (s.pages ++ [none]).length ≤ s.most
    simp; omega
  · refine ⟨?_, ?_, ?_, by omega, fun b hb h0 => hk b hb (by omega) (by omega)⟩
    · rcases hl with ⟨_, hgr⟩ | ⟨_, hgr⟩ <;> exact hgr.os
    · rcases hl with ⟨_, hgr⟩ | ⟨_, hgr⟩ <;> exact hgr.tape
    · rcases hl with ⟨_, hgr⟩ | ⟨_, hgr⟩ <;> exact hgr.output
set_option maxRecDepth 100000 in
set_option maxHeartbeats 1000000 in
theorem alloc_full (g : Nat) (s : Disk.St) (own : Nat → Nat) (w : World) (h : DiskAt w g s own) (ho : s.ops < 4611686018427387904) (M : Nat) (hEM : Disk.hit 1 (s.plan (s.ops + 1 - s.begun)) = (0, M)) (hf : Disk.live s.pages = s.most) :
    Calls Tryd.prog 7 #[.pointer (some ⟨g, 0, none⟩)] w fun e w' => e = .returned (.tuple #[.int .i64 0, .int .i64 17]) ∧ DiskAt w' g (tick s) own ∧ Only own w w' := by
  have d : (((Disk.live s.pages : Nat) : Int) == (s.most : Int)) = true := by rw [hf]; simp
  clear hf
  have C := begin_core g s own 1 w h ho _ rfl 0 M hEM
  rw [show ((1 : Nat) : Int) = 1 from rfl, show ((0 : Nat) : Int) = 0 from rfl] at C
  have HC := Lib.hid C
  clear C h hEM
  go_enter Tryd.func7, Tryd.ntmps7
  go_wp2_with fail
  refine HC.out.mono ?_
  rintro e w1 ⟨rfl, hD, hO⟩
  have HD := Lib.hid hD
  have HO := Lib.hid hO
  clear hD hO
  go_wp2_with fail
  have hD2 := HD.out.below (below_alloc w1 (opRow 1 0 M))
  have hO2 := HO.out.alloc (opRow 1 0 M)
  unfold opRow at hD2 hO2
  rw [show ((1 : Nat) : Int) = 1 from rfl, show ((0 : Nat) : Int) = 0 from rfl] at hD2 hO2
  obtain ⟨w2, hw2⟩ : ∃ w2, w2 = w1.alloc (.cells #[.int .i64 1, .int .i64 0, .int .u8 (M : Int)] 60) := ⟨_, rfl⟩
  rw [← hw2] at hD2 hO2 ⊢
  have HD2 := Lib.hid hD2
  have HO2 := Lib.hid hO2
  obtain ⟨pv, gu, mv, xs, ws, R⟩ := hD2
  have c4 : w2.cell? ⟨g, 4, none⟩ = some (.int .i64 (Disk.live s.pages : Nat)) := R.blk.c4
  have c1 : w2.cell? ⟨g, 1, none⟩ = some (.int .i64 (s.most : Int)) := R.blk.c1
  clear hO2 hw2 R
  generalize Disk.live s.pages = lv at *
  generalize s.most = mo at *
  go_quiet (fail)
  go_wp2_with fail
  go_ret2
  exact ⟨rfl, HD2.out.drewN _, HO2.out.drewN _⟩
set_option maxRecDepth 100000 in
set_option maxHeartbeats 4000000 in
theorem alloc_fill (g : Nat) (s : Disk.St) (own : Nat → Nat) (w : World) (h : DiskAt w g s own) (ho : s.ops < 4611686018427387904) (hT : Bruijn w) (hT0 : own 0 = 0) (M : Nat) (hEM : Disk.hit 1 (s.plan (s.ops + 1 - s.begun)) = (0, M)) (hf : Disk.live s.pages < s.most) (n : Nat) (hn : Disk.leastFree s.pages = n) (hnl : n < s.pages.length) :
    Calls Tryd.prog 7 #[.pointer (some ⟨g, 0, none⟩)] w fun e w' => e = .returned (.tuple #[.int .i64 (n : Int), .int .i64 0]) ∧ ∃ own', DiskAt w' g { tick s with pages := Disk.put s.pages n (some (List.replicate s.page 0)) } own' ∧ Only own w w' ∧ ∀ b, b < w.heap.size → own' b = own b := by
  have d : (((Disk.live s.pages : Nat) : Int) == (s.most : Int)) = false := by rw [beq_eq_false_iff_ne]; omega
  have HF := Lib.hid hf
  have HN := Lib.hid hn
  have HNL := Lib.hid hnl
  have HT := Lib.hid hT
  have HT0 := Lib.hid hT0
  clear hf hn hnl hT hT0
  have C := begin_core g s own 1 w h ho _ rfl 0 M hEM
  rw [show ((1 : Nat) : Int) = 1 from rfl, show ((0 : Nat) : Int) = 0 from rfl] at C
  have HC := Lib.hid C
  clear C h hEM
  go_enter Tryd.func7, Tryd.ntmps7
  go_wp2_with fail
  refine HC.out.mono ?_
  rintro e w1 ⟨rfl, hD, hO⟩
  have HD := Lib.hid hD
  have HO := Lib.hid hO
  clear hD hO
  go_wp2_with fail
  have hD2 := HD.out.below (below_alloc w1 (opRow 1 0 M))
  have hO2 := HO.out.alloc (opRow 1 0 M)
  unfold opRow at hD2 hO2
  rw [show ((1 : Nat) : Int) = 1 from rfl, show ((0 : Nat) : Int) = 0 from rfl] at hD2 hO2
  obtain ⟨w2, hw2⟩ : ∃ w2, w2 = w1.alloc (.cells #[.int .i64 1, .int .i64 0, .int .u8 (M : Int)] 60) := ⟨_, rfl⟩
  rw [← hw2] at hD2 hO2 ⊢
  have HD2 := Lib.hid hD2
  have HO2 := Lib.hid hO2
  obtain ⟨pv, gu, mv, xs, ws, R⟩ := hD2
  have c4 : w2.cell? ⟨g, 4, none⟩ = some (.int .i64 (Disk.live s.pages : Nat)) := R.blk.c4
  have c1 : w2.cell? ⟨g, 1, none⟩ = some (.int .i64 (s.most : Int)) := R.blk.c1
  clear hO2 hw2 R
  generalize hlv : Disk.live s.pages = lv at c4 d
  generalize hmo : s.most = mo at c1 d
  have HLV := Lib.hid hlv
  have HMO := Lib.hid hmo
  clear hlv hmo
  go_quiet (fail)
  obtain ⟨w3, hw3⟩ : ∃ w3, w3 = w2.drewN nq := ⟨_, rfl⟩
  have hD3 : DiskAt w3 g (tick s) own := by rw [hw3]; exact HD2.out.drewN nq
  have hO3 : Only own w w3 := by rw [hw3]; exact HO2.out.drewN nq
  rw [← hw3]
  clear hw3 c4 c1
  have HD3 := Lib.hid hD3
  have HO3 := Lib.hid hO3
  clear hD3 hO3
  go_wp2_with fail
  refine (least_any g (tick s) own w3 HD3.out HF.out (HT.out.only HO3.out HT0.out)).mono ?_
  rintro e w' ⟨rfl, rfl⟩
  rw [show (tick s).pages = s.pages from rfl, HN.out]
  obtain ⟨pv, gu, mv, xs, ws, R⟩ := HD3.out
  obtain ⟨a, cap, hpv, hnc, hcm, hxl, hrow⟩ := row_form R.pages.row
  obtain ⟨gp, ha, hob, hcells, hfr⟩ := hrow (Nat.lt_of_le_of_lt (Nat.zero_le _) HNL.out)
  subst ha
  subst hpv
  have c2 : w3.cell? ⟨g, 2, none⟩ = some (.slice (some ⟨gp, 0, none⟩) s.pages.length cap) := R.blk.c2
  have c0 : w3.cell? ⟨g, 0, none⟩ = some (.int .i64 (s.page : Int)) := R.blk.c0
  have dn : ((n : Int) == (s.pages.length : Int)) = false := by rw [beq_eq_false_iff_ne]; have := HNL.out; omega
  have hcn := hcells n HNL.out
  have hfn := hfr n
  have hpg : 64 ≤ s.page ∧ s.page ≤ 4096 := pageOk_bounds R.page
  have hmk := run_makeBytes s.page hpg.2
  have dn2 : (n : Int) < (s.pages.length : Int) := by have := HNL.out; omega
  have dn3 : (0 : Int) ≤ (n : Int) := by omega
  have HR := Lib.hid R
  have HXL := Lib.hid hxl
  have HOB := Lib.hid hob
  clear R hrow hcells hfr hxl hob
  have hgl : g < w3.heap.size := heap_lt HR.out.blk
  have hgpl : gp < w3.heap.size := World.block_lt_of_cell? w3 _ hcn
  have e2 : (w3.alloc (.cells (madeCells #[.int .u8 0] s.page) 5)).cell? ⟨g, 2, none⟩ = some (.slice (some ⟨gp, 0, none⟩) s.pages.length cap) := by rw [World.cell?_of_block (Below.heap_alloc w3 _ _ hgl)]; exact c2
  have en : (w3.alloc (.cells (madeCells #[.int .u8 0] s.page) 5)).cell? ⟨gp, n, none⟩ = some (xs.getD n undef) := by rw [World.cell?_of_block (Below.heap_alloc w3 _ _ hgpl)]; exact hcn
  have fn : (w3.alloc (.cells (madeCells #[.int .u8 0] s.page) 5)).frozen? ⟨gp, n, none⟩ = false := by rw [World.frozen?_of_block (Below.heap_alloc w3 _ _ hgpl)]; exact hfn
  generalize hm : s.pages.length = m at c2 hnc dn dn2 e2
  have HM := Lib.hid hm
  clear hm
  go_wp2_with fail
  go_region
  obtain ⟨w6, hw6⟩ : ∃ w6, w6 = ((w3.setCell ⟨gp, n, none⟩ (.slice (some ⟨w3.heap.size, 0, none⟩) s.page s.page)).alloc (.cells (madeCells #[.int .u8 0] s.page) 5)).drew := ⟨_, rfl⟩
  have hL : Laid w3 w6 g (tick s) own (upd own w3.heap.size (11 + 2 * n)) (.slice (some ⟨gp, 0, none⟩) s.pages.length cap) gu mv (xs.set n (.slice (some ⟨w3.heap.size, 0, none⟩) s.page s.page)) ws n := by rw [hw6]; exact HR.out.lay HNL.out
  rw [← hw6]
  clear hw6 c2 c0 hcn hfn hmk e2 en fn dn2
  generalize upd own w3.heap.size (11 + 2 * n) = own' at hL
  generalize xs.set n (.slice (some ⟨w3.heap.size, 0, none⟩) s.page s.page) = xs' at hL
  obtain ⟨nw, hnw⟩ : ∃ nw, nw = (s.most + 63) / 64 := ⟨_, rfl⟩
  have k3 : w6.cell? ⟨g, 3, none⟩ = some (.slice (some ⟨gu, 0, none⟩) nw nw) := by rw [hnw]; exact hL.blk.c3
  have htop : s.most ≤ 16384 := HR.out.top
  have hnm : n < s.most := by rw [← HN.out]; exact Disk.leastFree_lt HF.out
  obtain ⟨q, hq⟩ : ∃ q, q = n / 64 := ⟨_, rfl⟩
  obtain ⟨r, hr⟩ : ∃ r, r = n % 64 := ⟨_, rfl⟩
  have hnw2 : q < nw := by omega
  have hU : UsedAt w6 own' gu nw s.pages ws := by rw [hnw]; exact hL.used
  have hwc := hU.cell hnw2
  have hwf := hU.frozen q
  have hwlt := hU.words.lt q
  have hw1 : IntKind.i64.wrap ((n : Int) / 64) = (q : Int) := by rw [IntKind.wrap_i64]; omega
  have hw2 : ((n : Int)).tmod 64 = (r : Int) := by rw [Int.tmod_eq_emod_of_nonneg (by omega)]; omega
  have hd1 : (0 : Int) ≤ (q : Int) := by omega
  have hd2 : (q : Int) < (nw : Int) := by omega
  have hd3 : (0 : Int) ≤ (r : Int) := by omega
  have hr64 : r < 64 := by omega
  have HQ := Lib.hid hq
  have HRR := Lib.hid hr
  clear hq hr
  have hgu3 := hU.mark
  have hg1 := hL.mark
  have hne : g ≠ gu := fun e => by rw [e, hgu3] at hg1; cases hg1
  have k4 : w6.cell? ⟨g, 4, none⟩ = some (.int .i64 (lv : Int)) := by rw [← HLV.out]; exact hL.blk.c4
  have f4 := hL.blk.fr 4
  obtain ⟨nv, hnv⟩ : ∃ nv, nv = ws.getD q 0 ||| 2 ^ r := ⟨_, rfl⟩
  have hor : bits .or .u64 ((ws.getD q 0 : Nat) : Int) (IntKind.u64.wrap (2 ^ r)) = (nv : Int) := by
    rw [wrap_pow r hr64, bits_or_u64_nat _ _ hwlt (pow_lt64 r hr64), hnv]
  have e4 : (w6.setCell ⟨gu, q, none⟩ (.int .u64 (nv : Int))).cell? ⟨g, 4, none⟩ = some (.int .i64 (lv : Int)) := by rw [World.cell?_of_block (Below.heap_setCell _ _ _ _ hne)]; exact k4
  have z4 : (w6.setCell ⟨gu, q, none⟩ (.int .u64 (nv : Int))).frozen? ⟨g, 4, none⟩ = false := by rw [World.frozen?_of_block (Below.heap_setCell _ _ _ _ hne)]; exact f4
  have hlv16 : lv ≤ 16384 := by have := Disk.live_le s.pages; have h2 : s.pages.length ≤ s.most := HD3.out.most_le; rw [HLV.out] at this; omega
  have HFin := hL.finish (Nat.le_of_lt HNL.out) hnm (by rw [← HN.out]; exact Disk.leastFree_not _) HR.out.page HR.out.most HR.out.top HR.out.since HR.out.few
  rw [show Disk.live (tick s).pages = lv from HLV.out, ← HRR.out, ← HQ.out, ← hnv, show ((lv + 1 : Nat) : Int) = (lv : Int) + 1 by omega] at HFin
  have HFIN := Lib.hid HFin
  have HL := Lib.hid hL
  have HU := Lib.hid hU
  have HNW := Lib.hid hnw
  have HNV := Lib.hid hnv
  clear hne hgu3 hg1 k4 f4 HFin hnv
  clear hL hU hnw
  generalize hwd : ws.getD q 0 = wd at *
  have HWD := Lib.hid hwd
  clear hwd
  go_wp2_with fail
  refine wp_region_still_tail 13 (by kernel_rfl) (by kernel_rfl) ?_
  simp only [List.take_succ_cons, List.take_zero, List.drop_succ_cons, List.drop_zero]
  iterate 13 still_step
  refine wpStill_nil ?_
  change wpList _ _ _ _ _ w6.drew
  go_wp2_with fail
  go_ret2
  refine ⟨rfl, own', HFIN.out.1, HO3.out.trans HFIN.out.2, fun b hb => HL.out.same b (Nat.lt_of_lt_of_le hb HO3.out.size)⟩
set_option maxRecDepth 100000 in
set_option maxHeartbeats 4000000 in
theorem alloc_grow (g : Nat) (s : Disk.St) (own : Nat → Nat) (w : World) (h : DiskAt w g s own) (ho : s.ops < 4611686018427387904) (hT : Bruijn w) (hT0 : own 0 = 0) (M : Nat) (hEM : Disk.hit 1 (s.plan (s.ops + 1 - s.begun)) = (0, M)) (hf : Disk.live s.pages < s.most) (n : Nat) (hn : Disk.leastFree s.pages = n) (hnl : n = s.pages.length) :
    Calls Tryd.prog 7 #[.pointer (some ⟨g, 0, none⟩)] w fun e w' => e = .returned (.tuple #[.int .i64 (n : Int), .int .i64 0]) ∧ ∃ own', DiskAt w' g { tick s with pages := Disk.put s.pages n (some (List.replicate s.page 0)) } own' ∧ Only own w w' ∧ ∀ b, b < w.heap.size → own' b = own b := by
  have d : (((Disk.live s.pages : Nat) : Int) == (s.most : Int)) = false := by rw [beq_eq_false_iff_ne]; omega
  have HF := Lib.hid hf
  have HN := Lib.hid hn
  have HNL := Lib.hid hnl
  have HT := Lib.hid hT
  have HT0 := Lib.hid hT0
  clear hf hn hnl hT hT0
  have C := begin_core g s own 1 w h ho _ rfl 0 M hEM
  rw [show ((1 : Nat) : Int) = 1 from rfl, show ((0 : Nat) : Int) = 0 from rfl] at C
  have HC := Lib.hid C
  clear C h hEM
  go_enter Tryd.func7, Tryd.ntmps7
  go_wp2_with fail
  refine HC.out.mono ?_
  rintro e w1 ⟨rfl, hD, hO⟩
  have HD := Lib.hid hD
  have HO := Lib.hid hO
  clear hD hO
  go_wp2_with fail
  have hD2 := HD.out.below (below_alloc w1 (opRow 1 0 M))
  have hO2 := HO.out.alloc (opRow 1 0 M)
  unfold opRow at hD2 hO2
  rw [show ((1 : Nat) : Int) = 1 from rfl, show ((0 : Nat) : Int) = 0 from rfl] at hD2 hO2
  obtain ⟨w2, hw2⟩ : ∃ w2, w2 = w1.alloc (.cells #[.int .i64 1, .int .i64 0, .int .u8 (M : Int)] 60) := ⟨_, rfl⟩
  rw [← hw2] at hD2 hO2 ⊢
  have HD2 := Lib.hid hD2
  have HO2 := Lib.hid hO2
  obtain ⟨pv, gu, mv, xs, ws, R⟩ := hD2
  have c4 : w2.cell? ⟨g, 4, none⟩ = some (.int .i64 (Disk.live s.pages : Nat)) := R.blk.c4
  have c1 : w2.cell? ⟨g, 1, none⟩ = some (.int .i64 (s.most : Int)) := R.blk.c1
  clear hO2 hw2 R
  generalize hlv : Disk.live s.pages = lv at c4 d
  generalize hmo : s.most = mo at c1 d
  have HLV := Lib.hid hlv
  have HMO := Lib.hid hmo
  clear hlv hmo
  go_quiet (fail)
  obtain ⟨w3, hw3⟩ : ∃ w3, w3 = w2.drewN nq := ⟨_, rfl⟩
  have hD3 : DiskAt w3 g (tick s) own := by rw [hw3]; exact HD2.out.drewN nq
  have hO3 : Only own w w3 := by rw [hw3]; exact HO2.out.drewN nq
  rw [← hw3]
  clear hw3 c4 c1
  have HD3 := Lib.hid hD3
  have HO3 := Lib.hid hO3
  clear hD3 hO3
  go_wp2_with fail
  refine (least_any g (tick s) own w3 HD3.out HF.out (HT.out.only HO3.out HT0.out)).mono ?_
  rintro e w' ⟨rfl, rfl⟩
  rw [show (tick s).pages = s.pages from rfl, HN.out]
  obtain ⟨pv, gu, mv, xs0, ws, R⟩ := HD3.out
  obtain ⟨a0, cap0, hpv, hnc0, hcm0, hxl0, hrow0⟩ := row_form R.pages.row
  have hnl := HNL.out
  have hpl : (tick s).pages.length = n := hnl.symm
  rw [hpl] at hpv hnc0
  subst hpv
  have c2 : w3.cell? ⟨g, 2, none⟩ = some (.slice a0 n cap0) := R.blk.c2
  have hown := R.pages.row.alloc (.cells #[.slice none 0 0] 29)
  rw [hpl] at hown
  have hnm0 : n < s.most := by rw [← HN.out]; exact Disk.leastFree_lt HF.out
  have htop0 : s.most ≤ 16384 := R.top
  obtain ⟨i0, hi, hz0, hz1, hz2⟩ := info_parts infoRow
  have dn : ((n : Int) == (n : Int)) = true := by simp
  have hgl0 : g < w3.heap.size := heap_lt R.blk
  have hg1 := R.mark
  have hgnot : (Value.slice a0 n cap0).ownBlock ≠ some g := fun e => by
    have := R.pages.mark g e
    rw [hg1] at this; cases this
  have f2 := R.blk.fr 2
  have e2 : (w3.alloc (.cells #[.slice none 0 0] 29)).cell? ⟨g, 2, none⟩ = some (.slice a0 n cap0) := by rw [World.cell?_of_block (Below.heap_alloc w3 _ _ hgl0)]; exact c2
  have z2 : (w3.alloc (.cells #[.slice none 0 0] 29)).frozen? ⟨g, 2, none⟩ = false := by rw [World.frozen?_of_block (Below.heap_alloc w3 _ _ hgl0)]; exact f2
  have hnew : (w3.alloc (.cells #[.slice none 0 0] 29)).cell? ⟨w3.heap.size, 0, none⟩ = some (.slice none 0 0) := by
    rw [cell_of_row _ _ 0 _ _ _ (heap_alloc_new w3 _)]; rfl
  have HR0 := Lib.hid R
  have HOWN := Lib.hid hown
  have HNEW := Lib.hid hnew
  have HPL := Lib.hid hpl
  have HGN := Lib.hid hgnot
  clear R hrow0 hown hnew hnl hpl hxl0 hgnot
  go_wp2_with (at_builtin; refine wpList_append_or _ rfl (.tmp 37) (.tmp 38) 41 rfl 29 i0 (.slice none 0 0) 24 Tryd.underlying41 hi hz0 hz1 hz2 rfl _ n xs0 rfl HOWN.out ⟨w3.heap.size, 0, none⟩ 1 1 [.slice none 0 0] rfl rfl (by decide) ?c1 ?c2 ?c3 ?c4 ?_)
  case c1 =>
    intro j u hj
    cases j with
    | zero => simp at hj; subst hj; exact HNEW.out
    | succ j => simp at hj
  case c2 => intro u hu; simp at hu; subst hu; rfl
  case c3 => unfold maxLen; omega
  case c4 => omega
  intro v4 w4 hrow4 hl4
  obtain ⟨a4, cap4, hv4, _, _, _, _⟩ := row_form hrow4
  subst hv4
  have hg4 : w4.heap[g]? = (w3.alloc (.cells #[.slice none 0 0] 29)).heap[g]? := hl4.block (by simp; omega) HGN.out
  have e24 : w4.cell? ⟨g, 2, none⟩ = some (.slice a0 n cap0) := by rw [World.cell?_of_block hg4]; exact e2
  have z24 : w4.frozen? ⟨g, 2, none⟩ = false := by rw [World.frozen?_of_block hg4]; exact z2
  have hrow4' : w4.ownsRow 0 29 1 (.slice a4 (n + 1) cap4) ((tick s).pages.length + 1) (xs0 ++ [.slice none 0 0]) := by rw [HPL.out]; exact hrow4
  obtain ⟨own1, R5, hO5, hs5⟩ := HR0.out.grow (show (tick s).pages.length < (tick s).most by rw [HPL.out]; exact hnm0) hrow4' hl4
  obtain ⟨w5, hw5⟩ : ∃ w5, w5 = w4.setCell ⟨g, 2, none⟩ (.slice a4 (n + 1) cap4) := ⟨_, rfl⟩
  rw [← hw5] at R5 hO5
  have HR5 := Lib.hid R5
  have HO5 := Lib.hid hO5
  have HS5 := Lib.hid hs5
  clear hg4 hrow4 hrow4' hl4 R5 hO5 hs5 e2 z2 c2 f2 hi hz0 hz1 hz2
  have HW5 := Lib.hid hw5
  clear hw5
  go_wp2_with fail
  rw [← HW5.out]
  have R := HR5.out
  have hlen : (more (tick s)).pages.length = n + 1 := by show ((tick s).pages ++ [none]).length = _; rw [List.length_append, HPL.out]; rfl
  obtain ⟨a, cap, hpv, hnc, hcm, hxl, hrow⟩ := row_form R.pages.row
  rw [hlen] at hpv hnc hrow
  simp only [Value.slice.injEq, true_and] at hpv
  obtain ⟨rfl, rfl⟩ := hpv
  obtain ⟨gp, ha, hob, hcells, hfr⟩ := hrow (Nat.succ_pos _)
  subst ha
  have c2 : w5.cell? ⟨g, 2, none⟩ = some (.slice (some ⟨gp, 0, none⟩) (n + 1 : Nat) cap4) := R.blk.c2
  have c0 : w5.cell? ⟨g, 0, none⟩ = some (.int .i64 (s.page : Int)) := R.blk.c0
  have HLEN := Lib.hid hlen
  generalize xs0 ++ [Value.slice none 0 0] = xs at *
  rw [← hlen] at R
  clear dn e24 z24 hlen
  have hcn := hcells n (Nat.lt_succ_self n)
  have hfn := hfr n
  have hpg : 64 ≤ s.page ∧ s.page ≤ 4096 := pageOk_bounds R.page
  have hmk := run_makeBytes s.page hpg.2
  have dn2 : (n : Int) < ((n + 1 : Nat) : Int) := by have := (Nat.lt_succ_self n); omega
  have dn3 : (0 : Int) ≤ (n : Int) := by omega
  have HR := Lib.hid R
  have HXL := Lib.hid hxl
  have HOB := Lib.hid hob
  clear R hrow hcells hfr hxl hob
  have hgl : g < w5.heap.size := heap_lt HR.out.blk
  have hgpl : gp < w5.heap.size := World.block_lt_of_cell? w5 _ hcn
  have e2 : (w5.alloc (.cells (madeCells #[.int .u8 0] s.page) 5)).cell? ⟨g, 2, none⟩ = some (.slice (some ⟨gp, 0, none⟩) (n + 1 : Nat) cap4) := by rw [World.cell?_of_block (Below.heap_alloc w5 _ _ hgl)]; exact c2
  have en : (w5.alloc (.cells (madeCells #[.int .u8 0] s.page) 5)).cell? ⟨gp, n, none⟩ = some (xs.getD n undef) := by rw [World.cell?_of_block (Below.heap_alloc w5 _ _ hgpl)]; exact hcn
  have fn : (w5.alloc (.cells (madeCells #[.int .u8 0] s.page) 5)).frozen? ⟨gp, n, none⟩ = false := by rw [World.frozen?_of_block (Below.heap_alloc w5 _ _ hgpl)]; exact hfn
  go_wp2_with fail
  go_region
  obtain ⟨w6, hw6⟩ : ∃ w6, w6 = ((w5.setCell ⟨gp, n, none⟩ (.slice (some ⟨w5.heap.size, 0, none⟩) s.page s.page)).alloc (.cells (madeCells #[.int .u8 0] s.page) 5)).drew := ⟨_, rfl⟩
  have hL : Laid w5 w6 g (more (tick s)) own1 (upd own1 w5.heap.size (11 + 2 * n)) (.slice (some ⟨gp, 0, none⟩) (more (tick s)).pages.length cap4) gu mv (xs.set n (.slice (some ⟨w5.heap.size, 0, none⟩) s.page s.page)) ws n := by rw [hw6]; exact HR.out.lay (show n < (more (tick s)).pages.length by rw [HLEN.out]; exact Nat.lt_succ_self n)
  rw [← hw6]
  clear hw6 c2 c0 hcn hfn hmk e2 en fn dn2
  generalize upd own1 w5.heap.size (11 + 2 * n) = own' at hL
  generalize xs.set n (.slice (some ⟨w5.heap.size, 0, none⟩) s.page s.page) = xs' at hL
  obtain ⟨nw, hnw⟩ : ∃ nw, nw = (s.most + 63) / 64 := ⟨_, rfl⟩
  have k3 : w6.cell? ⟨g, 3, none⟩ = some (.slice (some ⟨gu, 0, none⟩) nw nw) := by rw [hnw]; exact hL.blk.c3
  have htop : s.most ≤ 16384 := HR.out.top
  have hnm : n < s.most := by rw [← HN.out]; exact Disk.leastFree_lt HF.out
  obtain ⟨q, hq⟩ : ∃ q, q = n / 64 := ⟨_, rfl⟩
  obtain ⟨r, hr⟩ : ∃ r, r = n % 64 := ⟨_, rfl⟩
  have hnw2 : q < nw := by omega
  have hU : UsedAt w6 own' gu nw (s.pages ++ [none]) ws := by rw [hnw]; exact hL.used
  have hwc := hU.cell hnw2
  have hwf := hU.frozen q
  have hwlt := hU.words.lt q
  have hw1 : IntKind.i64.wrap ((n : Int) / 64) = (q : Int) := by rw [IntKind.wrap_i64]; omega
  have hw2 : ((n : Int)).tmod 64 = (r : Int) := by rw [Int.tmod_eq_emod_of_nonneg (by omega)]; omega
  have hd1 : (0 : Int) ≤ (q : Int) := by omega
  have hd2 : (q : Int) < (nw : Int) := by omega
  have hd3 : (0 : Int) ≤ (r : Int) := by omega
  have hr64 : r < 64 := by omega
  have HQ := Lib.hid hq
  have HRR := Lib.hid hr
  clear hq hr
  have hgu3 := hU.mark
  have hg1 := hL.mark
  have hne : g ≠ gu := fun e => by rw [e, hgu3] at hg1; cases hg1
  have k4 : w6.cell? ⟨g, 4, none⟩ = some (.int .i64 (lv : Int)) := by rw [← HLV.out, ← live_more s.pages]; exact hL.blk.c4
  have f4 := hL.blk.fr 4
  obtain ⟨nv, hnv⟩ : ∃ nv, nv = ws.getD q 0 ||| 2 ^ r := ⟨_, rfl⟩
  have hor : bits .or .u64 ((ws.getD q 0 : Nat) : Int) (IntKind.u64.wrap (2 ^ r)) = (nv : Int) := by
    rw [wrap_pow r hr64, bits_or_u64_nat _ _ hwlt (pow_lt64 r hr64), hnv]
  have e4 : (w6.setCell ⟨gu, q, none⟩ (.int .u64 (nv : Int))).cell? ⟨g, 4, none⟩ = some (.int .i64 (lv : Int)) := by rw [World.cell?_of_block (Below.heap_setCell _ _ _ _ hne)]; exact k4
  have z4 : (w6.setCell ⟨gu, q, none⟩ (.int .u64 (nv : Int))).frozen? ⟨g, 4, none⟩ = false := by rw [World.frozen?_of_block (Below.heap_setCell _ _ _ _ hne)]; exact f4
  have hlv16 : lv ≤ 16384 := by have := Disk.live_le s.pages; have h2 : s.pages.length ≤ s.most := HD3.out.most_le; rw [HLV.out] at this; omega
  have HFin := hL.finish (Nat.le_of_lt (show n < (more (tick s)).pages.length by rw [HLEN.out]; exact Nat.lt_succ_self n)) hnm (by show Disk.used (s.pages ++ [none]) n = false; rw [used_more]; rw [← HN.out]; exact Disk.leastFree_not _) HR.out.page HR.out.most HR.out.top HR.out.since HR.out.few
  rw [show Disk.live (more (tick s)).pages = lv from (live_more _).trans HLV.out, ← HRR.out, ← HQ.out, ← hnv, show ((lv + 1 : Nat) : Int) = (lv : Int) + 1 by omega] at HFin
  have HFIN := Lib.hid HFin
  have HL := Lib.hid hL
  have HU := Lib.hid hU
  have HNW := Lib.hid hnw
  have HNV := Lib.hid hnv
  clear hne hgu3 hg1 k4 f4 HFin hnv
  clear hL hU hnw
  generalize hwd : ws.getD q 0 = wd at *
  have HWD := Lib.hid hwd
  clear hwd
  go_wp2_with fail
  refine wp_region_still_tail 13 (by kernel_rfl) (by kernel_rfl) ?_
  simp only [List.take_succ_cons, List.take_zero, List.drop_succ_cons, List.drop_zero]
  iterate 13 still_step
  refine wpStill_nil ?_
  change wpList _ _ _ _ _ w6.drew
  go_wp2_with fail
  go_ret2
  have h35 : Only own w w5 := HO3.out.trans HO5.out
  refine ⟨rfl, own', ?_, h35.trans' HFIN.out.2 fun i hi h0 => by rw [HS5.out i (Nat.lt_of_lt_of_le hi HO3.out.size)]; exact h0, fun b hb => (HL.out.same b (Nat.lt_of_lt_of_le hb h35.size)).trans (HS5.out b (Nat.lt_of_lt_of_le hb HO3.out.size))⟩
  have h := HFIN.out.1
  have e : Disk.put (more (tick s)).pages n (some (List.replicate (more (tick s)).page 0)) = Disk.put s.pages n (some (List.replicate s.page 0)) := by
    rw [HNL.out]; exact put_more _ _
  rw [e] at h
  exact h
end Go.Proofs.YtbkiahnljklhpaaDoor
