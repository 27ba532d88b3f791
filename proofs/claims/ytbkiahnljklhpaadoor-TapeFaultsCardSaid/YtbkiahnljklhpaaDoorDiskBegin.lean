/- THE WALK OF begin: an operation is counted; what is planned for it happens. -/
import Derived.Test.YtbkiahnljklhpaaDoorDiskLeaf
import Derived.Maps.OwnOps
namespace Go.Proofs.YtbkiahnljklhpaaDoor
open Go.RowKit Go.Maps
open Seal
theorem keyInt : Keyed Tryd.prog 3 := int_keyed Tryd.underlying3
theorem zeroFns (w : World) : (zeroValue 66).run Tryd.prog w = .ok (.slice none 0 0) w := by kernel_rfl
theorem key_mk {k : Nat} (hk : k ≤ 9223372036854775807) : keyOf Tryd.prog 3 (.int .i64 (k : Int)) = some (.int .i64 (k : Int)) :=
  keyOf_int_mk Tryd.underlying3 (by
    have h1 : IntKind.i64.min = -9223372036854775808 := rfl
    have h2 : IntKind.i64.max = 9223372036854775807 := rfl
    simp only [Lit.wf, Bool.and_eq_true, decide_eq_true_eq]
    omega)
theorem fns_nil (w : World) (own : Nat → Nat) (k : Nat) : FnsAt w own k nilFns [] := ⟨World.ownsRow_nil _ _ _ _, fun b hb => (by simp [nilFns, Value.ownBlock] at hb), fun x hx => (by simp at hx)⟩
theorem plan_look {w : World} {own : Nat → Nat} {mv : Value} {since : Nat} {plan : Nat → List Nat} (h : PlanAt w own mv since plan) {k : Nat} (hk : since < k) (hb : k ≤ 9223372036854775807) :
    ∃ v, (Instr.lookup 56 mv (.int .i64 (k : Int)) false).run Tryd.prog w = .ok v w ∧ FnsAt w own k v (plan k) := by
  rcases h with ⟨rfl, h2⟩ | ⟨b, n, D, rfl, ho, hmap, hall⟩
  · refine ⟨nilFns, ?_, by rw [h2 k hk]; exact fns_nil _ _ _⟩
    exact Maps.look_nil false keyInt Tryd.underlying56 (zeroFns w) (key_mk hb)
  · obtain ⟨v, hv, hf⟩ := hall k hk
    obtain ⟨v', ps, hrun, hr⟩ := hmap.lookup keyInt Tryd.underlying56 (zeroFns w) (zd := .held nilFns) (zp := []) rfl (key_mk hb)
    rw [hv] at hr
    simp only [asIs, Option.some.injEq, Prod.mk.injEq, DataW.held.injEq] at hr
    obtain ⟨rfl, _⟩ := hr
    exact ⟨v', hrun, hf⟩
theorem plan_drop {w : World} {own : Nat → Nat} {mv : Value} {since : Nat} {plan : Nat → List Nat} (h : PlanAt w own mv since plan) {k : Nat} (hk : since < k) (hb : k ≤ 9223372036854775807) (ty : TypeId) :
    ∃ w', (Builtin.delete_ #[56, 3] ty #[mv, .int .i64 (k : Int)]).run Tryd.prog w = .ok (.tuple #[]) w' ∧ PlanAt w' own mv k plan ∧ Only own w w' ∧ ∀ b, own b ≠ 4 → b < w.heap.size → w'.heap[b]? = w.heap[b]? := by
  have h0 := h.mono (Nat.le_of_lt hk)
  rcases h0 with ⟨rfl, h2⟩ | ⟨b, n, D, rfl, ho, hmap, hall⟩
  · exact ⟨w, Maps.drop_nil keyInt Tryd.underlying56 (key_mk hb) ty, .inl ⟨rfl, h2⟩, Only.refl _ _, fun _ _ _ => rfl⟩
  · obtain ⟨w', hrun, hmap', hturn⟩ := hmap.drop keyInt Tryd.underlying56 (key_mk hb) ty
    have hG := hturn.grown
    have hsame : ∀ x, own x ≠ 4 → x < w.heap.size → w'.heap[x]? = w.heap[x]? := fun x hx hlt => hG.block x hlt (fun e => by simp only [Option.some.injEq] at e; subst e; exact hx ho)
    refine ⟨w', hrun, .inr ⟨b, n, _, rfl, ho, hmap', fun j hj => ?_⟩, Only.of_grown hG (.inl (by rw [ho]; decide)), hsame⟩
    obtain ⟨v, hv, hf⟩ := hall j hj
    refine ⟨v, by rw [atKey_del_other (by simp; omega)]; exact hv, hf.keep fun x hx hr => ⟨hsame x (by rw [hr]; omega) hx, rfl⟩⟩
/-- An operation, as it is handed about: its sort, its error, its mask. -/
def Opn (w : World) (O s e m : Nat) : Prop := w.heap[O]? = some (.cells #[.int .i64 (s : Int), .int .i64 (e : Int), .int .u8 (m : Int)] 60 (0, 0))
section
variable {w w' : World} {O s e m : Nat}
theorem Opn.c0 (h : Opn w O s e m) : w.cell? ⟨O, 0, none⟩ = some (.int .i64 (s : Int)) := by rw [cell_of_row w O 0 _ _ _ h]; rfl
theorem Opn.c1 (h : Opn w O s e m) : w.cell? ⟨O, 1, none⟩ = some (.int .i64 (e : Int)) := by rw [cell_of_row w O 1 _ _ _ h]; rfl
theorem Opn.c2 (h : Opn w O s e m) : w.cell? ⟨O, 2, none⟩ = some (.int .u8 (m : Int)) := by rw [cell_of_row w O 2 _ _ _ h]; rfl
theorem Opn.fr (h : Opn w O s e m) (j : Nat) : w.frozen? ⟨O, j, none⟩ = false := frozen_of_row w O j _ _ h
theorem Opn.s0 (h : Opn w O s e m) (x : Nat) : Opn (w.setCell ⟨O, 0, none⟩ (.int .i64 (x : Int))) O x e m := by unfold Opn; rw [heap_setCell_same w O 0 _ _ _ h]; rfl
theorem Opn.s1 (h : Opn w O s e m) (x : Nat) : Opn (w.setCell ⟨O, 1, none⟩ (.int .i64 (x : Int))) O s x m := by unfold Opn; rw [heap_setCell_same w O 1 _ _ _ h]; rfl
theorem Opn.s2 (h : Opn w O s e m) (x : Nat) : Opn (w.setCell ⟨O, 2, none⟩ (.int .u8 (x : Int))) O s e x := by unfold Opn; rw [heap_setCell_same w O 2 _ _ _ h]; rfl
theorem Opn.same (h : Opn w O s e m) (k : w'.heap[O]? = w.heap[O]?) : Opn w' O s e m := k.trans h
end
theorem drewN_heap (w : World) (n : Nat) : (w.drewN n).heap = w.heap := rfl
theorem Opn.alloc {w : World} {O s e m : Nat} (h : Opn w O s e m) (o : Obj) : Opn (w.alloc o) O s e m := h.same (Below.heap_alloc w o O (heap_lt h))
theorem grown_drewN {u w : World} {r : Option Nat} (h : u.grownBy w r) (n : Nat) : u.grownBy (w.drewN n) r := ⟨h.os, h.tape, h.output, h.size, h.block⟩
theorem grown_cell {u w : World} {g : Nat} (h : u.grownBy w (some g)) (j : Nat) (v : Value) : u.grownBy (w.setCell ⟨g, j, none⟩ v) (some g) :=
  ⟨h.os, h.tape, h.output, by simpa using h.size, fun k hk hne => (heap_setCell_other w ⟨g, j, none⟩ k v (fun e => hne (by simp [e]))).trans (h.block k hk hne)⟩
theorem grown_alloc {u w : World} {r : Option Nat} (h : u.grownBy w r) (o : Obj) : u.grownBy (w.alloc o) r :=
  ⟨h.os, h.tape, h.output, Nat.le_trans h.size (by simp), fun k hk hne => (Below.heap_alloc w o k (Nat.lt_of_lt_of_le hk h.size)).trans (h.block k hk hne)⟩
theorem grown_trans {a b c : World} {r : Option Nat} (h : a.grownBy b r) (k : b.grownBy c r) : a.grownBy c r :=
  ⟨k.os.trans h.os, k.tape.trans h.tape, k.output.trans h.output, Nat.le_trans h.size k.size, fun i hi hr => (k.block i (Nat.lt_of_lt_of_le hi h.size) hr).trans (h.block i hi hr)⟩
set_option maxRecDepth 100000 in
set_option maxHeartbeats 400000 in
theorem fail_any (O s e m s' e' : Nat) (w : World) (h : Opn w O s e m) :
    Calls Tryd.prog 37 #[.agg #[.int .i64 (s' : Int), .int .i64 (e' : Int)], .pointer (some ⟨O, 0, none⟩)] w fun r w' => r = .returned (.tuple #[]) ∧ Opn w' O s (if s = s' then e' else e) m ∧ w.grownBy w' (some O) := by
  have hO := heap_lt h
  have c0 := h.c0
  have f1 := h.fr 1
  have c1 := h.c1
  have H := Lib.hid h
  clear h
  by_cases hs : s = s'
  · subst hs
    rw [if_pos rfl]
    go_enter Tryd.func37, Tryd.ntmps37
    go_wp2_with fail
    go_quiet (fail)
    go_wp2_with fail
    go_end0
    exact ⟨rfl, Opn.s1 (w := (w.alloc _).drewN _) (H.out.alloc _) e', grown_cell (grown_drewN (grown_alloc (World.grownBy.refl _ _) _) _) _ _⟩
  · have d : ((s : Int) == (s' : Int)) = false := by rw [beq_eq_false_iff_ne]; omega
    rw [if_neg hs]
    clear hs
    go_enter Tryd.func37, Tryd.ntmps37
    go_wp2_with fail
    go_quiet (fail)
    go_wp2_with fail
    go_end0
    exact ⟨rfl, H.out.alloc _, grown_drewN (grown_alloc (World.grownBy.refl _ _) _) _⟩
set_option maxRecDepth 100000 in
set_option maxHeartbeats 400000 in
theorem turnop_any (O s e m s' e' : Nat) (w : World) (h : Opn w O s e m) (hm : m < 256) :
    Calls Tryd.prog 38 #[.agg #[.int .i64 (s' : Int), .int .i64 (e' : Int)], .pointer (some ⟨O, 0, none⟩)] w fun r w' => r = .returned (.tuple #[]) ∧ Opn w' O s e (if s = s' then m ^^^ 1 else m) ∧ w.grownBy w' (some O) := by
  have hO := heap_lt h
  have c0 := h.c0
  have f2 := h.fr 2
  have c2 := h.c2
  have H := Lib.hid h
  clear h
  by_cases hs : s = s'
  · subst hs
    rw [if_pos rfl]
    have hx : bits .xor .u8 (m : Int) 1 = ((m ^^^ 1 : Nat) : Int) := u8_xor_nat m 1 hm (by decide)
    have HX := Lib.hid hx
    clear hx
    go_enter Tryd.func38, Tryd.ntmps38
    go_wp2_with fail
    go_quiet (fail)
    go_wp2_with fail
    rw [HX.out]
    go_end0
    exact ⟨rfl, Opn.s2 (w := (w.alloc _).drewN _) (H.out.alloc _) (m ^^^ 1), grown_cell (grown_drewN (grown_alloc (World.grownBy.refl _ _) _) _) _ _⟩
  · have d : ((s : Int) == (s' : Int)) = false := by rw [beq_eq_false_iff_ne]; omega
    rw [if_neg hs]
    clear hs
    go_enter Tryd.func38, Tryd.ntmps38
    go_wp2_with fail
    go_quiet (fail)
    go_wp2_with fail
    go_end0
    exact ⟨rfl, H.out.alloc _, grown_drewN (grown_alloc (World.grownBy.refl _ _) _) _⟩
def tick (s : Disk.St) : Disk.St := { s with ops := s.ops + 1 }
/-- Between an operation's count and its end: the plan still holds what is planned for it. -/
structure MidRep (w : World) (g : Nat) (s : Disk.St) (own : Nat → Nat) (pv : Value) (gu : Nat) (mv : Value) (xs : List Value) (ws : List Nat) : Prop where
  blk : DBlk w g s.page s.most pv (.slice (some ⟨gu, 0, none⟩) ((s.most + 63) / 64) ((s.most + 63) / 64)) (Disk.live s.pages) (s.ops + 1) s.writes s.begun mv
  mark : own g = 1
  pages : PagesAt w own s.page pv s.pages xs
  used : UsedAt w own gu ((s.most + 63) / 64) s.pages ws
  plan : PlanAt w own mv (s.ops - s.begun) s.plan
section
variable {w w' : World} {g : Nat} {s : Disk.St} {own own' : Nat → Nat} {pv : Value} {gu : Nat} {mv : Value} {xs : List Value} {ws : List Nat}
theorem MidRep.keep (h : MidRep w g s own pv gu mv xs ws) (k : Keeps (fun r => r ≠ 0) w w' own own') : MidRep w' g s own' pv gu mv xs ws := by
  obtain ⟨k1, k2⟩ := k g (heap_lt h.blk) (by rw [h.mark]; decide)
  refine ⟨h.blk.same k1, k2.trans h.mark, h.pages.keep fun b hb hr => k b hb ?_, h.used.keep fun b hb hr => k b hb ?_, h.plan.keep fun b hb hr => k b hb ?_⟩
  · unfold isPage at hr; omega
  · omega
  · unfold isPlan at hr; omega
theorem MidRep.grown {O : Nat} (h : MidRep w g s own pv gu mv xs ws) (hg : w.grownBy w' (some O)) (hO : own O = 0) : MidRep w' g s own pv gu mv xs ws :=
  h.keep fun b hb hr => ⟨hg.block b hb (fun e => by simp only [Option.some.injEq] at e; subst e; exact hr hO), rfl⟩
theorem DiskRep.mid (h : DiskRep w g s own pv gu mv xs ws) : MidRep (w.setCell ⟨g, 5, none⟩ (.int .i64 ((s.ops + 1 : Nat) : Int))) g s own pv gu mv xs ws := by
  have hk : ∀ b, own b ≠ 1 → (w.setCell ⟨g, 5, none⟩ (.int .i64 ((s.ops + 1 : Nat) : Int))).heap[b]? = w.heap[b]? := fun b hb => Below.heap_setCell _ _ _ _ (fun e => hb (by rw [e]; exact h.mark))
  refine ⟨h.blk.s5 _, h.mark, h.pages.keep fun b _ hr => ⟨hk b ?_, rfl⟩, h.used.keep fun b _ hr => ⟨hk b ?_, rfl⟩, h.plan.keep fun b _ hr => ⟨hk b ?_, rfl⟩⟩
  · unfold isPage at hr; omega
  · omega
  · unfold isPlan at hr; omega
theorem MidRep.close (h : MidRep w g s own pv gu mv xs ws) (hp : PlanAt w' own mv (s.ops + 1 - s.begun) s.plan) (hs : ∀ b, own b ≠ 4 → b < w.heap.size → w'.heap[b]? = w.heap[b]?)
    (h1 : pageOk s.page = true) (h2 : s.pages.length ≤ s.most) (h3 : s.most ≤ 16384) (h4 : s.begun ≤ s.ops) (h5 : s.writes ≤ s.ops) (h6 : ∀ b, w'.heap.size ≤ b → own b = 0) : DiskRep w' g (tick s) own pv gu mv xs ws := by
  refine ⟨h.blk.same (hs g (by rw [h.mark]; decide) (heap_lt h.blk)), h.mark, h.pages.keep fun b hb hr => ⟨hs b ?_ hb, rfl⟩, h.used.keep fun b hb hr => ⟨hs b ?_ hb, rfl⟩, hp, h1, h2, h3, Nat.le_succ_of_le h4, Nat.le_succ_of_le h5, h6⟩
  · unfold isPage at hr; omega
  · omega
end
set_option maxRecDepth 100000 in
set_option maxHeartbeats 1000000 in
theorem begin_core (g : Nat) (s : Disk.St) (own : Nat → Nat) (sort : Nat) (w : World) (h : DiskAt w g s own) (ho : s.ops < 4611686018427387904) (l : List Nat) (hl : s.plan (s.ops + 1 - s.begun) = l) (E M : Nat) (hEM : Disk.hit sort l = (E, M)) :
    Calls Tryd.prog 23 #[.pointer (some ⟨g, 0, none⟩), .int .i64 (sort : Int)] w fun e w' =>
      e = .returned (.agg #[.int .i64 (sort : Int), .int .i64 (E : Int), .int .u8 (M : Int)]) ∧ DiskAt w' g (tick s) own ∧ Only own w w' := by
  have HL := Lib.hid hl
  have HEM := Lib.hid hEM
  clear hl hEM
  obtain ⟨pv, gu, mv, xs, ws, R⟩ := h
  have c5 := R.blk.c5
  have f5 := R.blk.fr 5
  have hgl := heap_lt R.blk
  have hsince := R.since
  have hgm := R.mark
  have HR := Lib.hid R
  clear R
  go_enter Tryd.func23, Tryd.ntmps23
  go_wp2_with fail
  have hM := HR.out.mid
  have hO1 : Only own w (w.setCell ⟨g, 5, none⟩ (.int .i64 ((s.ops + 1 : Nat) : Int))) := (Only.refl _ _).setCell (.inl (by rw [hgm]; decide)) _
  have hz1 : (w.setCell ⟨g, 5, none⟩ (.int .i64 ((s.ops + 1 : Nat) : Int))).heap.size = w.heap.size := by simp [World.setCell]
  rw [show (((s.ops + 1 : Nat) : Nat) : Int) = (s.ops : Int) + 1 by omega] at hM hO1 hz1
  have hM2 := hM.keep (own' := own) (w' := (w.setCell ⟨g, 5, none⟩ (.int .i64 ((s.ops : Int) + 1))).alloc (.cells #[.int .i64 0, .int .i64 0, .int .u8 0] 60)) (fun b hb _ => ⟨Below.heap_alloc _ _ _ hb, rfl⟩)
  have hO2 := hO1.alloc (.cells #[.int .i64 0, .int .i64 0, .int .u8 0] 60)
  have hr1 : Opn ((w.setCell ⟨g, 5, none⟩ (.int .i64 ((s.ops : Int) + 1))).alloc (.cells #[.int .i64 0, .int .i64 0, .int .u8 0] 60)) w.heap.size 0 0 0 := by
    unfold Opn
    have := heap_alloc_new (w.setCell ⟨g, 5, none⟩ (.int .i64 ((s.ops : Int) + 1))) (.cells #[.int .i64 0, .int .i64 0, .int .u8 0] 60)
    rw [hz1] at this
    exact this
  have hz2 : ((w.setCell ⟨g, 5, none⟩ (.int .i64 ((s.ops : Int) + 1))).alloc (.cells #[.int .i64 0, .int .i64 0, .int .u8 0] 60)).heap.size = w.heap.size + 1 := by simp [World.setCell]
  obtain ⟨w1, hw1⟩ : ∃ w1, w1 = (w.setCell ⟨g, 5, none⟩ (.int .i64 ((s.ops : Int) + 1))).alloc (.cells #[.int .i64 0, .int .i64 0, .int .u8 0] 60) := ⟨_, rfl⟩
  rw [← hw1] at hM2 hO2 hr1 hz2 ⊢
  clear hw1 hM hO1 hz1 c5 f5
  have d5 := hM2.blk.c5
  have d7 := hM2.blk.c7
  have d8 := hM2.blk.c8
  have HM := Lib.hid hM2
  have HO := Lib.hid hO2
  have HR1 := Lib.hid hr1
  have HZ := Lib.hid hz2
  clear hM2 hO2 hr1 hz2
  go_quiet (fail)
  have hM3 := HM.out.keep (own' := own) (w' := w1.drewN nq) (fun _ _ _ => ⟨rfl, rfl⟩)
  have hO3 := HO.out.drewN nq
  have hr3 : Opn (w1.drewN nq) w.heap.size 0 0 0 := HR1.out
  have hz3 : (w1.drewN nq).heap.size = w.heap.size + 1 := HZ.out
  obtain ⟨w2, hw2⟩ : ∃ w2, w2 = w1.drewN nq := ⟨_, rfl⟩
  rw [← hw2] at hM3 hO3 hr3 hz3 ⊢
  clear hw2 d5 d7 d8 HM HO HR1 HZ
  have d8 := hM3.blk.c8
  have HM := Lib.hid hM3
  have HO := Lib.hid hO3
  have HR1 := Lib.hid hr3
  have HZ := Lib.hid hz3
  clear hM3 hO3 hr3 hz3
  obtain ⟨w3, hw3⟩ : ∃ w3, w3 = w2.alloc (.cells #[.int .i64 (sort : Int), .int .i64 0, .int .u8 0] 60) := ⟨_, rfl⟩
  have hM4 : MidRep w3 g s own pv gu mv xs ws := HM.out.keep (fun b hb _ => by rw [hw3]; exact ⟨Below.heap_alloc _ _ _ hb, rfl⟩)
  have hO4 : Only own w w3 := by rw [hw3]; exact HO.out.alloc _
  have hz4 : w3.heap.size = w2.heap.size + 1 := by rw [hw3]; simp
  have hr4 : Opn w3 w.heap.size 0 0 0 := HR1.out.same (by rw [hw3]; exact Below.heap_alloc _ _ _ (by rw [HZ.out]; omega))
  have hq4 : Opn w3 w2.heap.size sort 0 0 := by rw [hw3]; unfold Opn; exact heap_alloc_new _ _
  have e8 := hM4.blk.c8
  obtain ⟨v, hrun, hF⟩ := plan_look hM4.plan (k := s.ops + 1 - s.begun) (by omega) (by omega)
  rw [show ((s.ops + 1 - s.begun : Nat) : Int) = (s.ops : Int) + 1 - (s.begun : Int) by omega] at hrun
  have hrow := row_form hF.row
  have hkind := hF.kind
  rw [HL.out] at hrow hkind
  obtain ⟨a, cap, rfl, hnc, hcm, hxl, hcells⟩ := hrow
  rw [hw3] at e8 hrun
  have HM4 := Lib.hid hM4
  have HO4 := Lib.hid hO4
  have HR4 := Lib.hid hr4
  have HQ4 := Lib.hid hq4
  have HZ4 := Lib.hid hz4
  have HF := Lib.hid hF
  have HC := Lib.hid hcells
  have HK := Lib.hid hkind
  have HW3 := Lib.hid hw3
  have HXL := Lib.hid hxl
  clear hM4 hO4 hr4 hq4 hz4 hF hcells hkind hw3 hxl d8
  go_wp2_with fail
  have hO0 : own w2.heap.size = 0 := HR.out.fresh _ (by rw [HZ.out]; omega)
  obtain ⟨O, hOe⟩ : ∃ O, O = w2.heap.size := ⟨_, rfl⟩
  obtain ⟨R1, hRe⟩ : ∃ R1, R1 = w.heap.size := ⟨_, rfl⟩
  have hOR : O = R1 + 1 := by rw [hOe, hRe, HZ.out]
  have hQ0 := HQ4.out
  have hR0 := HR4.out
  rw [← HW3.out, ← hOe, ← hRe]
  rw [← hOe] at hQ0 hO0
  rw [← hRe] at hR0
  have HQ0 := Lib.hid hQ0
  have HR0 := Lib.hid hR0
  have HOE := Lib.hid hOe
  have HRE := Lib.hid hRe
  have HOR := Lib.hid hOR
  have HO0 := Lib.hid hO0
  clear hQ0 hR0 hOe hRe hOR hO0 e8 hrun HQ4 HR4
  go_loopw [34] (fun i wr => ∃ (k e m : Nat), k ≤ l.length ∧ i = .int .i64 (k : Int) ∧ Hid (Disk.hit sort (l.take k) = (e, m)) ∧ Opn wr O sort e m ∧ w3.grownBy wr (some O)) (fun i _ => l.length - (intOf i).toNat)
  case atStart => exact ⟨0, 0, 0, Nat.zero_le _, rfl, rfl, HQ0.out, World.grownBy.refl _ _⟩
  case round =>
    obtain ⟨k, e, m, hk, rfl, hH, hOp, hG⟩ := hrel
    have HOp := Lib.hid hOp
    have HG := Lib.hid hG
    clear hOp hG
    by_cases hlt : k < l.length
    · obtain ⟨b, rfl, hob, hcl, _⟩ := HC.out (by omega)
      have hck := hcl k hlt
      have hbm := HF.out.mark b hob
      have hbO : b ≠ O := fun e => by rw [e, HO0.out] at hbm; omega
      have hcw := HG.out.cell hck (by simp [hbO])
      have hx : (l.map fnOf).getD k undef = fnOf (l.getD k 0) := by
        simp [List.getD_eq_getElem?_getD, List.getElem?_eq_getElem hlt]
      rw [hx] at hcw
      have hkd := HK.out (l.getD k 0) (by rw [List.getD_eq_getElem?_getD, List.getElem?_eq_getElem hlt]; exact List.getElem_mem _)
      have hst : Hid (Disk.hit sort (l.take (k + 1)) = Disk.app sort (e, m) (l.getD k 0)) := by
        show _ = _
        rw [List.take_succ_eq_append_getElem hlt, Disk.hit_snoc, hH.out, List.getD_eq_getElem?_getD, List.getElem?_eq_getElem hlt]
        rfl
      have hm := Disk.hit_small sort (l.take k)
      rw [hH.out] at hm
      have hm2 : m < 256 := by have := hm.2; simp only at this; omega
      clear hck hcl hx hob hbm hm
      generalize l.getD k 0 = x at *
      have h4 : x = 1 ∨ x = 2 ∨ x = 3 ∨ x = 4 := by omega
      clear hkd
      rcases h4 with rfl | rfl | rfl | rfl
      · have C := fail_any O sort e m 3 16 wr HOp.out
        rw [show ((3 : Nat) : Int) = 3 from rfl, show ((16 : Nat) : Int) = 16 from rfl] at C
        rw [show fnOf 1 = .func (Fn.func 37) #[.agg #[.int .i64 3, .int .i64 16]] #[] from rfl] at hcw
        have HCC := Lib.hid C
        clear C
        go_wp2_with fail
        refine HCC.out.mono ?_
        rintro r w4 ⟨rfl, hOp4, hG4⟩
        have HOp4 := Lib.hid hOp4
        have HG4 := Lib.hid (grown_trans HG.out hG4)
        clear hOp4 hG4 hcw
        go_wp2_with fail
        go_roundw
        case rel => exact ⟨k + 1, if sort = 3 then 16 else e, m, by omega, by go_num, (by show _ = _; rw [hst.out]; unfold Disk.app; simp; try (split <;> rfl)), HOp4.out, HG4.out⟩
        case measure => simp [intOf]; omega
      · have C := fail_any O sort e m 4 16 wr HOp.out
        rw [show ((4 : Nat) : Int) = 4 from rfl, show ((16 : Nat) : Int) = 16 from rfl] at C
        rw [show fnOf 2 = .func (Fn.func 37) #[.agg #[.int .i64 4, .int .i64 16]] #[] from rfl] at hcw
        have HCC := Lib.hid C
        clear C
        go_wp2_with fail
        refine HCC.out.mono ?_
        rintro r w4 ⟨rfl, hOp4, hG4⟩
        have HOp4 := Lib.hid hOp4
        have HG4 := Lib.hid (grown_trans HG.out hG4)
        clear hOp4 hG4 hcw
        go_wp2_with fail
        go_roundw
        case rel => exact ⟨k + 1, if sort = 4 then 16 else e, m, by omega, by go_num, (by show _ = _; rw [hst.out]; unfold Disk.app; simp; try (split <;> rfl)), HOp4.out, HG4.out⟩
        case measure => simp [intOf]; omega
      · have C := fail_any O sort e m 1 17 wr HOp.out
        rw [show ((1 : Nat) : Int) = 1 from rfl, show ((17 : Nat) : Int) = 17 from rfl] at C
        rw [show fnOf 3 = .func (Fn.func 37) #[.agg #[.int .i64 1, .int .i64 17]] #[] from rfl] at hcw
        have HCC := Lib.hid C
        clear C
        go_wp2_with fail
        refine HCC.out.mono ?_
        rintro r w4 ⟨rfl, hOp4, hG4⟩
        have HOp4 := Lib.hid hOp4
        have HG4 := Lib.hid (grown_trans HG.out hG4)
        clear hOp4 hG4 hcw
        go_wp2_with fail
        go_roundw
        case rel => exact ⟨k + 1, if sort = 1 then 17 else e, m, by omega, by go_num, (by show _ = _; rw [hst.out]; unfold Disk.app; simp; try (split <;> rfl)), HOp4.out, HG4.out⟩
        case measure => simp [intOf]; omega
      · have C := turnop_any O sort e m 3 0 wr HOp.out hm2
        rw [show ((3 : Nat) : Int) = 3 from rfl, show ((0 : Nat) : Int) = 0 from rfl] at C
        rw [show fnOf 4 = .func (Fn.func 38) #[.agg #[.int .i64 3, .int .i64 0]] #[] from rfl] at hcw
        have HCC := Lib.hid C
        clear C
        go_wp2_with fail
        refine HCC.out.mono ?_
        rintro r w4 ⟨rfl, hOp4, hG4⟩
        have HOp4 := Lib.hid hOp4
        have HG4 := Lib.hid (grown_trans HG.out hG4)
        clear hOp4 hG4 hcw
        go_wp2_with fail
        go_roundw
        case rel => exact ⟨k + 1, e, if sort = 3 then m ^^^ 1 else m, by omega, by go_num, (by show _ = _; rw [hst.out]; unfold Disk.app; simp; try (split <;> rfl)), HOp4.out, HG4.out⟩
        case measure => simp [intOf]; omega
    · have hk' : k = l.length := by omega
      have hfin := hH.out
      rw [hk', List.take_length, HEM.out] at hfin
      obtain ⟨rfl, rfl⟩ := Prod.mk.inj hfin
      clear hfin hk'
      have hM5 := HM4.out.grown HG.out HO0.out
      have e8 := hM5.blk.c8
      obtain ⟨w5, hdrop, hP5, hO5, hS5⟩ := plan_drop hM5.plan (k := s.ops + 1 - s.begun) (by omega) (by omega) 0
      rw [show ((s.ops + 1 - s.begun : Nat) : Int) = (s.ops : Int) + 1 - (s.begun : Int) by omega] at hdrop
      have hOlt : O < wr.heap.size := heap_lt HOp.out
      have hOp5 : Opn w5 O sort E M := HOp.out.same (hS5 O (by rw [HO0.out]; decide) hOlt)
      have hRw : Opn wr R1 0 0 0 := HR0.out.same (HG.out.block R1 (heap_lt HR0.out) (by rw [HOR.out]; simp))
      have hR10 : own R1 = 0 := HR.out.fresh _ (by rw [HRE.out]; exact Nat.le_refl _)
      have hR5 : Opn w5 R1 0 0 0 := hRw.same (hS5 R1 (by rw [hR10]; decide) (heap_lt hRw))
      have x0 := hOp5.c0
      have x1 := hOp5.c1
      have x2 := hOp5.c2
      have y0 := hR5.c0
      have y1 := hR5.c1
      have y2 := hR5.c2
      have z0 := hR5.fr 0
      have z1 := hR5.fr 1
      have z2 := hR5.fr 2
      have HM5 := Lib.hid hM5
      have HP5 := Lib.hid hP5
      have HO5 := Lib.hid hO5
      have HS5 := Lib.hid hS5
      have HR5 := Lib.hid hR5
      have HR10 := Lib.hid hR10
      clear hM5 hP5 hO5 hS5 hOp5 hRw hR10 hR5
      go_wp2_with fail
      have hR6 := ((HR5.out.s0 sort).s1 E).s2 M
      have hG6 : w5.grownBy (((w5.setCell ⟨R1, 0, none⟩ (.int .i64 (sort : Int))).setCell ⟨R1, 1, none⟩ (.int .i64 (E : Int))).setCell ⟨R1, 2, none⟩ (.int .u8 (M : Int))) (some R1) := grown_cell (grown_cell (grown_cell (World.grownBy.refl _ _) _ _) _ _) _ _
      generalize (((w5.setCell ⟨R1, 0, none⟩ (.int .i64 (sort : Int))).setCell ⟨R1, 1, none⟩ (.int .i64 (E : Int))).setCell ⟨R1, 2, none⟩ (.int .u8 (M : Int))) = w6 at *
      have v0 := hR6.c0
      have v1 := hR6.c1
      have v2 := hR6.c2
      refine bodyPost_ret (v := .agg #[.int .i64 (sort : Int), .int .i64 (E : Int), .int .u8 (M : Int)]) (by simp [results, Tryd.results23, go_sem, v0, v1, v2]) rfl ⟨rfl, ?_, ?_⟩
      · have hD5 : DiskRep w5 g (tick s) own pv gu mv xs ws := HM5.out.close HP5.out HS5.out HR.out.page HR.out.most HR.out.top HR.out.since HR.out.few fun b hb => HR.out.fresh b (Nat.le_trans (Nat.le_trans (Nat.le_trans HO4.out.size HG.out.size) HO5.out.size) hb)
        exact DiskAt.grown ⟨pv, gu, mv, xs, ws, hD5⟩ hG6 HR10.out
      · have h1 : Only own w wr := HO4.out.grown HG.out (.inr (by have := HOR.out; have := HRE.out; omega))
        exact (h1.trans HO5.out).grown hG6 (.inr (by rw [HRE.out]; exact Nat.le_refl _))
theorem begin_any (g : Nat) (s : Disk.St) (own : Nat → Nat) (sort : Nat) (w : World) (h : DiskAt w g s own) (ho : s.ops < 4611686018427387904) :
    Calls Tryd.prog 23 #[.pointer (some ⟨g, 0, none⟩), .int .i64 (sort : Int)] w fun e w' =>
      e = .returned (.agg #[.int .i64 (sort : Int), .int .i64 ((Disk.hit sort (s.plan (s.ops + 1 - s.begun))).1 : Nat), .int .u8 ((Disk.hit sort (s.plan (s.ops + 1 - s.begun))).2 : Nat)]) ∧ DiskAt w' g (tick s) own ∧ Only own w w' :=
  begin_core g s own sort w h ho _ rfl _ _ rfl
end Go.Proofs.YtbkiahnljklhpaaDoor
