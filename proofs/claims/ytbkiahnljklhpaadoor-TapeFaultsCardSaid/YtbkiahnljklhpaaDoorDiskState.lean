/- THE DISK IN MEMORY: which blocks are its own, what they hold, what keeps that. No walk. -/
import Derived.Test.YtbkiahnljklhpaaDoorDiskMath
import Derived.Test.YtbkiahnljklhpaaDoorSealRow
import Derived.Laws.AppendOwn
import Derived.Laws.OwnMore
import Derived.OwnWalk
import Derived.Maps.Own
import Derived.Maps.OwnSet
import Derived.Maps.Views
namespace Go.Proofs.YtbkiahnljklhpaaDoor
open Go.RowKit
open Seal
/-- From w to w' only blocks that 'own' marks have turned, and new ones came. -/
structure Only (own : Nat → Nat) (w w' : World) : Prop where
  os : w'.os = w.os
  tape : w'.tape = w.tape
  output : w'.output = w.output
  size : w.heap.size ≤ w'.heap.size
  block : ∀ b, b < w.heap.size → own b = 0 → w'.heap[b]? = w.heap[b]?
theorem Only.refl (own : Nat → Nat) (w : World) : Only own w w := ⟨rfl, rfl, rfl, Nat.le_refl _, fun _ _ _ => rfl⟩
theorem Only.trans' {own own' : Nat → Nat} {a b c : World} (h : Only own a b) (k : Only own' b c) (he : ∀ i, i < a.heap.size → own i = 0 → own' i = 0) : Only own a c :=
  ⟨k.os.trans h.os, k.tape.trans h.tape, k.output.trans h.output, Nat.le_trans h.size k.size, fun i hi h0 => (k.block i (Nat.lt_of_lt_of_le hi h.size) (he i hi h0)).trans (h.block i hi h0)⟩
theorem Only.trans {own : Nat → Nat} {a b c : World} (h : Only own a b) (k : Only own b c) : Only own a c := h.trans' k fun _ _ h => h
theorem Only.of_below {own : Nat → Nat} {a b : World} (h : Below a.heap.size a b) : Only own a b := ⟨h.os, h.tape, h.output, h.size, fun i hi _ => h.block i hi⟩
theorem Only.of_grown {own : Nat → Nat} {a b : World} {g : Nat} (h : a.grownBy b (some g)) (hg : own g ≠ 0 ∨ a.heap.size ≤ g) : Only own a b :=
  ⟨h.os, h.tape, h.output, h.size, fun i hi h0 => h.block i hi (fun e => by
    simp only [Option.some.injEq] at e
    subst e
    rcases hg with hg | hg
    · exact hg h0
    · omega)⟩
theorem Only.drewN {own : Nat → Nat} {a b : World} (h : Only own a b) (n : Nat) : Only own a (b.drewN n) := ⟨h.os, h.tape, h.output, h.size, h.block⟩
theorem Only.drew {own : Nat → Nat} {a b : World} (h : Only own a b) : Only own a b.drew := ⟨h.os, h.tape, h.output, h.size, h.block⟩
theorem Only.alloc {own : Nat → Nat} {a b : World} (h : Only own a b) (o : Obj) : Only own a (b.alloc o) :=
  ⟨h.os, h.tape, h.output, Nat.le_trans h.size (by simp), fun i hi h0 => (Below.heap_alloc b o i (Nat.lt_of_lt_of_le hi h.size)).trans (h.block i hi h0)⟩
theorem Only.setCell {own : Nat → Nat} {a b : World} (h : Only own a b) {p : Addr} (hp : own p.block ≠ 0 ∨ a.heap.size ≤ p.block) (v : Value) : Only own a (b.setCell p v) :=
  ⟨h.os, h.tape, h.output, Nat.le_trans h.size (by simp [World.setCell]), fun i hi h0 => (Below.heap_setCell b p v i (fun e => by
    subst e
    rcases hp with hp | hp
    · exact hp h0
    · omega)).trans (h.block i hi h0)⟩
theorem Only.grown {own : Nat → Nat} {a b c : World} {g : Nat} (h : Only own a b) (k : b.grownBy c (some g)) (hg : own g ≠ 0 ∨ a.heap.size ≤ g) : Only own a c :=
  ⟨k.os.trans h.os, k.tape.trans h.tape, k.output.trans h.output, Nat.le_trans h.size k.size, fun i hi h0 => (k.block i (Nat.lt_of_lt_of_le hi h.size) (fun e => by
    simp only [Option.some.injEq] at e
    subst e
    rcases hg with hg | hg
    · exact hg h0
    · omega)).trans (h.block i hi h0)⟩
/-- Where nothing below B is marked, all below B is as it was. -/
theorem Only.below {own : Nat → Nat} {a b : World} {B : Nat} (h : Only own a b) (hB : B ≤ a.heap.size) (h0 : ∀ i, i < B → own i = 0) : Below B a b :=
  ⟨h.os, h.tape, h.output, h.size, fun i hi => h.block i (by omega) (h0 i hi)⟩
/-- What keeps a part of a disk whose blocks bear marks of R: these blocks, and their marks. -/
def Keeps (R : Nat → Prop) (w w' : World) (own own' : Nat → Nat) : Prop := ∀ b, b < w.heap.size → R (own b) → w'.heap[b]? = w.heap[b]? ∧ own' b = own b
theorem heap_lt {w : World} {b : Nat} {o : Obj} (h : w.heap[b]? = some o) : b < w.heap.size := by
  by_cases hb : b < w.heap.size
  · exact hb
  · rw [Array.getElem?_eq_none (by omega)] at h; cases h
/-- The kinds of faults, as what is to happen. -/
def fnOf (k : Nat) : Value :=
  if k = 1 then .func (Fn.func 37) #[.agg #[.int .i64 3, .int .i64 16]] #[]
  else if k = 2 then .func (Fn.func 37) #[.agg #[.int .i64 4, .int .i64 16]] #[]
  else if k = 3 then .func (Fn.func 37) #[.agg #[.int .i64 1, .int .i64 17]] #[]
  else .func (Fn.func 38) #[.agg #[.int .i64 3, .int .i64 0]] #[]
def DBlk (w : World) (g : Nat) (page most : Nat) (pv uv : Value) (lv ops wr bg : Nat) (mv : Value) : Prop :=
  w.heap[g]? = some (.cells #[.int .i64 (page : Int), .int .i64 (most : Int), pv, uv, .int .i64 (lv : Int), .int .i64 (ops : Int), .int .i64 (wr : Int), .int .i64 (bg : Int), mv] 58 (0, 0))
section
variable {w w' : World} {g page most : Nat} {pv uv : Value} {lv ops wr bg : Nat} {mv : Value}
theorem DBlk.c0 (h : DBlk w g page most pv uv lv ops wr bg mv) : w.cell? ⟨g, 0, none⟩ = some (.int .i64 (page : Int)) := by rw [cell_of_row w g 0 _ _ _ h]; rfl
theorem DBlk.c1 (h : DBlk w g page most pv uv lv ops wr bg mv) : w.cell? ⟨g, 1, none⟩ = some (.int .i64 (most : Int)) := by rw [cell_of_row w g 1 _ _ _ h]; rfl
theorem DBlk.c2 (h : DBlk w g page most pv uv lv ops wr bg mv) : w.cell? ⟨g, 2, none⟩ = some pv := by rw [cell_of_row w g 2 _ _ _ h]; rfl
theorem DBlk.c3 (h : DBlk w g page most pv uv lv ops wr bg mv) : w.cell? ⟨g, 3, none⟩ = some uv := by rw [cell_of_row w g 3 _ _ _ h]; rfl
theorem DBlk.c4 (h : DBlk w g page most pv uv lv ops wr bg mv) : w.cell? ⟨g, 4, none⟩ = some (.int .i64 (lv : Int)) := by rw [cell_of_row w g 4 _ _ _ h]; rfl
theorem DBlk.c5 (h : DBlk w g page most pv uv lv ops wr bg mv) : w.cell? ⟨g, 5, none⟩ = some (.int .i64 (ops : Int)) := by rw [cell_of_row w g 5 _ _ _ h]; rfl
theorem DBlk.c6 (h : DBlk w g page most pv uv lv ops wr bg mv) : w.cell? ⟨g, 6, none⟩ = some (.int .i64 (wr : Int)) := by rw [cell_of_row w g 6 _ _ _ h]; rfl
theorem DBlk.c7 (h : DBlk w g page most pv uv lv ops wr bg mv) : w.cell? ⟨g, 7, none⟩ = some (.int .i64 (bg : Int)) := by rw [cell_of_row w g 7 _ _ _ h]; rfl
theorem DBlk.c8 (h : DBlk w g page most pv uv lv ops wr bg mv) : w.cell? ⟨g, 8, none⟩ = some mv := by rw [cell_of_row w g 8 _ _ _ h]; rfl
theorem DBlk.fr (h : DBlk w g page most pv uv lv ops wr bg mv) (j : Nat) : w.frozen? ⟨g, j, none⟩ = false := frozen_of_row w g j _ _ h
theorem DBlk.s2 (h : DBlk w g page most pv uv lv ops wr bg mv) (x : Value) : DBlk (w.setCell ⟨g, 2, none⟩ x) g page most x uv lv ops wr bg mv := by unfold DBlk; rw [heap_setCell_same w g 2 _ _ _ h]; rfl
theorem DBlk.s4 (h : DBlk w g page most pv uv lv ops wr bg mv) (x : Nat) : DBlk (w.setCell ⟨g, 4, none⟩ (.int .i64 (x : Int))) g page most pv uv x ops wr bg mv := by unfold DBlk; rw [heap_setCell_same w g 4 _ _ _ h]; rfl
theorem DBlk.s5 (h : DBlk w g page most pv uv lv ops wr bg mv) (x : Nat) : DBlk (w.setCell ⟨g, 5, none⟩ (.int .i64 (x : Int))) g page most pv uv lv x wr bg mv := by unfold DBlk; rw [heap_setCell_same w g 5 _ _ _ h]; rfl
theorem DBlk.s6 (h : DBlk w g page most pv uv lv ops wr bg mv) (x : Nat) : DBlk (w.setCell ⟨g, 6, none⟩ (.int .i64 (x : Int))) g page most pv uv lv ops x bg mv := by unfold DBlk; rw [heap_setCell_same w g 6 _ _ _ h]; rfl
theorem DBlk.s7 (h : DBlk w g page most pv uv lv ops wr bg mv) (x : Nat) : DBlk (w.setCell ⟨g, 7, none⟩ (.int .i64 (x : Int))) g page most pv uv lv ops wr x mv := by unfold DBlk; rw [heap_setCell_same w g 7 _ _ _ h]; rfl
theorem DBlk.s8 (h : DBlk w g page most pv uv lv ops wr bg mv) (x : Value) : DBlk (w.setCell ⟨g, 8, none⟩ x) g page most pv uv lv ops wr bg x := by unfold DBlk; rw [heap_setCell_same w g 8 _ _ _ h]; rfl
theorem DBlk.same (h : DBlk w g page most pv uv lv ops wr bg mv) (e : w'.heap[g]? = w.heap[g]?) : DBlk w' g page most pv uv lv ops wr bg mv := e.trans h
end
/-- What page i's place in the row of pages holds. -/
def PageAt (w : World) (own : Nat → Nat) (page i : Nat) (v : Value) : Option (List Nat) → Prop
  | none => v = .slice none 0 0
  | some bs => ∃ b, v = .slice (some ⟨b, 0, none⟩) page page ∧ own b = 11 + 2 * i ∧ Row w b bs ∧ bs.length = page ∧ Oct bs
structure PagesAt (w : World) (own : Nat → Nat) (page : Nat) (pv : Value) (pages : Disk.Pages) (xs : List Value) : Prop where
  row : w.ownsRow 0 29 1 pv pages.length xs
  mark : ∀ b, pv.ownBlock = some b → own b = 2
  at_ : ∀ i, i < pages.length → PageAt w own page i (xs.getD i undef) (pages.getD i none)
def isPage (r : Nat) : Prop := r = 2 ∨ (11 ≤ r ∧ r % 2 = 1)
theorem PageAt.keep {w w' : World} {own own' : Nat → Nat} {page i : Nat} {v : Value} {p : Option (List Nat)} (h : PageAt w own page i v p) (k : Keeps (fun r => r = 11 + 2 * i) w w' own own') : PageAt w' own' page i v p := by
  cases p with
  | none => exact h
  | some bs =>
    obtain ⟨b, hv, ho, hr, hl⟩ := h
    obtain ⟨k1, k2⟩ := k b (heap_lt hr) ho
    exact ⟨b, hv, k2.trans ho, hr.same k1, hl⟩
theorem ownsRow_keep {w w' : World} {base : Nat} {e : TypeId} {size : Nat} {v : Value} {n : Nat} {xs : List Value} (h : w.ownsRow base e size v n xs) (k : ∀ b, v.ownBlock = some b → w'.heap[b]? = w.heap[b]?) : w'.ownsRow base e size v n xs := by
  obtain ⟨h1, h2⟩ := h
  refine ⟨h1, ?_⟩
  rcases h2 with h2 | ⟨g, cap, cur, rfl, hb, hg, r⟩
  · exact .inl h2
  · exact .inr ⟨g, cap, cur, rfl, hb, (k g rfl).trans hg, r⟩
theorem PagesAt.keep {w w' : World} {own own' : Nat → Nat} {page : Nat} {pv : Value} {pages : Disk.Pages} {xs : List Value} (h : PagesAt w own page pv pages xs) (k : Keeps isPage w w' own own') : PagesAt w' own' page pv pages xs := by
  refine ⟨ownsRow_keep h.row fun b hb => (k b (h.row.lt b hb).2 (.inl (h.mark b hb))).1, fun b hb => ?_, fun i hi => (h.at_ i hi).keep fun b hb hr => k b hb (.inr (by omega))⟩
  exact (k b (h.row.lt b hb).2 (.inl (h.mark b hb))).2.trans (h.mark b hb)
theorem PagesAt.length {w : World} {own : Nat → Nat} {page : Nat} {pv : Value} {pages : Disk.Pages} {xs : List Value} (h : PagesAt w own page pv pages xs) : xs.length = pages.length := by
  have := h.row.1; omega
def u64v (n : Nat) : Value := .int .u64 (n : Int)
structure UsedAt (w : World) (own : Nat → Nat) (gu nw : Nat) (pages : Disk.Pages) (ws : List Nat) : Prop where
  mark : own gu = 3
  row : w.heap[gu]? = some (.cells (ws.map u64v).toArray 62 (0, 0))
  words : Disk.Words ws nw pages
theorem UsedAt.keep {w w' : World} {own own' : Nat → Nat} {gu nw : Nat} {pages : Disk.Pages} {ws : List Nat} (h : UsedAt w own gu nw pages ws) (k : Keeps (fun r => r = 3) w w' own own') : UsedAt w' own' gu nw pages ws := by
  obtain ⟨k1, k2⟩ := k gu (heap_lt h.row) h.mark
  exact ⟨k2.trans h.mark, k1.trans h.row, h.words⟩
theorem UsedAt.cell {w : World} {own : Nat → Nat} {gu nw : Nat} {pages : Disk.Pages} {ws : List Nat} (h : UsedAt w own gu nw pages ws) {j : Nat} (hj : j < nw) : w.cell? ⟨gu, j, none⟩ = some (.int .u64 ((ws.getD j 0 : Nat) : Int)) := by
  rw [cell_of_row w gu j _ _ _ h.row]
  have hl := h.words.len
  simp [u64v, List.getD_eq_getElem?_getD, List.getElem?_eq_getElem (show j < ws.length by omega)]
theorem UsedAt.frozen {w : World} {own : Nat → Nat} {gu nw : Nat} {pages : Disk.Pages} {ws : List Nat} (h : UsedAt w own gu nw pages ws) (j : Nat) : w.frozen? ⟨gu, j, none⟩ = false := frozen_of_row w gu j _ _ h.row
theorem words_set {w : World} {gu : Nat} {ws : List Nat} (h : w.heap[gu]? = some (.cells (ws.map u64v).toArray 62 (0, 0))) (j v : Nat) : (w.setCell ⟨gu, j, none⟩ (.int .u64 (v : Int))).heap[gu]? = some (.cells ((ws.set j v).map u64v).toArray 62 (0, 0)) := by
  rw [heap_setCell_same w gu j _ _ _ h]
  simp [u64v, List.map_set]
/-- How an element of the plan reads: as itself. -/
def asIs (v : Value) : Option (DataW Value × List MemPlace) := some (.held v, [])
/-- A row of what is to happen. -/
structure FnsAt (w : World) (own : Nat → Nat) (k : Nat) (v : Value) (l : List Nat) : Prop where
  row : w.ownsRow 0 64 1 v l.length (l.map fnOf)
  mark : ∀ b, v.ownBlock = some b → own b = 10 + 2 * k
  kind : ∀ x ∈ l, 1 ≤ x ∧ x ≤ 4
def nilFns : Value := .slice none 0 0
/-- The plan, for what comes behind the operation of number 'since'. -/
def PlanAt (w : World) (own : Nat → Nat) (mv : Value) (since : Nat) (plan : Nat → List Nat) : Prop :=
  (mv = .map none ∧ ∀ k, since < k → plan k = []) ∨
  ∃ b n D, mv = .map (some b) ∧ own b = 4 ∧ w.ownsMap Tryd.prog 3 asIs b n D ∧ ∀ k, since < k → ∃ v, D.atKey (.int .i64 (k : Int)) (.held nilFns) = .held v ∧ FnsAt w own k v (plan k)
def isPlan (r : Nat) : Prop := r = 4 ∨ (10 ≤ r ∧ r % 2 = 0)
theorem FnsAt.keep {w w' : World} {own own' : Nat → Nat} {k : Nat} {v : Value} {l : List Nat} (h : FnsAt w own k v l) (kk : Keeps (fun r => r = 10 + 2 * k) w w' own own') : FnsAt w' own' k v l :=
  ⟨ownsRow_keep h.row fun b hb => (kk b (h.row.lt b hb).2 (h.mark b hb)).1, fun b hb => (kk b (h.row.lt b hb).2 (h.mark b hb)).2.trans (h.mark b hb), h.kind⟩
theorem ownsMap_keep {P : Program} {k : TypeId} {R : Value → Option (DataW Value × List MemPlace)} {w w' : World} {b n : Nat} {D : DataW Value} (h : w.ownsMap P k R b n D) (e : w'.heap[b]? = w.heap[b]?) : w'.ownsMap P k R b n D := by
  obtain ⟨es, clock, hb, r⟩ := h
  exact ⟨es, clock, e.trans hb, r⟩
theorem PlanAt.keep {w w' : World} {own own' : Nat → Nat} {mv : Value} {since : Nat} {plan : Nat → List Nat} (h : PlanAt w own mv since plan) (k : Keeps isPlan w w' own own') : PlanAt w' own' mv since plan := by
  rcases h with h | ⟨b, n, D, hm, ho, hmap, hall⟩
  · exact .inl h
  · obtain ⟨k1, k2⟩ := k b hmap.lt (.inl ho)
    refine .inr ⟨b, n, D, hm, k2.trans ho, ownsMap_keep hmap k1, fun j hj => ?_⟩
    obtain ⟨v, hv, hf⟩ := hall j hj
    exact ⟨v, hv, hf.keep fun x hx hr => k x hx (.inr (by omega))⟩
theorem PlanAt.mono {w : World} {own : Nat → Nat} {mv : Value} {s s' : Nat} {plan : Nat → List Nat} (h : PlanAt w own mv s plan) (hs : s ≤ s') : PlanAt w own mv s' plan := by
  rcases h with ⟨h1, h2⟩ | ⟨b, n, D, hm, ho, hmap, hall⟩
  · exact .inl ⟨h1, fun k hk => h2 k (by omega)⟩
  · exact .inr ⟨b, n, D, hm, ho, hmap, fun j hj => hall j (by omega)⟩
/-- A DISK, with what lies in its fields. -/
structure DiskRep (w : World) (g : Nat) (s : Disk.St) (own : Nat → Nat) (pv : Value) (gu : Nat) (mv : Value) (xs : List Value) (ws : List Nat) : Prop where
  blk : DBlk w g s.page s.most pv (.slice (some ⟨gu, 0, none⟩) ((s.most + 63) / 64) ((s.most + 63) / 64)) (Disk.live s.pages) s.ops s.writes s.begun mv
  mark : own g = 1
  pages : PagesAt w own s.page pv s.pages xs
  used : UsedAt w own gu ((s.most + 63) / 64) s.pages ws
  plan : PlanAt w own mv (s.ops - s.begun) s.plan
  page : pageOk s.page = true
  most : s.pages.length ≤ s.most
  top : s.most ≤ 16384
  since : s.begun ≤ s.ops
  few : s.writes ≤ s.ops
  fresh : ∀ b, w.heap.size ≤ b → own b = 0
def DiskAt (w : World) (g : Nat) (s : Disk.St) (own : Nat → Nat) : Prop := ∃ pv gu mv xs ws, DiskRep w g s own pv gu mv xs ws
theorem DiskRep.keep {w w' : World} {g : Nat} {s : Disk.St} {own own' : Nat → Nat} {pv : Value} {gu : Nat} {mv : Value} {xs : List Value} {ws : List Nat} (h : DiskRep w g s own pv gu mv xs ws) (k : Keeps (fun r => r ≠ 0) w w' own own') (hf : ∀ b, w'.heap.size ≤ b → own' b = 0) : DiskRep w' g s own' pv gu mv xs ws := by
  obtain ⟨k1, k2⟩ := k g (heap_lt h.blk) (by rw [h.mark]; decide)
  refine ⟨h.blk.same k1, k2.trans h.mark, h.pages.keep fun b hb hr => k b hb ?_, h.used.keep fun b hb hr => k b hb ?_, h.plan.keep fun b hb hr => k b hb ?_, h.page, h.most, h.top, h.since, h.few, hf⟩
  · unfold isPage at hr; omega
  · omega
  · unfold isPlan at hr; omega
theorem DiskAt.keep {w w' : World} {g : Nat} {s : Disk.St} {own own' : Nat → Nat} (h : DiskAt w g s own) (k : Keeps (fun r => r ≠ 0) w w' own own') (hf : ∀ b, w'.heap.size ≤ b → own' b = 0) : DiskAt w' g s own' := by
  obtain ⟨pv, gu, mv, xs, ws, h⟩ := h
  exact ⟨pv, gu, mv, xs, ws, h.keep k hf⟩
theorem DiskAt.fresh {w : World} {g : Nat} {s : Disk.St} {own : Nat → Nat} (h : DiskAt w g s own) : ∀ b, w.heap.size ≤ b → own b = 0 := by
  obtain ⟨pv, gu, mv, xs, ws, h⟩ := h
  exact h.fresh
/-- What the disk does not own may turn, and new blocks may come. -/
theorem DiskAt.stay {w w' : World} {g : Nat} {s : Disk.St} {own : Nat → Nat} (h : DiskAt w g s own) (hs : w.heap.size ≤ w'.heap.size) (k : ∀ b, b < w.heap.size → own b ≠ 0 → w'.heap[b]? = w.heap[b]?) : DiskAt w' g s own :=
  h.keep (fun b hb hr => ⟨k b hb hr, rfl⟩) fun b hb => h.fresh b (by omega)
theorem DiskAt.below {w w' : World} {g : Nat} {s : Disk.St} {own : Nat → Nat} (h : DiskAt w g s own) (hb : Below w.heap.size w w') : DiskAt w' g s own := h.stay hb.size fun b hlt _ => hb.block b hlt
theorem DiskAt.drewN {w : World} {g : Nat} {s : Disk.St} {own : Nat → Nat} (h : DiskAt w g s own) (n : Nat) : DiskAt (w.drewN n) g s own := h.stay (Nat.le_refl _) fun _ _ _ => rfl
theorem DiskAt.grown {w w' : World} {g b : Nat} {s : Disk.St} {own : Nat → Nat} (h : DiskAt w g s own) (hg : w.grownBy w' (some b)) (hb : own b = 0) : DiskAt w' g s own :=
  h.stay hg.size fun x hx hr => hg.block x hx (fun e => by simp only [Option.some.injEq] at e; subst e; exact hr hb)
end Go.Proofs.YtbkiahnljklhpaaDoor
