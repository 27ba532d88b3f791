/- TAPES IN MEMORY: what an operation may touch; the disk and the ledger side by side; a writer's, a tape's, a reader's blocks. No walk. -/
import Derived.Test.YtbkiahnljklhpaaDoorTapeMath
import Derived.Test.YtbkiahnljklhpaaDoorDiskPlan
import Derived.Test.YtbkiahnljklhpaaDoorLedgerLeaf
import Derived.Test.YtbkiahnljklhpaaDoorSealOpen
namespace Go.Proofs.YtbkiahnljklhpaaDoor
open Go.RowKit
open Seal
/-- From w to w' only blocks of P have turned, and new ones came. -/
structure Touch (P : Nat → Prop) (w w' : World) : Prop where
  os : w'.os = w.os
  tape : w'.tape = w.tape
  output : w'.output = w.output
  size : w.heap.size ≤ w'.heap.size
  block : ∀ b, b < w.heap.size → ¬ P b → w'.heap[b]? = w.heap[b]?
theorem Touch.refl (P : Nat → Prop) (w : World) : Touch P w w := ⟨rfl, rfl, rfl, Nat.le_refl _, fun _ _ _ => rfl⟩
theorem Touch.trans {P Q : Nat → Prop} {a b c : World} (h : Touch P a b) (k : Touch Q b c) (hq : ∀ i, i < a.heap.size → Q i → P i) : Touch P a c :=
  ⟨k.os.trans h.os, k.tape.trans h.tape, k.output.trans h.output, Nat.le_trans h.size k.size, fun i hi hp => (k.block i (Nat.lt_of_lt_of_le hi h.size) (fun q => hp (hq i hi q))).trans (h.block i hi hp)⟩
theorem Touch.mono {P Q : Nat → Prop} {a b : World} (h : Touch P a b) (hq : ∀ i, i < a.heap.size → P i → Q i) : Touch Q a b :=
  ⟨h.os, h.tape, h.output, h.size, fun i hi hp => h.block i hi fun p => hp (hq i hi p)⟩
theorem Touch.of_only {own : Nat → Nat} {a b : World} (h : Only own a b) : Touch (fun i => own i ≠ 0) a b := ⟨h.os, h.tape, h.output, h.size, fun i hi hp => h.block i hi (by simpa using hp)⟩
theorem Touch.of_below {P : Nat → Prop} {a b : World} (h : Below a.heap.size a b) : Touch P a b := ⟨h.os, h.tape, h.output, h.size, fun i hi _ => h.block i hi⟩
theorem Touch.grown {P : Nat → Prop} {a b c : World} {g : Nat} (h : Touch P a b) (k : b.grownBy c (some g)) (hg : P g ∨ a.heap.size ≤ g) : Touch P a c :=
  ⟨k.os.trans h.os, k.tape.trans h.tape, k.output.trans h.output, Nat.le_trans h.size k.size, fun i hi hp => (k.block i (Nat.lt_of_lt_of_le hi h.size) (fun e => by
    simp only [Option.some.injEq] at e
    subst e
    rcases hg with hg | hg
    · exact hp hg
    · omega)).trans (h.block i hi hp)⟩
theorem Touch.grown0 {P : Nat → Prop} {a b c : World} (h : Touch P a b) (k : b.grownBy c none) : Touch P a c :=
  ⟨k.os.trans h.os, k.tape.trans h.tape, k.output.trans h.output, Nat.le_trans h.size k.size, fun i hi hp => (k.block i (Nat.lt_of_lt_of_le hi h.size) (fun e => by cases e)).trans (h.block i hi hp)⟩
theorem Touch.drewN {P : Nat → Prop} {a b : World} (h : Touch P a b) (n : Nat) : Touch P a (b.drewN n) := ⟨h.os, h.tape, h.output, h.size, h.block⟩
theorem Touch.drew {P : Nat → Prop} {a b : World} (h : Touch P a b) : Touch P a b.drew := ⟨h.os, h.tape, h.output, h.size, h.block⟩
theorem Touch.alloc {P : Nat → Prop} {a b : World} (h : Touch P a b) (o : Obj) : Touch P a (b.alloc o) :=
  ⟨h.os, h.tape, h.output, Nat.le_trans h.size (by simp), fun i hi h0 => (Below.heap_alloc b o i (Nat.lt_of_lt_of_le hi h.size)).trans (h.block i hi h0)⟩
theorem Touch.setCell {P : Nat → Prop} {a b : World} (h : Touch P a b) {p : Addr} (hp : P p.block ∨ a.heap.size ≤ p.block) (v : Value) : Touch P a (b.setCell p v) :=
  ⟨h.os, h.tape, h.output, Nat.le_trans h.size (by simp [World.setCell]), fun i hi h0 => (Below.heap_setCell b p v i (fun e => by
    subst e
    rcases hp with hp | hp
    · exact h0 hp
    · omega)).trans (h.block i hi h0)⟩
theorem Touch.below {P : Nat → Prop} {a b : World} {B : Nat} (h : Touch P a b) (hB : B ≤ a.heap.size) (h0 : ∀ i, i < B → ¬ P i) : Below B a b :=
  ⟨h.os, h.tape, h.output, h.size, fun i hi => h.block i (by omega) (h0 i hi)⟩
/-- The ledger's block. -/
abbrev LedT : TypeId := 71
/-- A disk and a ledger in a world whose first B blocks are others'. -/
structure Sys (B : Nat) (w : World) (g gl : Nat) (s : Disk.St) (own : Nat → Nat) (L : Int × Int × Int) : Prop where
  disk : DiskAt w g s own
  led : Led w gl LedT L.1 L.2.1 L.2.2
  fair : Fair L.1 L.2.1
  apart : own gl = 0
  low : ∀ b, b < B → own b = 0
  glb : B ≤ gl
  tab : Tab w
  bru : Bruijn w
  tab0 : 1 < B
  bru0 : 0 < B
  size : B ≤ w.heap.size
theorem Sys.pageOk {B : Nat} {w : World} {g gl : Nat} {s : Disk.St} {own : Nat → Nat} {L : Int × Int × Int} (h : Sys B w g gl s own L) : pageOk s.page = true := by
  obtain ⟨pv, gu, mv, xs, ws, R⟩ := h.disk; exact R.page
theorem Sys.since {B : Nat} {w : World} {g gl : Nat} {s : Disk.St} {own : Nat → Nat} {L : Int × Int × Int} (h : Sys B w g gl s own L) : s.begun ≤ s.ops := by
  obtain ⟨pv, gu, mv, xs, ws, R⟩ := h.disk; exact R.since
theorem Sys.length {B : Nat} {w : World} {g gl : Nat} {s : Disk.St} {own : Nat → Nat} {L : Int × Int × Int} (h : Sys B w g gl s own L) : s.pages.length ≤ s.most ∧ s.most ≤ 16384 := by
  obtain ⟨pv, gu, mv, xs, ws, R⟩ := h.disk; exact ⟨R.most, R.top⟩
/-- What the disk does not own, and is not the ledger, may turn. -/
theorem Sys.stay {B : Nat} {w w' : World} {g gl : Nat} {s : Disk.St} {own : Nat → Nat} {L : Int × Int × Int} (h : Sys B w g gl s own L) (hs : w.heap.size ≤ w'.heap.size) (k : ∀ b, b < w.heap.size → own b ≠ 0 ∨ b = gl ∨ b < B → w'.heap[b]? = w.heap[b]?) : Sys B w' g gl s own L := by
  refine ⟨h.disk.stay hs fun b hb h0 => k b hb (.inl h0), h.led.same (k gl h.led.lt (.inr (.inl rfl))), h.fair, h.apart, h.low, h.glb, ?_, ?_, h.tab0, h.bru0, Nat.le_trans h.size hs⟩
  · intro j hj
    exact (World.cell?_of_block (k _ (Nat.lt_of_lt_of_le h.tab0 h.size) (.inr (.inr h.tab0)))).trans (h.tab j hj)
  · intro j hj
    exact (World.cell?_of_block (k _ (Nat.lt_of_lt_of_le h.bru0 h.size) (.inr (.inr h.bru0)))).trans (h.bru j hj)
theorem Sys.touch {P : Nat → Prop} {B : Nat} {w w' : World} {g gl : Nat} {s : Disk.St} {own : Nat → Nat} {L : Int × Int × Int} (h : Sys B w g gl s own L) (k : Touch P w w') (hp : ∀ b, b < w.heap.size → P b → B ≤ b ∧ own b = 0 ∧ b ≠ gl) : Sys B w' g gl s own L :=
  h.stay k.size fun b hb hr => k.block b hb fun hpb => by
    obtain ⟨h1, h2, h3⟩ := hp b hb hpb
    rcases hr with hr | hr | hr
    · exact hr h2
    · exact h3 hr
    · omega
/-- The disk has done something. -/
theorem Sys.only {B : Nat} {w w' : World} {g gl : Nat} {s s' : Disk.St} {own own' : Nat → Nat} {L : Int × Int × Int} (h : Sys B w g gl s own L) (hD : DiskAt w' g s' own') (hO : Only own w w') (hm : ∀ b, b < w.heap.size → own' b = own b) : Sys B w' g gl s' own' L := by
  have hgl := h.led.lt
  refine ⟨hD, h.led.same (hO.block gl hgl h.apart), h.fair, (hm gl hgl).trans h.apart, fun b hb => (hm b (Nat.lt_of_lt_of_le hb h.size)).trans (h.low b hb), h.glb, ?_, h.bru.only hO (h.low _ h.bru0), h.tab0, h.bru0, Nat.le_trans h.size hO.size⟩
  intro j hj
  exact (World.cell?_of_block (hO.block _ (Nat.lt_of_lt_of_le h.tab0 h.size) (h.low _ h.tab0))).trans (h.tab j hj)
/-- The ledger has done something. -/
theorem Sys.ledger {B : Nat} {w w' : World} {g gl : Nat} {s : Disk.St} {own : Nat → Nat} {L L' : Int × Int × Int} (h : Sys B w g gl s own L) (hl : Led w' gl LedT L'.1 L'.2.1 L'.2.2) (hf : Fair L'.1 L'.2.1) (hg : w.grownBy w' (some gl)) : Sys B w' g gl s own L' := by
  have hB : ∀ b, b < w.heap.size → b ≠ gl → w'.heap[b]? = w.heap[b]? := fun b hb hne => hg.block b hb (by simpa using hne)
  have hglb := h.glb
  refine ⟨h.disk.grown hg h.apart, hl, hf, h.apart, h.low, h.glb, ?_, ?_, h.tab0, h.bru0, Nat.le_trans h.size hg.size⟩
  · intro j hj
    exact (World.cell?_of_block (hB _ (Nat.lt_of_lt_of_le h.tab0 h.size) (fun e => by have h0 := h.tab0; have e2 : 1 = gl := e; omega))).trans (h.tab j hj)
  · intro j hj
    exact (World.cell?_of_block (hB _ (Nat.lt_of_lt_of_le h.bru0 h.size) (fun e => by have h0 := h.bru0; have e2 : 0 = gl := e; omega))).trans (h.bru j hj)
/-- What an operation has done to the blocks F of somebody, which are F' now: it touched what the disk owns, the ledger, F, and nothing else. -/
structure Move (B gl : Nat) (w w' : World) (own own' : Nat → Nat) (F F' : Nat → Prop) : Prop where
  touch : Touch (fun b => own b ≠ 0 ∨ b = gl ∨ F b) w w'
  marks : ∀ b, b < w.heap.size → own' b = own b
  foot : ∀ b, b < w.heap.size → F' b → F b
  free : ∀ b, F' b → B ≤ b ∧ own' b = 0 ∧ b ≠ gl ∧ b < w'.heap.size
/-- Blocks that are free to somebody. -/
def Free (B gl : Nat) (w : World) (own : Nat → Nat) (F : Nat → Prop) : Prop := ∀ b, F b → B ≤ b ∧ own b = 0 ∧ b ≠ gl ∧ b < w.heap.size
theorem Move.refl {B gl : Nat} {w : World} {own : Nat → Nat} {F : Nat → Prop} (h : Free B gl w own F) : Move B gl w w own own F F := ⟨Touch.refl _ _, fun _ _ => rfl, fun _ _ h => h, h⟩
theorem Move.trans {B gl : Nat} {a b c : World} {o1 o2 o3 : Nat → Nat} {F G H : Nat → Prop} (h : Move B gl a b o1 o2 F G) (k : Move B gl b c o2 o3 G H) : Move B gl a c o1 o3 F H := by
  refine ⟨h.touch.trans k.touch fun i hi hq => ?_, fun i hi => (k.marks i (Nat.lt_of_lt_of_le hi h.touch.size)).trans (h.marks i hi), fun i hi hh => h.foot i hi (k.foot i (Nat.lt_of_lt_of_le hi h.touch.size) hh), k.free⟩
  rcases hq with hq | hq | hq
  · rw [h.marks i hi] at hq; exact .inl hq
  · exact .inr (.inl hq)
  · exact .inr (.inr (h.foot i hi hq))
theorem Move.of_only {B gl : Nat} {w w' : World} {own own' : Nat → Nat} {F : Nat → Prop} (hF : Free B gl w own F) (hO : Only own w w') (hm : ∀ b, b < w.heap.size → own' b = own b) : Move B gl w w' own own' F F :=
  ⟨(Touch.of_only hO).mono fun _ _ h => .inl h, hm, fun _ _ h => h, fun b hb => by
    obtain ⟨h1, h2, h3, h4⟩ := hF b hb
    exact ⟨h1, (hm b h4).trans h2, h3, Nat.lt_of_lt_of_le h4 hO.size⟩⟩
theorem Move.of_ledger {B gl : Nat} {w w' : World} {own : Nat → Nat} {F : Nat → Prop} (hF : Free B gl w own F) (hg : w.grownBy w' (some gl)) : Move B gl w w' own own F F :=
  ⟨(Touch.refl _ _).grown hg (.inl (.inr (.inl rfl))), fun _ _ => rfl, fun _ _ h => h, fun b hb => by
    obtain ⟨h1, h2, h3, h4⟩ := hF b hb
    exact ⟨h1, h2, h3, Nat.lt_of_lt_of_le h4 hg.size⟩⟩
/-- Only blocks of F were written, or new ones came, of which F' has some. -/
theorem Move.of_touch {B gl : Nat} {w w' : World} {own : Nat → Nat} {F F' : Nat → Prop} (hF : Free B gl w own F) (hBw : B ≤ w.heap.size) (hgl : gl < w.heap.size) (hfr : ∀ b, w.heap.size ≤ b → own b = 0) (hT : Touch F w w') (hF' : ∀ b, F' b → (b < w.heap.size → F b) ∧ b < w'.heap.size) : Move B gl w w' own own F F' :=
  ⟨hT.mono fun _ _ h => .inr (.inr h), fun _ _ => rfl, fun b hb h => (hF' b h).1 hb, fun b hb => by
    by_cases hlt : b < w.heap.size
    · obtain ⟨h1, h2, h3, _⟩ := hF b ((hF' b hb).1 hlt)
      exact ⟨h1, h2, h3, (hF' b hb).2⟩
    · exact ⟨by omega, hfr b (by omega), by omega, (hF' b hb).2⟩⟩
theorem Move.drewN {B gl : Nat} {w w' : World} {own own' : Nat → Nat} {F F' : Nat → Prop} (h : Move B gl w w' own own' F F') (n : Nat) : Move B gl w (w'.drewN n) own own' F F' := ⟨h.touch.drewN n, h.marks, h.foot, h.free⟩
/-- What lies in nobody's blocks is as it was. -/
theorem Move.same {B gl : Nat} {w w' : World} {own own' : Nat → Nat} {F F' : Nat → Prop} (h : Move B gl w w' own own' F F') {b : Nat} (hb : b < w.heap.size) (h1 : own b = 0) (h2 : b ≠ gl) (h3 : ¬ F b) : w'.heap[b]? = w.heap[b]? :=
  h.touch.block b hb (fun hp => by
    rcases hp with hp | hp | hp
    · exact hp h1
    · exact h2 hp
    · exact h3 hp)
theorem Move.below {B gl : Nat} {w w' : World} {own own' : Nat → Nat} {F F' : Nat → Prop} (h : Move B gl w w' own own' F F') (hB : B ≤ w.heap.size) (hl : ∀ b, b < B → own b = 0) (hg : B ≤ gl) (hF : ∀ b, F b → B ≤ b) : Below B w w' :=
  h.touch.below hB fun i hi hp => by
    rcases hp with hp | hp | hp
    · exact hp (hl i hi)
    · omega
    · have := hF i hp; omega
/-- A row of numbers, as values. -/
def i64s (l : List Nat) : List Value := l.map fun n => .int .i64 ((n : Nat) : Int)
theorem length_i64s (l : List Nat) : (i64s l).length = l.length := by simp [i64s]
/-- A slice of numbers that is read. -/
def Ints (w : World) (a : Option Addr) (l : List Nat) : Prop := l = [] ∨ ∃ b off, a = some ⟨b, off, none⟩ ∧ ∀ j, j < l.length → w.cell? ⟨b, off + j, none⟩ = some (.int .i64 ((l.getD j 0 : Nat) : Int))
/-- A block of seven cells, as a writer's and a reader's. -/
def Obj7 (w : World) (b : Nat) (T : TypeId) (d n gv pv dv ct ov : Value) : Prop := w.heap[b]? = some (.cells #[d, n, gv, pv, dv, ct, ov] T (0, 0))
section
variable {w w' : World} {b : Nat} {T : TypeId} {d n gv pv dv ct ov : Value}
theorem Obj7.c0 (h : Obj7 w b T d n gv pv dv ct ov) : w.cell? ⟨b, 0, none⟩ = some d := by rw [cell_of_row w b 0 _ _ _ h]; rfl
theorem Obj7.c1 (h : Obj7 w b T d n gv pv dv ct ov) : w.cell? ⟨b, 1, none⟩ = some n := by rw [cell_of_row w b 1 _ _ _ h]; rfl
theorem Obj7.c2 (h : Obj7 w b T d n gv pv dv ct ov) : w.cell? ⟨b, 2, none⟩ = some gv := by rw [cell_of_row w b 2 _ _ _ h]; rfl
theorem Obj7.c3 (h : Obj7 w b T d n gv pv dv ct ov) : w.cell? ⟨b, 3, none⟩ = some pv := by rw [cell_of_row w b 3 _ _ _ h]; rfl
theorem Obj7.c4 (h : Obj7 w b T d n gv pv dv ct ov) : w.cell? ⟨b, 4, none⟩ = some dv := by rw [cell_of_row w b 4 _ _ _ h]; rfl
theorem Obj7.c5 (h : Obj7 w b T d n gv pv dv ct ov) : w.cell? ⟨b, 5, none⟩ = some ct := by rw [cell_of_row w b 5 _ _ _ h]; rfl
theorem Obj7.c6 (h : Obj7 w b T d n gv pv dv ct ov) : w.cell? ⟨b, 6, none⟩ = some ov := by rw [cell_of_row w b 6 _ _ _ h]; rfl
theorem Obj7.fr (h : Obj7 w b T d n gv pv dv ct ov) (j : Nat) : w.frozen? ⟨b, j, none⟩ = false := frozen_of_row w b j _ _ h
theorem Obj7.lt (h : Obj7 w b T d n gv pv dv ct ov) : b < w.heap.size := heap_lt h
theorem Obj7.same (h : Obj7 w b T d n gv pv dv ct ov) (e : w'.heap[b]? = w.heap[b]?) : Obj7 w' b T d n gv pv dv ct ov := e.trans h
theorem Obj7.s0 (h : Obj7 w b T d n gv pv dv ct ov) (x : Value) : Obj7 (w.setCell ⟨b, 0, none⟩ x) b T x n gv pv dv ct ov := by unfold Obj7; rw [heap_setCell_same w b 0 _ _ _ h]; rfl
theorem Obj7.s1 (h : Obj7 w b T d n gv pv dv ct ov) (x : Value) : Obj7 (w.setCell ⟨b, 1, none⟩ x) b T d x gv pv dv ct ov := by unfold Obj7; rw [heap_setCell_same w b 1 _ _ _ h]; rfl
theorem Obj7.s2 (h : Obj7 w b T d n gv pv dv ct ov) (x : Value) : Obj7 (w.setCell ⟨b, 2, none⟩ x) b T d n x pv dv ct ov := by unfold Obj7; rw [heap_setCell_same w b 2 _ _ _ h]; rfl
theorem Obj7.s3 (h : Obj7 w b T d n gv pv dv ct ov) (x : Value) : Obj7 (w.setCell ⟨b, 3, none⟩ x) b T d n gv x dv ct ov := by unfold Obj7; rw [heap_setCell_same w b 3 _ _ _ h]; rfl
theorem Obj7.s4 (h : Obj7 w b T d n gv pv dv ct ov) (x : Value) : Obj7 (w.setCell ⟨b, 4, none⟩ x) b T d n gv pv x ct ov := by unfold Obj7; rw [heap_setCell_same w b 4 _ _ _ h]; rfl
theorem Obj7.s5 (h : Obj7 w b T d n gv pv dv ct ov) (x : Value) : Obj7 (w.setCell ⟨b, 5, none⟩ x) b T d n gv pv dv x ov := by unfold Obj7; rw [heap_setCell_same w b 5 _ _ _ h]; rfl
theorem Obj7.s6 (h : Obj7 w b T d n gv pv dv ct ov) (x : Value) : Obj7 (w.setCell ⟨b, 6, none⟩ x) b T d n gv pv dv ct x := by unfold Obj7; rw [heap_setCell_same w b 6 _ _ _ h]; rfl
end
abbrev WrT : TypeId := 93
abbrev RdT : TypeId := 97
abbrev TpT : TypeId := 82
def ptr (g : Nat) : Value := .pointer (some ⟨g, 0, none⟩)
def nat (n : Nat) : Value := .int .i64 ((n : Nat) : Int)
/-- What is held: so many bytes, and who takes them back; or nothing. -/
def holdN (hb : Bool) (page : Nat) : Value := if hb then .int .i64 ((page : Nat) : Int) else .int .i64 0
def holdG (hb : Bool) (gl : Nat) : Value := if hb then .func (Fn.func 43) #[.pointer (some ⟨gl, 0, none⟩)] #[] else .nilFunc
def WFoot (gw : Nat) (pv dv : Value) (b : Nat) : Prop := b = gw ∨ pv.ownBlock = some b ∨ dv.ownBlock = some b
/-- A writer in memory. -/
structure WrMem (w : World) (gw g gl page : Nat) (hb : Bool) (P D : List Nat) (cnt : Nat) (pv dv : Value) : Prop where
  obj : Obj7 w gw WrT (ptr g) (holdN hb page) (holdG hb gl) pv dv (nat cnt) (.bool false)
  prow : w.ownsRow 0 3 1 pv P.length (i64s P)
  drow : w.ownsRow 0 5 1 dv D.length (u8s D)
  apart : ∀ b, pv.ownBlock = some b → dv.ownBlock = some b → False
  np : pv.ownBlock ≠ some gw
  nd : dv.ownBlock ≠ some gw
  nilp : P = [] → pv = .slice none 0 0
theorem WrMem.keep {w w' : World} {gw g gl page : Nat} {hb : Bool} {P D : List Nat} {cnt : Nat} {pv dv : Value} (h : WrMem w gw g gl page hb P D cnt pv dv) (k : ∀ b, WFoot gw pv dv b → w'.heap[b]? = w.heap[b]?) : WrMem w' gw g gl page hb P D cnt pv dv :=
  ⟨h.obj.same (k gw (.inl rfl)), ownsRow_keep h.prow fun b hb => k b (.inr (.inl hb)), ownsRow_keep h.drow fun b hb => k b (.inr (.inr hb)), h.apart, h.np, h.nd, h.nilp⟩
theorem WrMem.lt {w : World} {gw g gl page : Nat} {hb : Bool} {P D : List Nat} {cnt : Nat} {pv dv : Value} (h : WrMem w gw g gl page hb P D cnt pv dv) : ∀ b, WFoot gw pv dv b → b < w.heap.size := by
  intro b hb
  rcases hb with rfl | hb | hb
  · exact h.obj.lt
  · exact (h.prow.lt b hb).2
  · exact (h.drow.lt b hb).2
/-- A row that one has is read. -/
theorem ints_of_row {w : World} {pv : Value} {P : List Nat} (h : w.ownsRow 0 3 1 pv P.length (i64s P)) : ∃ a cap, pv = .slice a P.length cap ∧ P.length ≤ cap ∧ cap ≤ 9223372036854775807 ∧ Ints w a P ∧ (∀ p, a = some p → pv.ownBlock = some p.block ∧ p.off = 0 ∧ p.spot = none) := by
  obtain ⟨a, cap, rfl, hnc, hcm, _, hrow⟩ := row_form h
  refine ⟨a, cap, rfl, hnc, hcm, ?_, ?_⟩
  · rcases Nat.eq_zero_or_pos P.length with h0 | h0
    · exact .inl (List.eq_nil_of_length_eq_zero h0)
    · obtain ⟨b, rfl, _, hc, _⟩ := hrow h0
      refine .inr ⟨b, 0, rfl, fun j hj => ?_⟩
      rw [Nat.zero_add, hc j hj]
      simp [i64s, List.getD_eq_getElem?_getD, List.getElem?_eq_getElem hj]
  · intro p hp
    rcases h.2 with ⟨h2, _⟩ | ⟨g', cap', cur', h2, _⟩
    · rw [hp] at h2; cases h2
    · rw [hp] at h2
      simp only [Value.slice.injEq, Option.some.injEq] at h2
      obtain ⟨rfl, _, _⟩ := h2
      rw [hp]
      exact ⟨rfl, rfl, rfl⟩
theorem slice_of_row {w : World} {dv : Value} {D : List Nat} (h : w.ownsRow 0 5 1 dv D.length (u8s D)) : ∃ a cap, dv = .slice a D.length cap ∧ D.length ≤ cap ∧ cap ≤ 9223372036854775807 ∧ SliceIs w a D := by
  obtain ⟨a, cap, rfl, hnc, hcm, _, hrow⟩ := row_form h
  refine ⟨a, cap, rfl, hnc, hcm, ?_⟩
  rcases Nat.eq_zero_or_pos D.length with h0 | h0
  · exact .inl (List.eq_nil_of_length_eq_zero h0)
  · obtain ⟨b, rfl, _, hc, _⟩ := hrow h0
    refine .inr ⟨b, 0, rfl, fun j hj => ?_⟩
    rw [Nat.zero_add, hc j hj]
    simp [u8s, u8, List.getD_eq_getElem?_getD, List.getElem?_eq_getElem hj]
/-- Where an append's result lies, the rest is as it was. -/
theorem lies_block {w w' : World} {v v' : Value} (h : Lies w w' v v') {b : Nat} (hb : b < w.heap.size) (hv : v.ownBlock ≠ some b) : w'.heap[b]? = w.heap[b]? := by
  rcases h with ⟨_, h⟩ | ⟨_, h⟩
  · exact h.block b hb (fun e => hv e.symm)
  · exact h.block b hb (fun e => by cases e)
theorem lies_touch {w w' : World} {v v' : Value} (h : Lies w w' v v') : Touch (fun b => v.ownBlock = some b) w w' := by
  rcases h with ⟨_, h⟩ | ⟨_, h⟩
  · exact ⟨h.os, h.tape, h.output, h.size, fun i hi hp => h.block i hi (fun e => hp e.symm)⟩
  · exact ⟨h.os, h.tape, h.output, h.size, fun i hi _ => h.block i hi (fun e => by cases e)⟩
end Go.Proofs.YtbkiahnljklhpaaDoor
