/- BytesStr, RegDet, Wrote, BsonMem, BsonOrdReg, PathMath. -/
import Derived.WalkLawsBesides
import Derived.Laws.BytesArg
import Derived.Test.YtdihelpimpkfoaaDoorMg3
import Derived.Test.YtdihelpimpkfoaaDoorMg2
import Derived.Test.YtdihelpimpkfoaaDoorMg4
set_option maxRecDepth 100000
section
namespace Go.Proofs.YtdihelpimpkfoaaDoor
open Go.RowKit
open Seal
/-- The text that bytes make. -/
def strB (l : List Nat) : ByteArray := ⟨(l.map UInt8.ofNat).toArray⟩
theorem strB_inj {l m : List Nat} (hl : Oct l) (hm : Oct m) (h : strB l = strB m) : l = m := by
  have e : l.map UInt8.ofNat = m.map UInt8.ofNat := by
    have := congrArg (fun b : ByteArray => b.data.toList) h
    simpa [strB] using this
  have e2 : (l.map UInt8.ofNat).map UInt8.toNat = (m.map UInt8.ofNat).map UInt8.toNat := by rw [e]
  rw [List.map_map, List.map_map] at e2
  have id1 : ∀ l : List Nat, Oct l → l.map (UInt8.toNat ∘ UInt8.ofNat) = l := by
    intro l hl
    induction l with
    | nil => rfl
    | cons c r ih =>
      have hc : c < 256 := hl c (by simp)
      rw [List.map_cons, ih (fun x hx => hl x (by simp [hx]))]
      simp [Nat.mod_eq_of_lt hc]
  rw [id1 l hl, id1 m hm] at e2
  exact e2
/-- A block of bytes that was just made, whatever of it is frozen. -/
theorem reads_new (w : World) (l : List Nat) (t : TypeId) (fr : Nat × Nat) : Reads (w.alloc (.cells (u8s l).toArray t fr)) w.heap.size 0 l := by
  intro j hj
  rw [Nat.zero_add, cell_of_row _ w.heap.size j _ _ _ (heap_alloc_new w _)]
  simp [u8s, u8, List.getElem?_eq_getElem hj, List.getD_eq_getElem?_getD]
set_option maxRecDepth 100000 in
theorem conv_str (w : World) (a : Option Addr) (n c : Nat) (l : List Nat) (hl : l.length = n) (h : SliceIs w a l) : (convert 22 9 (.slice a n c)).run Tryd.prog w = .ok (.string (strB l)) w := by
  subst hl
  rcases h with rfl | ⟨b, off, rfl, h⟩
  · cases a with
    | none => exact run_convert_bytes_nil w 22 5 Tryd.underlying22 Tryd.underlying5 0 c 9 Tryd.underlying9
    | some a =>
      rw [List.length_nil, run_convert_bytes_string w 22 9 5 _ 0 c Tryd.underlying22 Tryd.underlying5 Tryd.underlying9, run_bytesToString w a 0 c [] (by simpa using run_loadCells_list (P := Tryd.prog) w a [] (by simp))]
      rfl
  · have := run_convert_bytes_arg w 22 5 Tryd.underlying22 Tryd.underlying5 b off l.length c (l.map fun n : Nat => (n : Int)) (by simp) (fun i hi => by
      rw [h i hi]; simp [List.getD_eq_getElem?_getD, List.getElem?_eq_getElem hi]) 9 Tryd.underlying9
    rw [this]
    congr 3
    unfold strOfNums strB; rw [List.map_map]; congr 3
end Go.Proofs.YtdihelpimpkfoaaDoor
end
section
namespace Go.Proofs.YtdihelpimpkfoaaDoor
open Go.RowKit
def DInv (Vc : List Value) (Ph : (Nat → Bool) → World → Prop) (D : Nat → Bool) (V : Nat → Value) (w : World) : Prop := (∀ i, D i = true → V i = Vc.getD i undef) ∧ Ph D w
def yes : Value → Option Bool
  | .bool b => some b
  | _ => none
section
variable {P : Program} {Q : Exit → Act → World → Prop} {md : Region.Mode} {ops : Array Oper} {A : (Nat → Value) → Act} {Vc : List Value} {Ph : (Nat → Bool) → World → Prop} {i : Nat} {o : Oper}
/-- As wp_region_inv, the results' slots told as they stand at the start. -/
theorem wp_region_inv0 {id : Nat} {a : Act} {w : World} {l : List Oper} (A : (Nat → Value) → Act) (I : (Nat → Bool) → (Nat → Value) → World → Prop) (hm : P.follows .mixedOrders = true) (hb : backB .any l 0 = true)
    (hn : nodupB (l.map (·.dst)) = true) (hA : ∀ V, putAll a V (l.map (·.dst)) 0 = A V) (hs : InvSteps P .any l.toArray Q A I l 0)
    (h0 : I (fun _ => false) (own0 a (l.map (·.dst))) { w with drawn := w.drawn + 1 })
    (hend : ∀ D V w', (∀ j, j < l.length → D j = true) → I D V w' → Q .normal (A V) w') : (Code.region id l.toArray true).wp P Q a w := by
  refine wp_region_any hm ?_
  have e0 : a = A (own0 a (l.map (·.dst))) := by
    rw [← hA, putAll_own]
    intro i d hi
    rw [Nat.zero_add, own0, hi]
  have h := inv_any (I := I) hb (fun V i o v ho => by
      rw [← hA, ← hA]
      have := putAll_upd (V := V) v (l.map (·.dst)) 0 i o.dst a hn (by rw [List.getElem?_map, ho]; rfl)
      rwa [Nat.zero_add] at this) hs hend l.toArray.size (Array.replicate l.toArray.size false) (own0 a (l.map (·.dst))) { w with drawn := w.drawn + 1 } (by simp) (by simpa using unl_le _ l.length)
      (by
        have e : (fun j => (Array.replicate l.toArray.size false).getD j false) = fun _ => false := by
          funext j
          by_cases h : j < l.length
          · simp [h]
          · simp [h]
        rw [e]; exact h0)
  rw [← e0] at h
  exact h
theorem DInv.next {D : Nat → Bool} {V : Nat → Value} {w w' : World} (h : DInv Vc Ph D V w) (v : Value) (hv : v = Vc.getD i undef) (hp : Ph (setD D i) w') : DInv Vc Ph (setD D i) (upd V i v) w' := by
  refine ⟨fun j hj => ?_, hp⟩
  unfold setD at hj
  unfold upd
  by_cases e : j = i
  · subst e; rw [if_pos rfl]; exact hv
  · rw [if_neg e] at hj; rw [if_neg e]; exact h.1 j hj
theorem det_free (hg : o.guard = none)
    (h : ∀ (D : Nat → Bool) (V : Nat → Value) (w : World), D i = false → Shut (∀ j, (o.after.any fun e => Region.binds md e && e.on == j) = true → D j = true ∧ V j = Vc.getD j undef) → Ph D w →
      ∀ K : Act → World → Prop, Shut (∀ w', Ph (setD D i) w' → K ((A V).put o.dst (Vc.getD i undef)) w') → Oper.wp P o (A V) w K Q) : InvStep P md ops Q A (DInv Vc Ph) i o := by
  intro D V w hDi hpre hI K hK
  rw [if_pos (show Region.wanted o (yielded ops (A V).tmps) = true by simp [Region.wanted, hg])]
  exact h D V w hDi (fun j hj => ⟨hpre j hj, hI.1 j (hpre j hj)⟩) hI.2 K (fun w' hp => hK _ _ w' rfl (hI.next _ rfl hp))
theorem det_on (j : Nat) (b : Bool) (hg : o.guard = some (j, b)) (ha : (o.after.any fun e => Region.binds md e && e.on == j) = true) (hy : ∀ V, yielded ops (A V).tmps j = yes (V j)) (hv : Vc.getD j undef = .bool b)
    (h : ∀ (D : Nat → Bool) (V : Nat → Value) (w : World), D i = false → Shut (∀ j, (o.after.any fun e => Region.binds md e && e.on == j) = true → D j = true ∧ V j = Vc.getD j undef) → Ph D w →
      ∀ K : Act → World → Prop, Shut (∀ w', Ph (setD D i) w' → K ((A V).put o.dst (Vc.getD i undef)) w') → Oper.wp P o (A V) w K Q) : InvStep P md ops Q A (DInv Vc Ph) i o := by
  intro D V w hDi hpre hI K hK
  have e : V j = .bool b := (hI.1 j (hpre j ha)).trans hv
  rw [if_pos (show Region.wanted o (yielded ops (A V).tmps) = true by simp [Region.wanted, hg, hy, e, yes])]
  exact h D V w hDi (fun j hj => ⟨hpre j hj, hI.1 j (hpre j hj)⟩) hI.2 K (fun w' hp => hK _ _ w' rfl (hI.next _ rfl hp))
theorem det_off (j : Nat) (b : Bool) (hg : o.guard = some (j, b)) (ha : (o.after.any fun e => Region.binds md e && e.on == j) = true) (hy : ∀ V, yielded ops (A V).tmps j = yes (V j)) (hv : Vc.getD j undef = .bool (!b)) (hu : Vc.getD i undef = undef)
    (h : ∀ (D : Nat → Bool) (w : World), D i = false → Shut (∀ j, (o.after.any fun e => Region.binds md e && e.on == j) = true → D j = true) → Ph D w → Ph (setD D i) w) : InvStep P md ops Q A (DInv Vc Ph) i o := by
  intro D V w hDi hpre hI K hK
  have e : V j = .bool (!b) := (hI.1 j (hpre j ha)).trans hv
  rw [if_neg (show ¬ Region.wanted o (yielded ops (A V).tmps) = true by simp [Region.wanted, hg, hy, e, yes])]
  exact hK _ undef w rfl (hI.next _ hu.symm (h D w hDi hpre hI.2))
end
end Go.Proofs.YtdihelpimpkfoaaDoor
end
section
namespace Go.Proofs.YtdihelpimpkfoaaDoor
open Go.RowKit
/-- An operation wrote what the row v owns, and new blocks; v' lies in v's block or in a new one. -/
def Wrote (w w' : World) (v v' : Value) : Prop := w.grownBy w' v.ownBlock ∧ (v'.ownBlock = v.ownBlock ∨ ∃ g, v'.ownBlock = some g ∧ w.heap.size ≤ g)
theorem Wrote.of_lies {w w' : World} {v v' : Value} (h : Lies w w' v v') : Wrote w w' v v' := by
  rcases h with ⟨h1, h2⟩ | ⟨h1, h2⟩
  · exact ⟨h2, .inl h1⟩
  · exact ⟨⟨h2.os, h2.tape, h2.output, h2.size, fun g hg _ => h2.block g hg nofun⟩, .inr ⟨_, h1, Nat.le_refl _⟩⟩
theorem Wrote.refl (w : World) (v : Value) : Wrote w w v v := ⟨World.grownBy.refl w _, .inl rfl⟩
theorem Wrote.below {w w' w2 : World} {v v' : Value} (h : Wrote w w' v v') (hb : Below w'.heap.size w' w2) : Wrote w w2 v v' :=
  ⟨⟨hb.os.trans h.1.os, hb.tape.trans h.1.tape, hb.output.trans h.1.output, Nat.le_trans h.1.size hb.size, fun g hg hne => (hb.block g (Nat.lt_of_lt_of_le hg h.1.size)).trans (h.1.block g hg hne)⟩, h.2⟩
theorem Wrote.of_below {w w' w2 : World} {v v' : Value} (hb : Below w.heap.size w w') (h : Wrote w' w2 v v') : Wrote w w2 v v' :=
  ⟨⟨h.1.os.trans hb.os, h.1.tape.trans hb.tape, h.1.output.trans hb.output, Nat.le_trans hb.size h.1.size, fun g hg hne => (h.1.block g (Nat.lt_of_lt_of_le hg hb.size) hne).trans (hb.block g hg)⟩,
    by rcases h.2 with h2 | ⟨g, h2, h3⟩
       · exact .inl h2
       · exact .inr ⟨g, h2, Nat.le_trans hb.size h3⟩⟩
theorem Wrote.trans {w w1 w2 : World} {v v1 v2 : Value} (h : Wrote w w1 v v1) (h' : Wrote w1 w2 v1 v2) : Wrote w w2 v v2 := by
  refine ⟨⟨h'.1.os.trans h.1.os, h'.1.tape.trans h.1.tape, h'.1.output.trans h.1.output, Nat.le_trans h.1.size h'.1.size, fun g hg hne => ?_⟩, ?_⟩
  · refine (h'.1.block g (Nat.lt_of_lt_of_le hg h.1.size) ?_).trans (h.1.block g hg hne)
    rcases h.2 with h2 | ⟨g2, h2, h3⟩
    · rw [h2]; exact hne
    · rw [h2]; intro e; have := Option.some.inj e; omega
  · rcases h'.2 with h2 | ⟨g2, h2, h3⟩
    · rw [h2]; exact h.2
    · exact .inr ⟨g2, h2, Nat.le_trans h.1.size h3⟩
theorem owns_below {w w' : World} {base : Nat} {e : TypeId} {size : Nat} {v : Value} {n : Nat} {xs : List Value} (h : w.ownsRow base e size v n xs) (hb : Below w.heap.size w w') : w'.ownsRow base e size v n xs := by
  obtain ⟨h1, h2 | ⟨g, cap, cur, e, hg, hrow, h3⟩⟩ := h
  · exact ⟨h1, .inl h2⟩
  · exact ⟨h1, .inr ⟨g, cap, cur, e, hg, (hb.block g (Array.getElem?_eq_some_iff.1 hrow).1).trans hrow, h3⟩⟩
theorem owns_block {w : World} {base : Nat} {e : TypeId} {size : Nat} {v : Value} {n : Nat} {xs : List Value} (h : w.ownsRow base e size v n xs) {g : Nat} (hg : v.ownBlock = some g) : base ≤ g ∧ g < w.heap.size := by
  obtain ⟨_, ⟨rfl, _⟩ | ⟨b, cap, cur, rfl, hb, hrow, _⟩⟩ := h
  · cases hg
  · obtain rfl : b = g := Option.some.inj hg
    exact ⟨hb, (Array.getElem?_eq_some_iff.1 hrow).1⟩
/-- The row, where its block is as it was. -/
theorem owns_same {w w' : World} {base : Nat} {e : TypeId} {size : Nat} {v : Value} {n : Nat} {xs : List Value} (h : w.ownsRow base e size v n xs) (hb : ∀ g, v.ownBlock = some g → w'.heap[g]? = w.heap[g]?) : w'.ownsRow base e size v n xs := by
  obtain ⟨h1, h2 | ⟨g, cap, cur, rfl, hg, hrow, h3⟩⟩ := h
  · exact ⟨h1, .inl h2⟩
  · exact ⟨h1, .inr ⟨g, cap, cur, rfl, hg, (hb g rfl).trans hrow, h3⟩⟩
end Go.Proofs.YtdihelpimpkfoaaDoor
end
section
namespace Go.Proofs.YtdihelpimpkfoaaDoor
open Go.RowKit
open Seal
open Bson (Val)
/-- What fits into a number of 64 bits, and how long what came in can be. -/
structure Lim (x : Val) : Prop where
  k0 : -9223372036854775808 ≤ x.kind
  k1 : x.kind ≤ 9223372036854775807
  n0 : -9223372036854775808 ≤ x.n
  n1 : x.n ≤ 9223372036854775807
  s : x.s.size ≤ 140737488355328
  b : x.b.length ≤ 140737488355328
  f : x.f.length ≤ 1172812402961
  l : x.l.length ≤ 1353245080339
  o : Oct x.b
/-- Six cells from an address on, as a value. -/
def SixAt (w : World) (g p : Nat) (v : Value) : Prop := ∃ c0 c1 c2 c3 c4 c5, v = .agg #[c0, c1, c2, c3, c4, c5] ∧ w.cell? ⟨g, p, none⟩ = some c0 ∧ w.cell? ⟨g, p + 1, none⟩ = some c1 ∧ w.cell? ⟨g, p + 2, none⟩ = some c2 ∧ w.cell? ⟨g, p + 3, none⟩ = some c3 ∧ w.cell? ⟨g, p + 4, none⟩ = some c4 ∧ w.cell? ⟨g, p + 5, none⟩ = some c5
def BytesIn (w : World) (Q : Nat → Prop) (a : Option Addr) (l : List Nat) : Prop := l = [] ∨ ∃ g o, a = some ⟨g, o, none⟩ ∧ Q g ∧ Reads w g o l
def FieldsIn (w : World) (Q : Nat → Prop) (V : Val → Value → Prop) (a : Option Addr) (f : List (ByteArray × Val)) : Prop :=
  f = [] ∨ ∃ g o, a = some ⟨g, o, none⟩ ∧ Q g ∧ ∀ i (hi : i < f.length), w.cell? ⟨g, o + i * 7, none⟩ = some (.string f[i].1) ∧ f[i].1.size ≤ 140737488355328 ∧ ∃ v, SixAt w g (o + i * 7 + 1) v ∧ V f[i].2 v
def ItemsIn (w : World) (Q : Nat → Prop) (V : Val → Value → Prop) (a : Option Addr) (l : List Val) : Prop :=
  l = [] ∨ ∃ g o, a = some ⟨g, o, none⟩ ∧ Q g ∧ ∀ i (hi : i < l.length), ∃ v, SixAt w g (o + i * 6) v ∧ V l[i] v
/-- A value's six parts. -/
def agg (x : Val) (ba fa la : Option Addr) (bc fc lc : Nat) : Value :=
  .agg #[.int .i64 x.kind, .int .i64 x.n, .string x.s, .slice ba x.b.length bc, .slice fa x.f.length fc, .slice la x.l.length lc]
/-- The value v reads as x in w, is at most so high, and lies in blocks that Q names. -/
def VIn (w : World) (Q : Nat → Prop) : Nat → Val → Value → Prop
  | 0, _, _ => False
  | h + 1, x, v => ∃ ba fa la bc fc lc, v = agg x ba fa la bc fc lc ∧ Lim x ∧ (x.b.length ≤ bc ∧ bc ≤ 9223372036854775807) ∧ (x.f.length ≤ fc ∧ fc ≤ 9223372036854775807) ∧ (x.l.length ≤ lc ∧ lc ≤ 9223372036854775807) ∧
      BytesIn w Q ba x.b ∧ FieldsIn w Q (VIn w Q h) fa x.f ∧ ItemsIn w Q (VIn w Q h) la x.l
/-- The blocks that Q names read in w' as they did in w. -/
def Kept (Q : Nat → Prop) (w w' : World) : Prop := ∀ g, Q g → g < w.heap.size → w'.heap[g]? = w.heap[g]?
theorem Kept.of_below {Q : Nat → Prop} {w w' : World} (hb : Below w.heap.size w w') : Kept Q w w' := fun g _ hg => hb.block g hg
theorem Kept.cell {Q : Nat → Prop} {w w' : World} (h : Kept Q w w') {g o : Nat} {v : Value} (hq : Q g) (hc : w.cell? ⟨g, o, none⟩ = some v) : w'.cell? ⟨g, o, none⟩ = some v :=
  (World.cell?_of_block (a := ⟨g, o, none⟩) (h g hq (World.block_lt_of_cell? w _ hc))).trans hc
theorem SixAt.kept {Q : Nat → Prop} {w w' : World} {g p : Nat} {v : Value} (h : SixAt w g p v) (hb : Kept Q w w') (hq : Q g) : SixAt w' g p v := by
  obtain ⟨c0, c1, c2, c3, c4, c5, e, h0, h1, h2, h3, h4, h5⟩ := h
  exact ⟨c0, c1, c2, c3, c4, c5, e, hb.cell hq h0, hb.cell hq h1, hb.cell hq h2, hb.cell hq h3, hb.cell hq h4, hb.cell hq h5⟩
theorem SixAt.keep {w w' : World} {g p : Nat} {v : Value} (h : SixAt w g p v) (hb : Below w.heap.size w w') : SixAt w' g p v :=
  h.kept (Q := fun _ => True) (Kept.of_below hb) trivial
theorem BytesIn.kept {Q Q' : Nat → Prop} {w w' : World} {a : Option Addr} {l : List Nat} (h : BytesIn w Q a l) (hb : Kept Q w w') (hQ : ∀ g, Q g → Q' g) : BytesIn w' Q' a l := by
  rcases h with h | ⟨g, o, e, hq, h⟩
  · exact .inl h
  · exact .inr ⟨g, o, e, hQ g hq, fun j hj => hb.cell hq (h j hj)⟩
theorem FieldsIn.kept {Q Q' : Nat → Prop} {w w' : World} {V V' : Val → Value → Prop} {a : Option Addr} {f : List (ByteArray × Val)} (h : FieldsIn w Q V a f) (hb : Kept Q w w') (hQ : ∀ g, Q g → Q' g) (hV : ∀ x v, V x v → V' x v) : FieldsIn w' Q' V' a f := by
  rcases h with h | ⟨g, o, e, hq, h⟩
  · exact .inl h
  · refine .inr ⟨g, o, e, hQ g hq, fun i hi => ?_⟩
    obtain ⟨h1, h2, v, h3, h4⟩ := h i hi
    exact ⟨hb.cell hq h1, h2, v, h3.kept hb hq, hV _ _ h4⟩
theorem ItemsIn.kept {Q Q' : Nat → Prop} {w w' : World} {V V' : Val → Value → Prop} {a : Option Addr} {l : List Val} (h : ItemsIn w Q V a l) (hb : Kept Q w w') (hQ : ∀ g, Q g → Q' g) (hV : ∀ x v, V x v → V' x v) : ItemsIn w' Q' V' a l := by
  rcases h with h | ⟨g, o, e, hq, h⟩
  · exact .inl h
  · refine .inr ⟨g, o, e, hQ g hq, fun i hi => ?_⟩
    obtain ⟨v, h3, h4⟩ := h i hi
    exact ⟨v, h3.kept hb hq, hV _ _ h4⟩
theorem VIn.kept {w w' : World} {Q Q' : Nat → Prop} (hb : Kept Q w w') (hQ : ∀ g, Q g → Q' g) : ∀ {h : Nat} {x : Val} {v : Value}, VIn w Q h x v → VIn w' Q' h x v
  | 0, _, _, h => h.elim
  | _ + 1, _, _, ⟨ba, fa, la, bc, fc, lc, e, h1, h2, h3, h4, h5, h6, h7⟩ =>
    ⟨ba, fa, la, bc, fc, lc, e, h1, h2, h3, h4, h5.kept hb hQ, h6.kept hb hQ (fun _ _ h => VIn.kept hb hQ h), h7.kept hb hQ (fun _ _ h => VIn.kept hb hQ h)⟩
theorem VIn.keep {w w' : World} {Q : Nat → Prop} (hb : Below w.heap.size w w') {h : Nat} {x : Val} {v : Value} (hv : VIn w Q h x v) : VIn w' Q h x v := VIn.kept (Kept.of_below hb) (fun _ h => h) hv
theorem VIn.up {w : World} {Q : Nat → Prop} : ∀ {h : Nat} {x : Val} {v : Value}, VIn w Q h x v → ∀ {h' : Nat}, h ≤ h' → VIn w Q h' x v
  | 0, _, _, h, _, _ => h.elim
  | h + 1, x, v, ⟨ba, fa, la, bc, fc, lc, e, h1, h2, h3, h4, h5, h6, h7⟩, h', hle => by
    obtain ⟨h', rfl⟩ : ∃ k, h' = k + 1 := ⟨h' - 1, by omega⟩
    have k : ∀ x v, VIn w Q h x v → VIn w Q h' x v := fun x v hv => VIn.up hv (by omega)
    exact ⟨ba, fa, la, bc, fc, lc, e, h1, h2, h3, h4, h5, h6.kept (Kept.of_below (Below.refl _ _)) (fun _ h => h) k, h7.kept (Kept.of_below (Below.refl _ _)) (fun _ h => h) k⟩
theorem BytesIn.slice {w : World} {Q : Nat → Prop} {a : Option Addr} {l : List Nat} (h : BytesIn w Q a l) : SliceIs w a l := by
  rcases h with h | ⟨g, o, e, _, h⟩
  · exact .inl h
  · exact .inr ⟨g, o, e, h⟩
end Go.Proofs.YtdihelpimpkfoaaDoor
end
section
namespace Go.Proofs.YtdihelpimpkfoaaDoor
open Go.RowKit
def RI (w W5 : World) (cs : List Value) (A : World → Value → Prop) (F : World → Prop) (D : Nat → Bool) (V : Nat → Value) (W : World) : Prop :=
  (∀ i, i < 8 → D i = true → V i = cs.getD i undef) ∧ Below w.heap.size w W ∧ (D 8 = false → Below W5.heap.size W5 W) ∧ (D 8 = true → D 9 = false → A W (V 8)) ∧ (D 9 = true → F W) ∧ (D 9 = true → D 8 = true) ∧ (D 8 = true → D 0 = true)
section
variable {w W5 W W' : World} {cs : List Value} {A : World → Value → Prop} {F : World → Prop} {D : Nat → Bool} {V : Nat → Value}
theorem RI.start (hb : Below w.heap.size w W5) : RI w W5 cs A F (fun _ => false) V { W5 with drawn := W5.drawn + 1 } :=
  ⟨fun _ _ h => (by cases h), ⟨hb.os, hb.tape, hb.output, hb.size, hb.block⟩, fun _ => ⟨rfl, rfl, rfl, Nat.le_refl _, fun _ _ => rfl⟩, fun h => (by cases h), fun h => (by cases h), fun h => (by cases h), fun h => (by cases h)⟩
theorem RI.pure (h : RI w W5 cs A F D V W) {i : Nat} (hi : i < 8) {c : Value} (hc : c = cs.getD i undef) : RI w W5 cs A F (setD D i) (upd V i c) W := by
  obtain ⟨h1, h2, h3, h4, h5, h6, h7⟩ := h
  have e8 : setD D i 8 = D 8 := by unfold setD; rw [if_neg (by omega)]
  have e9 : setD D i 9 = D 9 := by unfold setD; rw [if_neg (by omega)]
  have v8 : upd V i c 8 = V 8 := by unfold upd; rw [if_neg (by omega)]
  unfold RI
  rw [e8, e9, v8]
  refine ⟨fun j hj hd => ?_, h2, h3, h4, h5, h6, fun e => ?_⟩
  · unfold setD at hd
    unfold upd
    by_cases e : j = i
    · rw [if_pos e, e]; exact hc
    · rw [if_neg e] at hd ⊢; exact h1 j hj hd
  · unfold setD
    by_cases e0 : 0 = i
    · rw [if_pos e0]
    · rw [if_neg e0]; exact h7 e
theorem RI.call (h : RI w W5 cs A F D V W) (h8 : D 8 = false) (h0 : D 0 = true) (hb : Below W.heap.size W W') {u : Value} (ha : A W' u) : RI w W5 cs A F (setD D 8) (upd V 8 u) W' := by
  obtain ⟨h1, h2, h3, h4, h5, h6, h7⟩ := h
  have e9 : setD D 8 9 = D 9 := rfl
  have h9 : D 9 = false := by
    cases e : D 9 with
    | false => rfl
    | true => rw [h6 e] at h8; cases h8
  refine ⟨fun j hj hd => ?_, h2.trans (hb.mono h2.size), fun e => (by cases e), fun _ _ => ha, fun e => (by rw [e9, h9] at e; cases e), fun e => rfl, fun _ => h0⟩
  have e : j ≠ 8 := by omega
  unfold setD at hd
  unfold upd
  rw [if_neg e] at hd ⊢
  exact h1 j hj hd
theorem RI.last (h : RI w W5 cs A F D V W) (h8 : D 8 = true) (hb : Below w.heap.size w W') (hf : F W') : RI w W5 cs A F (setD D 9) (upd V 9 undef) W' := by
  obtain ⟨h1, h2, h3, h4, h5, h6, h7⟩ := h
  have e8 : setD D 9 8 = D 8 := rfl
  refine ⟨fun j hj hd => ?_, hb, fun e => (by rw [e8, h8] at e; cases e), fun _ e => (by cases e), fun _ => hf, fun _ => h8, fun e => h7 e⟩
  have e : j ≠ 9 := by omega
  unfold setD at hd
  unfold upd
  rw [if_neg e] at hd ⊢
  exact h1 j hj hd
end
theorem i64_wf5 {n : Int} (h0 : -9223372036854775808 ≤ n) (h1 : n ≤ 9223372036854775807) : (Lit.int .i64 n).wf = true := by
  have e1 : IntKind.i64.min = -9223372036854775808 := rfl
  have e2 : IntKind.i64.max = 9223372036854775807 := rfl
  simp only [Lit.wf, Bool.and_eq_true, decide_eq_true_eq]
  omega
end Go.Proofs.YtdihelpimpkfoaaDoor
end
section
namespace Bson
open Go
/-- The value of the first field of that name, Missing where there is none. -/
def fieldIn : List (ByteArray × Val) → ByteArray → Val
  | [], _ => zero
  | (s, v) :: r, a => if s = a then v else fieldIn r a
def nil_ : Val := zero
/-- A List of these items. -/
def listOf (l : List Val) : Val := .mk 7 0 none_ [] [] l
/-- What an expression's path leads to (n: fuel, as much as names and height together). -/
def reach : Nat → Val → List ByteArray → Val
  | _, x, [] => x
  | 0, _, _ :: _ => zero
  | n + 1, x, a :: r => if x.kind = 6 then reach n (fieldIn x.f a) r else if x.kind = 7 then listOf ((x.l.map fun y => reach n y (a :: r)).filter fun y => decide (y.kind ≠ 0)) else zero
/-- What a query's path leads to. -/
def itself (x : Val) : List Val := x :: (if x.kind = 7 then x.l else [])
def all : Nat → Val → List ByteArray → List Val
  | _, x, [] => itself x
  | 0, _, _ :: _ => [zero]
  | n + 1, x, a :: r =>
    if x.kind = 6 then (if (fieldIn x.f a).kind = 0 then [zero] else all n (fieldIn x.f a) r)
    else if x.kind = 7 then (if (x.l.filter fun y => decide (y.kind = 6)).isEmpty then [zero] else (x.l.filter fun y => decide (y.kind = 6)).flatMap fun y => all n y (a :: r))
    else [zero]
theorem reach_nil (n : Nat) (x : Val) : reach n x [] = x := by cases n <;> rfl
theorem all_nil (n : Nat) (x : Val) : all n x [] = itself x := by cases n <;> rfl
theorem reach_doc (n : Nat) (x : Val) (a : ByteArray) (r : List ByteArray) (h : x.kind = 6) : reach (n + 1) x (a :: r) = reach n (fieldIn x.f a) r := by rw [reach, if_pos h]
theorem reach_list (n : Nat) (x : Val) (a : ByteArray) (r : List ByteArray) (h : x.kind = 7) : reach (n + 1) x (a :: r) = listOf ((x.l.map fun y => reach n y (a :: r)).filter fun y => decide (y.kind ≠ 0)) := by rw [reach, if_neg (by omega), if_pos h]
theorem reach_other (n : Nat) (x : Val) (a : ByteArray) (r : List ByteArray) (h6 : x.kind ≠ 6) (h7 : x.kind ≠ 7) : reach n x (a :: r) = zero := by
  cases n with
  | zero => rfl
  | succ n => rw [reach, if_neg h6, if_neg h7]
theorem all_ne (n : Nat) (x : Val) (p : List ByteArray) : all n x p ≠ [] := by
  induction n generalizing x p with
  | zero => cases p <;> simp [all, itself]
  | succ n ih =>
    cases p with
    | nil => simp [all, itself]
    | cons a r =>
      rw [all]
      split
      · split
        · simp
        · exact ih _ _
      · split
        · split
          · simp
          · rename_i h
            intro e
            simp only [List.isEmpty_iff] at h
            cases hl : x.l.filter fun y => decide (y.kind = 6) with
            | nil => exact h hl
            | cons y t =>
              rw [hl, List.flatMap_cons, List.append_eq_nil_iff] at e
              exact ih _ _ e.1
        · simp
theorem all_missing (n : Nat) (x : Val) (a : ByteArray) (r : List ByteArray) (h : x.kind = 6) (h0 : (fieldIn x.f a).kind = 0) : all (n + 1) x (a :: r) = [zero] := by rw [all, if_pos h, if_pos h0]
theorem all_doc (n : Nat) (x : Val) (a : ByteArray) (r : List ByteArray) (h : x.kind = 6) (h0 : (fieldIn x.f a).kind ≠ 0) : all (n + 1) x (a :: r) = all n (fieldIn x.f a) r := by rw [all, if_pos h, if_neg h0]
theorem all_none (n : Nat) (x : Val) (a : ByteArray) (r : List ByteArray) (h : x.kind = 7) (h0 : (x.l.filter fun y => decide (y.kind = 6)) = []) : all (n + 1) x (a :: r) = [zero] := by
  rw [all, if_neg (by omega), if_pos h, if_pos (by rw [h0]; rfl)]
theorem all_list (n : Nat) (x : Val) (a : ByteArray) (r : List ByteArray) (h : x.kind = 7) (h0 : (x.l.filter fun y => decide (y.kind = 6)) ≠ []) : all (n + 1) x (a :: r) = (x.l.filter fun y => decide (y.kind = 6)).flatMap fun y => all n y (a :: r) := by
  rw [all, if_neg (by omega), if_pos h, if_neg (by simp only [List.isEmpty_iff]; exact h0)]
theorem all_other (n : Nat) (x : Val) (a : ByteArray) (r : List ByteArray) (h6 : x.kind ≠ 6) (h7 : x.kind ≠ 7) : all n x (a :: r) = [zero] := by
  cases n with
  | zero => rfl
  | succ n => rw [all, if_neg h6, if_neg h7]
end Bson
end
