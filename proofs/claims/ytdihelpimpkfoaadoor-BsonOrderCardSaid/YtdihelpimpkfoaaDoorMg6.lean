/- RegFactsOn, BsonPutMath, BsonShallow, ValLets, BsonFind, BsonIndex, BsonRdr. -/
import Derived.Deep.RegionHeld3
import Derived.WalkLawsBesides
import Derived.Lib.BytesEntry
import Derived.Lib.Bytealg
import Derived.Laws.Externs
import Derived.Deep.QuietTactic
import Derived.BigQuiet
import Derived.IntWalk
import Derived.RegionTactic
import Derived.Test.YtdihelpimpkfoaaDoorMg1
import Derived.Test.YtdihelpimpkfoaaDoorMg5
import Derived.Test.YtdihelpimpkfoaaDoorMg2
import Derived.Test.YtdihelpimpkfoaaDoorMg0
import Derived.Test.YtdihelpimpkfoaaDoorMg3
set_option maxRecDepth 100000
section
namespace Go.Proofs.YtdihelpimpkfoaaDoor
open Go.RowKit
section
variable {P : Program} {Q : Exit → Act → World → Prop} {md : Region.Mode}
theorem fact_on {ops : Array Oper} {A : (Nat → Value) → Act} {w0 : World} {fs : List Fact} {i : Nat} {o : Oper} (j : Nat) (b : Bool) (hg : o.guard = some (j, b)) (ha : (o.after.any fun e => Region.binds md e && e.on == j) = true) (hy : ∀ V, yielded ops (A V).tmps j = yes (V j)) (hv : ∀ v w, (factAt fs j).p v w → v = .bool b)
    (h : ∀ (V : Nat → Value) (w : World), Below w0.heap.size w0 w → Shut (∀ j, (o.after.any fun e => Region.binds md e && e.on == j) = true → (factAt fs j).p (V j) w) →
      ∀ K : Act → World → Prop, Shut (∀ v w', Below w.heap.size w w' → (factAt fs i).p v w' → K ((A V).put o.dst v) w') → Oper.wp P o (A V) w K Q) : FactStep P md ops Q A w0 fs i o := by
  intro V w hB hF K hK
  have e : V j = .bool b := hv _ _ (hF.out j ha)
  rw [if_pos (show Region.wanted o (yielded ops (A V).tmps) = true by simp [Region.wanted, hg, hy, e, yes])]
  exact h V w hB hF K (fun v w' h1 h2 => hK _ v w' rfl h1 h2)
end
end Go.Proofs.YtdihelpimpkfoaaDoor
end
section
namespace Bson
open Go
/-- The byte of a number at a place. -/
def byteAt (x : Int) (i : Nat) : Nat := (x / (2 ^ (8 * i) : Nat) % 256).toNat
def putB (x : Int) (n : Nat) : List Nat := (List.range n).map (byteAt x)
theorem putB_succ (x : Int) (n : Nat) : putB x (n + 1) = putB x n ++ [byteAt x n] := by
  unfold putB
  rw [List.range_succ, List.map_append]; rfl
theorem putB_length (x : Int) (n : Nat) : (putB x n).length = n := by simp [putB]
theorem le_range (X n : Nat) : le X n = (List.range n).map fun i => X / 256 ^ i % 256 := by
  induction n generalizing X with
  | zero => rfl
  | succ n ih =>
    rw [le, ih, List.range_succ_eq_map, List.map_cons, List.map_map]
    congr 1
    · simp
    · refine List.map_congr_left fun i _ => ?_
      show X / 256 / 256 ^ i % 256 = X / 256 ^ (i + 1) % 256
      rw [Nat.div_div_eq_div_mul, Nat.pow_succ, Nat.mul_comm]
theorem byteAt_lt (x : Int) (i : Nat) : byteAt x i < 256 := by
  unfold byteAt
  have h1 := Int.emod_nonneg (x / (2 ^ (8 * i) : Nat)) (show (256 : Int) ≠ 0 by decide)
  have h2 := Int.emod_lt_of_pos (x / (2 ^ (8 * i) : Nat)) (show (0 : Int) < 256 by decide)
  omega
theorem emod_mul_div (x a b : Int) (ha : 0 < a) (hb : 0 < b) : x % (a * b) / a = x / a % b := by
  have h1 := Int.emod_add_mul_ediv x (a * b)
  have h2 : x / a = x % (a * b) / a + b * (x / (a * b)) := by
    conv => lhs; rw [← h1]
    rw [Int.mul_assoc, Int.add_mul_ediv_left _ _ (by omega)]
  have hab : 0 < a * b := Int.mul_pos ha hb
  have h3 : 0 ≤ x % (a * b) / a := Int.ediv_nonneg (Int.emod_nonneg _ (by omega)) (by omega)
  have h4 : x % (a * b) / a < b := Int.ediv_lt_of_lt_mul ha (by rw [Int.mul_comm b a]; exact Int.emod_lt_of_pos _ hab)
  rw [h2, Int.add_mul_emod_self_left, Int.emod_eq_of_lt h3 h4]
theorem putB_leI (x : Int) (n : Nat) : putB x n = leI x n := by
  unfold leI putB
  rw [le_range]
  refine List.map_congr_left fun i hi => ?_
  have hin : i < n := List.mem_range.1 hi
  unfold byteAt
  have e8 : (2 ^ (8 * i) : Nat) = 256 ^ i := by rw [Nat.pow_mul]
  rw [e8]
  obtain ⟨m, rfl⟩ : ∃ m, n = i + (m + 1) := ⟨n - i - 1, by omega⟩
  have hp : (0 : Int) < ((256 ^ i : Nat) : Int) := by have : 0 < 256 ^ i := Nat.pow_pos (by decide); omega
  have hm : (0 : Int) < ((256 ^ m : Nat) : Int) * 256 := by have : 0 < 256 ^ m := Nat.pow_pos (by decide); omega
  have e2 : ((256 ^ (i + (m + 1)) : Nat) : Int) = ((256 ^ i : Nat) : Int) * (((256 ^ m : Nat) : Int) * 256) := by
    rw [Nat.pow_add, Nat.pow_succ, Int.natCast_mul, Int.natCast_mul]; rfl
  have hd := emod_mul_div x _ _ hp hm
  rw [← e2] at hd
  have hd2 : x / ((256 ^ i : Nat) : Int) % 256 = x % ((256 ^ (i + (m + 1)) : Nat) : Int) / ((256 ^ i : Nat) : Int) % 256 := by
    rw [hd, Int.emod_emod_of_dvd _ (Int.dvd_mul_left _ _)]
  rw [hd2]
  have hr := Int.emod_nonneg x (show ((256 ^ (i + (m + 1)) : Nat) : Int) ≠ 0 by rw [e2]; exact Int.ne_of_gt (Int.mul_pos hp hm))
  generalize x % ((256 ^ (i + (m + 1)) : Nat) : Int) = r at hr
  obtain ⟨r, rfl⟩ := Int.eq_ofNat_of_zero_le hr
  rw [Int.toNat_natCast, ← Int.natCast_ediv]
  generalize r / 256 ^ i = t
  omega
theorem putB_oct (x : Int) (n : Nat) : ∀ c ∈ putB x n, c < 256 := by
  intro c hc
  obtain ⟨i, _, rfl⟩ := List.mem_map.1 hc
  exact byteAt_lt x i
end Bson
namespace Go.Proofs.YtdihelpimpkfoaaDoor
open Go.RowKit
open Seal
/-- A row of one's own, with those bytes, in blocks from base on. -/
structure Own8 (w : World) (base : Nat) (v : Value) (bs : List Nat) : Prop where
  own : w.ownsRow base 5 1 v bs.length (u8s bs)
  sz : base ≤ w.heap.size
theorem Own8.shape {w : World} {base : Nat} {v : Value} {bs : List Nat} (h : Own8 w base v bs) : ∃ a c, v = .slice a bs.length c ∧ bs.length ≤ c ∧ c ≤ maxLen := by
  rcases h.own.2 with ⟨rfl, e⟩ | ⟨g, cap, cur, rfl, _, _, h1, h2, _⟩
  · exact ⟨none, 0, by rw [e], by omega, by unfold maxLen; omega⟩
  · exact ⟨_, cap, rfl, h1, h2⟩
theorem Own8.below {w w' : World} {base : Nat} {v : Value} {bs : List Nat} (h : Own8 w base v bs) (hb : Below w.heap.size w w') : Own8 w' base v bs :=
  ⟨owns_below h.own hb, Nat.le_trans h.sz hb.size⟩
/-- What writes a row of one's own leaves all below its base. -/
theorem below_own {w w' : World} {base : Nat} {v : Value} {n : Nat} {xs : List Value} (ho : w.ownsRow base 5 1 v n xs) (hb : base ≤ w.heap.size) (hg : w.grownBy w' v.ownBlock) : Below base w w' :=
  ⟨hg.os, hg.tape, hg.output, hg.size, fun g hgb => hg.block g (by omega) (fun e => by have := (ho.lt g e.symm).1; omega)⟩
/-- What is put writes rows of bytes, from base on, and new blocks. -/
structure PutRel (base : Nat) (w w' : World) : Prop where
  below : Below base w w'
  keep : ∀ (g : Nat) (cs : Array Value) (t : TypeId) (fr : Nat × Nat), t ≠ 5 → w.heap[g]? = some (Obj.cells cs t fr) → w'.heap[g]? = some (Obj.cells cs t fr)
theorem PutRel.refl (base : Nat) (w : World) : PutRel base w w := ⟨Below.refl _ _, fun _ _ _ _ _ h => h⟩
theorem PutRel.trans {base : Nat} {w w1 w' : World} (h : PutRel base w w1) (h2 : PutRel base w1 w') : PutRel base w w' := ⟨h.below.trans h2.below, fun g cs t fr hn hb => h2.keep g cs t fr hn (h.keep g cs t fr hn hb)⟩
theorem PutRel.new {base : Nat} {w w' : World} (hb : Below w.heap.size w w') (hs : base ≤ w.heap.size) : PutRel base w w' :=
  ⟨hb.mono hs, fun g _ _ _ _ h => (hb.block g (Array.getElem?_eq_some_iff.1 h).1).trans h⟩
theorem PutRel.own {w w' : World} {base : Nat} {v : Value} {n : Nat} {xs : List Value} (ho : w.ownsRow base 5 1 v n xs) (hb : base ≤ w.heap.size) (hg : w.grownBy w' v.ownBlock) : PutRel base w w' := by
  refine ⟨below_own ho hb hg, fun g cs t fr hn h => (hg.block g (Array.getElem?_eq_some_iff.1 h).1 (fun e => ?_)).trans h⟩
  rcases ho.2 with ⟨rfl, _⟩ | ⟨g2, cap, cur, rfl, _, h2, _⟩
  · cases e
  · obtain rfl : g = g2 := Option.some.inj e
    rw [h2] at h
    injection h with h
    injection h with _ h3 _
    exact hn h3.symm
theorem u8s_snoc (a b : List Nat) : u8s a ++ u8s b = u8s (a ++ b) := by unfold u8s; exact List.map_append.symm
theorem strCells_u8s (s : ByteArray) : Lib.strCells s = u8s (Bson.bytes s) := by
  unfold Lib.strCells u8s Bson.bytes
  rw [List.map_map]; rfl
theorem u8s_cell (l : List Nat) : ∀ u ∈ u8s l, u.oneCell' = true := fun u hu => by
  obtain ⟨c, _, rfl⟩ := List.mem_map.1 hu
  rfl
end Go.Proofs.YtdihelpimpkfoaaDoor
end
section
namespace Go.Proofs.YtdihelpimpkfoaaDoor
open Go.RowKit
open Seal
open Bson (Val)
theorem ret_eq {a b : Value} (h : a = b) : Ending.returned a = .returned b := by rw [h]
/-- Some answer, and nothing old has turned. -/
def SomeBool (w : World) (e : Ending) (w' : World) : Prop := ∃ b, e = .returned (.bool b) ∧ Below w.heap.size w w'
theorem cell_keep {w w' : World} {p : Addr} {v : Value} (hb : Below w.heap.size w w') (h : w.cell? p = some v) : w'.cell? p = some v := (hb.cell (World.block_lt_of_cell? w _ h)).trans h
/-- A box was laid behind w, and since then nothing has turned of it or of what is older. -/
def Boxed (w : World) (cs : Array Value) (t : TypeId) (wr : World) : Prop := Below (w.heap.size + 1) (w.alloc (.cells cs t)) wr
section
variable {w wr w' : World} {cs : Array Value} {t : TypeId}
theorem Boxed.refl (w : World) (cs : Array Value) (t : TypeId) : Boxed w cs t (w.alloc (.cells cs t)) := Below.refl _ _
theorem Boxed.cell (h : Boxed w cs t wr) (j : Nat) : wr.cell? ⟨w.heap.size, j, none⟩ = cs[j]? :=
  (Below.cell h (p := ⟨w.heap.size, j, none⟩) (Nat.lt_succ_self _)).trans (cell_of_row _ _ j cs t (0, 0) (heap_alloc_new w _))
theorem Boxed.size (h : Boxed w cs t wr) : w.heap.size + 1 ≤ wr.heap.size := by have := Below.size h; simpa using this
theorem Boxed.below (h : Boxed w cs t wr) : Below w.heap.size w wr := ((Below.refl _ w).alloc (Nat.le_refl _) _).trans (Below.mono h (by simp))
theorem Boxed.step (h : Boxed w cs t wr) (hb : Below wr.heap.size wr w') : Boxed w cs t w' := Below.trans h (hb.mono h.size)
end
end Go.Proofs.YtdihelpimpkfoaaDoor
end
section
namespace Go.Proofs.YtdihelpimpkfoaaDoor
open Go.RowKit
open Seal
open Bson (Val)
/-- What is read lies in blocks that are there. -/
theorem VIn.lt {w : World} {Q : Nat → Prop} : ∀ {h : Nat} {x : Val} {v : Value}, VIn w Q h x v → VIn w (fun g => Q g ∧ g < w.heap.size) h x v
  | 0, _, _, h => h.elim
  | h + 1, x, v, ⟨ba, fa, la, bc, fc, lc, e, h1, h2, h3, h4, hB, hF, hI⟩ => by
    refine ⟨ba, fa, la, bc, fc, lc, e, h1, h2, h3, h4, ?_, ?_, ?_⟩
    · rcases hB with hB | ⟨g, o, e, hq, hr⟩
      · exact .inl hB
      · cases hx : x.b with
        | nil => exact .inl rfl
        | cons c r =>
          have := hr 0 (by rw [hx]; simp)
          exact .inr ⟨g, o, e, ⟨hq, World.block_lt_of_cell? w _ this⟩, by rw [← hx]; exact hr⟩
    · rcases hF with hF | ⟨g, o, e, hq, hr⟩
      · exact .inl hF
      · cases hx : x.f with
        | nil => exact .inl rfl
        | cons c r =>
          have h0 := (hr 0 (by rw [hx]; simp)).1
          refine .inr ⟨g, o, e, ⟨hq, World.block_lt_of_cell? w _ h0⟩, ?_⟩
          rw [← hx]
          intro i hi
          obtain ⟨a1, a2, v, a3, a4⟩ := hr i hi
          exact ⟨a1, a2, v, a3, VIn.lt a4⟩
    · rcases hI with hI | ⟨g, o, e, hq, hr⟩
      · exact .inl hI
      · cases hx : x.l with
        | nil => exact .inl rfl
        | cons c r =>
          obtain ⟨v0, h0, _⟩ := hr 0 (by rw [hx]; simp)
          obtain ⟨_, _, _, _, _, _, _, hc, _⟩ := h0
          refine .inr ⟨g, o, e, ⟨hq, World.block_lt_of_cell? w _ hc⟩, ?_⟩
          rw [← hx]
          intro i hi
          obtain ⟨v, a3, a4⟩ := hr i hi
          exact ⟨v, a3, VIn.lt a4⟩
theorem VIn.letters {w : World} {Q : Nat → Prop} {h : Nat} {x : Val} {v : Value} (hv : VIn w Q (h + 1) x v) :
    ∃ (xk xn : Int) (xs : ByteArray) (ba fa la : Option Addr) (bn bc fn fc ln lc : Nat), v = .agg #[.int .i64 xk, .int .i64 xn, .string xs, .slice ba bn bc, .slice fa fn fc, .slice la ln lc] ∧
      xk = x.kind ∧ xn = x.n ∧ xs = x.s ∧ bn = x.b.length ∧ fn = x.f.length ∧ ln = x.l.length ∧ Lim x ∧ FieldsIn w Q (VIn w Q h) fa x.f ∧ ItemsIn w Q (VIn w Q h) la x.l := by
  obtain ⟨ba, fa, la, bc, fc, lc, rfl, hL, _, _, _, _, hF, hI⟩ := hv
  exact ⟨_, _, _, ba, fa, la, _, bc, _, fc, _, lc, rfl, rfl, rfl, rfl, rfl, rfl, rfl, hL, hF, hI⟩
theorem zero_in (w : World) (Q : Nat → Prop) : VIn w Q 1 Bson.zero (.agg #[.int .i64 0, .int .i64 0, .string ⟨#[]⟩, .slice none 0 0, .slice none 0 0, .slice none 0 0]) :=
  ⟨none, none, none, 0, 0, 0, rfl, ⟨by show (-9223372036854775808 : Int) ≤ 0; omega, by show (0 : Int) ≤ _; omega, by show (-9223372036854775808 : Int) ≤ 0; omega, by show (0 : Int) ≤ _; omega, by show (0 : Nat) ≤ _; omega, by show (0 : Nat) ≤ _; omega, by show (0 : Nat) ≤ _; omega, by show (0 : Nat) ≤ _; omega, fun c hc => by cases hc⟩, ⟨Nat.le_refl _, by omega⟩, ⟨Nat.le_refl _, by omega⟩, ⟨Nat.le_refl _, by omega⟩, .inl rfl, .inl rfl, .inl rfl⟩
theorem str_ne {s t : ByteArray} (h : ¬ s = t) : (s.toList == t.toList) = false := by
  rw [beq_eq_false_iff_ne]
  intro e
  rw [ByteArray.toList_eq, ByteArray.toList_eq] at e
  apply h
  obtain ⟨⟨a⟩⟩ := s
  obtain ⟨⟨b⟩⟩ := t
  simp only at e
  rw [e]
/-- What a function that answers a value leaves: the value, and nothing old has turned. -/
def ValPost (Q : Nat → Prop) (w : World) (h : Nat) (x : Val) (e : Ending) (w' : World) : Prop := ∃ v', e = .returned v' ∧ VIn w' Q h x v' ∧ Below w.heap.size w w'
theorem below_dr {B : Nat} {a w : World} (h : Below B a w) (n : Nat) : Below B a (w.drewN n) := ⟨h.os, h.tape, h.output, h.size, h.block⟩
end Go.Proofs.YtdihelpimpkfoaaDoor
end
section
namespace Go.Proofs.YtdihelpimpkfoaaDoor
open Go.RowKit
open Seal
open Bson (Val)
theorem toList_ne {s t : ByteArray} (h : ¬ s = t) : (s.toList == t.toList) = false := by
  rw [beq_eq_false_iff_ne]
  intro e
  rw [ByteArray.toList_eq, ByteArray.toList_eq] at e
  apply h
  obtain ⟨⟨a⟩⟩ := s
  obtain ⟨⟨b⟩⟩ := t
  simp only at e
  rw [e]
theorem VIn.form {w : World} {Q : Nat → Prop} {h : Nat} {x : Val} {v : Value} (hv : VIn w Q h x v) : ∃ (q1 q2 : Int) (q3 : ByteArray) (a1 : Option Addr) (n1 c1 : Nat) (a2 : Option Addr) (n2 c2 : Nat) (a3 : Option Addr) (n3 c3 : Nat), v = .agg #[.int .i64 q1, .int .i64 q2, .string q3, .slice a1 n1 c1, .slice a2 n2 c2, .slice a3 n3 c3] := by
  cases h with
  | zero => exact hv.elim
  | succ h =>
    obtain ⟨ba, fa, la, bc, fc, lc, rfl, _⟩ := hv
    exact ⟨_, _, _, _, _, _, _, _, _, _, _, _, rfl⟩
/-- The place of the first field of that name; as many as there are, if there is none. -/
def place (f : List (ByteArray × Val)) (s : ByteArray) : Nat := f.findIdx fun p => decide (p.1 = s)
def placeI (f : List (ByteArray × Val)) (s : ByteArray) : Int := if place f s < f.length then (place f s : Int) else -1
theorem placeI_any (f : List (ByteArray × Val)) (s : ByteArray) : 0 ≤ placeI f s ↔ (f.any fun p => decide (p.1 = s)) = true := by
  have hl : place f s < f.length ↔ (f.any fun p => decide (p.1 = s)) = true := by
    unfold place
    rw [List.findIdx_lt_length, List.any_eq_true]
  rw [← hl]
  unfold placeI
  split <;> rename_i h
  · exact ⟨fun _ => h, fun _ => by omega⟩
  · exact ⟨fun h2 => by omega, fun h2 => absurd h2 h⟩
set_option maxRecDepth 100000 in
set_option maxHeartbeats 1000000 in
theorem find_any (Q : Nat → Prop) (h : Nat) (w : World) (a : Option Addr) (n c : Nat) (f : List (ByteArray × Val)) (s : ByteArray) (hn : f.length = n) (hm : n ≤ 140737488355328) (hF : FieldsIn w Q (VIn w Q h) a f) :
    Calls Tryd.prog 13 #[.slice a n c, .string s] w fun e w' => e = .returned (.int .i64 (placeI f s)) ∧ Below w.heap.size w w' := by
  have HN := Lib.hid hn
  have HF := Lib.hid hF
  clear hn hF
  go_enter Tryd.func13, Tryd.ntmps13
  go_wp2_with fail
  go_loopw [9] (fun i wr => ∃ k : Nat, i = .int .i64 k ∧ k ≤ n ∧ Hid (k ≤ place f s) ∧ Hid (Below w.heap.size w wr)) (fun i _ => n - (intOf i).toNat)
  case atStart => exact ⟨0, rfl, Nat.zero_le _, Nat.zero_le _, Below.refl _ _⟩
  case round =>
    obtain ⟨k, rfl, hk, hp, hB⟩ := hrel
    by_cases hlt : k < n
    · have hkf : k < f.length := by rw [HN.out]; exact hlt
      obtain ⟨g, o, rfl, _, hall⟩ := HF.out.resolve_left (fun e => by rw [e] at hkf; cases hkf)
      obtain ⟨hnm, _, v', hsix, hV⟩ := hall k hkf
      have hnm := cell_keep hB.out hnm
      obtain ⟨q1, q2, q3, a1, n1, c1, a2, n2, c2, a3, n3, c3, rfl⟩ := VIn.form hV
      obtain ⟨d0, d1, d2, d3, d4, d5, he6, s0, s1, s2, s3, s4, s5⟩ := hsix.keep hB.out
      obtain ⟨rfl, rfl, rfl, rfl, rfl, rfl⟩ : d0 = .int .i64 q1 ∧ d1 = .int .i64 q2 ∧ d2 = .string q3 ∧ d3 = .slice a1 n1 c1 ∧ d4 = .slice a2 n2 c2 ∧ d5 = .slice a3 n3 c3 := by
        simp only [Value.agg.injEq, Array.mk.injEq, List.cons.injEq, and_true] at he6
        obtain ⟨e0, e1, e2, e3, e4, e5⟩ := he6
        exact ⟨e0.symm, e1.symm, e2.symm, e3.symm, e4.symm, e5.symm⟩
      clear he6 hV
      have hg : ∀ i (hi : i < f.length), (fun p : ByteArray × Val => decide (p.1 = s)) f[i] = decide (f[i].1 = s) := fun _ _ => rfl
      by_cases he : f[k].1 = s
      · have hpl : Hid (placeI f s = (k : Int)) := by
          show _ = _
          have h1 : place f s = k := by
            have h2 : place f s ≤ k := by
              unfold place
              refine Nat.le_of_not_lt fun h3 => ?_
              have := List.not_of_lt_findIdx h3
              simp [he] at this
            have := hp.out; omega
          unfold placeI
          rw [h1, if_pos hkf]
        generalize f[k].1 = nm at *
        clear hg hall
        subst he
        go_wp2_with fail
        go_ret
        exact ⟨ret_eq (by rw [hpl.out]; rfl), hB.out.alloc hB.out.size _⟩
      · have hp' : Hid (k + 1 ≤ place f s) := by
          show _ ≤ _
          have h1 : place f s ≠ k := by
            intro h2
            have h3 : place f s < f.length := by omega
            have := List.findIdx_getElem (w := h3)
            simp only [decide_eq_true_eq] at this
            apply he
            rw [← this]
            congr 2
            exact h2.symm
          have := hp.out; omega
        generalize f[k].1 = nm at *
        clear hg hall
        have hne := toList_ne he
        clear he
        go_wp2_with fail
        go_roundw
        case rel => exact ⟨k + 1, by go_num, by omega, hp', hB.out.alloc hB.out.size _⟩
        case measure => simp [intOf]; omega
    · obtain rfl : n = k := by omega
      have hpl : Hid (placeI f s = -1) := by
        show _ = _
        unfold placeI
        rw [if_neg (by have := hp.out; rw [HN.out]; omega)]
      go_wp2_with fail
      go_ret
      exact ⟨ret_eq (by rw [hpl.out]; rfl), hB.out⟩
end Go.Proofs.YtdihelpimpkfoaaDoor
end
section
namespace Go.Proofs.YtdihelpimpkfoaaDoor
open Go.RowKit
open Seal
/-- The place of the first 0, or -1. -/
def zeroAt (l : List Nat) : Int := if l.findIdx (· == 0) < l.length then (l.findIdx (· == 0) : Int) else -1
theorem index_zero : ∀ l : List Nat, Oct l → Lib.indexByte (l.map UInt8.ofNat) 0 = zeroAt l
  | [], _ => rfl
  | c :: r, h => by
    have hc : c < 256 := h c (by simp)
    have ih := index_zero r (fun x hx => h x (by simp [hx]))
    rw [List.map_cons, Lib.indexByte, ih]
    unfold zeroAt
    rw [List.findIdx_cons]
    by_cases h0 : c = 0
    · subst h0; simp
    · have h1 : (UInt8.ofNat c == 0) = false := by
        rw [beq_eq_false_iff_ne]
        intro e
        have := congrArg UInt8.toNat e
        simp [Nat.mod_eq_of_lt hc] at this
        exact h0 this
      have h2 : (c == 0) = false := by simpa using h0
      rw [h1, h2]
      simp only [Bool.false_eq_true, if_false, cond_false, List.length_cons]
      by_cases hl : r.findIdx (· == 0) < r.length
      · rw [if_pos hl, if_neg (by simp), if_pos (by omega)]; simp
      · rw [if_neg hl, if_pos (by rfl), if_neg (by omega)]
set_option maxRecDepth 100000 in
set_option maxHeartbeats 1000000 in
theorem index_any (w : World) (g o n c : Nat) (l : List Nat) (hl : l.length = n) (ho : Oct l) (hr : Reads w g o l) :
    Calls Tryd.prog 61 #[.slice (some ⟨g, o, none⟩) n c, .int .u8 0] w fun e w' => e = .returned (.int .i64 (zeroAt l)) ∧ w' = w := by
  have hx : (l.map fun x : Nat => (x : Int)).length = n := by simp [hl]
  have hc : ∀ i, i < n → w.cell? ⟨g, o + i, none⟩ = some (.int .u8 ((l.map fun x : Nat => (x : Int)).getD i 0)) := fun i hi => by
    rw [hr i (by omega)]
    simp [List.getD_eq_getElem?_getD, List.getElem?_eq_getElem (show i < l.length by omega)]
  have hrun := Lib.run_indexByteSlice (P := Tryd.prog) w g o n c (l.map fun x : Nat => (x : Int)) hx hc 0
  have e : Lib.indexByte (Lib.bytesOf (l.map fun x : Nat => (x : Int))) (0 : Int).toNat.toUInt8 = zeroAt l := by
    rw [← index_zero l ho]
    unfold Lib.bytesOf
    rw [List.map_map]
    rfl
  rw [e] at hrun
  have hcall := run_callFunc_extern Tryd.func68 (by kernel_rfl) (by kernel_rfl) (by kernel_rfl) (e := Extern.BytealgIndexByte.indexByte) (by kernel_rfl) #[.slice (some ⟨g, o, none⟩) n c, .int .u8 0] w
  rw [hrun] at hcall
  have HC := Lib.hid hcall
  clear hcall hrun e hc hx hr ho hl
  go_enter Tryd.func61, Tryd.ntmps61
  go_wp2
  rw [HC.out]
  simp only [Result.andThen]
  rw [Oper.upon_value]
  go_wp2
  go_ret
  exact ⟨rfl, rfl⟩
end Go.Proofs.YtdihelpimpkfoaaDoor
end
section
namespace Go.Proofs.YtdihelpimpkfoaaDoor
open Go.RowKit
open Seal
open Bson (Val)
/-- Block gr is a reader of the bytes b, at the place k. -/
structure Rdr (w : World) (gr : Nat) (ba : Option Addr) (bc : Nat) (b : List Nat) (k : Nat) : Prop where
  blk : w.heap[gr]? = some (.cells #[.slice ba b.length bc, .int .i64 (k : Int)] 49 (0, 0))
  rd : SliceIs w ba b
  le : k ≤ b.length
  len : b.length ≤ 65536
  cap : b.length ≤ bc
  max : bc ≤ 9223372036854775807
  oct : Oct b
section
variable {w w' : World} {gr bc k : Nat} {ba : Option Addr} {b : List Nat}
theorem Rdr.c0 (h : Rdr w gr ba bc b k) : w.cell? ⟨gr, 0, none⟩ = some (.slice ba b.length bc) := cell_of_row w gr 0 _ _ _ h.blk
theorem Rdr.c1 (h : Rdr w gr ba bc b k) : w.cell? ⟨gr, 1, none⟩ = some (.int .i64 (k : Int)) := cell_of_row w gr 1 _ _ _ h.blk
theorem Rdr.frz (h : Rdr w gr ba bc b k) (j : Nat) : w.frozen? ⟨gr, j, none⟩ = false := frozen_of_row w gr j _ _ h.blk
theorem Rdr.lt (h : Rdr w gr ba bc b k) : gr < w.heap.size := World.block_lt_of_cell? w _ h.c0
/-- A byte never lies in the reader's own block. -/
theorem Rdr.ne (h : Rdr w gr ba bc b k) {g o x : Nat} (hc : w.cell? ⟨g, o, none⟩ = some (.int .u8 (x : Int))) : g ≠ gr := by
  rintro rfl
  have := (cell_of_row w g o _ _ _ h.blk).symm.trans hc
  match o, this with
  | 0, h => simp at h
  | 1, h => simp at h
  | o + 2, h => simp at h
theorem SliceIs.grown {a : Option Addr} {l : List Nat} (hs : SliceIs w a l) (hr : Rdr w gr ba bc b k) (hg : w.grownBy w' (some gr)) : SliceIs w' a l := by
  rcases hs with h | ⟨g, o, e, h⟩
  · exact .inl h
  · refine .inr ⟨g, o, e, fun j hj => ?_⟩
    have h1 := h j hj
    have hne := hr.ne h1
    exact (World.cell?_of_block (a := ⟨g, o + j, none⟩) (hg.block g (World.block_lt_of_cell? w _ h1) (fun e => hne (Option.some.inj e)))).trans h1
theorem Rdr.moved (h : Rdr w gr ba bc b k) (hg : w.grownBy w' (some gr)) {k' : Nat} (hk : k' ≤ b.length) (hb : w'.heap[gr]? = some (.cells #[.slice ba b.length bc, .int .i64 (k' : Int)] 49 (0, 0))) : Rdr w' gr ba bc b k' :=
  ⟨hb, h.rd.grown h hg, hk, h.len, h.cap, h.max, h.oct⟩
theorem Rdr.keep (h : Rdr w gr ba bc b k) (hb : Below w.heap.size w w') : Rdr w' gr ba bc b k :=
  ⟨(hb.block gr h.lt).trans h.blk, h.rd.keep hb, h.le, h.len, h.cap, h.max, h.oct⟩
theorem grown_drewN (w : World) (n gr : Nat) : w.grownBy (w.drewN n) (some gr) := ⟨rfl, rfl, rfl, Nat.le_refl _, fun _ _ _ => rfl⟩
theorem grown_below (hb : Below w.heap.size w w') (gr : Nat) : w.grownBy w' (some gr) := ⟨hb.os, hb.tape, hb.output, hb.size, fun g hg _ => hb.block g hg⟩
theorem grown_trans {w1 : World} (h : w.grownBy w1 (some gr)) (h2 : w1.grownBy w' (some gr)) : w.grownBy w' (some gr) :=
  ⟨h2.os.trans h.os, h2.tape.trans h.tape, h2.output.trans h.output, Nat.le_trans h.size h2.size, fun g hg hne => (h2.block g (Nat.lt_of_lt_of_le hg h.size) hne).trans (h.block g hg hne)⟩
end
set_option maxRecDepth 100000 in
set_option maxHeartbeats 1000000 in
theorem take_no (w : World) (gr : Nat) (ba : Option Addr) (bc : Nat) (b : List Nat) (k n : Nat) (hR : Rdr w gr ba bc b k) (hn : n ≤ 2147483647) (h : b.length < k + n) :
    Calls Tryd.prog 42 #[.pointer (some ⟨gr, 0, none⟩), .int .i64 (n : Int)] w fun e w' => e = .returned (.tuple #[.slice none 0 0, .int .i64 2]) ∧ ∃ q, w' = w.drewN q := by
  have c0 := hR.c0
  have c1 := hR.c1
  have hle := hR.le; have hlen := hR.len
  generalize b.length = L at *
  have hw : IntKind.i64.wrap ((L : Int) - k) = (L : Int) - k := IntWalk.i64_in _ (by omega)
  have ht : (L : Int) - k < n := by omega
  clear hR
  go_enter Tryd.func42, Tryd.ntmps42
  go_wp2_with fail
  go_quiet (fail)
  go_wp2_with fail
  go_ret2
  exact ⟨rfl, _, rfl⟩
/-- What take answers where so many bytes are there. -/
def TakeYes (w : World) (gr : Nat) (ba : Option Addr) (bc : Nat) (b : List Nat) (k n : Nat) (e : Ending) (w' : World) : Prop :=
  ∃ a c, e = .returned (.tuple #[.slice a n c, .int .i64 0]) ∧ n ≤ c ∧ c ≤ 9223372036854775807 ∧ SliceIs w' a ((b.drop k).take n) ∧ Rdr w' gr ba bc b (k + n) ∧ w.grownBy w' (some gr)
theorem SliceIs.cut {w : World} {a : Option Addr} {b : List Nat} (h : SliceIs w a b) (k n : Nat) : SliceIs w (a.map fun x => x.add k) ((b.drop k).take n) := by
  rcases h with h | ⟨g, o, e, h⟩
  · subst h; exact .inl (by simp)
  · subst e
    refine .inr ⟨g, o + k, ?_, h.part k n⟩
    unfold Addr.add
    by_cases hk : k = 0
    · subst hk; rfl
    · simp [hk]
theorem take_fin {w : World} {gr : Nat} {ba : Option Addr} {bc : Nat} {b : List Nat} {k n : Nat} (hR : Rdr w gr ba bc b k) (h : k + n ≤ b.length) (q : Nat) (a : Option Addr) (hs : SliceIs w a ((b.drop k).take n)) {c : Nat} (hc : n ≤ c ∧ c ≤ 9223372036854775807) :
    TakeYes w gr ba bc b k n (.returned (.tuple #[.slice a n c, .int .i64 0])) ((w.drewN q).setCell ⟨gr, 1, none⟩ (.int .i64 ((k : Int) + n))) := by
  have hg : w.grownBy ((w.drewN q).setCell ⟨gr, 1, none⟩ (.int .i64 ((k : Int) + n))) (some gr) := grown_setCell (grown_drewN w q gr) 1 _
  refine ⟨a, c, rfl, hc.1, hc.2, hs.grown hR hg, hR.moved hg h ?_, hg⟩
  rw [heap_setCell_same (w.drewN q) gr 1 _ _ _ (show (w.drewN q).heap[gr]? = _ from hR.blk)]
  simp
set_option maxRecDepth 100000 in
set_option maxHeartbeats 1000000 in
theorem take_yes (w : World) (gr : Nat) (ba : Option Addr) (bc : Nat) (b : List Nat) (k n : Nat) (hR : Rdr w gr ba bc b k) (h : k + n ≤ b.length) :
    Calls Tryd.prog 42 #[.pointer (some ⟨gr, 0, none⟩), .int .i64 (n : Int)] w (TakeYes w gr ba bc b k n) := by
  have c0 := hR.c0
  have c1 := hR.c1
  have f1 := hR.frz 1
  have hle := hR.le; have hlen := hR.len; have hcap := hR.cap; have hmax := hR.max
  have HR := Lib.hid hR
  obtain ⟨L, hL⟩ : ∃ L, L = b.length := ⟨_, rfl⟩
  rw [← hL] at c0 h hle hlen hcap
  have HL := Lib.hid hL
  have hw : IntKind.i64.wrap ((L : Int) - k) = (L : Int) - k := IntWalk.i64_in _ (by omega)
  have hw2 : IntKind.i64.wrap ((k : Int) + n) = (k : Int) + n := IntWalk.i64_in _ (by omega)
  have ht : ¬ (L : Int) - k < n := by omega
  have h1 : (0 : Int) ≤ (k : Int) := by omega
  have h2 : (k : Int) ≤ (k : Int) + n := by omega
  have h3 : (k : Int) + n ≤ (bc : Int) := by omega
  have h4 : ((k : Int) + n).toNat = k + n := by omega
  clear hR hL
  go_enter Tryd.func42, Tryd.ntmps42
  go_wp2_with fail
  go_quiet (fail)
  go_wp2_with fail
  go_quiet (fail)
  go_wp2_with fail
  all_goals go_ret2
  · have hn0 : n = 0 := by omega
    subst hn0
    obtain rfl : bc = k := by omega
    refine take_fin (n := 0) HR.out (by have := HL.out; omega) _ _ (.inl (by simp)) (c := 0) ?_
    omega
  · exact take_fin (n := n) HR.out (by have := HL.out; omega) _ _ (HR.out.rd.cut _ _) (by omega)
end Go.Proofs.YtdihelpimpkfoaaDoor
end
