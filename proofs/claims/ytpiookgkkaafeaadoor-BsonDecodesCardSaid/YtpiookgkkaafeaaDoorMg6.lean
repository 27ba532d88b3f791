/- ValLets, BsonDeepRow, BsonFind, BsonIndex, BsonRdr, OpenVal. -/
import Derived.WalkLawsBesides
import Derived.Lib.BytesEntry
import Derived.Lib.Bytealg
import Derived.Laws.Externs
import Derived.Deep.QuietTactic
import Derived.BigQuiet
import Derived.IntWalk
import Derived.RegionTactic
import Derived.ChangeSlices
import Derived.Test.YtpiookgkkaafeaaDoorMg5
import Derived.Test.YtpiookgkkaafeaaDoorMg3
set_option maxRecDepth 100000
section
namespace Go.Proofs.YtpiookgkkaafeaaDoor
open Go.RowKit
open Seal
open Bson (Val)
/-- What is read lies in blocks that are there. -/
theorem VIn.lt {w : World} {Q : Nat → Prop} : ∀ {h : Nat} {x : Val} {v : Value}, VIn w Q h x v → VIn w (fun g => Q g ∧ g < w.heap.size) h x v
  | 0, _, _, h => h.elim
  | h + 1, x, v, ⟨ba, fa, la, bc, fc, lc, e, h1, h2, h3, h4, hB, hF, hI⟩ => by
    refine ⟨ba, fa, la, bc, fc, lc, e, h1, h2, h3, h4, ?_, ?_, ?_⟩
    · rcases hB with hB | ⟨g, o, e, hq, hr⟩
      · exact .inl hB
      · cases hx : x.b with
        | nil => exact .inl rfl
        | cons c r =>
          have := hr 0 (by rw [hx]; simp)
          exact .inr ⟨g, o, e, ⟨hq, World.block_lt_of_cell? w _ this⟩, by rw [← hx]; exact hr⟩
    · rcases hF with hF | ⟨g, o, e, hq, hr⟩
      · exact .inl hF
      · cases hx : x.f with
        | nil => exact .inl rfl
        | cons c r =>
          have h0 := (hr 0 (by rw [hx]; simp)).1
          refine .inr ⟨g, o, e, ⟨hq, World.block_lt_of_cell? w _ h0⟩, ?_⟩
          rw [← hx]
          intro i hi
          obtain ⟨a1, a2, v, a3, a4⟩ := hr i hi
          exact ⟨a1, a2, v, a3, VIn.lt a4⟩
    · rcases hI with hI | ⟨g, o, e, hq, hr⟩
      · exact .inl hI
      · cases hx : x.l with
        | nil => exact .inl rfl
        | cons c r =>
          obtain ⟨v0, h0, _⟩ := hr 0 (by rw [hx]; simp)
          obtain ⟨_, _, _, _, _, _, _, hc, _⟩ := h0
          refine .inr ⟨g, o, e, ⟨hq, World.block_lt_of_cell? w _ hc⟩, ?_⟩
          rw [← hx]
          intro i hi
          obtain ⟨v, a3, a4⟩ := hr i hi
          exact ⟨v, a3, VIn.lt a4⟩
theorem VIn.letters {w : World} {Q : Nat → Prop} {h : Nat} {x : Val} {v : Value} (hv : VIn w Q (h + 1) x v) :
    ∃ (xk xn : Int) (xs : ByteArray) (ba fa la : Option Addr) (bn bc fn fc ln lc : Nat), v = .agg #[.int .i64 xk, .int .i64 xn, .string xs, .slice ba bn bc, .slice fa fn fc, .slice la ln lc] ∧
      xk = x.kind ∧ xn = x.n ∧ xs = x.s ∧ bn = x.b.length ∧ fn = x.f.length ∧ ln = x.l.length ∧ Lim x ∧ FieldsIn w Q (VIn w Q h) fa x.f ∧ ItemsIn w Q (VIn w Q h) la x.l := by
  obtain ⟨ba, fa, la, bc, fc, lc, rfl, hL, _, _, _, _, hF, hI⟩ := hv
  exact ⟨_, _, _, ba, fa, la, _, bc, _, fc, _, lc, rfl, rfl, rfl, rfl, rfl, rfl, rfl, hL, hF, hI⟩
theorem zero_in (w : World) (Q : Nat → Prop) : VIn w Q 1 Bson.zero (.agg #[.int .i64 0, .int .i64 0, .string ⟨#[]⟩, .slice none 0 0, .slice none 0 0, .slice none 0 0]) :=
  ⟨none, none, none, 0, 0, 0, rfl, ⟨by show (-9223372036854775808 : Int) ≤ 0; omega, by show (0 : Int) ≤ _; omega, by show (-9223372036854775808 : Int) ≤ 0; omega, by show (0 : Int) ≤ _; omega, by show (0 : Nat) ≤ _; omega, by show (0 : Nat) ≤ _; omega, by show (0 : Nat) ≤ _; omega, by show (0 : Nat) ≤ _; omega, fun c hc => by cases hc⟩, ⟨Nat.le_refl _, by omega⟩, ⟨Nat.le_refl _, by omega⟩, ⟨Nat.le_refl _, by omega⟩, .inl rfl, .inl rfl, .inl rfl⟩
theorem str_ne {s t : ByteArray} (h : ¬ s = t) : (s.toList == t.toList) = false := by
  rw [beq_eq_false_iff_ne]
  intro e
  rw [ByteArray.toList_eq, ByteArray.toList_eq] at e
  apply h
  obtain ⟨⟨a⟩⟩ := s
  obtain ⟨⟨b⟩⟩ := t
  simp only at e
  rw [e]
/-- What a function that answers a value leaves: the value, and nothing old has turned. -/
def ValPost (Q : Nat → Prop) (w : World) (h : Nat) (x : Val) (e : Ending) (w' : World) : Prop := ∃ v', e = .returned v' ∧ VIn w' Q h x v' ∧ Below w.heap.size w w'
theorem below_dr {B : Nat} {a w : World} (h : Below B a w) (n : Nat) : Below B a (w.drewN n) := ⟨h.os, h.tape, h.output, h.size, h.block⟩
end Go.Proofs.YtpiookgkkaafeaaDoor
end
section
namespace Go.Proofs.YtpiookgkkaafeaaDoor
open Go.RowKit
open Seal
theorem deep_le (n u z : Nat) (hn : n ≤ 300) (hu : u = (n + 8) % 256) (hz : z = (n + 8) / 256) : Bson.leI ((n : Int) + 8) 4 = [u, z, 0, 0] := by
  subst hu hz
  unfold Bson.leI
  have e : (((n : Int) + 8) % ((256 ^ 4 : Nat) : Int)).toNat = n + 8 := by
    have : ((256 ^ 4 : Nat) : Int) = 4294967296 := by decide
    rw [this]; omega
  rw [e]
  simp only [Bson.le]
  congr 1
  congr 1
  · omega
  congr 1
  · omega
  congr 1
  omega
theorem deep_row8 {w : World} {base base2 : Nat} {v : Value} {n u z : Nat} (b : Bool) (S : List Bool) (nm : ByteArray) (hnm : nm = ⟨#[UInt8.ofNat (deepN b)]⟩)
    (hn : n = (deepB S).length) (hn3 : n ≤ 300) (hu : u = (n + 8) % 256) (hz : z = (n + 8) / 256) (hb : base ≤ base2) (hsz : base ≤ w.heap.size)
    (own : w.ownsRow base2 5 1 v (5 + nm.size + 1 + n + 1) (((([.int .u8 u, .int .u8 z, .int .u8 0, .int .u8 0, .int .u8 (deepC S : Nat)] ++ Lib.strCells nm) ++ [.int .u8 0]) ++ u8s (deepB S)) ++ [.int .u8 0])) : Own8 w base v (deepB (b :: S)) := by
  have h1 : nm.size = 1 := by rw [hnm]; rfl
  have hl : (deepB (b :: S)).length = 5 + nm.size + 1 + n + 1 := by rw [deep_len] at hn ⊢; rw [h1]; simp; omega
  have hx : (((([.int .u8 u, .int .u8 z, .int .u8 0, .int .u8 0, .int .u8 (deepC S : Nat)] ++ Lib.strCells nm) ++ [.int .u8 0]) ++ u8s (deepB S)) ++ [.int .u8 0] : List Value) = u8s (deepB (b :: S)) := by
    have hw : ((deepC S :: deepN b :: 0 :: deepB S).length : Int) + 5 = (n : Int) + 8 := by rw [hn]; simp; omega
    rw [deepB, Bson.wrap, hw, deep_le n u z hn3 hu hz, hnm]
    cases b <;> simp [u8s, u8, deepN, Lib.strCells]
  refine ⟨⟨by simp [u8s], ?_⟩, hsz⟩
  rw [← hx, hl]
  rcases own.2 with ⟨_, h⟩ | ⟨g, cap, cur, rfl, h1, h2, h3, h4, h5, h6⟩
  · omega
  · exact .inr ⟨g, cap, cur, rfl, Nat.le_trans hb h1, h2, h3, h4, h5, h6⟩
end Go.Proofs.YtpiookgkkaafeaaDoor
end
section
namespace Go.Proofs.YtpiookgkkaafeaaDoor
open Go.RowKit
open Seal
open Bson (Val)
theorem toList_ne {s t : ByteArray} (h : ¬ s = t) : (s.toList == t.toList) = false := by
  rw [beq_eq_false_iff_ne]
  intro e
  rw [ByteArray.toList_eq, ByteArray.toList_eq] at e
  apply h
  obtain ⟨⟨a⟩⟩ := s
  obtain ⟨⟨b⟩⟩ := t
  simp only at e
  rw [e]
theorem VIn.form {w : World} {Q : Nat → Prop} {h : Nat} {x : Val} {v : Value} (hv : VIn w Q h x v) : ∃ (q1 q2 : Int) (q3 : ByteArray) (a1 : Option Addr) (n1 c1 : Nat) (a2 : Option Addr) (n2 c2 : Nat) (a3 : Option Addr) (n3 c3 : Nat), v = .agg #[.int .i64 q1, .int .i64 q2, .string q3, .slice a1 n1 c1, .slice a2 n2 c2, .slice a3 n3 c3] := by
  cases h with
  | zero => exact hv.elim
  | succ h =>
    obtain ⟨ba, fa, la, bc, fc, lc, rfl, _⟩ := hv
    exact ⟨_, _, _, _, _, _, _, _, _, _, _, _, rfl⟩
/-- The place of the first field of that name; as many as there are, if there is none. -/
def place (f : List (ByteArray × Val)) (s : ByteArray) : Nat := f.findIdx fun p => decide (p.1 = s)
def placeI (f : List (ByteArray × Val)) (s : ByteArray) : Int := if place f s < f.length then (place f s : Int) else -1
theorem placeI_any (f : List (ByteArray × Val)) (s : ByteArray) : 0 ≤ placeI f s ↔ (f.any fun p => decide (p.1 = s)) = true := by
  have hl : place f s < f.length ↔ (f.any fun p => decide (p.1 = s)) = true := by
    unfold place
    rw [List.findIdx_lt_length, List.any_eq_true]
  rw [← hl]
  unfold placeI
  split <;> rename_i h
  · exact ⟨fun _ => h, fun _ => by omega⟩
  · exact ⟨fun h2 => by omega, fun h2 => absurd h2 h⟩
set_option maxRecDepth 100000 in
set_option maxHeartbeats 1000000 in
theorem find_any (Q : Nat → Prop) (h : Nat) (w : World) (a : Option Addr) (n c : Nat) (f : List (ByteArray × Val)) (s : ByteArray) (hn : f.length = n) (hm : n ≤ 140737488355328) (hF : FieldsIn w Q (VIn w Q h) a f) :
    Calls Tryd.prog 39 #[.slice a n c, .string s] w fun e w' => e = .returned (.int .i64 (placeI f s)) ∧ Below w.heap.size w w' := by
  have HN := Lib.hid hn
  have HF := Lib.hid hF
  clear hn hF
  go_enter Tryd.func39, Tryd.ntmps39
  go_wp2_with fail
  go_loopw [9] (fun i wr => ∃ k : Nat, i = .int .i64 k ∧ k ≤ n ∧ Hid (k ≤ place f s) ∧ Hid (Below w.heap.size w wr)) (fun i _ => n - (intOf i).toNat)
  case atStart => exact ⟨0, rfl, Nat.zero_le _, Nat.zero_le _, Below.refl _ _⟩
  case round =>
    obtain ⟨k, rfl, hk, hp, hB⟩ := hrel
    by_cases hlt : k < n
    · have hkf : k < f.length := by rw [HN.out]; exact hlt
      obtain ⟨g, o, rfl, _, hall⟩ := HF.out.resolve_left (fun e => by rw [e] at hkf; cases hkf)
      obtain ⟨hnm, _, v', hsix, hV⟩ := hall k hkf
      have hnm := cell_keep hB.out hnm
      obtain ⟨q1, q2, q3, a1, n1, c1, a2, n2, c2, a3, n3, c3, rfl⟩ := VIn.form hV
      obtain ⟨d0, d1, d2, d3, d4, d5, he6, s0, s1, s2, s3, s4, s5⟩ := hsix.keep hB.out
      obtain ⟨rfl, rfl, rfl, rfl, rfl, rfl⟩ : d0 = .int .i64 q1 ∧ d1 = .int .i64 q2 ∧ d2 = .string q3 ∧ d3 = .slice a1 n1 c1 ∧ d4 = .slice a2 n2 c2 ∧ d5 = .slice a3 n3 c3 := by
        simp only [Value.agg.injEq, Array.mk.injEq, List.cons.injEq, and_true] at he6
        obtain ⟨e0, e1, e2, e3, e4, e5⟩ := he6
        exact ⟨e0.symm, e1.symm, e2.symm, e3.symm, e4.symm, e5.symm⟩
      clear he6 hV
      have hg : ∀ i (hi : i < f.length), (fun p : ByteArray × Val => decide (p.1 = s)) f[i] = decide (f[i].1 = s) := fun _ _ => rfl
      by_cases he : f[k].1 = s
      · have hpl : Hid (placeI f s = (k : Int)) := by
          show _ = _
          have h1 : place f s = k := by
            have h2 : place f s ≤ k := by
              unfold place
              refine Nat.le_of_not_lt fun h3 => ?_
              have := List.not_of_lt_findIdx h3
              simp [he] at this
            have := hp.out; omega
          unfold placeI
          rw [h1, if_pos hkf]
        generalize f[k].1 = nm at *
        clear hg hall
        subst he
        go_wp2_with fail
        go_ret
        exact ⟨ret_eq (by rw [hpl.out]; rfl), hB.out.alloc hB.out.size _⟩
      · have hp' : Hid (k + 1 ≤ place f s) := by
          show _ ≤ _
          have h1 : place f s ≠ k := by
            intro h2
            have h3 : place f s < f.length := by omega
            have := List.findIdx_getElem (w := h3)
            simp only [decide_eq_true_eq] at this
            apply he
            rw [← this]
            congr 2
            exact h2.symm
          have := hp.out; omega
        generalize f[k].1 = nm at *
        clear hg hall
        have hne := toList_ne he
        clear he
        go_wp2_with fail
        go_roundw
        case rel => exact ⟨k + 1, by go_num, by omega, hp', hB.out.alloc hB.out.size _⟩
        case measure => simp [intOf]; omega
    · obtain rfl : n = k := by omega
      have hpl : Hid (placeI f s = -1) := by
        show _ = _
        unfold placeI
        rw [if_neg (by have := hp.out; rw [HN.out]; omega)]
      go_wp2_with fail
      go_ret
      exact ⟨ret_eq (by rw [hpl.out]; rfl), hB.out⟩
end Go.Proofs.YtpiookgkkaafeaaDoor
end
section
namespace Go.Proofs.YtpiookgkkaafeaaDoor
open Go.RowKit
open Seal
/-- The place of the first 0, or -1. -/
def zeroAt (l : List Nat) : Int := if l.findIdx (· == 0) < l.length then (l.findIdx (· == 0) : Int) else -1
theorem index_zero : ∀ l : List Nat, Oct l → Lib.indexByte (l.map UInt8.ofNat) 0 = zeroAt l
  | [], _ => rfl
  | c :: r, h => by
    have hc : c < 256 := h c (by simp)
    have ih := index_zero r (fun x hx => h x (by simp [hx]))
    rw [List.map_cons, Lib.indexByte, ih]
    unfold zeroAt
    rw [List.findIdx_cons]
    by_cases h0 : c = 0
    · subst h0; simp
    · have h1 : (UInt8.ofNat c == 0) = false := by
        rw [beq_eq_false_iff_ne]
        intro e
        have := congrArg UInt8.toNat e
        simp [Nat.mod_eq_of_lt hc] at this
        exact h0 this
      have h2 : (c == 0) = false := by simpa using h0
      rw [h1, h2]
      simp only [Bool.false_eq_true, if_false, cond_false, List.length_cons]
      by_cases hl : r.findIdx (· == 0) < r.length
      · rw [if_pos hl, if_neg (by simp), if_pos (by omega)]; simp
      · rw [if_neg hl, if_pos (by rfl), if_neg (by omega)]
set_option maxRecDepth 100000 in
set_option maxHeartbeats 1000000 in
theorem index_any (w : World) (g o n c : Nat) (l : List Nat) (hl : l.length = n) (ho : Oct l) (hr : Reads w g o l) :
    Calls Tryd.prog 95 #[.slice (some ⟨g, o, none⟩) n c, .int .u8 0] w fun e w' => e = .returned (.int .i64 (zeroAt l)) ∧ w' = w := by
  have hx : (l.map fun x : Nat => (x : Int)).length = n := by simp [hl]
  have hc : ∀ i, i < n → w.cell? ⟨g, o + i, none⟩ = some (.int .u8 ((l.map fun x : Nat => (x : Int)).getD i 0)) := fun i hi => by
    rw [hr i (by omega)]
    simp [List.getD_eq_getElem?_getD, List.getElem?_eq_getElem (show i < l.length by omega)]
  have hrun := Lib.run_indexByteSlice (P := Tryd.prog) w g o n c (l.map fun x : Nat => (x : Int)) hx hc 0
  have e : Lib.indexByte (Lib.bytesOf (l.map fun x : Nat => (x : Int))) (0 : Int).toNat.toUInt8 = zeroAt l := by
    rw [← index_zero l ho]
    unfold Lib.bytesOf
    rw [List.map_map]
    rfl
  rw [e] at hrun
  have hcall := run_callFunc_extern Tryd.func102 (by kernel_rfl) (by kernel_rfl) (by kernel_rfl) (e := Extern.BytealgIndexByte.indexByte) (by kernel_rfl) #[.slice (some ⟨g, o, none⟩) n c, .int .u8 0] w
  rw [hrun] at hcall
  have HC := Lib.hid hcall
  clear hcall hrun e hc hx hr ho hl
  go_enter Tryd.func95, Tryd.ntmps95
  go_wp2
  rw [HC.out]
  simp only [Result.andThen]
  rw [Oper.upon_value]
  go_wp2
  go_ret
  exact ⟨rfl, rfl⟩
end Go.Proofs.YtpiookgkkaafeaaDoor
end
section
namespace Go.Proofs.YtpiookgkkaafeaaDoor
open Go.RowKit
open Seal
open Bson (Val)
/-- Block gr is a reader of the bytes b, at the place k. -/
structure Rdr (w : World) (gr : Nat) (ba : Option Addr) (bc : Nat) (b : List Nat) (k : Nat) : Prop where
  blk : w.heap[gr]? = some (.cells #[.slice ba b.length bc, .int .i64 (k : Int)] 59 (0, 0))
  rd : SliceIs w ba b
  le : k ≤ b.length
  len : b.length ≤ 65536
  cap : b.length ≤ bc
  max : bc ≤ 9223372036854775807
  oct : Oct b
section
variable {w w' : World} {gr bc k : Nat} {ba : Option Addr} {b : List Nat}
theorem Rdr.c0 (h : Rdr w gr ba bc b k) : w.cell? ⟨gr, 0, none⟩ = some (.slice ba b.length bc) := cell_of_row w gr 0 _ _ _ h.blk
theorem Rdr.c1 (h : Rdr w gr ba bc b k) : w.cell? ⟨gr, 1, none⟩ = some (.int .i64 (k : Int)) := cell_of_row w gr 1 _ _ _ h.blk
theorem Rdr.frz (h : Rdr w gr ba bc b k) (j : Nat) : w.frozen? ⟨gr, j, none⟩ = false := frozen_of_row w gr j _ _ h.blk
theorem Rdr.lt (h : Rdr w gr ba bc b k) : gr < w.heap.size := World.block_lt_of_cell? w _ h.c0
/-- A byte never lies in the reader's own block. -/
theorem Rdr.ne (h : Rdr w gr ba bc b k) {g o x : Nat} (hc : w.cell? ⟨g, o, none⟩ = some (.int .u8 (x : Int))) : g ≠ gr := by
  rintro rfl
  have := (cell_of_row w g o _ _ _ h.blk).symm.trans hc
  match o, this with
  | 0, h => simp at h
  | 1, h => simp at h
  | o + 2, h => simp at h
theorem SliceIs.grown {a : Option Addr} {l : List Nat} (hs : SliceIs w a l) (hr : Rdr w gr ba bc b k) (hg : w.grownBy w' (some gr)) : SliceIs w' a l := by
  rcases hs with h | ⟨g, o, e, h⟩
  · exact .inl h
  · refine .inr ⟨g, o, e, fun j hj => ?_⟩
    have h1 := h j hj
    have hne := hr.ne h1
    exact (World.cell?_of_block (a := ⟨g, o + j, none⟩) (hg.block g (World.block_lt_of_cell? w _ h1) (fun e => hne (Option.some.inj e)))).trans h1
theorem Rdr.moved (h : Rdr w gr ba bc b k) (hg : w.grownBy w' (some gr)) {k' : Nat} (hk : k' ≤ b.length) (hb : w'.heap[gr]? = some (.cells #[.slice ba b.length bc, .int .i64 (k' : Int)] 59 (0, 0))) : Rdr w' gr ba bc b k' :=
  ⟨hb, h.rd.grown h hg, hk, h.len, h.cap, h.max, h.oct⟩
theorem Rdr.keep (h : Rdr w gr ba bc b k) (hb : Below w.heap.size w w') : Rdr w' gr ba bc b k :=
  ⟨(hb.block gr h.lt).trans h.blk, h.rd.keep hb, h.le, h.len, h.cap, h.max, h.oct⟩
theorem grown_drewN (w : World) (n gr : Nat) : w.grownBy (w.drewN n) (some gr) := ⟨rfl, rfl, rfl, Nat.le_refl _, fun _ _ _ => rfl⟩
theorem grown_below (hb : Below w.heap.size w w') (gr : Nat) : w.grownBy w' (some gr) := ⟨hb.os, hb.tape, hb.output, hb.size, fun g hg _ => hb.block g hg⟩
theorem grown_trans {w1 : World} (h : w.grownBy w1 (some gr)) (h2 : w1.grownBy w' (some gr)) : w.grownBy w' (some gr) :=
  ⟨h2.os.trans h.os, h2.tape.trans h.tape, h2.output.trans h.output, Nat.le_trans h.size h2.size, fun g hg hne => (h2.block g (Nat.lt_of_lt_of_le hg h.size) hne).trans (h.block g hg hne)⟩
end
set_option maxRecDepth 100000 in
set_option maxHeartbeats 1000000 in
theorem take_no (w : World) (gr : Nat) (ba : Option Addr) (bc : Nat) (b : List Nat) (k n : Nat) (hR : Rdr w gr ba bc b k) (hn : n ≤ 2147483647) (h : b.length < k + n) :
    Calls Tryd.prog 75 #[.pointer (some ⟨gr, 0, none⟩), .int .i64 (n : Int)] w fun e w' => e = .returned (.tuple #[.slice none 0 0, .int .i64 2]) ∧ ∃ q, w' = w.drewN q := by
  have c0 := hR.c0
  have c1 := hR.c1
  have hle := hR.le; have hlen := hR.len
  generalize b.length = L at *
  have hw : IntKind.i64.wrap ((L : Int) - k) = (L : Int) - k := IntWalk.i64_in _ (by omega)
  have ht : (L : Int) - k < n := by omega
  clear hR
  go_enter Tryd.func75, Tryd.ntmps75
  go_wp2_with fail
  go_quiet (fail)
  go_wp2_with fail
  go_ret2
  exact ⟨rfl, _, rfl⟩
/-- What take answers where so many bytes are there. -/
def TakeYes (w : World) (gr : Nat) (ba : Option Addr) (bc : Nat) (b : List Nat) (k n : Nat) (e : Ending) (w' : World) : Prop :=
  ∃ a c, e = .returned (.tuple #[.slice a n c, .int .i64 0]) ∧ n ≤ c ∧ c ≤ 9223372036854775807 ∧ SliceIs w' a ((b.drop k).take n) ∧ Rdr w' gr ba bc b (k + n) ∧ w.grownBy w' (some gr)
theorem SliceIs.cut {w : World} {a : Option Addr} {b : List Nat} (h : SliceIs w a b) (k n : Nat) : SliceIs w (a.map fun x => x.add k) ((b.drop k).take n) := by
  rcases h with h | ⟨g, o, e, h⟩
  · subst h; exact .inl (by simp)
  · subst e
    refine .inr ⟨g, o + k, ?_, h.part k n⟩
    unfold Addr.add
    by_cases hk : k = 0
    · subst hk; rfl
    · simp [hk]
theorem take_fin {w : World} {gr : Nat} {ba : Option Addr} {bc : Nat} {b : List Nat} {k n : Nat} (hR : Rdr w gr ba bc b k) (h : k + n ≤ b.length) (q : Nat) (a : Option Addr) (hs : SliceIs w a ((b.drop k).take n)) {c : Nat} (hc : n ≤ c ∧ c ≤ 9223372036854775807) :
    TakeYes w gr ba bc b k n (.returned (.tuple #[.slice a n c, .int .i64 0])) ((w.drewN q).setCell ⟨gr, 1, none⟩ (.int .i64 ((k : Int) + n))) := by
  have hg : w.grownBy ((w.drewN q).setCell ⟨gr, 1, none⟩ (.int .i64 ((k : Int) + n))) (some gr) := grown_setCell (grown_drewN w q gr) 1 _
  refine ⟨a, c, rfl, hc.1, hc.2, hs.grown hR hg, hR.moved hg h ?_, hg⟩
  rw [heap_setCell_same (w.drewN q) gr 1 _ _ _ (show (w.drewN q).heap[gr]? = _ from hR.blk)]
  simp
set_option maxRecDepth 100000 in
set_option maxHeartbeats 1000000 in
theorem take_yes (w : World) (gr : Nat) (ba : Option Addr) (bc : Nat) (b : List Nat) (k n : Nat) (hR : Rdr w gr ba bc b k) (h : k + n ≤ b.length) :
    Calls Tryd.prog 75 #[.pointer (some ⟨gr, 0, none⟩), .int .i64 (n : Int)] w (TakeYes w gr ba bc b k n) := by
  have c0 := hR.c0
  have c1 := hR.c1
  have f1 := hR.frz 1
  have hle := hR.le; have hlen := hR.len; have hcap := hR.cap; have hmax := hR.max
  have HR := Lib.hid hR
  obtain ⟨L, hL⟩ : ∃ L, L = b.length := ⟨_, rfl⟩
  rw [← hL] at c0 h hle hlen hcap
  have HL := Lib.hid hL
  have hw : IntKind.i64.wrap ((L : Int) - k) = (L : Int) - k := IntWalk.i64_in _ (by omega)
  have hw2 : IntKind.i64.wrap ((k : Int) + n) = (k : Int) + n := IntWalk.i64_in _ (by omega)
  have ht : ¬ (L : Int) - k < n := by omega
  have h1 : (0 : Int) ≤ (k : Int) := by omega
  have h2 : (k : Int) ≤ (k : Int) + n := by omega
  have h3 : (k : Int) + n ≤ (bc : Int) := by omega
  have h4 : ((k : Int) + n).toNat = k + n := by omega
  clear hR hL
  go_enter Tryd.func75, Tryd.ntmps75
  go_wp2_with fail
  go_quiet (fail)
  go_wp2_with fail
  go_quiet (fail)
  go_wp2_with fail
  all_goals go_ret2
  · have hn0 : n = 0 := by omega
    subst hn0
    obtain rfl : bc = k := by omega
    refine take_fin (n := 0) HR.out (by have := HL.out; omega) _ _ (.inl (by simp)) (c := 0) ?_
    omega
  · exact take_fin (n := n) HR.out (by have := HL.out; omega) _ _ (HR.out.rd.cut _ _) (by omega)
end Go.Proofs.YtpiookgkkaafeaaDoor
end
section
namespace Go.Proofs.YtpiookgkkaafeaaDoor
open Go.ChangeShapes Go.WideShapes Go.ChangeAt Go.RowKit
open Seal
open Bson (Val)
section
variable {H : Type} {enc : TypeId × Value → H} {W : World}
/-- No part of a datum is beyond the machine. -/
def Fit (t : TypeId) (d : DataW H) : Prop := ∀ n ∈ d.weights Tryd.prog t, n ≤ 140737488355328
theorem fit_part {t : TypeId} {fs : Array Field} (ht : Tryd.prog.underlying t = some (.struct fs)) {parts : List (DataW H)} (h : Fit t (.agg parts)) {j : Nat} {f : Field} {d : DataW H} (hf : fs[j]? = some f) (hd : parts[j]? = some d) : Fit f.type d := by
  intro n hn
  refine h n ?_
  simp only [DataW.weights, ht]
  exact DataW.weights_mem_each (j := j) (by simp [hf]) hd n hn
theorem fit_elem {t e : TypeId} (ht : Tryd.prog.underlying t = some (.slice e)) {elems spare : List (DataW H)} (h : Fit t (.slice elems spare)) {d : DataW H} (hd : d ∈ elems) : Fit e d := by
  intro n hn
  refine h n ?_
  simp only [DataW.weights, ht, List.mem_cons, List.mem_append]
  exact Or.inr (Or.inl (weightsAll_mem hd n hn))
theorem fit_len {t e : TypeId} (ht : Tryd.prog.underlying t = some (.slice e)) {elems spare : List (DataW H)} (h : Fit t (.slice elems spare)) : (elems.length + spare.length) * Tryd.prog.bytesOf e ≤ 140737488355328 := by
  refine h _ ?_
  simp [DataW.weights, ht]
theorem fit_str {t : TypeId} {s : ByteArray} (h : Fit (H := H) t (.lit (.string s.data.toList))) : s.size ≤ 140737488355328 := by
  have := h s.data.toList.length (by simp [DataW.weights])
  rwa [show s.data.toList.length = s.size from Array.length_toList] at this
theorem fit_of {ts : List TypeId} {ds : List (DataW H)} (hw : (DataW.weightsEach Tryd.prog ts ds).all (· ≤ reachBytes) = true) {j : Nat} {t : TypeId} {d : DataW H} (hj : ts[j]? = some t) (hdj : ds[j]? = some d) : Fit t d := fun n hn => by
  have h1 := of_decide_eq_true (List.all_eq_true.1 hw n (DataW.weights_mem_each hj hdj n hn))
  rw [reach_eq] at h1
  omega
theorem cellsU8 : Tryd.prog.cellsOf 5 = 1 := by kernel_rfl
theorem bytesU8 : Tryd.prog.bytesOf 5 = 1 := by kernel_rfl
theorem cellsVal : Tryd.prog.cellsOf 27 = 6 := by kernel_rfl
theorem bytesVal : Tryd.prog.bytesOf 27 = 104 := by kernel_rfl
theorem cellsFld : Tryd.prog.cellsOf 43 = 7 := by kernel_rfl
theorem bytesFld : Tryd.prog.bytesOf 43 = 120 := by kernel_rfl
theorem cellsInt : Tryd.prog.cellsOf 3 = 1 := by kernel_rfl
theorem cellsI64 : Tryd.prog.cellsOf 2 = 1 := by kernel_rfl
theorem cellsBy : Tryd.prog.cellsOf 22 = 1 := by kernel_rfl
theorem cellsFs : Tryd.prog.cellsOf 24 = 1 := by kernel_rfl
theorem cellsVs : Tryd.prog.cellsOf 25 = 1 := by kernel_rfl
theorem wf_i64 {n : Int} (h : (Lit.int .i64 n).wf = true) : -9223372036854775808 ≤ n ∧ n ≤ 9223372036854775807 := by
  have h1 : IntKind.i64.min = -9223372036854775808 := rfl
  have h2 : IntKind.i64.max = 9223372036854775807 := rfl
  simp only [Lit.wf, Bool.and_eq_true, decide_eq_true_eq] at h
  omega
theorem open_bytes {fuel : Nat} {cs : List Value} {x : DataW H × List MemPlace} (h : DataW.trod enc Tryd.prog W 0 (fun _ => true) true fuel 22 cs = some x) (hx : Fit 22 x.1) :
    ∃ (a : Option Addr) (c : Nat) (l : List Nat), cs = [.slice a l.length c] ∧ l.length ≤ c ∧ c ≤ 9223372036854775807 ∧ Oct l ∧ l.length ≤ 140737488355328 ∧ BytesIn W (fun _ => True) a l := by
  rcases open_ints Tryd.underlying22 Tryd.underlying5 cellsU8 h with ⟨rfl, hd⟩ | ⟨a, len, cap, zs, rfl, _, hl, hm, hz, hd, hcell, hwz⟩
  · exact ⟨none, 0, [], rfl, Nat.le_refl _, by omega, (fun c hc => by cases hc), by simp, .inl rfl⟩
  · simp only [if_true] at hz
    have hm' : cap ≤ 9223372036854775807 := hm
    have hwf : ∀ j, j < zs.length → 0 ≤ zs.getD j 0 ∧ zs.getD j 0 < 256 := fun j hj => by
      rw [List.getD_eq_getElem?_getD, List.getElem?_eq_getElem hj]
      exact u8_wf (hwz _ (List.getElem_mem hj))
    have hfl := fit_len Tryd.underlying22 (by rw [hd] at hx; exact hx)
    rw [bytesU8] at hfl
    have hll : ((zs.take len).map Int.toNat).length = len := by simp; omega
    refine ⟨some a, cap, (zs.take len).map Int.toNat, by rw [hll], by rw [hll]; exact hl, hm', ?_, ?_, ?_⟩
    · intro c hc
      obtain ⟨z, hzm, rfl⟩ := List.mem_map.1 hc
      have := u8_wf (hwz z (List.mem_of_mem_take hzm))
      omega
    · rw [hll]
      simp [lits] at hfl
      omega
    · by_cases h0 : len = 0
      · subst h0; exact .inl rfl
      · obtain ⟨b, off, spot⟩ := a
        have hspot : spot = none := by simpa [Addr.add] using World.cell?_spot (hcell 0 (by omega))
        subst hspot
        refine .inr ⟨b, off, rfl, trivial, fun j hj => ?_⟩
        rw [hll] at hj
        have hw := hwf j (by omega)
        have := hcell j (by omega)
        rw [show (⟨b, off, none⟩ : Addr).add j = ⟨b, off + j, none⟩ by (unfold Addr.add; split <;> simp_all)] at this
        rw [this]
        have e : (((zs.take len).map Int.toNat).getD j 0 : Nat) = (zs.getD j 0).toNat := by
          simp [List.getD_eq_getElem?_getD, show j < len by omega, List.getElem?_eq_getElem (show j < zs.length by omega)]
        rw [e, Int.toNat_of_nonneg hw.1]
theorem six_list {cs : List Value} (h : cs.length = 6) : ∃ c0 c1 c2 c3 c4 c5, cs = [c0, c1, c2, c3, c4, c5] := by
  match cs, h with
  | [c0, c1, c2, c3, c4, c5], _ => exact ⟨_, _, _, _, _, _, rfl⟩
theorem add_add (a : Addr) (i j : Nat) : (a.add i).add j = a.add (i + j) := Go.Deep.add_add a i j
/-- Elements of a slice that comes in, one by one. -/
theorem open_each {t e : TypeId} {size fuel : Nat} {cs : List Value} {x : DataW H × List MemPlace} (ht : Tryd.prog.underlying t = some (.slice e)) (hc : Tryd.prog.cellsOf e = size) (hpos : 0 < size) (h : DataW.trod enc Tryd.prog W 0 (fun _ => true) true fuel t cs = some x) (hx : Fit t x.1) :
    (cs = [.slice none 0 0]) ∨ ∃ (a : Addr) (len cap n : Nat), fuel = n + 1 ∧ cs = [.slice (some a) len cap] ∧ (0 < len → a = ⟨a.block, a.off, none⟩) ∧ len ≤ cap ∧ cap ≤ 9223372036854775807 ∧ len * Tryd.prog.bytesOf e ≤ 140737488355328 ∧
      ∀ i, i < len → ∃ (cs' : List Value) (y : DataW H × List MemPlace), cs'.length = size ∧ (∀ j, j < size → W.cell? ⟨a.block, a.off + (i * size + j), none⟩ = cs'[j]?) ∧ DataW.trod enc Tryd.prog W 0 (fun _ => true) true n e cs' = some y ∧ Fit e y.1 := by
  rcases DataW.trod_slice ht h with ⟨rfl, _⟩ | ⟨a, len, cap, elems, rest, n, hfu, rfl, rfl, hb, hl, hm, hlen, hel, hsp, hns⟩
  · exact .inl rfl
  · have hfl := fit_len ht hx
    have hm' : cap ≤ 9223372036854775807 := hm
    have hlen2 : len * Tryd.prog.bytesOf e ≤ 140737488355328 := by
      simp only [List.length_map] at hfl
      exact Nat.le_trans (Nat.mul_le_mul_right _ (by omega)) hfl
    have each : ∀ i, i < len → ∃ (cs' : List Value) (y : DataW H × List MemPlace), cs'.length = size ∧ (∀ j, j < size → W.cell? (a.add (i * size + j)) = cs'[j]?) ∧ DataW.trod enc Tryd.prog W 0 (fun _ => true) true n e cs' = some y ∧ Fit e y.1 := by
      intro i hi
      have h1 := hel i hi
      rw [List.getElem?_eq_getElem (by omega)] at h1
      obtain ⟨cs', h2, h3⟩ := Option.bind_eq_some_iff.1 h1
      obtain ⟨_, h4, h5⟩ := World.cells?_some h2
      rw [hc] at h4 h5
      refine ⟨cs', _, h4, fun j hj => ?_, h3, fit_elem ht hx (List.mem_map.2 ⟨_, List.getElem_mem _, rfl⟩)⟩
      rw [← h5 j hj, add_add]
    have ha : 0 < len → a = ⟨a.block, a.off, none⟩ := fun h0 => by
      obtain ⟨cs', y, h4, h5, _⟩ := each 0 h0
      have h6 := h5 0 hpos
      rw [Nat.zero_mul, Nat.add_zero, List.getElem?_eq_getElem (by omega)] at h6
      exact addr_spot h6
    refine .inr ⟨a, len, cap, n, hfu, rfl, ha, hl, hm', hlen2, fun i hi => ?_⟩
    obtain ⟨cs', y, h4, h5, h7⟩ := each i hi
    refine ⟨cs', y, h4, fun j hj => ?_, h7⟩
    have h8 := h5 j hj
    rw [ha (by omega), add_plain] at h8
    exact h8
/-- A field, part by part. -/
theorem seven_list {cs : List Value} (h : cs.length = 7) : ∃ c0 c1 c2 c3 c4 c5 c6, cs = [c0, c1, c2, c3, c4, c5, c6] := by
  match cs, h with
  | [c0, c1, c2, c3, c4, c5, c6], _ => exact ⟨_, _, _, _, _, _, _, rfl⟩
theorem row_of {β : Type} [Inhabited β] {n : Nat} {p : Nat → β → Prop} (h : ∀ i, i < n → ∃ x, p i x) : ∃ l : List β, l.length = n ∧ ∀ i (hi : i < l.length), p i l[i] := by
  obtain ⟨f, hf⟩ := Go.Deep.choose_lt h
  refine ⟨(List.range n).map f, by simp, fun i hi => ?_⟩
  have hi' : i < n := by simpa using hi
  simpa using hf i hi'
set_option maxRecDepth 100000 in
set_option maxHeartbeats 1000000 in
theorem open_val (fuel : Nat) : ∀ (cs : List Value) (x : DataW H × List MemPlace), DataW.trod enc Tryd.prog W 0 (fun _ => true) true fuel 27 cs = some x → Fit 27 x.1 →
    ∃ X c0 c1 c2 c3 c4 c5, cs = [c0, c1, c2, c3, c4, c5] ∧ VIn W (fun _ => True) fuel X (.agg #[c0, c1, c2, c3, c4, c5]) := by
  induction fuel using Nat.strongRecOn with
  | _ fuel ih =>
    intro cs x h hx
    obtain ⟨xs, n, rfl, rfl, hlen, hxl, hf⟩ := DataW.trod_struct Tryd.underlying27 h
    rw [cellsVal] at hlen
    obtain ⟨c0, c1, c2, c3, c4, c5, rfl⟩ := six_list hlen
    have hxl6 : xs.length = 6 := hxl
    have part : ∀ (i : Nat) (f : Field), (#[{ name := "Kind", type := 3, offset := 0, embedded := false, tag := "", pkgPath := "", byteOffset := 0 }, { name := "N", type := 2, offset := 1, embedded := false, tag := "", pkgPath := "", byteOffset := 8 }, { name := "S", type := 9, offset := 2, embedded := false, tag := "", pkgPath := "", byteOffset := 16 }, { name := "B", type := 22, offset := 3, embedded := false, tag := "", pkgPath := "", byteOffset := 32 }, { name := "F", type := 24, offset := 4, embedded := false, tag := "", pkgPath := "", byteOffset := 56 }, { name := "L", type := 25, offset := 5, embedded := false, tag := "", pkgPath := "", byteOffset := 80 }] : Array Field)[i]? = some f →
        ∃ y, DataW.trod enc Tryd.prog W 0 (fun _ => true) true n f.type (([c0, c1, c2, c3, c4, c5].drop f.offset).take (Tryd.prog.cellsOf f.type)) = some y ∧ Fit f.type y.1 := by
      intro i f hi
      have h1 := hf i f hi
      have hi6 : i < 6 := (Array.getElem?_eq_some_iff.1 hi).1
      rw [List.getElem?_eq_getElem (by omega)] at h1
      exact ⟨_, h1, fit_part Tryd.underlying27 hx hi (by rw [List.getElem?_map, List.getElem?_eq_getElem (by omega)]; rfl)⟩
    obtain ⟨y0, t0, f0⟩ := part 0 { name := "Kind", type := 3, offset := 0, embedded := false, tag := "", pkgPath := "", byteOffset := 0 } rfl
    obtain ⟨y1, t1, f1⟩ := part 1 { name := "N", type := 2, offset := 1, embedded := false, tag := "", pkgPath := "", byteOffset := 8 } rfl
    obtain ⟨y2, t2, f2⟩ := part 2 { name := "S", type := 9, offset := 2, embedded := false, tag := "", pkgPath := "", byteOffset := 16 } rfl
    obtain ⟨y3, t3, f3⟩ := part 3 { name := "B", type := 22, offset := 3, embedded := false, tag := "", pkgPath := "", byteOffset := 32 } rfl
    obtain ⟨y4, t4, f4⟩ := part 4 { name := "F", type := 24, offset := 4, embedded := false, tag := "", pkgPath := "", byteOffset := 56 } rfl
    obtain ⟨y5, t5, f5⟩ := part 5 { name := "L", type := 25, offset := 5, embedded := false, tag := "", pkgPath := "", byteOffset := 80 } rfl
    clear part hf h hx
    simp only [cellsInt, cellsI64, cellsStr, cellsBy, cellsFs, cellsVs, List.drop, List.take] at t0 t1 t2 t3 t4 t5
    obtain ⟨k, hk, _, hkw⟩ := DataW.trod_int Tryd.underlying3 t0
    obtain ⟨nn, hnn, _, hnw⟩ := DataW.trod_int Tryd.underlying2 t1
    obtain ⟨s, hs, hy2, _⟩ := DataW.trod_string Tryd.underlying9 t2
    obtain ⟨ba, bc, b, hb, hbc, hbm, hbo, hbl, hB⟩ := open_bytes t3 f3
    rw [hy2] at f2
    have hsl := fit_str f2
    injection hk with hk; injection hnn with hnn; injection hs with hs; injection hb with hb
    subst hk hnn hs hb
    obtain ⟨hk0, hk1⟩ := wf_i64 hkw
    obtain ⟨hn0, hn1⟩ := wf_i64 hnw
    -- the fields
    have hF : ∃ (fa : Option Addr) (fc : Nat) (f : List (ByteArray × Val)), c4 = .slice fa f.length fc ∧ f.length ≤ fc ∧ fc ≤ 9223372036854775807 ∧ f.length ≤ 1172812402961 ∧ FieldsIn W (fun _ => True) (VIn W (fun _ => True) n) fa f := by
      rcases open_each Tryd.underlying24 cellsFld (by decide) t4 f4 with h0 | ⟨a, len, cap, m, rfl, hcs, ha, hl, hm, hbt, hall⟩
      · injection h0 with h0
        exact ⟨none, 0, [], h0, Nat.le_refl _, by omega, by simp, .inl rfl⟩
      · injection hcs with hcs
        rw [bytesFld] at hbt
        have each : ∀ i, i < len → ∃ (q : ByteArray × Val), W.cell? ⟨a.block, a.off + i * 7, none⟩ = some (.string q.1) ∧ q.1.size ≤ 140737488355328 ∧ ∃ v, SixAt W a.block (a.off + i * 7 + 1) v ∧ VIn W (fun _ => True) (m + 1) q.2 v := by
          intro i hi
          obtain ⟨cs', y, h1, h2, h3, h4⟩ := hall i hi
          obtain ⟨ys, m', rfl, rfl, hl7, hyl, hg⟩ := DataW.trod_struct Tryd.underlying43 h3
          obtain ⟨d0, d1, d2, d3, d4, d5, d6, rfl⟩ := seven_list h1
          have hyl2 : ys.length = 2 := hyl
          have g0 := hg 0 { name := "Name", type := 9, offset := 0, embedded := false, tag := "", pkgPath := "", byteOffset := 0 } rfl
          have g1 := hg 1 { name := "V", type := 27, offset := 1, embedded := false, tag := "", pkgPath := "", byteOffset := 16 } rfl
          rw [List.getElem?_eq_getElem (by omega)] at g0 g1
          simp only [cellsStr, cellsVal, List.drop, List.take] at g0 g1
          have e0 : Fit 9 ys[0].1 := fit_part Tryd.underlying43 h4 (j := 0) (f := { name := "Name", type := 9, offset := 0, embedded := false, tag := "", pkgPath := "", byteOffset := 0 }) rfl (by rw [List.getElem?_map, List.getElem?_eq_getElem (by omega)]; rfl)
          have e1 : Fit 27 ys[1].1 := fit_part Tryd.underlying43 h4 (j := 1) (f := { name := "V", type := 27, offset := 1, embedded := false, tag := "", pkgPath := "", byteOffset := 16 }) rfl (by rw [List.getElem?_map, List.getElem?_eq_getElem (by omega)]; rfl)
          obtain ⟨nm, hnm, hny, _⟩ := DataW.trod_string Tryd.underlying9 g0
          rw [hny] at e0
          injection hnm with hnm
          obtain ⟨X, q0, q1, q2, q3, q4, q5, hq, hV⟩ := ih m' (by omega) _ _ g1 e1
          injection hq with hq0 hq; injection hq with hq1 hq; injection hq with hq2 hq; injection hq with hq3 hq; injection hq with hq4 hq; injection hq with hq5 hq
          subst hq0 hq1 hq2 hq3 hq4 hq5 hnm
          refine ⟨(nm, X), h2 0 (by omega), fit_str e0, _, ⟨d1, d2, d3, d4, d5, d6, rfl, h2 1 (by omega), h2 2 (by omega), h2 3 (by omega), h2 4 (by omega), h2 5 (by omega), h2 6 (by omega)⟩, hV.up (by omega)⟩
        haveI : Inhabited (ByteArray × Val) := ⟨(⟨#[]⟩, Bson.zero)⟩
        obtain ⟨f, hfl, hff⟩ := row_of each
        refine ⟨some a, cap, f, by rw [hfl]; exact hcs, by omega, hm, by omega, ?_⟩
        by_cases h0 : len = 0
        · exact .inl (List.eq_nil_of_length_eq_zero (by omega))
        · exact .inr ⟨a.block, a.off, congrArg some (ha (by omega)), trivial, hff⟩
    have hL : ∃ (la : Option Addr) (lc : Nat) (l : List Val), c5 = .slice la l.length lc ∧ l.length ≤ lc ∧ lc ≤ 9223372036854775807 ∧ l.length ≤ 1353245080339 ∧ ItemsIn W (fun _ => True) (VIn W (fun _ => True) n) la l := by
      rcases open_each Tryd.underlying25 cellsVal (by decide) t5 f5 with h0 | ⟨a, len, cap, m, rfl, hcs, ha, hl, hm, hbt, hall⟩
      · injection h0 with h0
        exact ⟨none, 0, [], h0, Nat.le_refl _, by omega, by simp, .inl rfl⟩
      · injection hcs with hcs
        rw [bytesVal] at hbt
        have each : ∀ i, i < len → ∃ (q : Val), ∃ v, SixAt W a.block (a.off + i * 6) v ∧ VIn W (fun _ => True) (m + 1) q v := by
          intro i hi
          obtain ⟨cs', y, h1, h2, h3, h4⟩ := hall i hi
          obtain ⟨X, q0, q1, q2, q3, q4, q5, rfl, hV⟩ := ih m (by omega) _ _ h3 h4
          exact ⟨X, _, ⟨q0, q1, q2, q3, q4, q5, rfl, h2 0 (by omega), h2 1 (by omega), h2 2 (by omega), h2 3 (by omega), h2 4 (by omega), h2 5 (by omega)⟩, hV.up (by omega)⟩
        haveI : Inhabited Val := ⟨Bson.zero⟩
        obtain ⟨f, hfl, hff⟩ := row_of each
        refine ⟨some a, cap, f, by rw [hfl]; exact hcs, by omega, hm, by omega, ?_⟩
        by_cases h0 : len = 0
        · exact .inl (List.eq_nil_of_length_eq_zero (by omega))
        · exact .inr ⟨a.block, a.off, congrArg some (ha (by omega)), trivial, hff⟩
    obtain ⟨fa, fc, f, rfl, hfc, hfm, hfl, hFI⟩ := hF
    obtain ⟨la, lc, l, rfl, hlc, hlm, hll, hLI⟩ := hL
    exact ⟨.mk k nn s b f l, _, _, _, _, _, _, rfl, ba, fa, la, bc, fc, lc, rfl, ⟨hk0, hk1, hn0, hn1, hsl, hbl, hfl, hll, hbo⟩, ⟨hbc, hbm⟩, ⟨hfc, hfm⟩, ⟨hlc, hlm⟩, hB, hFI, hLI⟩
set_option maxRecDepth 100000 in
/-- A value that comes in. -/
theorem open_value {v : Value} {d : DataW H} {ps : List MemPlace} (hd : DataW.Trod enc Tryd.prog W 0 (fun _ => true) true 27 v d ps) (hx : Fit 27 d) :
    ∃ h X, VIn W (fun g => g < W.heap.size) h X v := by
  obtain ⟨fuel, hf⟩ := hd
  obtain ⟨X, c0, c1, c2, c3, c4, c5, hcs, hV⟩ := open_val fuel _ _ hf hx
  refine ⟨fuel, X, ?_⟩
  have hv : v = .agg #[c0, c1, c2, c3, c4, c5] := by
    cases v with
    | agg cells =>
      have : cells.toList = [c0, c1, c2, c3, c4, c5] := hcs
      congr 1
      exact Array.toList_inj.1 this
    | _ => exfalso; have := congrArg List.length hcs; simp [Value.cells] at this
  rw [hv]
  exact hV.lt.kept (Kept.of_below (Below.refl _ _)) (fun g hg => hg.2)
set_option maxRecDepth 100000 in
/-- Values that come in. -/
theorem open_values {base : Nat} {v : Value} {d : DataW H} {ps : List MemPlace} (hval : Value.okWide Tryd.prog W .any base 25 v) (hd : DataW.Trod enc Tryd.prog W 0 (fun _ => true) true 25 v d ps) (hx : Fit 25 d) :
    ∃ h a c l, v = .slice a l.length c ∧ l.length ≤ c ∧ c ≤ 9223372036854775807 ∧ l.length ≤ 1353245080339 ∧ ItemsIn W (fun g => g < W.heap.size) (VIn W (fun g => g < W.heap.size) h) a l := by
  obtain ⟨a0, len0, cap0, rfl⟩ := okWide_slice Tryd.underlying25 hval
  obtain ⟨fuel, hf⟩ := hd
  rcases open_each Tryd.underlying25 cellsVal (by decide) hf hx with h0 | ⟨a, len, cap, m, rfl, hcs, ha, hl, hm, hbt, hall⟩
  · simp [Value.cells] at h0
    obtain ⟨rfl, rfl, rfl⟩ := h0
    exact ⟨0, none, 0, [], rfl, Nat.le_refl _, by omega, by simp, .inl rfl⟩
  · simp [Value.cells] at hcs
    obtain ⟨rfl, rfl, rfl⟩ := hcs
    rw [bytesVal] at hbt
    have each : ∀ i, i < len0 → ∃ (q : Val), ∃ v, SixAt W a.block (a.off + i * 6) v ∧ VIn W (fun g => g < W.heap.size) m q v := by
      intro i hi
      obtain ⟨cs', y, h1, h2, h3, h4⟩ := hall i hi
      obtain ⟨X, q0, q1, q2, q3, q4, q5, rfl, hV⟩ := open_val m _ _ h3 h4
      exact ⟨X, _, ⟨q0, q1, q2, q3, q4, q5, rfl, h2 0 (by omega), h2 1 (by omega), h2 2 (by omega), h2 3 (by omega), h2 4 (by omega), h2 5 (by omega)⟩, hV.lt.kept (Kept.of_below (Below.refl _ _)) (fun g hg => hg.2)⟩
    haveI : Inhabited Val := ⟨Bson.zero⟩
    obtain ⟨f, hfl, hff⟩ := row_of each
    refine ⟨m, some a, cap0, f, by rw [hfl], by omega, hm, by omega, ?_⟩
    by_cases h0 : len0 = 0
    · exact .inl (List.eq_nil_of_length_eq_zero (by omega))
    · refine .inr ⟨a.block, a.off, congrArg some (ha (by omega)), ?_, hff⟩
      obtain ⟨v, hs, _⟩ := hff 0 (by omega)
      obtain ⟨_, _, _, _, _, _, _, hc, _⟩ := hs
      exact World.block_lt_of_cell? W ⟨a.block, a.off + 0 * 6, none⟩ hc
end
end Go.Proofs.YtpiookgkkaafeaaDoor
end
