/- KeyMath, ValLets, KeyLegal, OpenVal, OrderClass, PathMem, SixIs, ValByt, Boxed2, Boxes, NumLeaf. -/
import Derived.ChangeSlices
import Derived.Laws.Externs
import Derived.BigQuiet
import Derived.Laws.Rows
import Derived.OwnWalk
import Derived.Deep.MidRow
import Derived.Deep.QuietTactic
import Derived.Test.YtiajjgehnmkokaaGreatDoorMl1
import Derived.Test.YtiajjgehnmkokaaGreatDoorMl0
set_option maxRecDepth 100000
set_option maxHeartbeats 20000000
section
namespace Key
open Go
open Bson (Val)
open Order
def next (c d : Int) : Int := if c = 0 then d else c
def be (n : Nat) : Nat → List Nat
 | 0 => []
 | k + 1 => n / 256 ^ k % 256 :: be n k
def off (n : Int) : Nat := (n + 9223372036854775808).toNat
def numB (n : Int) : List Nat := be (off n) 8
def fits : Nat → Val → Prop
 | 0, x => x.kind ≠ 6 ∧ x.kind ≠ 7
 | L + 1, x => (x.kind = 6 → ∀ p ∈ x.f, fits L p.2) ∧ (x.kind = 7 → ∀ v ∈ x.l, fits L v)
def Okay : Nat → Val → Prop
 | 0, x => -9223372036854775808 ≤ x.n ∧ x.n ≤ 9223372036854775807 ∧ x.b.length ≤ 140737488355328
 | L + 1, x => (-9223372036854775808 ≤ x.n ∧ x.n ≤ 9223372036854775807 ∧ x.b.length ≤ 140737488355328) ∧ (∀ p ∈ x.f, Okay L p.2) ∧ ∀ v ∈ x.l, Okay L v
theorem Okay.here {L : Nat} {x : Val} (h : Okay L x) : -9223372036854775808 ≤ x.n ∧ x.n ≤ 9223372036854775807 ∧ x.b.length ≤ 140737488355328 := by
 cases L with
 | zero => exact h
 | succ L => exact h.1
theorem part : ∀ (a b : List Nat), (∃ t, b = a ++ t) ∨ (∃ t, a = b ++ t) ∨ ∃ p x y t u, a = p ++ x :: t ∧ b = p ++ y :: u ∧ x ≠ y
 | [], b => .inl ⟨b, rfl⟩
 | a, [] => .inr (.inl ⟨a, rfl⟩)
 | x :: t, y :: u => by
  by_cases e : x = y
  ·subst e
   rcases part t u with ⟨v, h⟩ | ⟨v, h⟩ | ⟨p, x', y', t', u', h1, h2, h3⟩
   ·exact .inl ⟨v, by rw [h]; rfl⟩
   ·exact .inr (.inl ⟨v, by rw [h]; rfl⟩)
   ·exact .inr (.inr ⟨x :: p, x', y', t', u', by rw [h1]; rfl, by rw [h2]; rfl, h3⟩)
  ·exact .inr (.inr ⟨[], x, y, t, u, rfl, rfl, e⟩)
end Key
end
section
namespace Go.Proofs.YtiajjgehnmkokaaGreatDoor
open Go.RowKit
open Seal
open Bson (Val)
theorem VIn.lt {w : World} {Q : Nat → Prop} : ∀ {h : Nat} {x : Val} {v : Value}, VIn w Q h x v → VIn w (fun g => Q g ∧ g < w.heap.size) h x v
 | 0, _, _, h => h.elim
 | h + 1, x, v, ⟨ba, fa, la, bc, fc, lc, e, h1, h2, h3, h4, hB, hF, hI⟩ => by
  refine ⟨ba, fa, la, bc, fc, lc, e, h1, h2, h3, h4, ?_, ?_, ?_⟩
  ·rcases hB with hB | ⟨g, o, e, hq, hr⟩
   ·exact .inl hB
   ·cases hx : x.b with
    | nil => exact .inl rfl
    | cons c r =>
     have := hr 0 (by rw [hx]; simp)
     exact .inr ⟨g, o, e, ⟨hq, World.block_lt_of_cell? w _ this⟩, by rw [← hx]; exact hr⟩
  ·rcases hF with hF | ⟨g, o, e, hq, hr⟩
   ·exact .inl hF
   ·cases hx : x.f with
    | nil => exact .inl rfl
    | cons c r =>
     have h0 := (hr 0 (by rw [hx]; simp)).1
     refine .inr ⟨g, o, e, ⟨hq, World.block_lt_of_cell? w _ h0⟩, ?_⟩
     rw [← hx]
     intro i hi
     obtain ⟨a1, a2, v, a3, a4⟩ := hr i hi
     exact ⟨a1, a2, v, a3, VIn.lt a4⟩
  ·rcases hI with hI | ⟨g, o, e, hq, hr⟩
   ·exact .inl hI
   ·cases hx : x.l with
    | nil => exact .inl rfl
    | cons c r =>
     obtain ⟨v0, h0, _⟩ := hr 0 (by rw [hx]; simp)
     obtain ⟨_, _, _, _, _, _, _, hc, _⟩ := h0
     refine .inr ⟨g, o, e, ⟨hq, World.block_lt_of_cell? w _ hc⟩, ?_⟩
     rw [← hx]
     intro i hi
     obtain ⟨v, a3, a4⟩ := hr i hi
     exact ⟨v, a3, VIn.lt a4⟩
theorem VIn.letters {w : World} {Q : Nat → Prop} {h : Nat} {x : Val} {v : Value} (hv : VIn w Q (h + 1) x v) :
  ∃ (xk xn : Int) (xs : ByteArray) (ba fa la : Option Addr) (bn bc fn fc ln lc : Nat), v = .agg #[.int .i64 xk, .int .i64 xn, .string xs, .slice ba bn bc, .slice fa fn fc, .slice la ln lc] ∧
   xk = x.kind ∧ xn = x.n ∧ xs = x.s ∧ bn = x.b.length ∧ fn = x.f.length ∧ ln = x.l.length ∧ Lim x ∧ FieldsIn w Q (VIn w Q h) fa x.f ∧ ItemsIn w Q (VIn w Q h) la x.l := by
 obtain ⟨ba, fa, la, bc, fc, lc, rfl, hL, _, _, _, _, hF, hI⟩ := hv
 exact ⟨_, _, _, ba, fa, la, _, bc, _, fc, _, lc, rfl, rfl, rfl, rfl, rfl, rfl, rfl, hL, hF, hI⟩
theorem zero_in (w : World) (Q : Nat → Prop) : VIn w Q 1 Bson.zero (.agg #[.int .i64 0, .int .i64 0, .string ⟨#[]⟩, .slice none 0 0, .slice none 0 0, .slice none 0 0]) :=
 ⟨none, none, none, 0, 0, 0, rfl, ⟨by show (-9223372036854775808 : Int) ≤ 0; omega, by show (0 : Int) ≤ _; omega, by show (-9223372036854775808 : Int) ≤ 0; omega, by show (0 : Int) ≤ _; omega, by show (0 : Nat) ≤ _; omega, by show (0 : Nat) ≤ _; omega, by show (0 : Nat) ≤ _; omega, by show (0 : Nat) ≤ _; omega, fun c hc => by cases hc⟩, ⟨Nat.le_refl _, by omega⟩, ⟨Nat.le_refl _, by omega⟩, ⟨Nat.le_refl _, by omega⟩, .inl rfl, .inl rfl, .inl rfl⟩
theorem str_ne {s t : ByteArray} (h : ¬ s = t) : (s.toList == t.toList) = false := by
 rw [beq_eq_false_iff_ne]
 intro e
 rw [ByteArray.toList_eq, ByteArray.toList_eq] at e
 apply h
 obtain ⟨⟨a⟩⟩ := s
 obtain ⟨⟨b⟩⟩ := t
 simp only at e
 rw [e]
def ValPost (Q : Nat → Prop) (w : World) (h : Nat) (x : Val) (e : Ending) (w' : World) : Prop := ∃ v', e = .returned v' ∧ VIn w' Q h x v' ∧ Below w.heap.size w w'
theorem below_dr {B : Nat} {a w : World} (h : Below B a w) (n : Nat) : Below B a (w.drewN n) := ⟨h.os, h.tape, h.output, h.size, h.block⟩
end Go.Proofs.YtiajjgehnmkokaaGreatDoor
end
section
namespace Key
open Bson (Val)
def legal : Nat → Val → Prop
 | 0, x => (1 ≤ x.kind ∧ x.kind ≤ 12) ∧ x.kind ≠ 6 ∧ x.kind ≠ 7
 | L + 1, x => (1 ≤ x.kind ∧ x.kind ≤ 12) ∧ (x.kind = 6 → ∀ p ∈ x.f, legal L p.2) ∧ (x.kind = 7 → ∀ v ∈ x.l, legal L v)
theorem legal_leaf {x : Val} (hk : 1 ≤ x.kind ∧ x.kind ≤ 12) (h6 : x.kind ≠ 6) (h7 : x.kind ≠ 7) : ∀ L, legal L x
 | 0 => ⟨hk, h6, h7⟩
 | _ + 1 => ⟨hk, fun e => absurd e h6, fun e => absurd e h7⟩
theorem legal.kind {x : Val} : ∀ {L : Nat}, legal L x → 1 ≤ x.kind ∧ x.kind ≤ 12
 | 0, h => h.1
 | _ + 1, h => h.1
theorem legal.fits : ∀ {L : Nat} {x : Val}, legal L x → Key.fits L x
 | 0, _, h => h.2
 | _ + 1, _, h => ⟨fun e p hp => (h.2.1 e p hp).fits, fun e v hv => (h.2.2 e v hv).fits⟩
end Key
end
section
namespace Go.Proofs.YtiajjgehnmkokaaGreatDoor
open Go.ChangeShapes Go.WideShapes Go.ChangeAt Go.RowKit
open Seal
open Bson (Val)
section
variable {H : Type} {enc : TypeId × Value → H} {W : World}
def Fit (t : TypeId) (d : DataW H) : Prop := ∀ n ∈ d.weights Tryz.prog t, n ≤ 140737488355328
theorem fit_part {t : TypeId} {fs : Array Field} (ht : Tryz.prog.underlying t = some (.struct fs)) {parts : List (DataW H)} (h : Fit t (.agg parts)) {j : Nat} {f : Field} {d : DataW H} (hf : fs[j]? = some f) (hd : parts[j]? = some d) : Fit f.type d := by
 intro n hn
 refine h n ?_
 simp only [DataW.weights, ht]
 exact DataW.weights_mem_each (j := j) (by simp [hf]) hd n hn
theorem fit_elem {t e : TypeId} (ht : Tryz.prog.underlying t = some (.slice e)) {elems spare : List (DataW H)} (h : Fit t (.slice elems spare)) {d : DataW H} (hd : d ∈ elems) : Fit e d := by
 intro n hn
 refine h n ?_
 simp only [DataW.weights, ht, List.mem_cons, List.mem_append]
 exact Or.inr (Or.inl (weightsAll_mem hd n hn))
theorem fit_len {t e : TypeId} (ht : Tryz.prog.underlying t = some (.slice e)) {elems spare : List (DataW H)} (h : Fit t (.slice elems spare)) : (elems.length + spare.length) * Tryz.prog.bytesOf e ≤ 140737488355328 := by
 refine h _ ?_
 simp [DataW.weights, ht]
theorem fit_str {t : TypeId} {s : ByteArray} (h : Fit (H := H) t (.lit (.string s.data.toList))) : s.size ≤ 140737488355328 := by
 have := h s.data.toList.length (by simp [DataW.weights])
 rwa [show s.data.toList.length = s.size from Array.length_toList] at this
theorem fit_of {ts : List TypeId} {ds : List (DataW H)} (hw : (DataW.weightsEach Tryz.prog ts ds).all (· ≤ reachBytes) = true) {j : Nat} {t : TypeId} {d : DataW H} (hj : ts[j]? = some t) (hdj : ds[j]? = some d) : Fit t d := fun n hn => by
 have h1 := of_decide_eq_true (List.all_eq_true.1 hw n (DataW.weights_mem_each hj hdj n hn))
 rw [reach_eq] at h1
 omega
theorem cellsU8 : Tryz.prog.cellsOf 5 = 1 := by kernel_rfl
theorem bytesU8 : Tryz.prog.bytesOf 5 = 1 := by kernel_rfl
theorem cellsVal : Tryz.prog.cellsOf 26 = 6 := by kernel_rfl
theorem bytesVal : Tryz.prog.bytesOf 26 = 104 := by kernel_rfl
theorem cellsFld : Tryz.prog.cellsOf 40 = 7 := by kernel_rfl
theorem bytesFld : Tryz.prog.bytesOf 40 = 120 := by kernel_rfl
theorem cellsInt : Tryz.prog.cellsOf 3 = 1 := by kernel_rfl
theorem cellsI64 : Tryz.prog.cellsOf 2 = 1 := by kernel_rfl
theorem cellsBy : Tryz.prog.cellsOf 22 = 1 := by kernel_rfl
theorem cellsFs : Tryz.prog.cellsOf 23 = 1 := by kernel_rfl
theorem cellsVs : Tryz.prog.cellsOf 24 = 1 := by kernel_rfl
theorem wf_i64 {n : Int} (h : (Lit.int .i64 n).wf = true) : -9223372036854775808 ≤ n ∧ n ≤ 9223372036854775807 := by
 have h1 : IntKind.i64.min = -9223372036854775808 := rfl
 have h2 : IntKind.i64.max = 9223372036854775807 := rfl
 simp only [Lit.wf, Bool.and_eq_true, decide_eq_true_eq] at h
 omega
theorem open_bytes {fuel : Nat} {cs : List Value} {x : DataW H × List MemPlace} (h : DataW.trod enc Tryz.prog W 0 (fun _ => true) true fuel 22 cs = some x) (hx : Fit 22 x.1) :
  ∃ (a : Option Addr) (c : Nat) (l : List Nat), cs = [.slice a l.length c] ∧ l.length ≤ c ∧ c ≤ 9223372036854775807 ∧ Oct l ∧ l.length ≤ 140737488355328 ∧ BytesIn W (fun _ => True) a l := by
 rcases open_ints Tryz.underlying22 Tryz.underlying5 cellsU8 h with ⟨rfl, hd⟩ | ⟨a, len, cap, zs, rfl, _, hl, hm, hz, hd, hcell, hwz⟩
 ·exact ⟨none, 0, [], rfl, Nat.le_refl _, by omega, (fun c hc => by cases hc), by simp, .inl rfl⟩
 ·simp only [if_true] at hz
  have hm' : cap ≤ 9223372036854775807 := hm
  have hwf : ∀ j, j < zs.length → 0 ≤ zs.getD j 0 ∧ zs.getD j 0 < 256 := fun j hj => by
   rw [List.getD_eq_getElem?_getD, List.getElem?_eq_getElem hj]
   exact u8_wf (hwz _ (List.getElem_mem hj))
  have hfl := fit_len Tryz.underlying22 (by rw [hd] at hx; exact hx)
  rw [bytesU8] at hfl
  have hll : ((zs.take len).map Int.toNat).length = len := by simp; omega
  refine ⟨some a, cap, (zs.take len).map Int.toNat, by rw [hll], by rw [hll]; exact hl, hm', ?_, ?_, ?_⟩
  ·intro c hc
   obtain ⟨z, hzm, rfl⟩ := List.mem_map.1 hc
   have := u8_wf (hwz z (List.mem_of_mem_take hzm))
   omega
  ·rw [hll]
   simp [lits] at hfl
   omega
  ·by_cases h0 : len = 0
   ·subst h0; exact .inl rfl
   ·obtain ⟨b, off, spot⟩ := a
    have hspot : spot = none := by simpa [Addr.add] using World.cell?_spot (hcell 0 (by omega))
    subst hspot
    refine .inr ⟨b, off, rfl, trivial, fun j hj => ?_⟩
    rw [hll] at hj
    have hw := hwf j (by omega)
    have := hcell j (by omega)
    rw [show (⟨b, off, none⟩ : Addr).add j = ⟨b, off + j, none⟩ by (unfold Addr.add; split <;> simp_all)] at this
    rw [this]
    have e : (((zs.take len).map Int.toNat).getD j 0 : Nat) = (zs.getD j 0).toNat := by
     simp [List.getD_eq_getElem?_getD, show j < len by omega, List.getElem?_eq_getElem (show j < zs.length by omega)]
    rw [e, Int.toNat_of_nonneg hw.1]
theorem six_list {cs : List Value} (h : cs.length = 6) : ∃ c0 c1 c2 c3 c4 c5, cs = [c0, c1, c2, c3, c4, c5] := by
 match cs, h with
 | [c0, c1, c2, c3, c4, c5], _ => exact ⟨_, _, _, _, _, _, rfl⟩
theorem add_add (a : Addr) (i j : Nat) : (a.add i).add j = a.add (i + j) := Go.Deep.add_add a i j
theorem open_each {t e : TypeId} {size fuel : Nat} {cs : List Value} {x : DataW H × List MemPlace} (ht : Tryz.prog.underlying t = some (.slice e)) (hc : Tryz.prog.cellsOf e = size) (hpos : 0 < size) (h : DataW.trod enc Tryz.prog W 0 (fun _ => true) true fuel t cs = some x) (hx : Fit t x.1) :
  (cs = [.slice none 0 0]) ∨ ∃ (a : Addr) (len cap n : Nat), fuel = n + 1 ∧ cs = [.slice (some a) len cap] ∧ (0 < len → a = ⟨a.block, a.off, none⟩) ∧ len ≤ cap ∧ cap ≤ 9223372036854775807 ∧ len * Tryz.prog.bytesOf e ≤ 140737488355328 ∧
   ∀ i, i < len → ∃ (cs' : List Value) (y : DataW H × List MemPlace), cs'.length = size ∧ (∀ j, j < size → W.cell? ⟨a.block, a.off + (i * size + j), none⟩ = cs'[j]?) ∧ DataW.trod enc Tryz.prog W 0 (fun _ => true) true n e cs' = some y ∧ Fit e y.1 := by
 rcases DataW.trod_slice ht h with ⟨rfl, _⟩ | ⟨a, len, cap, elems, rest, n, hfu, rfl, rfl, hb, hl, hm, hlen, hel, hsp, hns⟩
 ·exact .inl rfl
 ·have hfl := fit_len ht hx
  have hm' : cap ≤ 9223372036854775807 := hm
  have hlen2 : len * Tryz.prog.bytesOf e ≤ 140737488355328 := by
   simp only [List.length_map] at hfl
   exact Nat.le_trans (Nat.mul_le_mul_right _ (by omega)) hfl
  have each : ∀ i, i < len → ∃ (cs' : List Value) (y : DataW H × List MemPlace), cs'.length = size ∧ (∀ j, j < size → W.cell? (a.add (i * size + j)) = cs'[j]?) ∧ DataW.trod enc Tryz.prog W 0 (fun _ => true) true n e cs' = some y ∧ Fit e y.1 := by
   intro i hi
   have h1 := hel i hi
   rw [List.getElem?_eq_getElem (by omega)] at h1
   obtain ⟨cs', h2, h3⟩ := Option.bind_eq_some_iff.1 h1
   obtain ⟨_, h4, h5⟩ := World.cells?_some h2
   rw [hc] at h4 h5
   refine ⟨cs', _, h4, fun j hj => ?_, h3, fit_elem ht hx (List.mem_map.2 ⟨_, List.getElem_mem _, rfl⟩)⟩
   rw [← h5 j hj, add_add]
  have ha : 0 < len → a = ⟨a.block, a.off, none⟩ := fun h0 => by
   obtain ⟨cs', y, h4, h5, _⟩ := each 0 h0
   have h6 := h5 0 hpos
   rw [Nat.zero_mul, Nat.add_zero, List.getElem?_eq_getElem (by omega)] at h6
   exact addr_spot h6
  refine .inr ⟨a, len, cap, n, hfu, rfl, ha, hl, hm', hlen2, fun i hi => ?_⟩
  obtain ⟨cs', y, h4, h5, h7⟩ := each i hi
  refine ⟨cs', y, h4, fun j hj => ?_, h7⟩
  have h8 := h5 j hj
  rw [ha (by omega), add_plain] at h8
  exact h8
theorem seven_list {cs : List Value} (h : cs.length = 7) : ∃ c0 c1 c2 c3 c4 c5 c6, cs = [c0, c1, c2, c3, c4, c5, c6] := by
 match cs, h with
 | [c0, c1, c2, c3, c4, c5, c6], _ => exact ⟨_, _, _, _, _, _, _, rfl⟩
theorem row_of {β : Type} [Inhabited β] {n : Nat} {p : Nat → β → Prop} (h : ∀ i, i < n → ∃ x, p i x) : ∃ l : List β, l.length = n ∧ ∀ i (hi : i < l.length), p i l[i] := by
 obtain ⟨f, hf⟩ := Go.Deep.choose_lt h
 refine ⟨(List.range n).map f, by simp, fun i hi => ?_⟩
 have hi' : i < n := by simpa using hi
 simpa using hf i hi'
theorem open_val (fuel : Nat) : ∀ (cs : List Value) (x : DataW H × List MemPlace), DataW.trod enc Tryz.prog W 0 (fun _ => true) true fuel 26 cs = some x → Fit 26 x.1 →
  ∃ X c0 c1 c2 c3 c4 c5, cs = [c0, c1, c2, c3, c4, c5] ∧ VIn W (fun _ => True) fuel X (.agg #[c0, c1, c2, c3, c4, c5]) := by
 induction fuel using Nat.strongRecOn with
 | _ fuel ih =>
  intro cs x h hx
  obtain ⟨xs, n, rfl, rfl, hlen, hxl, hf⟩ := DataW.trod_struct Tryz.underlying26 h
  rw [cellsVal] at hlen
  obtain ⟨c0, c1, c2, c3, c4, c5, rfl⟩ := six_list hlen
  have hxl6 : xs.length = 6 := hxl
  have part : ∀ (i : Nat) (f : Field), (#[{ name := "Kind", type := 3, offset := 0, embedded := false, tag := "", pkgPath := "", byteOffset := 0 }, { name := "N", type := 2, offset := 1, embedded := false, tag := "", pkgPath := "", byteOffset := 8 }, { name := "S", type := 9, offset := 2, embedded := false, tag := "", pkgPath := "", byteOffset := 16 }, { name := "B", type := 22, offset := 3, embedded := false, tag := "", pkgPath := "", byteOffset := 32 }, { name := "F", type := 23, offset := 4, embedded := false, tag := "", pkgPath := "", byteOffset := 56 }, { name := "L", type := 24, offset := 5, embedded := false, tag := "", pkgPath := "", byteOffset := 80 }] : Array Field)[i]? = some f →
    ∃ y, DataW.trod enc Tryz.prog W 0 (fun _ => true) true n f.type (([c0, c1, c2, c3, c4, c5].drop f.offset).take (Tryz.prog.cellsOf f.type)) = some y ∧ Fit f.type y.1 := by
   intro i f hi
   have h1 := hf i f hi
   have hi6 : i < 6 := (Array.getElem?_eq_some_iff.1 hi).1
   rw [List.getElem?_eq_getElem (by omega)] at h1
   exact ⟨_, h1, fit_part Tryz.underlying26 hx hi (by rw [List.getElem?_map, List.getElem?_eq_getElem (by omega)]; rfl)⟩
  obtain ⟨y0, t0, f0⟩ := part 0 { name := "Kind", type := 3, offset := 0, embedded := false, tag := "", pkgPath := "", byteOffset := 0 } rfl
  obtain ⟨y1, t1, f1⟩ := part 1 { name := "N", type := 2, offset := 1, embedded := false, tag := "", pkgPath := "", byteOffset := 8 } rfl
  obtain ⟨y2, t2, f2⟩ := part 2 { name := "S", type := 9, offset := 2, embedded := false, tag := "", pkgPath := "", byteOffset := 16 } rfl
  obtain ⟨y3, t3, f3⟩ := part 3 { name := "B", type := 22, offset := 3, embedded := false, tag := "", pkgPath := "", byteOffset := 32 } rfl
  obtain ⟨y4, t4, f4⟩ := part 4 { name := "F", type := 23, offset := 4, embedded := false, tag := "", pkgPath := "", byteOffset := 56 } rfl
  obtain ⟨y5, t5, f5⟩ := part 5 { name := "L", type := 24, offset := 5, embedded := false, tag := "", pkgPath := "", byteOffset := 80 } rfl
  clear part hf h hx
  simp only [cellsInt, cellsI64, cellsStr, cellsBy, cellsFs, cellsVs, List.drop, List.take] at t0 t1 t2 t3 t4 t5
  obtain ⟨k, hk, _, hkw⟩ := DataW.trod_int Tryz.underlying3 t0
  obtain ⟨nn, hnn, _, hnw⟩ := DataW.trod_int Tryz.underlying2 t1
  obtain ⟨s, hs, hy2, _⟩ := DataW.trod_string Tryz.underlying9 t2
  obtain ⟨ba, bc, b, hb, hbc, hbm, hbo, hbl, hB⟩ := open_bytes t3 f3
  rw [hy2] at f2
  have hsl := fit_str f2
  injection hk with hk; injection hnn with hnn; injection hs with hs; injection hb with hb
  subst hk hnn hs hb
  obtain ⟨hk0, hk1⟩ := wf_i64 hkw
  obtain ⟨hn0, hn1⟩ := wf_i64 hnw
  -- the fields
  have hF : ∃ (fa : Option Addr) (fc : Nat) (f : List (ByteArray × Val)), c4 = .slice fa f.length fc ∧ f.length ≤ fc ∧ fc ≤ 9223372036854775807 ∧ f.length ≤ 1172812402961 ∧ FieldsIn W (fun _ => True) (VIn W (fun _ => True) n) fa f := by
   rcases open_each Tryz.underlying23 cellsFld (by decide) t4 f4 with h0 | ⟨a, len, cap, m, rfl, hcs, ha, hl, hm, hbt, hall⟩
   ·injection h0 with h0
    exact ⟨none, 0, [], h0, Nat.le_refl _, by omega, by simp, .inl rfl⟩
   ·injection hcs with hcs
    rw [bytesFld] at hbt
    have each : ∀ i, i < len → ∃ (q : ByteArray × Val), W.cell? ⟨a.block, a.off + i * 7, none⟩ = some (.string q.1) ∧ q.1.size ≤ 140737488355328 ∧ ∃ v, SixAt W a.block (a.off + i * 7 + 1) v ∧ VIn W (fun _ => True) (m + 1) q.2 v := by
     intro i hi
     obtain ⟨cs', y, h1, h2, h3, h4⟩ := hall i hi
     obtain ⟨ys, m', rfl, rfl, hl7, hyl, hg⟩ := DataW.trod_struct Tryz.underlying40 h3
     obtain ⟨d0, d1, d2, d3, d4, d5, d6, rfl⟩ := seven_list h1
     have hyl2 : ys.length = 2 := hyl
     have g0 := hg 0 { name := "Name", type := 9, offset := 0, embedded := false, tag := "", pkgPath := "", byteOffset := 0 } rfl
     have g1 := hg 1 { name := "V", type := 26, offset := 1, embedded := false, tag := "", pkgPath := "", byteOffset := 16 } rfl
     rw [List.getElem?_eq_getElem (by omega)] at g0 g1
     simp only [cellsStr, cellsVal, List.drop, List.take] at g0 g1
     have e0 : Fit 9 ys[0].1 := fit_part Tryz.underlying40 h4 (j := 0) (f := { name := "Name", type := 9, offset := 0, embedded := false, tag := "", pkgPath := "", byteOffset := 0 }) rfl (by rw [List.getElem?_map, List.getElem?_eq_getElem (by omega)]; rfl)
     have e1 : Fit 26 ys[1].1 := fit_part Tryz.underlying40 h4 (j := 1) (f := { name := "V", type := 26, offset := 1, embedded := false, tag := "", pkgPath := "", byteOffset := 16 }) rfl (by rw [List.getElem?_map, List.getElem?_eq_getElem (by omega)]; rfl)
     obtain ⟨nm, hnm, hny, _⟩ := DataW.trod_string Tryz.underlying9 g0
     rw [hny] at e0
     injection hnm with hnm
     obtain ⟨X, q0, q1, q2, q3, q4, q5, hq, hV⟩ := ih m' (by omega) _ _ g1 e1
     injection hq with hq0 hq; injection hq with hq1 hq; injection hq with hq2 hq; injection hq with hq3 hq; injection hq with hq4 hq; injection hq with hq5 hq
     subst hq0 hq1 hq2 hq3 hq4 hq5 hnm
     refine ⟨(nm, X), h2 0 (by omega), fit_str e0, _, ⟨d1, d2, d3, d4, d5, d6, rfl, h2 1 (by omega), h2 2 (by omega), h2 3 (by omega), h2 4 (by omega), h2 5 (by omega), h2 6 (by omega)⟩, hV.up (by omega)⟩
    haveI : Inhabited (ByteArray × Val) := ⟨(⟨#[]⟩, Bson.zero)⟩
    obtain ⟨f, hfl, hff⟩ := row_of each
    refine ⟨some a, cap, f, by rw [hfl]; exact hcs, by omega, hm, by omega, ?_⟩
    by_cases h0 : len = 0
    ·exact .inl (List.eq_nil_of_length_eq_zero (by omega))
    ·exact .inr ⟨a.block, a.off, congrArg some (ha (by omega)), trivial, hff⟩
  have hL : ∃ (la : Option Addr) (lc : Nat) (l : List Val), c5 = .slice la l.length lc ∧ l.length ≤ lc ∧ lc ≤ 9223372036854775807 ∧ l.length ≤ 1353245080339 ∧ ItemsIn W (fun _ => True) (VIn W (fun _ => True) n) la l := by
   rcases open_each Tryz.underlying24 cellsVal (by decide) t5 f5 with h0 | ⟨a, len, cap, m, rfl, hcs, ha, hl, hm, hbt, hall⟩
   ·injection h0 with h0
    exact ⟨none, 0, [], h0, Nat.le_refl _, by omega, by simp, .inl rfl⟩
   ·injection hcs with hcs
    rw [bytesVal] at hbt
    have each : ∀ i, i < len → ∃ (q : Val), ∃ v, SixAt W a.block (a.off + i * 6) v ∧ VIn W (fun _ => True) (m + 1) q v := by
     intro i hi
     obtain ⟨cs', y, h1, h2, h3, h4⟩ := hall i hi
     obtain ⟨X, q0, q1, q2, q3, q4, q5, rfl, hV⟩ := ih m (by omega) _ _ h3 h4
     exact ⟨X, _, ⟨q0, q1, q2, q3, q4, q5, rfl, h2 0 (by omega), h2 1 (by omega), h2 2 (by omega), h2 3 (by omega), h2 4 (by omega), h2 5 (by omega)⟩, hV.up (by omega)⟩
    haveI : Inhabited Val := ⟨Bson.zero⟩
    obtain ⟨f, hfl, hff⟩ := row_of each
    refine ⟨some a, cap, f, by rw [hfl]; exact hcs, by omega, hm, by omega, ?_⟩
    by_cases h0 : len = 0
    ·exact .inl (List.eq_nil_of_length_eq_zero (by omega))
    ·exact .inr ⟨a.block, a.off, congrArg some (ha (by omega)), trivial, hff⟩
  obtain ⟨fa, fc, f, rfl, hfc, hfm, hfl, hFI⟩ := hF
  obtain ⟨la, lc, l, rfl, hlc, hlm, hll, hLI⟩ := hL
  exact ⟨.mk k nn s b f l, _, _, _, _, _, _, rfl, ba, fa, la, bc, fc, lc, rfl, ⟨hk0, hk1, hn0, hn1, hsl, hbl, hfl, hll, hbo⟩, ⟨hbc, hbm⟩, ⟨hfc, hfm⟩, ⟨hlc, hlm⟩, hB, hFI, hLI⟩
theorem open_values {base : Nat} {v : Value} {d : DataW H} {ps : List MemPlace} (hval : Value.okWide Tryz.prog W .any base 24 v) (hd : DataW.Trod enc Tryz.prog W 0 (fun _ => true) true 24 v d ps) (hx : Fit 24 d) :
  ∃ h a c l, v = .slice a l.length c ∧ l.length ≤ c ∧ c ≤ 9223372036854775807 ∧ l.length ≤ 1353245080339 ∧ ItemsIn W (fun g => g < W.heap.size) (VIn W (fun g => g < W.heap.size) h) a l := by
 obtain ⟨a0, len0, cap0, rfl⟩ := okWide_slice Tryz.underlying24 hval
 obtain ⟨fuel, hf⟩ := hd
 rcases open_each Tryz.underlying24 cellsVal (by decide) hf hx with h0 | ⟨a, len, cap, m, rfl, hcs, ha, hl, hm, hbt, hall⟩
 ·simp [Value.cells] at h0
  obtain ⟨rfl, rfl, rfl⟩ := h0
  exact ⟨0, none, 0, [], rfl, Nat.le_refl _, by omega, by simp, .inl rfl⟩
 ·simp [Value.cells] at hcs
  obtain ⟨rfl, rfl, rfl⟩ := hcs
  rw [bytesVal] at hbt
  have each : ∀ i, i < len0 → ∃ (q : Val), ∃ v, SixAt W a.block (a.off + i * 6) v ∧ VIn W (fun g => g < W.heap.size) m q v := by
   intro i hi
   obtain ⟨cs', y, h1, h2, h3, h4⟩ := hall i hi
   obtain ⟨X, q0, q1, q2, q3, q4, q5, rfl, hV⟩ := open_val m _ _ h3 h4
   exact ⟨X, _, ⟨q0, q1, q2, q3, q4, q5, rfl, h2 0 (by omega), h2 1 (by omega), h2 2 (by omega), h2 3 (by omega), h2 4 (by omega), h2 5 (by omega)⟩, hV.lt.kept (Kept.of_below (Below.refl _ _)) (fun g hg => hg.2)⟩
  haveI : Inhabited Val := ⟨Bson.zero⟩
  obtain ⟨f, hfl, hff⟩ := row_of each
  refine ⟨m, some a, cap0, f, by rw [hfl], by omega, hm, by omega, ?_⟩
  by_cases h0 : len0 = 0
  ·exact .inl (List.eq_nil_of_length_eq_zero (by omega))
  ·refine .inr ⟨a.block, a.off, congrArg some (ha (by omega)), ?_, hff⟩
   obtain ⟨v, hs, _⟩ := hff 0 (by omega)
   obtain ⟨_, _, _, _, _, _, _, hc, _⟩ := hs
   exact World.block_lt_of_cell? W ⟨a.block, a.off + 0 * 6, none⟩ hc
end
end Go.Proofs.YtiajjgehnmkokaaGreatDoor
end
section
namespace Go.Proofs.YtiajjgehnmkokaaGreatDoor
open Go.RowKit
open Seal
def IntPost (n : Int) (w : World) (e : Ending) (w' : World) : Prop := e = .returned (.int .i64 n) ∧ w = w'
theorem ret_i {a b : Int} (h : a = b) : Ending.returned (.int .i64 a) = .returned (.int .i64 b) := by rw [h]
theorem kinds (k : Int) (h0 : ¬ k < 0) (h1 : ¬ 12 < k) : k = 0 ∨ k = 1 ∨ k = 2 ∨ k = 3 ∨ k = 4 ∨ k = 5 ∨ k = 6 ∨ k = 7 ∨ k = 8 ∨ k = 9 ∨ k = 10 ∨ k = 11 ∨ k = 12 := by omega
theorem class_any (k : Int) (w : World) : Calls Tryz.prog 49 #[.int .i64 k] w (IntPost (Order.cls k) w) := by
 by_cases h : k < 0 ∨ 12 < k
 ·have HC := Lib.hid (show Order.cls k = -1 from if_pos h)
  have e0 : (k == 0) = false := by rw [beq_eq_false_iff_ne]; omega
  have e1 : (k == 1) = false := by rw [beq_eq_false_iff_ne]; omega
  have e2 : (k == 2) = false := by rw [beq_eq_false_iff_ne]; omega
  have e3 : (k == 3) = false := by rw [beq_eq_false_iff_ne]; omega
  have e4 : (k == 4) = false := by rw [beq_eq_false_iff_ne]; omega
  have e5 : (k == 5) = false := by rw [beq_eq_false_iff_ne]; omega
  have e6 : (k == 6) = false := by rw [beq_eq_false_iff_ne]; omega
  have e7 : (k == 7) = false := by rw [beq_eq_false_iff_ne]; omega
  have e8 : (k == 8) = false := by rw [beq_eq_false_iff_ne]; omega
  have e9 : (k == 9) = false := by rw [beq_eq_false_iff_ne]; omega
  have e10 : (k == 10) = false := by rw [beq_eq_false_iff_ne]; omega
  have e11 : (k == 11) = false := by rw [beq_eq_false_iff_ne]; omega
  have e12 : (k == 12) = false := by rw [beq_eq_false_iff_ne]; omega
  clear h
  go_enter Tryz.func49, Tryz.ntmps49
  go_wp2
  go_ret
  exact ⟨ret_i HC.out.symm, rfl⟩
 ·rcases kinds k (by omega) (by omega) with rfl | rfl | rfl | rfl | rfl | rfl | rfl | rfl | rfl | rfl | rfl | rfl | rfl
  all_goals
   clear h
   go_enter Tryz.func49, Tryz.ntmps49
   go_wp2
   go_ret
   exact ⟨rfl, rfl⟩
end Go.Proofs.YtiajjgehnmkokaaGreatDoor
end
section
namespace Go.Proofs.YtiajjgehnmkokaaGreatDoor
open Go.RowKit
open Seal
open Bson (Val)
abbrev puts (w : World) (G o : Nat) (vs : List Value) : World := w.setCells G o vs
theorem puts_other (G k : Nat) (h : k ≠ G) : ∀ (vs : List Value) (w : World) (o : Nat), (puts w G o vs).heap[k]? = w.heap[k]?
 | [], _, _ => rfl
 | v :: vs, w, o => (puts_other G k h vs _ (o + 1)).trans (Below.heap_setCell w ⟨G, o, none⟩ v k h)
theorem puts_size (G : Nat) : ∀ (vs : List Value) (w : World) (o : Nat), (puts w G o vs).heap.size = w.heap.size
 | [], _, _ => rfl
 | v :: vs, w, o => (puts_size G vs _ (o + 1)).trans (by simp)
theorem puts_same (G : Nat) (t : TypeId) : ∀ (vs : List Value) (w : World) (o : Nat) (cs : Array Value), w.heap[G]? = some (.cells cs t (0, 0)) →
  ∃ ds, (puts w G o vs).heap[G]? = some (.cells ds t (0, 0)) ∧ ds.size = cs.size ∧ (∀ j, j < o → ds[j]? = cs[j]?) ∧ (∀ j, o + vs.length ≤ j → ds[j]? = cs[j]?) ∧ (o + vs.length ≤ cs.size → ∀ j, j < vs.length → ds[o + j]? = vs[j]?)
 | [], w, o, cs, h => ⟨cs, h, rfl, fun _ _ => rfl, fun _ _ => rfl, fun _ j hj => by simp at hj⟩
 | v :: vs, w, o, cs, h => by
  have h1 := heap_setCell_same w G o cs t v h
  obtain ⟨ds, h2, h3, h4, h5, h6⟩ := puts_same G t vs _ (o + 1) _ h1
  refine ⟨ds, h2, by rw [h3]; simp, fun j hj => ?_, fun j hj => ?_, fun hl j hj => ?_⟩
  ·rw [h4 j (by omega), Array.getElem?_setIfInBounds_ne (by omega)]
  ·rw [List.length_cons] at hj
   rw [h5 j (by omega), Array.getElem?_setIfInBounds_ne (by omega)]
  ·rw [List.length_cons] at hl hj
   cases j with
   | zero =>
    rw [Nat.add_zero, h4 o (by omega), Array.getElem?_setIfInBounds_self_of_lt (by omega)]; rfl
   | succ j =>
    have := h6 (by simp; omega) j (by omega)
    rw [show o + (j + 1) = o + 1 + j by omega, this]; rfl
theorem puts_below {w wr : World} {B G : Nat} (h : Below B w wr) (hG : B ≤ G) : ∀ (vs : List Value) (o : Nat), Below B w (puts wr G o vs)
 | [], _ => h
 | v :: vs, o => by
  have h1 : Below B w (wr.setCell ⟨G, o, none⟩ v) := ⟨h.os, h.tape, h.output, by simpa using h.size, fun k hk => (Below.heap_setCell wr ⟨G, o, none⟩ v k (by show k ≠ G; omega)).trans (h.block k hk)⟩
  exact puts_below h1 hG vs (o + 1)
theorem puts_kept (Q : Nat → Prop) {w : World} {G : Nat} (hQ : ¬ Q G) (o : Nat) (vs : List Value) : Kept Q w (puts w G o vs) :=
 fun g hg _ => puts_other G g (fun e => hQ (e ▸ hg)) vs w o
def Row6 (w : World) (G : Nat) (t : TypeId) (len : Nat) : Prop := ∃ cs, w.heap[G]? = some (.cells cs t (0, 0)) ∧ cs.size = len
theorem Row6.lt {w : World} {G : Nat} {t : TypeId} {len : Nat} (h : Row6 w G t len) : G < w.heap.size := by
 obtain ⟨cs, h, _⟩ := h
 exact (Array.getElem?_eq_some_iff.1 h).1
theorem Row6.at {w : World} {G : Nat} {t : TypeId} {len : Nat} (h : Row6 w G t len) {j : Nat} (hj : j < len) : (∃ v, w.cell? ⟨G, j, none⟩ = some v) ∧ w.frozen? ⟨G, j, none⟩ = false := by
 obtain ⟨cs, h, hl⟩ := h
 exact ⟨⟨cs[j]'(by omega), (cell_of_row w G j cs t _ h).trans (Array.getElem?_eq_getElem (by omega))⟩, frozen_of_row w G j _ _ h⟩
theorem Row6.puts {w : World} {G : Nat} {t : TypeId} {len : Nat} (h : Row6 w G t len) (o : Nat) (vs : List Value) (ho : o + vs.length ≤ len) :
  Row6 (puts w G o vs) G t len ∧ (∀ j, j < o ∨ o + vs.length ≤ j → (Go.Proofs.YtiajjgehnmkokaaGreatDoor.puts w G o vs).cell? ⟨G, j, none⟩ = w.cell? ⟨G, j, none⟩) ∧ ∀ j, j < vs.length → (Go.Proofs.YtiajjgehnmkokaaGreatDoor.puts w G o vs).cell? ⟨G, o + j, none⟩ = vs[j]? := by
 obtain ⟨cs, h, hl⟩ := h
 obtain ⟨ds, h2, h3, h4, h5, h6⟩ := puts_same G t vs w o cs h
 refine ⟨⟨ds, h2, by omega⟩, fun j hj => ?_, fun j hj => ?_⟩
 ·rw [cell_of_row _ G j _ _ _ h2, cell_of_row _ G j _ _ _ h]
  rcases hj with hj | hj
  ·exact h4 j hj
  ·exact h5 j hj
 ·rw [cell_of_row _ G _ _ _ _ h2, h6 (by omega) j hj]
theorem Row6.keep {w w' : World} {G : Nat} {t : TypeId} {len : Nat} (h : Row6 w G t len) (hb : Below w.heap.size w w') : Row6 w' G t len := by
 have hlt := h.lt
 obtain ⟨cs, h, hl⟩ := h
 exact ⟨cs, (hb.block G hlt).trans h, hl⟩
theorem SixAt.of_puts {w : World} {G : Nat} {t : TypeId} {len : Nat} (h : Row6 w G t len) (o p : Nat) (vs : List Value) (ho : o + vs.length ≤ len) (c0 c1 c2 c3 c4 c5 : Value)
  (h0 : vs[p]? = some c0) (h1 : vs[p + 1]? = some c1) (h2 : vs[p + 2]? = some c2) (h3 : vs[p + 3]? = some c3) (h4 : vs[p + 4]? = some c4) (h5 : vs[p + 5]? = some c5) : SixAt (puts w G o vs) G (o + p) (.agg #[c0, c1, c2, c3, c4, c5]) := by
 obtain ⟨_, _, h7⟩ := h.puts o vs ho
 have hl : p + 5 < vs.length := (List.getElem?_eq_some_iff.1 h5).1
 exact ⟨c0, c1, c2, c3, c4, c5, rfl, (h7 p (by omega)).trans h0, (h7 (p + 1) (by omega)).trans h1, (h7 (p + 2) (by omega)).trans h2, (h7 (p + 3) (by omega)).trans h3, (h7 (p + 4) (by omega)).trans h4, (h7 (p + 5) (by omega)).trans h5⟩
theorem SixAt.puts_before {w : World} {G : Nat} {t : TypeId} {len : Nat} (h : Row6 w G t len) {q : Nat} {v : Value} (hs : SixAt w G q v) (o : Nat) (vs : List Value) (ho : o + vs.length ≤ len) (hq : q + 6 ≤ o) : SixAt (puts w G o vs) G q v := by
 obtain ⟨c0, c1, c2, c3, c4, c5, e, h0, h1, h2, h3, h4, h5⟩ := hs
 obtain ⟨_, h6, _⟩ := h.puts o vs ho
 exact ⟨c0, c1, c2, c3, c4, c5, e, (h6 q (by omega)).trans h0, (h6 (q + 1) (by omega)).trans h1, (h6 (q + 2) (by omega)).trans h2, (h6 (q + 3) (by omega)).trans h3, (h6 (q + 4) (by omega)).trans h4, (h6 (q + 5) (by omega)).trans h5⟩
theorem VIn.shape {w : World} {Q : Nat → Prop} {h : Nat} {x : Val} {v : Value} (hv : VIn w Q h x v) : ∃ (k n : Int) (s : ByteArray) (ba fa la : Option Addr) (bl bc fl fc ll lc : Nat), v = .agg #[.int .i64 k, .int .i64 n, .string s, .slice ba bl bc, .slice fa fl fc, .slice la ll lc] := by
 cases h with
 | zero => exact hv.elim
 | succ h =>
  obtain ⟨ba, fa, la, bc, fc, lc, rfl, _⟩ := hv
  exact ⟨_, _, _, _, _, _, _, _, _, _, _, _, rfl⟩
theorem Row6.there {w : World} {G : Nat} {t : TypeId} {len : Nat} (h : Row6 w G t len) (o n : Nat) (hl : o + n ≤ len) : w.there G o n := fun j hj => by
 obtain ⟨⟨v, h1⟩, h2⟩ := h.at (j := o + j) (by omega)
 exact ⟨by rw [h1]; rfl, h2⟩
theorem SixAt.range {w : World} {g p : Nat} {c0 c1 c2 c3 c4 c5 : Value} (h : SixAt w g p (.agg #[c0, c1, c2, c3, c4, c5])) : w.rangeAt g p [c0, c1, c2, c3, c4, c5] := by
 obtain ⟨d0, d1, d2, d3, d4, d5, e, h0, h1, h2, h3, h4, h5⟩ := h
 injection e with e
 injection e with e
 injection e with e0 e; injection e with e1 e; injection e with e2 e; injection e with e3 e; injection e with e4 e; injection e with e5 e
 subst e0 e1 e2 e3 e4 e5
 intro j v hv
 match j with
 | 0 => obtain rfl := Option.some.inj hv; exact h0
 | 1 => obtain rfl := Option.some.inj hv; exact h1
 | 2 => obtain rfl := Option.some.inj hv; exact h2
 | 3 => obtain rfl := Option.some.inj hv; exact h3
 | 4 => obtain rfl := Option.some.inj hv; exact h4
 | 5 => obtain rfl := Option.some.inj hv; exact h5
 | j + 6 => simp at hv
theorem SixAt.cells {w : World} {g p : Nat} {c0 c1 c2 c3 c4 c5 : Value} (h : SixAt w g p (.agg #[c0, c1, c2, c3, c4, c5])) : w.cell? ⟨g, p, none⟩ = some c0 ∧ w.cell? ⟨g, p + 1, none⟩ = some c1 ∧ w.cell? ⟨g, p + 2, none⟩ = some c2 ∧ w.cell? ⟨g, p + 3, none⟩ = some c3 ∧ w.cell? ⟨g, p + 4, none⟩ = some c4 ∧ w.cell? ⟨g, p + 5, none⟩ = some c5 :=
 ⟨h.range 0 _ rfl, h.range 1 _ rfl, h.range 2 _ rfl, h.range 3 _ rfl, h.range 4 _ rfl, h.range 5 _ rfl⟩
def Vals (w : World) (G h : Nat) (l : List Val) (k : Nat) : Prop := ∀ i (hi : i < l.length), i < k → ∃ v, SixAt w G (i * 6) v ∧ VIn w (fun g => G < g) h l[i] v
theorem Vals.none (w : World) (G h : Nat) (l : List Val) : Vals w G h l 0 := fun _ _ hi => absurd hi (Nat.not_lt_zero _)
theorem Vals.keep {w w' : World} {G h : Nat} {l : List Val} {k : Nat} (hv : Vals w G h l k) (hb : Below w.heap.size w w') : Vals w' G h l k := fun i hi hk => by
 obtain ⟨v, h1, h2⟩ := hv i hi hk
 exact ⟨v, h1.keep hb, h2.keep hb⟩
theorem Vals.put {w : World} {G h : Nat} {t : TypeId} {len : Nat} {l : List Val} {k : Nat} (hv : Vals w G h l k) (hr : Row6 w G t len) (hk : k < l.length) (hlen : l.length * 6 = len) {c0 c1 c2 c3 c4 c5 : Value} (hn : VIn w (fun g => G < g) h l[k] (.agg #[c0, c1, c2, c3, c4, c5])) :
  Vals (puts w G (k * 6) [c0, c1, c2, c3, c4, c5]) G h l (k + 1) := by
 intro i hi hik
 have hkp : Kept (fun g => G < g) w (puts w G (k * 6) [c0, c1, c2, c3, c4, c5]) := puts_kept _ (Nat.lt_irrefl G) _ _
 have hfit : k * 6 + [c0, c1, c2, c3, c4, c5].length ≤ len := by simp; omega
 rcases Nat.lt_or_ge i k with hlt | hge
 ·obtain ⟨v, h1, h2⟩ := hv i hi hlt
  exact ⟨v, h1.puts_before hr _ _ hfit (by omega), h2.kept hkp (fun _ h => h)⟩
 ·obtain rfl : i = k := by omega
  exact ⟨_, SixAt.of_puts hr _ 0 _ hfit _ _ _ _ _ _ rfl rfl rfl rfl rfl rfl, hn.kept hkp (fun _ h => h)⟩
def Flds (w : World) (G h : Nat) (f : List (ByteArray × Val)) (k : Nat) : Prop := ∀ i (hi : i < f.length), i < k → w.cell? ⟨G, i * 7, none⟩ = some (.string f[i].1) ∧ ∃ v, SixAt w G (i * 7 + 1) v ∧ VIn w (fun g => G < g) h f[i].2 v
theorem Flds.none (w : World) (G h : Nat) (l : List (ByteArray × Val)) : Flds w G h l 0 := fun _ _ hi => absurd hi (Nat.not_lt_zero _)
theorem Flds.keep {w w' : World} {G h : Nat} {f : List (ByteArray × Val)} {k : Nat} (hv : Flds w G h f k) (hb : Below w.heap.size w w') : Flds w' G h f k := fun i hi hk => by
 obtain ⟨h0, v, h1, h2⟩ := hv i hi hk
 exact ⟨cell_keep hb h0, v, h1.keep hb, h2.keep hb⟩
theorem Flds.put {w : World} {G h : Nat} {t : TypeId} {len : Nat} {f : List (ByteArray × Val)} {k : Nat} (hv : Flds w G h f k) (hr : Row6 w G t len) (hk : k < f.length) (hlen : f.length * 7 = len) {c0 c1 c2 c3 c4 c5 : Value} (hn : VIn w (fun g => G < g) h f[k].2 (.agg #[c0, c1, c2, c3, c4, c5])) :
  Flds (puts w G (k * 7) [.string f[k].1, c0, c1, c2, c3, c4, c5]) G h f (k + 1) := by
 intro i hi hik
 have hkp : Kept (fun g => G < g) w (puts w G (k * 7) [.string f[k].1, c0, c1, c2, c3, c4, c5]) := puts_kept _ (Nat.lt_irrefl G) _ _
 have hfit : k * 7 + [Value.string f[k].1, c0, c1, c2, c3, c4, c5].length ≤ len := by simp; omega
 obtain ⟨_, hb4, hat⟩ := hr.puts (k * 7) [.string f[k].1, c0, c1, c2, c3, c4, c5] hfit
 rcases Nat.lt_or_ge i k with hlt | hge
 ·obtain ⟨h0, v, h1, h2⟩ := hv i hi hlt
  exact ⟨(hb4 _ (.inl (by omega))).trans h0, v, h1.puts_before hr _ _ hfit (by omega), h2.kept hkp (fun _ h => h)⟩
 ·obtain rfl : i = k := by omega
  exact ⟨hat 0 (by simp), _, SixAt.of_puts hr _ 1 _ hfit _ _ _ _ _ _ rfl rfl rfl rfl rfl rfl, hn.kept hkp (fun _ h => h)⟩
end Go.Proofs.YtiajjgehnmkokaaGreatDoor
end
section
namespace Go.Proofs.YtiajjgehnmkokaaGreatDoor
open Go.RowKit
open Seal
def SixIs (W : World) (n : Nat) (c0 c1 c2 c3 c4 c5 : Value) : Prop := W.cell? ⟨n, 0, none⟩ = some c0 ∧ W.cell? ⟨n, 1, none⟩ = some c1 ∧ W.cell? ⟨n, 2, none⟩ = some c2 ∧ W.cell? ⟨n, 3, none⟩ = some c3 ∧ W.cell? ⟨n, 4, none⟩ = some c4 ∧ W.cell? ⟨n, 5, none⟩ = some c5
theorem SixIs.keep {W W' : World} {n : Nat} {c0 c1 c2 c3 c4 c5 : Value} (h : SixIs W n c0 c1 c2 c3 c4 c5) (hb : Below W.heap.size W W') : SixIs W' n c0 c1 c2 c3 c4 c5 := by
 obtain ⟨h0, h1, h2, h3, h4, h5⟩ := h
 exact ⟨cell_keep hb h0, cell_keep hb h1, cell_keep hb h2, cell_keep hb h3, cell_keep hb h4, cell_keep hb h5⟩
theorem SixIs.new (w : World) (c0 c1 c2 c3 c4 c5 : Value) (t : TypeId) : SixIs (w.alloc (.cells #[c0, c1, c2, c3, c4, c5] t)) w.heap.size c0 c1 c2 c3 c4 c5 := by
 have e := heap_alloc_new w (.cells #[c0, c1, c2, c3, c4, c5] t)
 exact ⟨(cell_of_row _ _ 0 _ _ _ e).trans rfl, (cell_of_row _ _ 1 _ _ _ e).trans rfl, (cell_of_row _ _ 2 _ _ _ e).trans rfl, (cell_of_row _ _ 3 _ _ _ e).trans rfl, (cell_of_row _ _ 4 _ _ _ e).trans rfl, (cell_of_row _ _ 5 _ _ _ e).trans rfl⟩
end Go.Proofs.YtiajjgehnmkokaaGreatDoor
end
section
namespace Go.Proofs.YtiajjgehnmkokaaGreatDoor
open Go.RowKit
open Seal
open Bson (Val)
theorem VIn.byt {w : World} {Q : Nat → Prop} {h : Nat} {x : Val} {k n : Int} {s : ByteArray} {ba fa la : Option Addr} {bn bc fn fc ln lc : Nat} (hv : VIn w Q (h + 1) x (.agg #[.int .i64 k, .int .i64 n, .string s, .slice ba bn bc, .slice fa fn fc, .slice la ln lc])) : Oct x.b ∧ SliceIs w ba x.b := by
 obtain ⟨ba', fa', la', bc', fc', lc', e, hL, _, _, _, hB, _⟩ := hv
 unfold agg at e
 injection e with e; injection e with e; injection e with _ e; injection e with _ e; injection e with _ e; injection e with e3 _
 injection e3 with e3 _ _
 subst e3
 refine ⟨hL.o, ?_⟩
 rcases hB with h | ⟨g, o, e, _, h⟩
 ·exact .inl h
 ·exact .inr ⟨g, o, e, h⟩
end Go.Proofs.YtiajjgehnmkokaaGreatDoor
end
section
namespace Go.Proofs.YtiajjgehnmkokaaGreatDoor
open Go.RowKit
open Seal
open Bson (Val)
def Boxed2 (w : World) (ca cb : Array Value) (t : TypeId) (wr : World) : Prop := Below (w.heap.size + 2) ((w.alloc (.cells ca t)).alloc (.cells cb t)) wr
section
variable {w wr w' : World} {ca cb : Array Value} {t : TypeId}
theorem Boxed2.refl (w : World) (ca cb : Array Value) (t : TypeId) : Boxed2 w ca cb t ((w.alloc (.cells ca t)).alloc (.cells cb t)) := Below.refl _ _
theorem Boxed2.one (h : Boxed2 w ca cb t wr) (j : Nat) : wr.cell? ⟨w.heap.size, j, none⟩ = ca[j]? := by
 refine (Below.cell h (p := ⟨w.heap.size, j, none⟩) (by show w.heap.size < _; omega)).trans ?_
 refine (cell_of_row _ _ j ca t (0, 0) ?_)
 rw [Below.heap_alloc _ _ _ (by simp)]
 exact heap_alloc_new w _
theorem Boxed2.two (h : Boxed2 w ca cb t wr) (j : Nat) : wr.cell? ⟨w.heap.size + 1, j, none⟩ = cb[j]? := by
 refine (Below.cell h (p := ⟨w.heap.size + 1, j, none⟩) (by show w.heap.size + 1 < _; omega)).trans ?_
 refine (cell_of_row _ _ j cb t (0, 0) ?_)
 have := heap_alloc_new (w.alloc (.cells ca t)) (.cells cb t)
 simpa using this
theorem Boxed2.size (h : Boxed2 w ca cb t wr) : w.heap.size + 2 ≤ wr.heap.size := by have := Below.size h; simpa using this
theorem Boxed2.below (h : Boxed2 w ca cb t wr) : Below w.heap.size w wr := (((Below.refl _ w).alloc (Nat.le_refl _) _).alloc (by simp) _).trans (Below.mono h (by simp))
theorem Boxed2.step (h : Boxed2 w ca cb t wr) (hb : Below wr.heap.size wr w') : Boxed2 w ca cb t w' := Below.trans h (hb.mono h.size)
end
end Go.Proofs.YtiajjgehnmkokaaGreatDoor
end
section
namespace Go.Proofs.YtiajjgehnmkokaaGreatDoor
open Go.RowKit
open Seal
open Bson (Val)
def IsBox (W : World) (n : Nat) (c0 c1 c2 c3 c4 c5 : Value) : Prop := W.heap[n]? = some (.cells #[c0, c1, c2, c3, c4, c5] 26 (0, 0))
section
variable {W W' : World} {n : Nat} {c0 c1 c2 c3 c4 c5 : Value}
theorem IsBox.lt (h : IsBox W n c0 c1 c2 c3 c4 c5) : n < W.heap.size := (Array.getElem?_eq_some_iff.1 h).1
theorem IsBox.cells (h : IsBox W n c0 c1 c2 c3 c4 c5) : W.cell? ⟨n, 0, none⟩ = some c0 ∧ W.cell? ⟨n, 1, none⟩ = some c1 ∧ W.cell? ⟨n, 2, none⟩ = some c2 ∧ W.cell? ⟨n, 3, none⟩ = some c3 ∧ W.cell? ⟨n, 4, none⟩ = some c4 ∧ W.cell? ⟨n, 5, none⟩ = some c5 :=
 ⟨(cell_of_row W _ 0 _ _ _ h).trans rfl, (cell_of_row W _ 1 _ _ _ h).trans rfl, (cell_of_row W _ 2 _ _ _ h).trans rfl, (cell_of_row W _ 3 _ _ _ h).trans rfl, (cell_of_row W _ 4 _ _ _ h).trans rfl, (cell_of_row W _ 5 _ _ _ h).trans rfl⟩
theorem IsBox.thaw (h : IsBox W n c0 c1 c2 c3 c4 c5) : W.frozen? ⟨n, 0, none⟩ = false ∧ W.frozen? ⟨n, 1, none⟩ = false ∧ W.frozen? ⟨n, 2, none⟩ = false ∧ W.frozen? ⟨n, 3, none⟩ = false ∧ W.frozen? ⟨n, 4, none⟩ = false ∧ W.frozen? ⟨n, 5, none⟩ = false :=
 ⟨frozen_of_row W _ 0 _ _ h, frozen_of_row W _ 1 _ _ h, frozen_of_row W _ 2 _ _ h, frozen_of_row W _ 3 _ _ h, frozen_of_row W _ 4 _ _ h, frozen_of_row W _ 5 _ _ h⟩
theorem IsBox.keep (h : IsBox W n c0 c1 c2 c3 c4 c5) (hb : Below W.heap.size W W') : IsBox W' n c0 c1 c2 c3 c4 c5 := (hb.block _ h.lt).trans h
theorem IsBox.new (w : World) (c0 c1 c2 c3 c4 c5 : Value) : IsBox (w.alloc (.cells #[c0, c1, c2, c3, c4, c5] 26)) w.heap.size c0 c1 c2 c3 c4 c5 := heap_alloc_new w _
theorem IsBox.new2 (w : World) (o : Obj) (c0 c1 c2 c3 c4 c5 : Value) : IsBox ((w.alloc o).alloc (.cells #[c0, c1, c2, c3, c4, c5] 26)) (w.heap.size + 1) c0 c1 c2 c3 c4 c5 := by
 have := IsBox.new (w.alloc o) c0 c1 c2 c3 c4 c5
 simpa using this
theorem IsBox.other (h : IsBox W n c0 c1 c2 c3 c4 c5) {m : Nat} (hm : n ≠ m) (o : Nat) (vs : List Value) : IsBox (puts W m o vs) n c0 c1 c2 c3 c4 c5 := (puts_other m n hm vs W o).trans h
theorem IsBox.put (h : IsBox W n c0 c1 c2 c3 c4 c5) (d0 d1 d2 d3 d4 d5 : Value) : IsBox (puts W n 0 [d0, d1, d2, d3, d4, d5]) n d0 d1 d2 d3 d4 d5 := by
 obtain ⟨ds, h1, h2, _, _, h3⟩ := puts_same n 26 [d0, d1, d2, d3, d4, d5] W 0 _ h
 have e : ds = #[d0, d1, d2, d3, d4, d5] := by
  apply Array.ext_getElem?
  intro j
  by_cases hj : j < 6
  ·have := h3 (by simp) j (by simpa using hj)
   rw [Nat.zero_add] at this
   rw [this]
   match j, hj with | 0, _ => rfl | 1, _ => rfl | 2, _ => rfl | 3, _ => rfl | 4, _ => rfl | 5, _ => rfl
  ·rw [Array.getElem?_eq_none (by rw [h2]; simp; omega), Array.getElem?_eq_none (by simp; omega)]
 unfold IsBox
 rw [h1, e]
end
end Go.Proofs.YtiajjgehnmkokaaGreatDoor
end
section
namespace Go.Proofs.YtiajjgehnmkokaaGreatDoor
open Go.RowKit
open Seal
namespace Num
def sumR (a b : Int) : Int × Int := if In (a + b) then (a + b, 0) else (0, 10)
def difR (a b : Int) : Int × Int := if In (a - b) then (a - b, 0) else (0, 10)
def mulR (a b : Int) : Int × Int := if In (a * b) then (a * b, 0) else (0, 10)
def quoR (a b : Int) : Int × Int := if b = 0 then (0, 11) else if In (a.tdiv b) then (a.tdiv b, 0) else (0, 10)
def remR (a b : Int) : Int × Int := if b = 0 then (0, 11) else (a.tmod b, 0)
def absR (a : Int) : Int × Int := if a < 0 then difR 0 a else (a, 0)
def ofK (n : Int) : Int := if -2147483648 ≤ n ∧ n < 2147483648 then 3 else 4
end Num
open Num
def PairIs (r : Int × Int) (w : World) (e : Ending) (w' : World) : Prop := e = .returned (.tuple #[.int .i64 r.1, .int .i64 r.2]) ∧ w = w'
def BoolIs (b : Bool) (w : World) (e : Ending) (w' : World) : Prop := e = .returned (.bool b) ∧ w = w'
def BoolBe (b : Bool) (w : World) (e : Ending) (w' : World) : Prop := e = .returned (.bool b) ∧ Below w.heap.size w w'
theorem pair_is {r : Int × Int} {n m : Int} {w : World} (h : r = (n, m)) : PairIs r w (.returned (.tuple #[.int .i64 n, .int .i64 m])) w := by subst h; exact ⟨rfl, rfl⟩
theorem watched_yes (n : Int) (w : World) : Calls Tryz.prog 154 #[.int .i64 n, .bool true] w (PairIs (n, 0) w) := by
 go_enter Tryz.func154, Tryz.ntmps154
 go_wp2
 go_ret2
 exact ⟨rfl, rfl⟩
theorem watched_no (n : Int) (w : World) : Calls Tryz.prog 154 #[.int .i64 n, .bool false] w (PairIs (0, 10) w) := by
 go_enter Tryz.func154, Tryz.ntmps154
 go_wp2
 go_ret2
 exact ⟨rfl, rfl⟩
theorem sum_any (a b : Int) (w : World) (ha : In a) (hb : In b) : Calls Tryz.prog 142 #[.int .i64 a, .int .i64 b] w (PairIs (sumR a b) w) := by
 have hs := sum_sign ha hb
 by_cases h : In (a + b)
 ·have hR := Lib.hid (show sumR a b = (a + b, 0) from if_pos h)
  have hd : decide (bits .and .i64 (bits .xor .i64 a (wrap64 (a + b))) (bits .xor .i64 b (wrap64 (a + b))) ≥ 0) = true := decide_eq_true (hs.2 h)
  rw [IntWalk.wrap64_in _ h] at hd
  have hw : IntKind.i64.wrap (a + b) = a + b := IntWalk.i64_in _ h
  clear hs ha hb h
  go_enter Tryz.func142, Tryz.ntmps142
  go_wp2_with (go_at_call 154; refine (watched_yes _ _).mono ?_; rintro e w' ⟨rfl, rfl⟩)
  go_ret2
  exact pair_is hR.out
 ·have hR := Lib.hid (show sumR a b = (0, 10) from if_neg h)
  have hd : decide (bits .and .i64 (bits .xor .i64 a (wrap64 (a + b))) (bits .xor .i64 b (wrap64 (a + b))) ≥ 0) = false := decide_eq_false (fun x => h (hs.1 x))
  clear hs ha hb h
  go_enter Tryz.func142, Tryz.ntmps142
  go_wp2_with (go_at_call 154; refine (watched_no _ _).mono ?_; rintro e w' ⟨rfl, rfl⟩)
  go_ret2
  exact pair_is hR.out
theorem dif_any (a b : Int) (w : World) (ha : In a) (hb : In b) : Calls Tryz.prog 144 #[.int .i64 a, .int .i64 b] w (PairIs (difR a b) w) := by
 have hs := dif_sign ha hb
 by_cases h : In (a - b)
 ·have hR := Lib.hid (show difR a b = (a - b, 0) from if_pos h)
  have hd : decide (bits .and .i64 (bits .xor .i64 a b) (bits .xor .i64 a (wrap64 (a - b))) ≥ 0) = true := decide_eq_true (hs.2 h)
  rw [IntWalk.wrap64_in _ h] at hd
  have hw : IntKind.i64.wrap (a - b) = a - b := IntWalk.i64_in _ h
  clear hs ha hb h
  go_enter Tryz.func144, Tryz.ntmps144
  go_wp2_with (go_at_call 154; refine (watched_yes _ _).mono ?_; rintro e w' ⟨rfl, rfl⟩)
  go_ret2
  exact pair_is hR.out
 ·have hR := Lib.hid (show difR a b = (0, 10) from if_neg h)
  have hd : decide (bits .and .i64 (bits .xor .i64 a b) (bits .xor .i64 a (wrap64 (a - b))) ≥ 0) = false := decide_eq_false (fun x => h (hs.1 x))
  clear hs ha hb h
  go_enter Tryz.func144, Tryz.ntmps144
  go_wp2_with (go_at_call 154; refine (watched_no _ _).mono ?_; rintro e w' ⟨rfl, rfl⟩)
  go_ret2
  exact pair_is hR.out
theorem turns_yes (w : World) : Calls Tryz.prog 155 #[.int .i64 (-9223372036854775808), .int .i64 (-1)] w (BoolIs true w) := by
 go_enter Tryz.func155, Tryz.ntmps155
 go_wp2
 go_ret
 exact ⟨rfl, rfl⟩
theorem turns_no (a b : Int) (w : World) (h : ¬ (a = -9223372036854775808 ∧ b = -1)) : Calls Tryz.prog 155 #[.int .i64 a, .int .i64 b] w (BoolIs false w) := by
 by_cases ha : a = -9223372036854775808
 ·subst ha
  have hb : ((b : Int) == -1) = false := by rw [beq_eq_false_iff_ne]; exact fun e => h ⟨rfl, e⟩
  clear h
  go_enter Tryz.func155, Tryz.ntmps155
  go_wp2
  go_ret
  exact ⟨rfl, rfl⟩
 ·have hb : ((a : Int) == -9223372036854775808) = false := by rw [beq_eq_false_iff_ne]; exact ha
  clear h ha
  go_enter Tryz.func155, Tryz.ntmps155
  go_wp2
  go_ret
  exact ⟨rfl, rfl⟩
theorem mul_nought (b : Int) (w : World) : Calls Tryz.prog 143 #[.int .i64 0, .int .i64 b] w (PairIs (mulR 0 b) w) := by
 have hR := Lib.hid (show mulR 0 b = (0 * b, 0) from if_pos (by rw [Int.zero_mul]; decide))
 go_enter Tryz.func143, Tryz.ntmps143
 go_wp2_with (go_at_call 154; refine (watched_yes _ _).mono ?_; rintro e w' ⟨rfl, rfl⟩)
 go_ret2
 exact pair_is (by rw [hR.out]; simp)
theorem mul_fits (a b : Int) (w : World) (ha : In a) (hb : In b) (h0 : a ≠ 0) (h : In (a * b)) : Calls Tryz.prog 143 #[.int .i64 a, .int .i64 b] w (PairIs (mulR a b) w) := by
 have hs := mul_asked ha hb h0
 have e0 : ((a : Int) == 0) = false := by rw [beq_eq_false_iff_ne]; exact h0
 have hR := Lib.hid (show mulR a b = (wrap64 (a * b), 0) by rw [IntWalk.wrap64_in _ h]; exact if_pos h)
 obtain ⟨h1, h2⟩ := hs.2 h
 have hT := Lib.hid (turns_no b a w h2)
 have hq : ((wrap64 ((wrap64 (a * b)).tdiv a) : Int) == b) = true := by rw [h1]; exact beq_self_eq_true b
 clear hs ha hb h h1 h2
 go_enter Tryz.func143, Tryz.ntmps143
 go_wp2_with fail
 go_at_call 155
 refine hT.out.mono ?_
 rintro e w' ⟨rfl, rfl⟩
 go_wp2_with fail
 go_at_call 154
 refine (watched_yes _ _).mono ?_
 rintro e w' ⟨rfl, rfl⟩
 go_wp2_with fail
 go_ret2
 exact pair_is hR.out
theorem mul_least (a b : Int) (w : World) (hb : b = -9223372036854775808) (ha : a = -1) : Calls Tryz.prog 143 #[.int .i64 a, .int .i64 b] w (PairIs (mulR a b) w) := by
 have hR := Lib.hid (show mulR a b = (0, 10) by subst ha hb; decide)
 have h0 : a ≠ 0 := by omega
 have e0 : ((a : Int) == 0) = false := by rw [beq_eq_false_iff_ne]; exact h0
 have hq : ((wrap64 ((wrap64 (a * b)).tdiv a) : Int) == b) = true := by subst ha hb; rw [beq_iff_eq]; simp [wrap64]
 have hT := Lib.hid (show Calls Tryz.prog 155 #[.int .i64 b, .int .i64 a] w (BoolIs true w) by subst ha hb; exact turns_yes w)
 clear ha hb
 go_enter Tryz.func143, Tryz.ntmps143
 go_wp2_with fail
 go_at_call 155
 refine hT.out.mono ?_
 rintro e w' ⟨rfl, rfl⟩
 go_wp2_with fail
 go_at_call 154
 refine (watched_no _ _).mono ?_
 rintro e w' ⟨rfl, rfl⟩
 go_wp2_with fail
 go_ret2
 exact pair_is hR.out
theorem mul_not (a b : Int) (w : World) (h0 : a ≠ 0) (h : ¬ In (a * b)) (h1 : wrap64 ((wrap64 (a * b)).tdiv a) ≠ b) : Calls Tryz.prog 143 #[.int .i64 a, .int .i64 b] w (PairIs (mulR a b) w) := by
 have e0 : ((a : Int) == 0) = false := by rw [beq_eq_false_iff_ne]; exact h0
 have hR := Lib.hid (show mulR a b = (0, 10) from if_neg h)
 have hq : ((wrap64 ((wrap64 (a * b)).tdiv a) : Int) == b) = false := by rw [beq_eq_false_iff_ne]; exact h1
 clear h h1
 go_enter Tryz.func143, Tryz.ntmps143
 go_wp2_with fail
 go_at_call 154
 refine (watched_no _ _).mono ?_
 rintro e w' ⟨rfl, rfl⟩
 go_wp2_with fail
 go_ret2
 exact pair_is hR.out
theorem mul_any (a b : Int) (w : World) (ha : In a) (hb : In b) : Calls Tryz.prog 143 #[.int .i64 a, .int .i64 b] w (PairIs (mulR a b) w) := by
 by_cases h0 : a = 0
 ·subst h0; exact mul_nought b w
 by_cases h : In (a * b)
 ·exact mul_fits a b w ha hb h0 h
 by_cases h1 : wrap64 ((wrap64 (a * b)).tdiv a) = b
 ·by_cases h2 : b = -9223372036854775808 ∧ a = -1
  ·exact mul_least a b w h2.1 h2.2
  ·exact absurd ((mul_asked ha hb h0).1 ⟨h1, h2⟩) h
 ·exact mul_not a b w h0 h h1
theorem quo_nought (a : Int) (w : World) : Calls Tryz.prog 145 #[.int .i64 a, .int .i64 0] w (PairIs (quoR a 0) w) := by
 have hR := Lib.hid (show quoR a 0 = (0, 11) from if_pos rfl)
 go_enter Tryz.func145, Tryz.ntmps145
 go_wp2
 go_ret2
 exact pair_is hR.out
theorem watched_q (n : Int) (w : World) : Calls Tryz.prog 154 #[.int .i64 n, .bool true] w fun e w' => e = .returned (.tuple #[.int .i64 n, .int .i64 0]) ∧ w' = w := (watched_yes n w).mono fun _ _ ⟨h1, h2⟩ => ⟨h1, h2.symm⟩
theorem watched_qn (n : Int) (w : World) : Calls Tryz.prog 154 #[.int .i64 n, .bool false] w fun e w' => e = .returned (.tuple #[.int .i64 0, .int .i64 10]) ∧ w' = w := (watched_no n w).mono fun _ _ ⟨h1, h2⟩ => ⟨h1, h2.symm⟩
def PairDr (r : Int × Int) (w : World) (e : Ending) (w' : World) : Prop := e = .returned (.tuple #[.int .i64 r.1, .int .i64 r.2]) ∧ ∃ n, w' = w.drewN n
theorem pair_dr {r : Int × Int} {n m : Int} {w : World} {q : Nat} (h : r = (n, m)) : PairDr r w (.returned (.tuple #[.int .i64 n, .int .i64 m])) (w.drewN q) := by subst h; exact ⟨rfl, _, rfl⟩
theorem PairIs.dr {r : Int × Int} {w w' : World} {e : Ending} (h : PairIs r w e w') : PairDr r w e w' := ⟨h.1, 0, h.2.symm⟩
theorem quo_fits (a b : Int) (w : World) (h0 : b ≠ 0) (h : In (a.tdiv b)) : Calls Tryz.prog 145 #[.int .i64 a, .int .i64 b] w (PairDr (quoR a b) w) := by
 have e0 : ((b : Int) == 0) = false := by rw [beq_eq_false_iff_ne]; exact h0
 have hR := Lib.hid (show quoR a b = (wrap64 (a.tdiv b), 0) by rw [quoR, if_neg h0, if_pos h, IntWalk.wrap64_in _ h])
 have hT := Lib.hid (fun n => (turns_no a b (w.drewN n) (fun x => tdiv_not x h)).mono fun _ _ h => And.intro h.1 h.2.symm)
 clear h
 go_enter Tryz.func145, Tryz.ntmps145
 go_wp2_with fail
 go_quiet ((first | (go_at_call 154; exact Calls.quiet_of_same (watched_q _ _)) | (go_at_call 155; exact Calls.quiet_of_same (hT.out _))))
 go_wp2_with fail
 go_ret2
 exact pair_dr hR.out
theorem quo_least (a b : Int) (w : World) (ha : a = -9223372036854775808) (hb : b = -1) : Calls Tryz.prog 145 #[.int .i64 a, .int .i64 b] w (PairDr (quoR a b) w) := by
 have h0 : b ≠ 0 := by omega
 have e0 : ((b : Int) == 0) = false := by rw [beq_eq_false_iff_ne]; exact h0
 have hR := Lib.hid (show quoR a b = (0, 10) by subst ha hb; decide)
 have hT := Lib.hid (fun n => show Calls Tryz.prog 155 #[.int .i64 a, .int .i64 b] (w.drewN n) (fun e w' => e = .returned (.bool true) ∧ w' = w.drewN n) by subst ha hb; exact (turns_yes _).mono fun _ _ h => And.intro h.1 h.2.symm)
 clear ha hb
 go_enter Tryz.func145, Tryz.ntmps145
 go_wp2_with fail
 go_quiet ((first | (go_at_call 154; exact Calls.quiet_of_same (watched_qn _ _)) | (go_at_call 155; exact Calls.quiet_of_same (hT.out _))))
 go_wp2_with fail
 go_ret2
 exact pair_dr hR.out
theorem quo_any (a b : Int) (w : World) (ha : In a) : Calls Tryz.prog 145 #[.int .i64 a, .int .i64 b] w (PairDr (quoR a b) w) := by
 by_cases h0 : b = 0
 ·subst h0; exact (quo_nought a w).mono fun _ _ h => h.dr
 by_cases h : a = -9223372036854775808 ∧ b = -1
 ·exact quo_least a b w h.1 h.2
 ·exact quo_fits a b w h0 (tdiv_in ha h)
theorem rem_any (a b : Int) (w : World) : Calls Tryz.prog 146 #[.int .i64 a, .int .i64 b] w (PairIs (remR a b) w) := by
 by_cases h0 : b = 0
 ·subst h0
  have hR := Lib.hid (show remR a 0 = (0, 11) from if_pos rfl)
  go_enter Tryz.func146, Tryz.ntmps146
  go_wp2_with fail
  go_ret2
  exact pair_is hR.out
 ·have hR := Lib.hid (show remR a b = (a.tmod b, 0) from if_neg h0)
  go_enter Tryz.func146, Tryz.ntmps146
  go_wp2_with fail
  go_ret2
  exact pair_is hR.out
theorem abs_any (a b : Int) (w : World) (ha : In a) : Calls Tryz.prog 147 #[.int .i64 a, .int .i64 b] w (PairIs (absR a) w) := by
 by_cases h : a < 0
 ·have hR := Lib.hid (show absR a = ((difR 0 a).1, (difR 0 a).2) from if_pos h)
  have hT := Lib.hid (dif_any 0 a w (by decide) ha)
  clear ha
  go_enter Tryz.func147, Tryz.ntmps147
  go_wp2_with (go_at_call 144; refine hT.out.mono ?_; rintro e w' ⟨rfl, rfl⟩)
  go_ret2
  exact pair_is hR.out
 ·have hR := Lib.hid (show absR a = (a, 0) from if_neg h)
  go_enter Tryz.func147, Tryz.ntmps147
  go_wp2_with fail
  go_ret2
  exact pair_is hR.out
def ValBe (k n : Int) (w : World) (e : Ending) (w' : World) : Prop := e = .returned (.agg #[.int .i64 k, .int .i64 n, .string ⟨#[]⟩, .slice none 0 0, .slice none 0 0, .slice none 0 0]) ∧ Below w.heap.size w w'
def noneB (k : Int) : Bool := k == 2 || k == 0
def numB (k : Int) : Bool := k == 3 || k == 4
theorem of_any (n : Int) (w : World) : Calls Tryz.prog 112 #[.int .i64 n] w (ValBe (ofK n) n w) := by
 by_cases h : -2147483648 ≤ n ∧ n < 2147483648
 ·have hK := Lib.hid (show ofK n = 3 from if_pos h)
  rw [hK.out]
  clear hK
  have hq : ((n : Int) == wrap32 n) = true := by rw [IntWalk.wrap32_in n ⟨h.1, by omega⟩]; exact beq_self_eq_true n
  obtain ⟨h1, h2⟩ := h
  go_enter Tryz.func112, Tryz.ntmps112
  go_wp2_with fail
  exact bodyPost_ret (v := .agg #[.int .i64 3, .int .i64 n, .string ⟨#[]⟩, .slice none 0 0, .slice none 0 0, .slice none 0 0]) (by simp [results, Tryz.results112, go_sem]) rfl ⟨rfl, ((Below.refl _ _).alloc (Nat.le_refl _) _)⟩
 ·have hK := Lib.hid (show ofK n = 4 from if_neg h)
  rw [hK.out]
  clear hK
  have hn : ¬ n = wrap64 (wrap32 n) := by unfold wrap64 wrap32; omega
  have hq : ((n : Int) == wrap64 (wrap32 n)) = false := by rw [beq_eq_false_iff_ne]; exact hn
  clear h
  go_enter Tryz.func112, Tryz.ntmps112
  go_wp2_with fail
  exact bodyPost_ret (v := .agg #[.int .i64 4, .int .i64 n, .string ⟨#[]⟩, .slice none 0 0, .slice none 0 0, .slice none 0 0]) (by simp [results, Tryz.results112, go_sem]) rfl ⟨rfl, ((Below.refl _ _).alloc (Nat.le_refl _) _)⟩
theorem nothing_any (k : Int) (c1 c2 c3 c4 c5 : Value) (w : World) : Calls Tryz.prog 152 #[.agg #[.int .i64 k, c1, c2, c3, c4, c5]] w (BoolBe (noneB k) w) := by
 by_cases h : k = 2
 ·subst h
  go_enter Tryz.func152, Tryz.ntmps152
  go_wp2_with fail
  go_ret
  exact ⟨rfl, (Below.refl _ _).alloc (Nat.le_refl _) _⟩
 by_cases h2 : k = 0
 ·subst h2
  go_enter Tryz.func152, Tryz.ntmps152
  go_wp2_with fail
  go_ret
  exact ⟨rfl, (Below.refl _ _).alloc (Nat.le_refl _) _⟩
 have hB := Lib.hid (show noneB k = false by simp [noneB, h, h2])
 have e1 : ((k : Int) == 2) = false := by rw [beq_eq_false_iff_ne]; exact h
 have e2 : ((k : Int) == 0) = false := by rw [beq_eq_false_iff_ne]; exact h2
 rw [hB.out]
 go_enter Tryz.func152, Tryz.ntmps152
 go_wp2_with fail
 go_ret
 exact ⟨rfl, (Below.refl _ _).alloc (Nat.le_refl _) _⟩
theorem number_any (k : Int) (c1 c2 c3 c4 c5 : Value) (w : World) : Calls Tryz.prog 153 #[.agg #[.int .i64 k, c1, c2, c3, c4, c5]] w (BoolBe (numB k) w) := by
 by_cases h : k = 3
 ·subst h
  go_enter Tryz.func153, Tryz.ntmps153
  go_wp2_with fail
  go_ret
  exact ⟨rfl, (Below.refl _ _).alloc (Nat.le_refl _) _⟩
 by_cases h2 : k = 4
 ·subst h2
  go_enter Tryz.func153, Tryz.ntmps153
  go_wp2_with fail
  go_ret
  exact ⟨rfl, (Below.refl _ _).alloc (Nat.le_refl _) _⟩
 have hB := Lib.hid (show numB k = false by simp [numB, h, h2])
 have e1 : ((k : Int) == 3) = false := by rw [beq_eq_false_iff_ne]; exact h
 have e2 : ((k : Int) == 4) = false := by rw [beq_eq_false_iff_ne]; exact h2
 rw [hB.out]
 go_enter Tryz.func153, Tryz.ntmps153
 go_wp2_with fail
 go_ret
 exact ⟨rfl, (Below.refl _ _).alloc (Nat.le_refl _) _⟩
end Go.Proofs.YtiajjgehnmkokaaGreatDoor
end
