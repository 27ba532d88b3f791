/- PathDocsMath, ValLets, KeyLegal, OpenVal. -/
import Derived.ChangeSlices
import Derived.Test.YtdgncpoephdboaaDoorMg5
import Derived.Test.YtdgncpoephdboaaDoorMg4
import Derived.Test.YtdgncpoephdboaaDoorMg6
import Derived.Test.YtdgncpoephdboaaDoorMg3
set_option maxRecDepth 100000
section
namespace Bson
/-- x within documents along names; before each name's field one of another name. -/
def nest (e : ByteArray → ByteArray) (y x : Val) : List ByteArray → Val
  | [] => x
  | a :: r => .mk 6 0 none_ [] [(e a, y), (a, nest e y x r)] []
theorem nest_kind (e : ByteArray → ByteArray) (y x : Val) (p : List ByteArray) (h : x.kind ≠ 0) : (nest e y x p).kind ≠ 0 := by
  cases p with
  | nil => exact h
  | cons a r => rw [nest]; show (6 : Int) ≠ 0; omega
theorem field_nest {e : ByteArray → ByteArray} (he : ∀ a, e a ≠ a) (y z : Val) (a : ByteArray) : fieldIn [(e a, y), (a, z)] a = z := by
  rw [fieldIn, if_neg (he a), fieldIn, if_pos rfl]
theorem field_lost {e : ByteArray → ByteArray} (y z : Val) {a b : ByteArray} (h1 : e a ≠ b) (h2 : a ≠ b) : fieldIn [(e a, y), (a, z)] b = zero := by
  rw [fieldIn, if_neg h1, fieldIn, if_neg h2, fieldIn]
theorem reach_nest {e : ByteArray → ByteArray} (he : ∀ a, e a ≠ a) (y x : Val) : ∀ (p : List ByteArray) (n : Nat), p.length ≤ n → reach n (nest e y x p) p = x
  | [], n, _ => by rw [reach_nil, nest]
  | a :: r, 0, h => by simp at h
  | a :: r, n + 1, h => by
    rw [reach_doc _ _ _ _ (by rw [nest]; rfl), nest]
    show reach n (fieldIn [(e a, y), (a, nest e y x r)] a) r = x
    rw [field_nest he, reach_nest he y x r n (by simpa using h)]
theorem all_nest {e : ByteArray → ByteArray} (he : ∀ a, e a ≠ a) (y x : Val) : ∀ (p : List ByteArray) (n : Nat), p.length ≤ n → (p ≠ [] → x.kind ≠ 0) → all n (nest e y x p) p = itself x
  | [], n, _, _ => by rw [all_nil, nest]
  | a :: r, 0, h, _ => by simp at h
  | a :: r, n + 1, h, hx => by
    have hx' := hx (by simp)
    rw [all, nest, if_pos (by rfl)]
    show (if (fieldIn [(e a, y), (a, nest e y x r)] a).kind = 0 then [zero] else all n (fieldIn [(e a, y), (a, nest e y x r)] a) r) = _
    rw [field_nest he, if_neg (nest_kind e y x r hx'), all_nest he y x r n (by simpa using h) (fun _ => hx')]
theorem reach_zero (n : Nat) (r : List ByteArray) : reach n zero r = zero := by
  cases r with
  | nil => rw [reach_nil]
  | cons a r => exact reach_other n zero a r (by show (0 : Int) ≠ 6; omega) (by show (0 : Int) ≠ 7; omega)
/-- One name that is none of theirs: nothing is found. -/
theorem reach_lost {e : ByteArray → ByteArray} (he : ∀ a, e a ≠ a) (y x : Val) : ∀ (p : List ByteArray) (k n : Nat) (b : ByteArray) (hk : k < p.length), p.length ≤ n → p[k] ≠ b → e p[k] ≠ b → reach n (nest e y x p) (p.set k b) = zero
  | [], k, n, b, hk, _, _, _ => by simp at hk
  | a :: r, k, 0, b, _, h, _, _ => by simp at h
  | a :: r, 0, n + 1, b, _, h, h1, h2 => by
    rw [List.set_cons_zero, reach_doc _ _ _ _ (by rw [nest]; rfl), nest]
    show reach n (fieldIn [(e a, y), (a, nest e y x r)] b) r = zero
    rw [field_lost (e := e) (a := a) y _ h2 h1, reach_zero]
  | a :: r, k + 1, n + 1, b, hk, h, h1, h2 => by
    rw [List.set_cons_succ, reach_doc _ _ _ _ (by rw [nest]; rfl), nest]
    show reach n (fieldIn [(e a, y), (a, nest e y x r)] a) (r.set k b) = zero
    rw [field_nest he]
    exact reach_lost he y x r k n b (by simpa using hk) (by simpa using h) (by simpa using h1) (by simpa using h2)
theorem all_lost {e : ByteArray → ByteArray} (he : ∀ a, e a ≠ a) (y x : Val) (hx : x.kind ≠ 0) : ∀ (p : List ByteArray) (k n : Nat) (b : ByteArray) (hk : k < p.length), p.length ≤ n → p[k] ≠ b → e p[k] ≠ b → all n (nest e y x p) (p.set k b) = [zero]
  | [], k, n, b, hk, _, _, _ => by simp at hk
  | a :: r, k, 0, b, _, h, _, _ => by simp at h
  | a :: r, 0, n + 1, b, _, h, h1, h2 => by
    rw [List.set_cons_zero, all, nest, if_pos (by rfl)]
    show (if (fieldIn [(e a, y), (a, nest e y x r)] b).kind = 0 then [zero] else _) = _
    rw [field_lost (e := e) (a := a) y _ h2 h1, if_pos (by rfl)]
  | a :: r, k + 1, n + 1, b, hk, h, h1, h2 => by
    rw [List.set_cons_succ, all, nest, if_pos (by rfl)]
    show (if (fieldIn [(e a, y), (a, nest e y x r)] a).kind = 0 then [zero] else all n (fieldIn [(e a, y), (a, nest e y x r)] a) (r.set k b)) = _
    rw [field_nest he, if_neg (nest_kind e y x r hx)]
    exact all_lost he y x hx r k n b (by simpa using hk) (by simpa using h) (by simpa using h1) (by simpa using h2)
theorem nest_snoc (e : ByteArray → ByteArray) (y x : Val) (a : ByteArray) : ∀ (p : List ByteArray), nest e y x (p ++ [a]) = nest e y (.mk 6 0 none_ [] [(e a, y), (a, x)] []) p
  | [] => rfl
  | b :: r => by rw [List.cons_append, nest, nest, nest_snoc e y x a r]
end Bson
end
section
namespace Go.Proofs.YtdgncpoephdboaaDoor
open Go.RowKit
open Seal
open Bson (Val)
/-- What is read lies in blocks that are there. -/
theorem VIn.lt {w : World} {Q : Nat → Prop} : ∀ {h : Nat} {x : Val} {v : Value}, VIn w Q h x v → VIn w (fun g => Q g ∧ g < w.heap.size) h x v
  | 0, _, _, h => h.elim
  | h + 1, x, v, ⟨ba, fa, la, bc, fc, lc, e, h1, h2, h3, h4, hB, hF, hI⟩ => by
    refine ⟨ba, fa, la, bc, fc, lc, e, h1, h2, h3, h4, ?_, ?_, ?_⟩
    · rcases hB with hB | ⟨g, o, e, hq, hr⟩
      · exact .inl hB
      · cases hx : x.b with
        | nil => exact .inl rfl
        | cons c r =>
          have := hr 0 (by rw [hx]; simp)
          exact .inr ⟨g, o, e, ⟨hq, World.block_lt_of_cell? w _ this⟩, by rw [← hx]; exact hr⟩
    · rcases hF with hF | ⟨g, o, e, hq, hr⟩
      · exact .inl hF
      · cases hx : x.f with
        | nil => exact .inl rfl
        | cons c r =>
          have h0 := (hr 0 (by rw [hx]; simp)).1
          refine .inr ⟨g, o, e, ⟨hq, World.block_lt_of_cell? w _ h0⟩, ?_⟩
          rw [← hx]
          intro i hi
          obtain ⟨a1, a2, v, a3, a4⟩ := hr i hi
          exact ⟨a1, a2, v, a3, VIn.lt a4⟩
    · rcases hI with hI | ⟨g, o, e, hq, hr⟩
      · exact .inl hI
      · cases hx : x.l with
        | nil => exact .inl rfl
        | cons c r =>
          obtain ⟨v0, h0, _⟩ := hr 0 (by rw [hx]; simp)
          obtain ⟨_, _, _, _, _, _, _, hc, _⟩ := h0
          refine .inr ⟨g, o, e, ⟨hq, World.block_lt_of_cell? w _ hc⟩, ?_⟩
          rw [← hx]
          intro i hi
          obtain ⟨v, a3, a4⟩ := hr i hi
          exact ⟨v, a3, VIn.lt a4⟩
theorem VIn.letters {w : World} {Q : Nat → Prop} {h : Nat} {x : Val} {v : Value} (hv : VIn w Q (h + 1) x v) :
    ∃ (xk xn : Int) (xs : ByteArray) (ba fa la : Option Addr) (bn bc fn fc ln lc : Nat), v = .agg #[.int .i64 xk, .int .i64 xn, .string xs, .slice ba bn bc, .slice fa fn fc, .slice la ln lc] ∧
      xk = x.kind ∧ xn = x.n ∧ xs = x.s ∧ bn = x.b.length ∧ fn = x.f.length ∧ ln = x.l.length ∧ Lim x ∧ FieldsIn w Q (VIn w Q h) fa x.f ∧ ItemsIn w Q (VIn w Q h) la x.l := by
  obtain ⟨ba, fa, la, bc, fc, lc, rfl, hL, _, _, _, _, hF, hI⟩ := hv
  exact ⟨_, _, _, ba, fa, la, _, bc, _, fc, _, lc, rfl, rfl, rfl, rfl, rfl, rfl, rfl, hL, hF, hI⟩
theorem zero_in (w : World) (Q : Nat → Prop) : VIn w Q 1 Bson.zero (.agg #[.int .i64 0, .int .i64 0, .string ⟨#[]⟩, .slice none 0 0, .slice none 0 0, .slice none 0 0]) :=
  ⟨none, none, none, 0, 0, 0, rfl, ⟨by show (-9223372036854775808 : Int) ≤ 0; omega, by show (0 : Int) ≤ _; omega, by show (-9223372036854775808 : Int) ≤ 0; omega, by show (0 : Int) ≤ _; omega, by show (0 : Nat) ≤ _; omega, by show (0 : Nat) ≤ _; omega, by show (0 : Nat) ≤ _; omega, by show (0 : Nat) ≤ _; omega, fun c hc => by cases hc⟩, ⟨Nat.le_refl _, by omega⟩, ⟨Nat.le_refl _, by omega⟩, ⟨Nat.le_refl _, by omega⟩, .inl rfl, .inl rfl, .inl rfl⟩
theorem str_ne {s t : ByteArray} (h : ¬ s = t) : (s.toList == t.toList) = false := by
  rw [beq_eq_false_iff_ne]
  intro e
  rw [ByteArray.toList_eq, ByteArray.toList_eq] at e
  apply h
  obtain ⟨⟨a⟩⟩ := s
  obtain ⟨⟨b⟩⟩ := t
  simp only at e
  rw [e]
/-- What a function that answers a value leaves: the value, and nothing old has turned. -/
def ValPost (Q : Nat → Prop) (w : World) (h : Nat) (x : Val) (e : Ending) (w' : World) : Prop := ∃ v', e = .returned v' ∧ VIn w' Q h x v' ∧ Below w.heap.size w w'
theorem below_dr {B : Nat} {a w : World} (h : Below B a w) (n : Nat) : Below B a (w.drewN n) := ⟨h.os, h.tape, h.output, h.size, h.block⟩
end Go.Proofs.YtdgncpoephdboaaDoor
end
section
namespace Key
open Bson (Val)
def legal : Nat → Val → Prop
  | 0, x => (1 ≤ x.kind ∧ x.kind ≤ 12) ∧ x.kind ≠ 6 ∧ x.kind ≠ 7
  | L + 1, x => (1 ≤ x.kind ∧ x.kind ≤ 12) ∧ (x.kind = 6 → ∀ p ∈ x.f, legal L p.2) ∧ (x.kind = 7 → ∀ v ∈ x.l, legal L v)
theorem legal_leaf {x : Val} (hk : 1 ≤ x.kind ∧ x.kind ≤ 12) (h6 : x.kind ≠ 6) (h7 : x.kind ≠ 7) : ∀ L, legal L x
  | 0 => ⟨hk, h6, h7⟩
  | _ + 1 => ⟨hk, fun e => absurd e h6, fun e => absurd e h7⟩
theorem legal.kind {x : Val} : ∀ {L : Nat}, legal L x → 1 ≤ x.kind ∧ x.kind ≤ 12
  | 0, h => h.1
  | _ + 1, h => h.1
theorem legal.fits : ∀ {L : Nat} {x : Val}, legal L x → Key.fits L x
  | 0, _, h => h.2
  | _ + 1, _, h => ⟨fun e p hp => (h.2.1 e p hp).fits, fun e v hv => (h.2.2 e v hv).fits⟩
end Key
end
section
namespace Go.Proofs.YtdgncpoephdboaaDoor
open Go.ChangeShapes Go.WideShapes Go.ChangeAt Go.RowKit
open Seal
open Bson (Val)
section
variable {H : Type} {enc : TypeId × Value → H} {W : World}
/-- No part of a datum is beyond the machine. -/
def Fit (t : TypeId) (d : DataW H) : Prop := ∀ n ∈ d.weights Tryd.prog t, n ≤ 140737488355328
theorem fit_part {t : TypeId} {fs : Array Field} (ht : Tryd.prog.underlying t = some (.struct fs)) {parts : List (DataW H)} (h : Fit t (.agg parts)) {j : Nat} {f : Field} {d : DataW H} (hf : fs[j]? = some f) (hd : parts[j]? = some d) : Fit f.type d := by
  intro n hn
  refine h n ?_
  simp only [DataW.weights, ht]
  exact DataW.weights_mem_each (j := j) (by simp [hf]) hd n hn
theorem fit_elem {t e : TypeId} (ht : Tryd.prog.underlying t = some (.slice e)) {elems spare : List (DataW H)} (h : Fit t (.slice elems spare)) {d : DataW H} (hd : d ∈ elems) : Fit e d := by
  intro n hn
  refine h n ?_
  simp only [DataW.weights, ht, List.mem_cons, List.mem_append]
  exact Or.inr (Or.inl (weightsAll_mem hd n hn))
theorem fit_len {t e : TypeId} (ht : Tryd.prog.underlying t = some (.slice e)) {elems spare : List (DataW H)} (h : Fit t (.slice elems spare)) : (elems.length + spare.length) * Tryd.prog.bytesOf e ≤ 140737488355328 := by
  refine h _ ?_
  simp [DataW.weights, ht]
theorem fit_str {t : TypeId} {s : ByteArray} (h : Fit (H := H) t (.lit (.string s.data.toList))) : s.size ≤ 140737488355328 := by
  have := h s.data.toList.length (by simp [DataW.weights])
  rwa [show s.data.toList.length = s.size from Array.length_toList] at this
theorem fit_of {ts : List TypeId} {ds : List (DataW H)} (hw : (DataW.weightsEach Tryd.prog ts ds).all (· ≤ reachBytes) = true) {j : Nat} {t : TypeId} {d : DataW H} (hj : ts[j]? = some t) (hdj : ds[j]? = some d) : Fit t d := fun n hn => by
  have h1 := of_decide_eq_true (List.all_eq_true.1 hw n (DataW.weights_mem_each hj hdj n hn))
  rw [reach_eq] at h1
  omega
theorem cellsU8 : Tryd.prog.cellsOf 5 = 1 := by kernel_rfl
theorem bytesU8 : Tryd.prog.bytesOf 5 = 1 := by kernel_rfl
theorem cellsVal : Tryd.prog.cellsOf 27 = 6 := by kernel_rfl
theorem bytesVal : Tryd.prog.bytesOf 27 = 104 := by kernel_rfl
theorem cellsFld : Tryd.prog.cellsOf 32 = 7 := by kernel_rfl
theorem bytesFld : Tryd.prog.bytesOf 32 = 120 := by kernel_rfl
theorem cellsInt : Tryd.prog.cellsOf 3 = 1 := by kernel_rfl
theorem cellsI64 : Tryd.prog.cellsOf 2 = 1 := by kernel_rfl
theorem cellsBy : Tryd.prog.cellsOf 23 = 1 := by kernel_rfl
theorem cellsFs : Tryd.prog.cellsOf 24 = 1 := by kernel_rfl
theorem cellsVs : Tryd.prog.cellsOf 25 = 1 := by kernel_rfl
theorem wf_i64 {n : Int} (h : (Lit.int .i64 n).wf = true) : -9223372036854775808 ≤ n ∧ n ≤ 9223372036854775807 := by
  have h1 : IntKind.i64.min = -9223372036854775808 := rfl
  have h2 : IntKind.i64.max = 9223372036854775807 := rfl
  simp only [Lit.wf, Bool.and_eq_true, decide_eq_true_eq] at h
  omega
theorem open_bytes {fuel : Nat} {cs : List Value} {x : DataW H × List MemPlace} (h : DataW.trod enc Tryd.prog W 0 (fun _ => true) true fuel 23 cs = some x) (hx : Fit 23 x.1) :
    ∃ (a : Option Addr) (c : Nat) (l : List Nat), cs = [.slice a l.length c] ∧ l.length ≤ c ∧ c ≤ 9223372036854775807 ∧ Oct l ∧ l.length ≤ 140737488355328 ∧ BytesIn W (fun _ => True) a l := by
  rcases open_ints Tryd.underlying23 Tryd.underlying5 cellsU8 h with ⟨rfl, hd⟩ | ⟨a, len, cap, zs, rfl, _, hl, hm, hz, hd, hcell, hwz⟩
  · exact ⟨none, 0, [], rfl, Nat.le_refl _, by omega, (fun c hc => by cases hc), by simp, .inl rfl⟩
  · simp only [if_true] at hz
    have hm' : cap ≤ 9223372036854775807 := hm
    have hwf : ∀ j, j < zs.length → 0 ≤ zs.getD j 0 ∧ zs.getD j 0 < 256 := fun j hj => by
      rw [List.getD_eq_getElem?_getD, List.getElem?_eq_getElem hj]
      exact u8_wf (hwz _ (List.getElem_mem hj))
    have hfl := fit_len Tryd.underlying23 (by rw [hd] at hx; exact hx)
    rw [bytesU8] at hfl
    have hll : ((zs.take len).map Int.toNat).length = len := by simp; omega
    refine ⟨some a, cap, (zs.take len).map Int.toNat, by rw [hll], by rw [hll]; exact hl, hm', ?_, ?_, ?_⟩
    · intro c hc
      obtain ⟨z, hzm, rfl⟩ := List.mem_map.1 hc
      have := u8_wf (hwz z (List.mem_of_mem_take hzm))
      omega
    · rw [hll]
      simp [lits] at hfl
      omega
    · by_cases h0 : len = 0
      · subst h0; exact .inl rfl
      · obtain ⟨b, off, spot⟩ := a
        have hspot : spot = none := by simpa [Addr.add] using World.cell?_spot (hcell 0 (by omega))
        subst hspot
        refine .inr ⟨b, off, rfl, trivial, fun j hj => ?_⟩
        rw [hll] at hj
        have hw := hwf j (by omega)
        have := hcell j (by omega)
        rw [show (⟨b, off, none⟩ : Addr).add j = ⟨b, off + j, none⟩ by (unfold Addr.add; split <;> simp_all)] at this
        rw [this]
        have e : (((zs.take len).map Int.toNat).getD j 0 : Nat) = (zs.getD j 0).toNat := by
          simp [List.getD_eq_getElem?_getD, show j < len by omega, List.getElem?_eq_getElem (show j < zs.length by omega)]
        rw [e, Int.toNat_of_nonneg hw.1]
theorem six_list {cs : List Value} (h : cs.length = 6) : ∃ c0 c1 c2 c3 c4 c5, cs = [c0, c1, c2, c3, c4, c5] := by
  match cs, h with
  | [c0, c1, c2, c3, c4, c5], _ => exact ⟨_, _, _, _, _, _, rfl⟩
theorem add_add (a : Addr) (i j : Nat) : (a.add i).add j = a.add (i + j) := Go.Deep.add_add a i j
/-- Elements of a slice that comes in, one by one. -/
theorem open_each {t e : TypeId} {size fuel : Nat} {cs : List Value} {x : DataW H × List MemPlace} (ht : Tryd.prog.underlying t = some (.slice e)) (hc : Tryd.prog.cellsOf e = size) (hpos : 0 < size) (h : DataW.trod enc Tryd.prog W 0 (fun _ => true) true fuel t cs = some x) (hx : Fit t x.1) :
    (cs = [.slice none 0 0]) ∨ ∃ (a : Addr) (len cap n : Nat), fuel = n + 1 ∧ cs = [.slice (some a) len cap] ∧ (0 < len → a = ⟨a.block, a.off, none⟩) ∧ len ≤ cap ∧ cap ≤ 9223372036854775807 ∧ len * Tryd.prog.bytesOf e ≤ 140737488355328 ∧
      ∀ i, i < len → ∃ (cs' : List Value) (y : DataW H × List MemPlace), cs'.length = size ∧ (∀ j, j < size → W.cell? ⟨a.block, a.off + (i * size + j), none⟩ = cs'[j]?) ∧ DataW.trod enc Tryd.prog W 0 (fun _ => true) true n e cs' = some y ∧ Fit e y.1 := by
  rcases DataW.trod_slice ht h with ⟨rfl, _⟩ | ⟨a, len, cap, elems, rest, n, hfu, rfl, rfl, hb, hl, hm, hlen, hel, hsp, hns⟩
  · exact .inl rfl
  · have hfl := fit_len ht hx
    have hm' : cap ≤ 9223372036854775807 := hm
    have hlen2 : len * Tryd.prog.bytesOf e ≤ 140737488355328 := by
      simp only [List.length_map] at hfl
      exact Nat.le_trans (Nat.mul_le_mul_right _ (by omega)) hfl
    have each : ∀ i, i < len → ∃ (cs' : List Value) (y : DataW H × List MemPlace), cs'.length = size ∧ (∀ j, j < size → W.cell? (a.add (i * size + j)) = cs'[j]?) ∧ DataW.trod enc Tryd.prog W 0 (fun _ => true) true n e cs' = some y ∧ Fit e y.1 := by
      intro i hi
      have h1 := hel i hi
      rw [List.getElem?_eq_getElem (by omega)] at h1
      obtain ⟨cs', h2, h3⟩ := Option.bind_eq_some_iff.1 h1
      obtain ⟨_, h4, h5⟩ := World.cells?_some h2
      rw [hc] at h4 h5
      refine ⟨cs', _, h4, fun j hj => ?_, h3, fit_elem ht hx (List.mem_map.2 ⟨_, List.getElem_mem _, rfl⟩)⟩
      rw [← h5 j hj, add_add]
    have ha : 0 < len → a = ⟨a.block, a.off, none⟩ := fun h0 => by
      obtain ⟨cs', y, h4, h5, _⟩ := each 0 h0
      have h6 := h5 0 hpos
      rw [Nat.zero_mul, Nat.add_zero, List.getElem?_eq_getElem (by omega)] at h6
      exact addr_spot h6
    refine .inr ⟨a, len, cap, n, hfu, rfl, ha, hl, hm', hlen2, fun i hi => ?_⟩
    obtain ⟨cs', y, h4, h5, h7⟩ := each i hi
    refine ⟨cs', y, h4, fun j hj => ?_, h7⟩
    have h8 := h5 j hj
    rw [ha (by omega), add_plain] at h8
    exact h8
/-- A field, part by part. -/
theorem seven_list {cs : List Value} (h : cs.length = 7) : ∃ c0 c1 c2 c3 c4 c5 c6, cs = [c0, c1, c2, c3, c4, c5, c6] := by
  match cs, h with
  | [c0, c1, c2, c3, c4, c5, c6], _ => exact ⟨_, _, _, _, _, _, _, rfl⟩
theorem row_of {β : Type} [Inhabited β] {n : Nat} {p : Nat → β → Prop} (h : ∀ i, i < n → ∃ x, p i x) : ∃ l : List β, l.length = n ∧ ∀ i (hi : i < l.length), p i l[i] := by
  obtain ⟨f, hf⟩ := Go.Deep.choose_lt h
  refine ⟨(List.range n).map f, by simp, fun i hi => ?_⟩
  have hi' : i < n := by simpa using hi
  simpa using hf i hi'
set_option maxRecDepth 100000 in
set_option maxHeartbeats 1000000 in
theorem open_val (fuel : Nat) : ∀ (cs : List Value) (x : DataW H × List MemPlace), DataW.trod enc Tryd.prog W 0 (fun _ => true) true fuel 27 cs = some x → Fit 27 x.1 →
    ∃ X c0 c1 c2 c3 c4 c5, cs = [c0, c1, c2, c3, c4, c5] ∧ VIn W (fun _ => True) fuel X (.agg #[c0, c1, c2, c3, c4, c5]) := by
  induction fuel using Nat.strongRecOn with
  | _ fuel ih =>
    intro cs x h hx
    obtain ⟨xs, n, rfl, rfl, hlen, hxl, hf⟩ := DataW.trod_struct Tryd.underlying27 h
    rw [cellsVal] at hlen
    obtain ⟨c0, c1, c2, c3, c4, c5, rfl⟩ := six_list hlen
    have hxl6 : xs.length = 6 := hxl
    have part : ∀ (i : Nat) (f : Field), (#[{ name := "Kind", type := 3, offset := 0, embedded := false, tag := "", pkgPath := "", byteOffset := 0 }, { name := "N", type := 2, offset := 1, embedded := false, tag := "", pkgPath := "", byteOffset := 8 }, { name := "S", type := 9, offset := 2, embedded := false, tag := "", pkgPath := "", byteOffset := 16 }, { name := "B", type := 23, offset := 3, embedded := false, tag := "", pkgPath := "", byteOffset := 32 }, { name := "F", type := 24, offset := 4, embedded := false, tag := "", pkgPath := "", byteOffset := 56 }, { name := "L", type := 25, offset := 5, embedded := false, tag := "", pkgPath := "", byteOffset := 80 }] : Array Field)[i]? = some f →
        ∃ y, DataW.trod enc Tryd.prog W 0 (fun _ => true) true n f.type (([c0, c1, c2, c3, c4, c5].drop f.offset).take (Tryd.prog.cellsOf f.type)) = some y ∧ Fit f.type y.1 := by
      intro i f hi
      have h1 := hf i f hi
      have hi6 : i < 6 := (Array.getElem?_eq_some_iff.1 hi).1
      rw [List.getElem?_eq_getElem (by omega)] at h1
      exact ⟨_, h1, fit_part Tryd.underlying27 hx hi (by rw [List.getElem?_map, List.getElem?_eq_getElem (by omega)]; rfl)⟩
    obtain ⟨y0, t0, f0⟩ := part 0 { name := "Kind", type := 3, offset := 0, embedded := false, tag := "", pkgPath := "", byteOffset := 0 } rfl
    obtain ⟨y1, t1, f1⟩ := part 1 { name := "N", type := 2, offset := 1, embedded := false, tag := "", pkgPath := "", byteOffset := 8 } rfl
    obtain ⟨y2, t2, f2⟩ := part 2 { name := "S", type := 9, offset := 2, embedded := false, tag := "", pkgPath := "", byteOffset := 16 } rfl
    obtain ⟨y3, t3, f3⟩ := part 3 { name := "B", type := 23, offset := 3, embedded := false, tag := "", pkgPath := "", byteOffset := 32 } rfl
    obtain ⟨y4, t4, f4⟩ := part 4 { name := "F", type := 24, offset := 4, embedded := false, tag := "", pkgPath := "", byteOffset := 56 } rfl
    obtain ⟨y5, t5, f5⟩ := part 5 { name := "L", type := 25, offset := 5, embedded := false, tag := "", pkgPath := "", byteOffset := 80 } rfl
    clear part hf h hx
    simp only [cellsInt, cellsI64, cellsStr, cellsBy, cellsFs, cellsVs, List.drop, List.take] at t0 t1 t2 t3 t4 t5
    obtain ⟨k, hk, _, hkw⟩ := DataW.trod_int Tryd.underlying3 t0
    obtain ⟨nn, hnn, _, hnw⟩ := DataW.trod_int Tryd.underlying2 t1
    obtain ⟨s, hs, hy2, _⟩ := DataW.trod_string Tryd.underlying9 t2
    obtain ⟨ba, bc, b, hb, hbc, hbm, hbo, hbl, hB⟩ := open_bytes t3 f3
    rw [hy2] at f2
    have hsl := fit_str f2
    injection hk with hk; injection hnn with hnn; injection hs with hs; injection hb with hb
    subst hk hnn hs hb
    obtain ⟨hk0, hk1⟩ := wf_i64 hkw
    obtain ⟨hn0, hn1⟩ := wf_i64 hnw
    -- the fields
    have hF : ∃ (fa : Option Addr) (fc : Nat) (f : List (ByteArray × Val)), c4 = .slice fa f.length fc ∧ f.length ≤ fc ∧ fc ≤ 9223372036854775807 ∧ f.length ≤ 1172812402961 ∧ FieldsIn W (fun _ => True) (VIn W (fun _ => True) n) fa f := by
      rcases open_each Tryd.underlying24 cellsFld (by decide) t4 f4 with h0 | ⟨a, len, cap, m, rfl, hcs, ha, hl, hm, hbt, hall⟩
      · injection h0 with h0
        exact ⟨none, 0, [], h0, Nat.le_refl _, by omega, by simp, .inl rfl⟩
      · injection hcs with hcs
        rw [bytesFld] at hbt
        have each : ∀ i, i < len → ∃ (q : ByteArray × Val), W.cell? ⟨a.block, a.off + i * 7, none⟩ = some (.string q.1) ∧ q.1.size ≤ 140737488355328 ∧ ∃ v, SixAt W a.block (a.off + i * 7 + 1) v ∧ VIn W (fun _ => True) (m + 1) q.2 v := by
          intro i hi
          obtain ⟨cs', y, h1, h2, h3, h4⟩ := hall i hi
          obtain ⟨ys, m', rfl, rfl, hl7, hyl, hg⟩ := DataW.trod_struct Tryd.underlying32 h3
          obtain ⟨d0, d1, d2, d3, d4, d5, d6, rfl⟩ := seven_list h1
          have hyl2 : ys.length = 2 := hyl
          have g0 := hg 0 { name := "Name", type := 9, offset := 0, embedded := false, tag := "", pkgPath := "", byteOffset := 0 } rfl
          have g1 := hg 1 { name := "V", type := 27, offset := 1, embedded := false, tag := "", pkgPath := "", byteOffset := 16 } rfl
          rw [List.getElem?_eq_getElem (by omega)] at g0 g1
          simp only [cellsStr, cellsVal, List.drop, List.take] at g0 g1
          have e0 : Fit 9 ys[0].1 := fit_part Tryd.underlying32 h4 (j := 0) (f := { name := "Name", type := 9, offset := 0, embedded := false, tag := "", pkgPath := "", byteOffset := 0 }) rfl (by rw [List.getElem?_map, List.getElem?_eq_getElem (by omega)]; rfl)
          have e1 : Fit 27 ys[1].1 := fit_part Tryd.underlying32 h4 (j := 1) (f := { name := "V", type := 27, offset := 1, embedded := false, tag := "", pkgPath := "", byteOffset := 16 }) rfl (by rw [List.getElem?_map, List.getElem?_eq_getElem (by omega)]; rfl)
          obtain ⟨nm, hnm, hny, _⟩ := DataW.trod_string Tryd.underlying9 g0
          rw [hny] at e0
          injection hnm with hnm
          obtain ⟨X, q0, q1, q2, q3, q4, q5, hq, hV⟩ := ih m' (by omega) _ _ g1 e1
          injection hq with hq0 hq; injection hq with hq1 hq; injection hq with hq2 hq; injection hq with hq3 hq; injection hq with hq4 hq; injection hq with hq5 hq
          subst hq0 hq1 hq2 hq3 hq4 hq5 hnm
          refine ⟨(nm, X), h2 0 (by omega), fit_str e0, _, ⟨d1, d2, d3, d4, d5, d6, rfl, h2 1 (by omega), h2 2 (by omega), h2 3 (by omega), h2 4 (by omega), h2 5 (by omega), h2 6 (by omega)⟩, hV.up (by omega)⟩
        haveI : Inhabited (ByteArray × Val) := ⟨(⟨#[]⟩, Bson.zero)⟩
        obtain ⟨f, hfl, hff⟩ := row_of each
        refine ⟨some a, cap, f, by rw [hfl]; exact hcs, by omega, hm, by omega, ?_⟩
        by_cases h0 : len = 0
        · exact .inl (List.eq_nil_of_length_eq_zero (by omega))
        · exact .inr ⟨a.block, a.off, congrArg some (ha (by omega)), trivial, hff⟩
    have hL : ∃ (la : Option Addr) (lc : Nat) (l : List Val), c5 = .slice la l.length lc ∧ l.length ≤ lc ∧ lc ≤ 9223372036854775807 ∧ l.length ≤ 1353245080339 ∧ ItemsIn W (fun _ => True) (VIn W (fun _ => True) n) la l := by
      rcases open_each Tryd.underlying25 cellsVal (by decide) t5 f5 with h0 | ⟨a, len, cap, m, rfl, hcs, ha, hl, hm, hbt, hall⟩
      · injection h0 with h0
        exact ⟨none, 0, [], h0, Nat.le_refl _, by omega, by simp, .inl rfl⟩
      · injection hcs with hcs
        rw [bytesVal] at hbt
        have each : ∀ i, i < len → ∃ (q : Val), ∃ v, SixAt W a.block (a.off + i * 6) v ∧ VIn W (fun _ => True) (m + 1) q v := by
          intro i hi
          obtain ⟨cs', y, h1, h2, h3, h4⟩ := hall i hi
          obtain ⟨X, q0, q1, q2, q3, q4, q5, rfl, hV⟩ := ih m (by omega) _ _ h3 h4
          exact ⟨X, _, ⟨q0, q1, q2, q3, q4, q5, rfl, h2 0 (by omega), h2 1 (by omega), h2 2 (by omega), h2 3 (by omega), h2 4 (by omega), h2 5 (by omega)⟩, hV.up (by omega)⟩
        haveI : Inhabited Val := ⟨Bson.zero⟩
        obtain ⟨f, hfl, hff⟩ := row_of each
        refine ⟨some a, cap, f, by rw [hfl]; exact hcs, by omega, hm, by omega, ?_⟩
        by_cases h0 : len = 0
        · exact .inl (List.eq_nil_of_length_eq_zero (by omega))
        · exact .inr ⟨a.block, a.off, congrArg some (ha (by omega)), trivial, hff⟩
    obtain ⟨fa, fc, f, rfl, hfc, hfm, hfl, hFI⟩ := hF
    obtain ⟨la, lc, l, rfl, hlc, hlm, hll, hLI⟩ := hL
    exact ⟨.mk k nn s b f l, _, _, _, _, _, _, rfl, ba, fa, la, bc, fc, lc, rfl, ⟨hk0, hk1, hn0, hn1, hsl, hbl, hfl, hll, hbo⟩, ⟨hbc, hbm⟩, ⟨hfc, hfm⟩, ⟨hlc, hlm⟩, hB, hFI, hLI⟩
set_option maxRecDepth 100000 in
/-- A value that comes in. -/
theorem open_value {v : Value} {d : DataW H} {ps : List MemPlace} (hd : DataW.Trod enc Tryd.prog W 0 (fun _ => true) true 27 v d ps) (hx : Fit 27 d) :
    ∃ h X, VIn W (fun g => g < W.heap.size) h X v := by
  obtain ⟨fuel, hf⟩ := hd
  obtain ⟨X, c0, c1, c2, c3, c4, c5, hcs, hV⟩ := open_val fuel _ _ hf hx
  refine ⟨fuel, X, ?_⟩
  have hv : v = .agg #[c0, c1, c2, c3, c4, c5] := by
    cases v with
    | agg cells =>
      have : cells.toList = [c0, c1, c2, c3, c4, c5] := hcs
      congr 1
      exact Array.toList_inj.1 this
    | _ => exfalso; have := congrArg List.length hcs; simp [Value.cells] at this
  rw [hv]
  exact hV.lt.kept (Kept.of_below (Below.refl _ _)) (fun g hg => hg.2)
set_option maxRecDepth 100000 in
/-- Values that come in. -/
theorem open_values {base : Nat} {v : Value} {d : DataW H} {ps : List MemPlace} (hval : Value.okWide Tryd.prog W .any base 25 v) (hd : DataW.Trod enc Tryd.prog W 0 (fun _ => true) true 25 v d ps) (hx : Fit 25 d) :
    ∃ h a c l, v = .slice a l.length c ∧ l.length ≤ c ∧ c ≤ 9223372036854775807 ∧ l.length ≤ 1353245080339 ∧ ItemsIn W (fun g => g < W.heap.size) (VIn W (fun g => g < W.heap.size) h) a l := by
  obtain ⟨a0, len0, cap0, rfl⟩ := okWide_slice Tryd.underlying25 hval
  obtain ⟨fuel, hf⟩ := hd
  rcases open_each Tryd.underlying25 cellsVal (by decide) hf hx with h0 | ⟨a, len, cap, m, rfl, hcs, ha, hl, hm, hbt, hall⟩
  · simp [Value.cells] at h0
    obtain ⟨rfl, rfl, rfl⟩ := h0
    exact ⟨0, none, 0, [], rfl, Nat.le_refl _, by omega, by simp, .inl rfl⟩
  · simp [Value.cells] at hcs
    obtain ⟨rfl, rfl, rfl⟩ := hcs
    rw [bytesVal] at hbt
    have each : ∀ i, i < len0 → ∃ (q : Val), ∃ v, SixAt W a.block (a.off + i * 6) v ∧ VIn W (fun g => g < W.heap.size) m q v := by
      intro i hi
      obtain ⟨cs', y, h1, h2, h3, h4⟩ := hall i hi
      obtain ⟨X, q0, q1, q2, q3, q4, q5, rfl, hV⟩ := open_val m _ _ h3 h4
      exact ⟨X, _, ⟨q0, q1, q2, q3, q4, q5, rfl, h2 0 (by omega), h2 1 (by omega), h2 2 (by omega), h2 3 (by omega), h2 4 (by omega), h2 5 (by omega)⟩, hV.lt.kept (Kept.of_below (Below.refl _ _)) (fun g hg => hg.2)⟩
    haveI : Inhabited Val := ⟨Bson.zero⟩
    obtain ⟨f, hfl, hff⟩ := row_of each
    refine ⟨m, some a, cap0, f, by rw [hfl], by omega, hm, by omega, ?_⟩
    by_cases h0 : len0 = 0
    · exact .inl (List.eq_nil_of_length_eq_zero (by omega))
    · refine .inr ⟨a.block, a.off, congrArg some (ha (by omega)), ?_, hff⟩
      obtain ⟨v, hs, _⟩ := hff 0 (by omega)
      obtain ⟨_, _, _, _, _, _, _, hc, _⟩ := hs
      exact World.block_lt_of_cell? W ⟨a.block, a.off + 0 * 6, none⟩ hc
end
end Go.Proofs.YtdgncpoephdboaaDoor
end
