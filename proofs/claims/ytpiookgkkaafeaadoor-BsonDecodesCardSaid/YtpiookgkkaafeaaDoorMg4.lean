/- BsonForth, BytesStr, RegDet, Wrote. -/
import Derived.WalkLawsBesides
import Derived.Laws.BytesArg
import Derived.Test.YtpiookgkkaafeaaDoorMg2
import Derived.Test.YtpiookgkkaafeaaDoorMg3
set_option maxRecDepth 100000
section
namespace Bson
open Go
theorem size_zero {s : ByteArray} (h : s.size = 0) : s = none_ := by
  apply bytes_inj
  have h1 := bytes_length s
  rw [h] at h1
  rw [List.length_eq_zero_iff.1 h1]
  rfl
theorem bare_n {k n : Int} {s : ByteArray} {b : List Nat} {f : List (ByteArray × Val)} {l : List Val} {sn ss sb sf sl : Bool} (h : bare (.mk k n s b f l) sn ss sb sf sl = true) :
    (sn = false → n = 0) ∧ (ss = false → s = none_) ∧ (sb = false → b = []) ∧ (sf = false → f = []) ∧ (sl = false → l = []) := by
  simp only [bare, Val.n, Val.s, Val.b, Val.f, Val.l, Bool.and_eq_true, Bool.or_eq_true, beq_iff_eq, List.isEmpty_iff] at h
  obtain ⟨⟨⟨⟨h1, h2⟩, h3⟩, h4⟩, h5⟩ := h
  refine ⟨fun e => ?_, fun e => ?_, fun e => ?_, fun e => ?_, fun e => ?_⟩
  · rcases h1 with h | h
    · rw [e] at h; cases h
    · exact h
  · rcases h2 with h | h
    · rw [e] at h; cases h
    · exact size_zero h
  · rcases h3 with h | h
    · rw [e] at h; cases h
    · exact h
  · rcases h4 with h | h
    · rw [e] at h; cases h
    · exact h
  · rcases h5 with h | h
    · rw [e] at h; cases h
    · exact h
theorem scalar_app {v : Val} {bs : List Nat} (h : scalar v = some bs) (hlen : bs.length < 2147483648) (r : List Nat) : scalarOf (code v.kind) (bs ++ r) = .ok v r ∧ known (code v.kind) = true := by
  obtain ⟨k, n, s, b, f, l⟩ := v
  change scalarP k n s b (.mk k n s b f l) = some bs at h
  unfold scalarP at h
  show scalarOf (code k) (bs ++ r) = _ ∧ known (code k) = true
  by_cases c : k = 1 ∨ k = 2 ∨ k = 12
  · rw [if_pos c] at h
    split at h
    · rename_i hb
      obtain ⟨h1, h2, h3, h4, h5⟩ := bare_n hb
      obtain rfl := h1 rfl; obtain rfl := h2 rfl; obtain rfl := h3 rfl; obtain rfl := h4 rfl; obtain rfl := h5 rfl
      injection h with h; subst h
      rcases c with rfl | rfl | rfl <;> exact ⟨by simp [scalarOf, code], rfl⟩
    · cases h
  rw [if_neg c] at h
  by_cases c : k = 3
  · rw [if_pos c] at h; subst c
    split at h
    · rename_i hb
      simp only [Bool.and_eq_true, decide_eq_true_eq] at hb
      obtain ⟨⟨hb, h6⟩, h7⟩ := hb
      obtain ⟨h1, h2, h3, h4, h5⟩ := bare_n hb
      obtain rfl := h2 rfl; obtain rfl := h3 rfl; obtain rfl := h4 rfl; obtain rfl := h5 rfl
      injection h with h; subst h
      refine ⟨?_, rfl⟩
      show number 3 4 (leI n 4 ++ r) = _
      unfold number
      rw [take_app (leI_length _ _)]
      simp only [Res.bind, signed_leI4 n h6 h7]
    · cases h
  rw [if_neg c] at h
  by_cases c : k = 4 ∨ k = 11
  · rw [if_pos c] at h
    split at h
    · rename_i hb
      simp only [Bool.and_eq_true, decide_eq_true_eq] at hb
      obtain ⟨⟨hb, h6⟩, h7⟩ := hb
      obtain ⟨h1, h2, h3, h4, h5⟩ := bare_n hb
      obtain rfl := h2 rfl; obtain rfl := h3 rfl; obtain rfl := h4 rfl; obtain rfl := h5 rfl
      injection h with h; subst h
      rcases c with rfl | rfl
      · refine ⟨?_, rfl⟩
        show number 4 8 (leI n 8 ++ r) = _
        unfold number
        rw [take_app (leI_length _ _)]
        simp only [Res.bind, signed_leI8 n h6 h7]
      · refine ⟨?_, rfl⟩
        show number 11 8 (leI n 8 ++ r) = _
        unfold number
        rw [take_app (leI_length _ _)]
        simp only [Res.bind, signed_leI8 n h6 h7]
    · cases h
  rw [if_neg c] at h
  by_cases c : k = 10
  · rw [if_pos c] at h; subst c
    split at h
    · rename_i hb
      simp only [Bool.and_eq_true, Bool.or_eq_true, beq_iff_eq] at hb
      obtain ⟨hb, h6⟩ := hb
      obtain ⟨h1, h2, h3, h4, h5⟩ := bare_n hb
      obtain rfl := h2 rfl; obtain rfl := h3 rfl; obtain rfl := h4 rfl; obtain rfl := h5 rfl
      injection h with h; subst h
      refine ⟨?_, rfl⟩
      show bool (leI n 1 ++ r) = _
      have h6' : n = 0 ∨ n = 1 := h6
      unfold bool
      rw [take_app (leI_length _ _)]
      simp only [Res.bind, signed_leI1 n (by omega) (by omega)]
      rw [if_neg (by omega)]
    · cases h
  rw [if_neg c] at h
  by_cases c : k = 5
  · rw [if_pos c] at h; subst c
    split at h
    · rename_i hb
      simp only [Bool.and_eq_true] at hb
      obtain ⟨hb, hu⟩ := hb
      have hu' : u8 s = true := hu
      obtain ⟨h1, h2, h3, h4, h5⟩ := bare_n hb
      obtain rfl := h1 rfl; obtain rfl := h3 rfl; obtain rfl := h4 rfl; obtain rfl := h5 rfl
      injection h with h
      subst h
      simp only [List.length_append, leI_length, bytes_length, List.length_singleton] at hlen
      refine ⟨?_, rfl⟩
      show text (leI ((s.size : Int) + 1) 4 ++ (bytes s ++ [0]) ++ r) = _
      unfold text
      rw [List.append_assoc, take_app (leI_length _ _)]
      simp only [Res.bind, signed_leI4 ((s.size : Int) + 1) (by omega) (by omega)]
      rw [if_neg (by omega), show ((s.size : Int) + 1).toNat = s.size + 1 by omega, take_app (by simp [bytes_length])]
      have e1 : (bytes s ++ [0]).length - 1 = (bytes s).length := by simp
      simp only [e1]
      have e2 : (bytes s ++ [0]).getD (bytes s).length 0 = 0 := by simp [List.getD_eq_getElem?_getD]
      have e3 : (bytes s ++ [0]).take (bytes s).length = bytes s := by simp
      rw [e2, e3, ofBytes_bytes, hu', if_neg (by simp), if_neg (by simp)]
    · cases h
  rw [if_neg c] at h
  by_cases c : k = 8
  · rw [if_pos c] at h; subst c
    split at h
    · rename_i hb
      obtain ⟨h1, h2, h3, h4, h5⟩ := bare_n hb
      obtain rfl := h1 rfl; obtain rfl := h2 rfl; obtain rfl := h4 rfl; obtain rfl := h5 rfl
      injection h with h
      subst h
      simp only [List.length_append, leI_length, List.length_cons] at hlen
      refine ⟨?_, rfl⟩
      show blob (leI (b.length : Int) 4 ++ (0 :: b) ++ r) = _
      unfold blob
      have e0 : leI (b.length : Int) 4 ++ (0 :: b) ++ r = (leI (b.length : Int) 4 ++ [0]) ++ (b ++ r) := by simp
      rw [e0, take_app (by simp [leI_length])]
      have e1 : (leI (b.length : Int) 4 ++ [0]).take 4 = leI (b.length : Int) 4 := by
        rw [List.take_append_of_le_length (by rw [leI_length]; omega), List.take_of_length_le (by rw [leI_length]; omega)]
      have e2 : (leI (b.length : Int) 4 ++ [0]).getD 4 0 = 0 := by
        have := leI_length (b.length : Int) 4
        rw [List.getD_eq_getElem?_getD, List.getElem?_append_right (by omega), this]; rfl
      simp only [Res.bind, e1, e2, signed_leI4 (b.length : Int) (by omega) (by omega)]
      rw [if_neg (by omega), show ((b.length : Int)).toNat = b.length by omega, take_app rfl]
    · cases h
  rw [if_neg c] at h
  by_cases c : k = 9
  · rw [if_pos c] at h; subst c
    split at h
    · rename_i hb
      simp only [Bool.and_eq_true, beq_iff_eq] at hb
      obtain ⟨hb, hl⟩ := hb
      have hl' : b.length = 12 := hl
      obtain ⟨h1, h2, h3, h4, h5⟩ := bare_n hb
      obtain rfl := h1 rfl; obtain rfl := h2 rfl; obtain rfl := h4 rfl; obtain rfl := h5 rfl
      injection h with h
      subst h
      refine ⟨?_, rfl⟩
      show ident (b ++ r) = _
      unfold ident
      rw [take_app hl']; rfl
    · cases h
  rw [if_neg c] at h
  cases h
theorem row_cons {e : Val → Option (List Nat)} {s : ByteArray} {v : Val} {fs : List (ByteArray × Val)} {bs : List Nat} (h : row e ((s, v) :: fs) = some bs) :
    ∃ x y, nameMay s = true ∧ e v = some x ∧ row e fs = some y ∧ bs = code v.kind :: (bytes s ++ (0 :: (x ++ y))) := by
  rw [row] at h
  cases h1 : nameMay s with
  | false => rw [h1] at h; simp at h
  | true =>
    cases h2 : e v with
    | none => rw [h1, h2] at h; simp at h
    | some x =>
      cases h3 : row e fs with
      | none => rw [h1, h2, h3] at h; simp at h
      | some y =>
        rw [h1, h2, h3] at h
        injection h with h
        exact ⟨x, y, rfl, rfl, rfl, h.symm⟩
theorem row_length {e : Val → Option (List Nat)} : ∀ {fs : List (ByteArray × Val)} {bs : List Nat}, row e fs = some bs → 2 * fs.length ≤ bs.length
  | [], _, h => by simp
  | (s, v) :: fs, bs, h => by
    obtain ⟨x, y, _, _, hy, rfl⟩ := row_cons h
    have := row_length hy
    simp; omega
theorem loop_app {val : Nat → List Nat → Res Val} {e : Val → Option (List Nat)} {M : Nat} (hv : ∀ v bs, e v = some bs → bs.length < M → ∀ r, val (code v.kind) (bs ++ r) = .ok v r ∧ known (code v.kind) = true) (list : Bool) :
    ∀ (fs : List (ByteArray × Val)) (bs : List Nat) (acc : List (ByteArray × Val)) (g : Nat) (r : List Nat), row e fs = some bs → bs.length < M → fs.length < g → ((acc ++ fs).map (·.1)).Nodup →
      (list = true → ∀ i, i < fs.length → (fs.map (·.1))[i]? = some (digits (acc.length + i))) → loop val list g acc (bs ++ (0 :: r)) = .ok (acc ++ fs) r
  | [], bs, acc, g, r, h, _, hg, _, _ => by
    injection h with h; subst h
    obtain ⟨g, rfl⟩ : ∃ g', g = g' + 1 := ⟨g - 1, by simp at hg; omega⟩
    simp [loop]
  | (s, v) :: fs, bs, acc, g, r, h, hM, hg, hnd, hli => by
    obtain ⟨x, y, hs, hx, hy, rfl⟩ := row_cons h
    obtain ⟨g, rfl⟩ : ∃ g', g = g' + 1 := ⟨g - 1, by simp at hg; omega⟩
    have hk := (hv v x hx (by simp at hM; omega) []).2
    have hk0 : code v.kind ≠ 0 := by intro e0; rw [e0] at hk; simp [known] at hk
    have e0 : code v.kind :: (bytes s ++ (0 :: (x ++ y))) ++ (0 :: r) = code v.kind :: (bytes s ++ (0 :: (x ++ (y ++ (0 :: r))))) := by simp
    rw [e0, loop, if_neg hk0, hk, if_neg (by simp), name_app hs]
    simp only [Res.bind]
    have hn : ¬ (list = true ∧ s ≠ digits acc.length) := by
      rintro ⟨h1, h2⟩
      have := hli h1 0 (by simp)
      simp at this
      exact h2 this
    have ht : ¬ (acc.any (fun p => decide (p.1 = s)) = true) := by
      rw [any_name]
      intro hm
      rw [List.map_append, List.nodup_append] at hnd
      exact hnd.2.2 s hm s (by simp) rfl
    rw [if_neg hn, if_neg ht, (hv v x hx (by simp at hM; omega) _).1]
    simp only
    rw [loop_app hv list fs y (acc ++ [(s, v)]) g r hy (by simp at hM; omega) (by simp at hg; omega) (by simpa using hnd) (fun h1 i hi => by
      have := hli h1 (i + 1) (by simpa using hi)
      simp only [List.map_cons, List.getElem?_cons_succ] at this
      rw [this]; congr 2; simp; omega)]
    simp
theorem named_names (l : List Val) : ∀ i, i < l.length → ((named l).map (·.1))[i]? = some (digits i) := by
  intro i hi
  simp [named, hi]
theorem named_vals (l : List Val) : (named l).map (·.2) = l := by
  unfold named
  apply List.ext_getElem
  · simp
  · intro i h1 h2; simp
theorem named_length (l : List Val) : (named l).length = l.length := by simp [named]
theorem named_nodup (l : List Val) : ((named l).map (·.1)).Nodup := by
  unfold List.Nodup
  rw [List.pairwise_iff_getElem]
  intro i j hi hj hij h
  have hj' : j < l.length := by simpa [named] using hj
  have e1 := named_names l i (by omega)
  have e2 := named_names l j hj'
  rw [List.getElem?_eq_getElem (by omega)] at e1
  rw [List.getElem?_eq_getElem (by omega)] at e2
  rw [h] at e1
  have := digits_inj (Option.some.inj (e1.symm.trans e2))
  omega
theorem wrap_take (l r : List Nat) : take 4 (wrap l ++ r) = .ok (leI ((l.length : Int) + 5) 4) (l ++ (0 :: r)) := by
  have : wrap l ++ r = leI ((l.length : Int) + 5) 4 ++ (l ++ (0 :: r)) := by simp [wrap]
  rw [this, take_app (leI_length _ _)]
mutual
theorem doc_app : ∀ (d : Nat) (v : Val) (bs : List Nat) (list : Bool) (outer : Option Nat), enc d v = some bs → bs.length < 2147483648 → v.kind = (if list then 7 else 6) → (∀ n, outer = some n → bs.length = n) → ∀ r, doc d list outer (bs ++ r) = .ok v r
  | 0, v, bs, list, outer, h, _, hk, _ => by
    have := scalar_kind h
    cases list <;> simp at hk <;> omega
  | d + 1, v, bs, list, outer, h, hlen, hk, ho => by
    intro r
    obtain ⟨k, n, s, b, f, l⟩ := v
    have hk' : k = (if list then 7 else 6) := hk
    have fin : ∀ fs y, bs = wrap y → row (enc d) fs = some y → (fs.map (·.1)).Nodup → (list = true → ∀ i, i < fs.length → (fs.map (·.1))[i]? = some (digits i)) → shut list fs = .mk k n s b f l → doc (d + 1) list outer (bs ++ r) = .ok (.mk k n s b f l) r := by
      intro fs y hbs hy hnd hnm hsh
      subst hbs
      rw [wrap_length] at hlen
      have hs : signed (leI ((y.length : Int) + 5) 4) = (y.length : Int) + 5 := signed_leI4 _ (by omega) (by omega)
      rw [doc, wrap_take]
      simp only [Res.bind, hs]
      have h1 : ¬ ((y.length : Int) + 5 < 5 ∨ ∃ n, outer = some n ∧ (y.length : Int) + 5 ≠ n) := by
        rintro (h | ⟨n, h1, h2⟩)
        · omega
        · have := ho n h1; rw [wrap_length] at this; omega
      have hg : fs.length < (y ++ (0 :: r)).length + 1 := by have := row_length hy; simp; omega
      rw [if_neg h1, loop_app (M := 2147483648) (fun v bs h1 h2 r => val_app d v bs h1 h2 r) list fs y [] _ r hy (by omega) hg (by simpa using hnd) (fun h i hi => by simpa using hnm h i hi)]
      simp only [List.nil_append]
      rw [if_neg (by simp [wrap_length]; try omega), hsh]
    cases list with
    | false =>
      obtain rfl : k = 6 := hk'
      rw [enc_doc _ _ rfl] at h
      split at h
      · rename_i hb
        simp only [Bool.and_eq_true, decide_eq_true_eq] at hb
        obtain ⟨hb, hnd⟩ := hb
        obtain ⟨h1, h2, h3, h4, h5⟩ := bare_n hb
        obtain rfl := h1 rfl; obtain rfl := h2 rfl; obtain rfl := h3 rfl; obtain rfl := h5 rfl
        cases hy : row (enc d) f with
        | none => have : (row (enc d) f).map wrap = some bs := h
                  rw [hy] at this; cases this
        | some y =>
          have : (row (enc d) f).map wrap = some bs := h
          rw [hy] at this
          injection this with this
          exact fin f y this.symm hy hnd (fun h => by cases h) rfl
      · cases h
    | true =>
      obtain rfl : k = 7 := hk'
      rw [enc_list _ _ rfl] at h
      split at h
      · rename_i hb
        obtain ⟨h1, h2, h3, h4, h5⟩ := bare_n hb
        obtain rfl := h1 rfl; obtain rfl := h2 rfl; obtain rfl := h3 rfl; obtain rfl := h4 rfl
        cases hy : row (enc d) (named l) with
        | none => have : (row (enc d) (named l)).map wrap = some bs := h
                  rw [hy] at this; cases this
        | some y =>
          have : (row (enc d) (named l)).map wrap = some bs := h
          rw [hy] at this
          injection this with this
          exact fin (named l) y this.symm hy (named_nodup l) (fun _ i hi => named_names l i (by rwa [named_length] at hi)) (by simp [shut, named_vals])
      · cases h
theorem val_app : ∀ (d : Nat) (v : Val) (bs : List Nat), enc d v = some bs → bs.length < 2147483648 → ∀ r, valOf (doc d false none) (doc d true none) (code v.kind) (bs ++ r) = .ok v r ∧ known (code v.kind) = true := by
  intro d v bs h hlen r
  by_cases c6 : v.kind = 6
  · have := doc_app d v bs false none h hlen (by simpa using c6) (fun n h => by cases h) r
    rw [c6]
    exact ⟨this, rfl⟩
  by_cases c7 : v.kind = 7
  · have := doc_app d v bs true none h hlen (by simpa using c7) (fun n h => by cases h) r
    rw [c7]
    exact ⟨this, rfl⟩
  · have hs : scalar v = some bs := by
      cases d with
      | zero => exact h
      | succ d => rwa [enc, if_neg c6, if_neg c7] at h
    obtain ⟨h1, h2⟩ := scalar_app hs hlen r
    refine ⟨?_, h2⟩
    have n3 : code v.kind ≠ 3 := by
      intro e; rw [e] at h1; simp [scalarOf] at h1
    have n4 : code v.kind ≠ 4 := by
      intro e; rw [e] at h1; simp [scalarOf] at h1
    rw [valOf, if_neg n3, if_neg n4, h1]
end
/-- WHAT IS ENCODED IS DECODED AS IT. -/
theorem enc_decode {v : Val} {bs : List Nat} (h : enc 32 v = some bs) (hk : v.kind = 6) (hlen : bs.length ≤ 65536) : decode bs = (0, v) := by
  unfold decode
  rw [if_neg (by omega)]
  have := doc_app 32 v bs false (some bs.length) h (by omega) (by simpa using hk) (fun n h => by injection h) []
  rw [List.append_nil] at this
  rw [this]
/-- A document's bytes, cut, or with one behind them. -/
theorem cut_short {l : List Nat} (h : l.length < 4) : decode l = (2, zero) := by
  unfold decode
  rw [if_neg (by omega), doc, take, if_pos h]; rfl
theorem cut_form {bs l : List Nat} {v : Val} (h : enc 32 v = some bs) (hk : v.kind = 6) (hlen : bs.length ≤ 65536) (hl : 4 ≤ l.length) (hh : l.take 4 = bs.take 4) (hne : l.length ≠ bs.length) (hm : l.length ≤ 65536) : decode l = (4, zero) := by
  obtain ⟨k, n, s, b, f, l'⟩ := v
  obtain rfl : k = 6 := hk
  rw [enc_doc _ _ rfl] at h
  split at h
  · cases hy : row (enc 31) f with
    | none => have : (row (enc 31) f).map wrap = some bs := h
              rw [hy] at this; cases this
    | some y =>
      have : (row (enc 31) f).map wrap = some bs := h
      rw [hy] at this
      injection this with this
      subst this
      rw [wrap_length] at hlen hne
      have e4 : (wrap y).take 4 = leI ((y.length : Int) + 5) 4 := by
        unfold wrap
        rw [List.take_append_of_le_length (by rw [leI_length]; omega), List.take_of_length_le (by rw [leI_length]; omega)]
      unfold decode
      rw [if_neg (by omega), doc, take, if_neg (by omega), hh, e4]
      simp only [Res.bind]
      rw [if_pos (.inr ⟨_, rfl, by rw [signed_leI4 _ (by omega) (by omega)]; omega⟩)]
  · cases h
end Bson
end
section
namespace Go.Proofs.YtpiookgkkaafeaaDoor
open Go.RowKit
open Seal
/-- The text that bytes make. -/
def strB (l : List Nat) : ByteArray := ⟨(l.map UInt8.ofNat).toArray⟩
theorem strB_inj {l m : List Nat} (hl : Oct l) (hm : Oct m) (h : strB l = strB m) : l = m := by
  have e : l.map UInt8.ofNat = m.map UInt8.ofNat := by
    have := congrArg (fun b : ByteArray => b.data.toList) h
    simpa [strB] using this
  have e2 : (l.map UInt8.ofNat).map UInt8.toNat = (m.map UInt8.ofNat).map UInt8.toNat := by rw [e]
  rw [List.map_map, List.map_map] at e2
  have id1 : ∀ l : List Nat, Oct l → l.map (UInt8.toNat ∘ UInt8.ofNat) = l := by
    intro l hl
    induction l with
    | nil => rfl
    | cons c r ih =>
      have hc : c < 256 := hl c (by simp)
      rw [List.map_cons, ih (fun x hx => hl x (by simp [hx]))]
      simp [Nat.mod_eq_of_lt hc]
  rw [id1 l hl, id1 m hm] at e2
  exact e2
/-- A block of bytes that was just made, whatever of it is frozen. -/
theorem reads_new (w : World) (l : List Nat) (t : TypeId) (fr : Nat × Nat) : Reads (w.alloc (.cells (u8s l).toArray t fr)) w.heap.size 0 l := by
  intro j hj
  rw [Nat.zero_add, cell_of_row _ w.heap.size j _ _ _ (heap_alloc_new w _)]
  simp [u8s, u8, List.getElem?_eq_getElem hj, List.getD_eq_getElem?_getD]
set_option maxRecDepth 100000 in
theorem conv_str (w : World) (a : Option Addr) (n c : Nat) (l : List Nat) (hl : l.length = n) (h : SliceIs w a l) : (convert 22 9 (.slice a n c)).run Tryd.prog w = .ok (.string (strB l)) w := by
  subst hl
  rcases h with rfl | ⟨b, off, rfl, h⟩
  · cases a with
    | none => exact run_convert_bytes_nil w 22 5 Tryd.underlying22 Tryd.underlying5 0 c 9 Tryd.underlying9
    | some a =>
      rw [List.length_nil, run_convert_bytes_string w 22 9 5 _ 0 c Tryd.underlying22 Tryd.underlying5 Tryd.underlying9, run_bytesToString w a 0 c [] (by simpa using run_loadCells_list (P := Tryd.prog) w a [] (by simp))]
      rfl
  · have := run_convert_bytes_arg w 22 5 Tryd.underlying22 Tryd.underlying5 b off l.length c (l.map fun n : Nat => (n : Int)) (by simp) (fun i hi => by
      rw [h i hi]; simp [List.getD_eq_getElem?_getD, List.getElem?_eq_getElem hi]) 9 Tryd.underlying9
    rw [this]
    congr 3
    unfold strOfNums strB; rw [List.map_map]; congr 3
end Go.Proofs.YtpiookgkkaafeaaDoor
end
section
namespace Go.Proofs.YtpiookgkkaafeaaDoor
open Go.RowKit
def DInv (Vc : List Value) (Ph : (Nat → Bool) → World → Prop) (D : Nat → Bool) (V : Nat → Value) (w : World) : Prop := (∀ i, D i = true → V i = Vc.getD i undef) ∧ Ph D w
def yes : Value → Option Bool
  | .bool b => some b
  | _ => none
section
variable {P : Program} {Q : Exit → Act → World → Prop} {md : Region.Mode} {ops : Array Oper} {A : (Nat → Value) → Act} {Vc : List Value} {Ph : (Nat → Bool) → World → Prop} {i : Nat} {o : Oper}
/-- As wp_region_inv, the results' slots told as they stand at the start. -/
theorem wp_region_inv0 {id : Nat} {a : Act} {w : World} {l : List Oper} (A : (Nat → Value) → Act) (I : (Nat → Bool) → (Nat → Value) → World → Prop) (hm : P.follows .mixedOrders = true) (hb : backB .any l 0 = true)
    (hn : nodupB (l.map (·.dst)) = true) (hA : ∀ V, putAll a V (l.map (·.dst)) 0 = A V) (hs : InvSteps P .any l.toArray Q A I l 0)
    (h0 : I (fun _ => false) (own0 a (l.map (·.dst))) { w with drawn := w.drawn + 1 })
    (hend : ∀ D V w', (∀ j, j < l.length → D j = true) → I D V w' → Q .normal (A V) w') : (Code.region id l.toArray true).wp P Q a w := by
  refine wp_region_any hm ?_
  have e0 : a = A (own0 a (l.map (·.dst))) := by
    rw [← hA, putAll_own]
    intro i d hi
    rw [Nat.zero_add, own0, hi]
  have h := inv_any (I := I) hb (fun V i o v ho => by
      rw [← hA, ← hA]
      have := putAll_upd (V := V) v (l.map (·.dst)) 0 i o.dst a hn (by rw [List.getElem?_map, ho]; rfl)
      rwa [Nat.zero_add] at this) hs hend l.toArray.size (Array.replicate l.toArray.size false) (own0 a (l.map (·.dst))) { w with drawn := w.drawn + 1 } (by simp) (by simpa using unl_le _ l.length)
      (by
        have e : (fun j => (Array.replicate l.toArray.size false).getD j false) = fun _ => false := by
          funext j
          by_cases h : j < l.length
          · simp [h]
          · simp [h]
        rw [e]; exact h0)
  rw [← e0] at h
  exact h
theorem DInv.next {D : Nat → Bool} {V : Nat → Value} {w w' : World} (h : DInv Vc Ph D V w) (v : Value) (hv : v = Vc.getD i undef) (hp : Ph (setD D i) w') : DInv Vc Ph (setD D i) (upd V i v) w' := by
  refine ⟨fun j hj => ?_, hp⟩
  unfold setD at hj
  unfold upd
  by_cases e : j = i
  · subst e; rw [if_pos rfl]; exact hv
  · rw [if_neg e] at hj; rw [if_neg e]; exact h.1 j hj
theorem det_free (hg : o.guard = none)
    (h : ∀ (D : Nat → Bool) (V : Nat → Value) (w : World), D i = false → Shut (∀ j, (o.after.any fun e => Region.binds md e && e.on == j) = true → D j = true ∧ V j = Vc.getD j undef) → Ph D w →
      ∀ K : Act → World → Prop, Shut (∀ w', Ph (setD D i) w' → K ((A V).put o.dst (Vc.getD i undef)) w') → Oper.wp P o (A V) w K Q) : InvStep P md ops Q A (DInv Vc Ph) i o := by
  intro D V w hDi hpre hI K hK
  rw [if_pos (show Region.wanted o (yielded ops (A V).tmps) = true by simp [Region.wanted, hg])]
  exact h D V w hDi (fun j hj => ⟨hpre j hj, hI.1 j (hpre j hj)⟩) hI.2 K (fun w' hp => hK _ _ w' rfl (hI.next _ rfl hp))
theorem det_on (j : Nat) (b : Bool) (hg : o.guard = some (j, b)) (ha : (o.after.any fun e => Region.binds md e && e.on == j) = true) (hy : ∀ V, yielded ops (A V).tmps j = yes (V j)) (hv : Vc.getD j undef = .bool b)
    (h : ∀ (D : Nat → Bool) (V : Nat → Value) (w : World), D i = false → Shut (∀ j, (o.after.any fun e => Region.binds md e && e.on == j) = true → D j = true ∧ V j = Vc.getD j undef) → Ph D w →
      ∀ K : Act → World → Prop, Shut (∀ w', Ph (setD D i) w' → K ((A V).put o.dst (Vc.getD i undef)) w') → Oper.wp P o (A V) w K Q) : InvStep P md ops Q A (DInv Vc Ph) i o := by
  intro D V w hDi hpre hI K hK
  have e : V j = .bool b := (hI.1 j (hpre j ha)).trans hv
  rw [if_pos (show Region.wanted o (yielded ops (A V).tmps) = true by simp [Region.wanted, hg, hy, e, yes])]
  exact h D V w hDi (fun j hj => ⟨hpre j hj, hI.1 j (hpre j hj)⟩) hI.2 K (fun w' hp => hK _ _ w' rfl (hI.next _ rfl hp))
theorem det_off (j : Nat) (b : Bool) (hg : o.guard = some (j, b)) (ha : (o.after.any fun e => Region.binds md e && e.on == j) = true) (hy : ∀ V, yielded ops (A V).tmps j = yes (V j)) (hv : Vc.getD j undef = .bool (!b)) (hu : Vc.getD i undef = undef)
    (h : ∀ (D : Nat → Bool) (w : World), D i = false → Shut (∀ j, (o.after.any fun e => Region.binds md e && e.on == j) = true → D j = true) → Ph D w → Ph (setD D i) w) : InvStep P md ops Q A (DInv Vc Ph) i o := by
  intro D V w hDi hpre hI K hK
  have e : V j = .bool (!b) := (hI.1 j (hpre j ha)).trans hv
  rw [if_neg (show ¬ Region.wanted o (yielded ops (A V).tmps) = true by simp [Region.wanted, hg, hy, e, yes])]
  exact hK _ undef w rfl (hI.next _ hu.symm (h D w hDi hpre hI.2))
end
end Go.Proofs.YtpiookgkkaafeaaDoor
end
section
namespace Go.Proofs.YtpiookgkkaafeaaDoor
open Go.RowKit
/-- An operation wrote what the row v owns, and new blocks; v' lies in v's block or in a new one. -/
def Wrote (w w' : World) (v v' : Value) : Prop := w.grownBy w' v.ownBlock ∧ (v'.ownBlock = v.ownBlock ∨ ∃ g, v'.ownBlock = some g ∧ w.heap.size ≤ g)
theorem Wrote.of_lies {w w' : World} {v v' : Value} (h : Lies w w' v v') : Wrote w w' v v' := by
  rcases h with ⟨h1, h2⟩ | ⟨h1, h2⟩
  · exact ⟨h2, .inl h1⟩
  · exact ⟨⟨h2.os, h2.tape, h2.output, h2.size, fun g hg _ => h2.block g hg nofun⟩, .inr ⟨_, h1, Nat.le_refl _⟩⟩
theorem Wrote.refl (w : World) (v : Value) : Wrote w w v v := ⟨World.grownBy.refl w _, .inl rfl⟩
theorem Wrote.below {w w' w2 : World} {v v' : Value} (h : Wrote w w' v v') (hb : Below w'.heap.size w' w2) : Wrote w w2 v v' :=
  ⟨⟨hb.os.trans h.1.os, hb.tape.trans h.1.tape, hb.output.trans h.1.output, Nat.le_trans h.1.size hb.size, fun g hg hne => (hb.block g (Nat.lt_of_lt_of_le hg h.1.size)).trans (h.1.block g hg hne)⟩, h.2⟩
theorem Wrote.of_below {w w' w2 : World} {v v' : Value} (hb : Below w.heap.size w w') (h : Wrote w' w2 v v') : Wrote w w2 v v' :=
  ⟨⟨h.1.os.trans hb.os, h.1.tape.trans hb.tape, h.1.output.trans hb.output, Nat.le_trans hb.size h.1.size, fun g hg hne => (h.1.block g (Nat.lt_of_lt_of_le hg hb.size) hne).trans (hb.block g hg)⟩,
    by rcases h.2 with h2 | ⟨g, h2, h3⟩
       · exact .inl h2
       · exact .inr ⟨g, h2, Nat.le_trans hb.size h3⟩⟩
theorem Wrote.trans {w w1 w2 : World} {v v1 v2 : Value} (h : Wrote w w1 v v1) (h' : Wrote w1 w2 v1 v2) : Wrote w w2 v v2 := by
  refine ⟨⟨h'.1.os.trans h.1.os, h'.1.tape.trans h.1.tape, h'.1.output.trans h.1.output, Nat.le_trans h.1.size h'.1.size, fun g hg hne => ?_⟩, ?_⟩
  · refine (h'.1.block g (Nat.lt_of_lt_of_le hg h.1.size) ?_).trans (h.1.block g hg hne)
    rcases h.2 with h2 | ⟨g2, h2, h3⟩
    · rw [h2]; exact hne
    · rw [h2]; intro e; have := Option.some.inj e; omega
  · rcases h'.2 with h2 | ⟨g2, h2, h3⟩
    · rw [h2]; exact h.2
    · exact .inr ⟨g2, h2, Nat.le_trans h.1.size h3⟩
theorem owns_below {w w' : World} {base : Nat} {e : TypeId} {size : Nat} {v : Value} {n : Nat} {xs : List Value} (h : w.ownsRow base e size v n xs) (hb : Below w.heap.size w w') : w'.ownsRow base e size v n xs := by
  obtain ⟨h1, h2 | ⟨g, cap, cur, e, hg, hrow, h3⟩⟩ := h
  · exact ⟨h1, .inl h2⟩
  · exact ⟨h1, .inr ⟨g, cap, cur, e, hg, (hb.block g (Array.getElem?_eq_some_iff.1 hrow).1).trans hrow, h3⟩⟩
theorem owns_block {w : World} {base : Nat} {e : TypeId} {size : Nat} {v : Value} {n : Nat} {xs : List Value} (h : w.ownsRow base e size v n xs) {g : Nat} (hg : v.ownBlock = some g) : base ≤ g ∧ g < w.heap.size := by
  obtain ⟨_, ⟨rfl, _⟩ | ⟨b, cap, cur, rfl, hb, hrow, _⟩⟩ := h
  · cases hg
  · obtain rfl : b = g := Option.some.inj hg
    exact ⟨hb, (Array.getElem?_eq_some_iff.1 hrow).1⟩
/-- The row, where its block is as it was. -/
theorem owns_same {w w' : World} {base : Nat} {e : TypeId} {size : Nat} {v : Value} {n : Nat} {xs : List Value} (h : w.ownsRow base e size v n xs) (hb : ∀ g, v.ownBlock = some g → w'.heap[g]? = w.heap[g]?) : w'.ownsRow base e size v n xs := by
  obtain ⟨h1, h2 | ⟨g, cap, cur, rfl, hg, hrow, h3⟩⟩ := h
  · exact ⟨h1, .inl h2⟩
  · exact ⟨h1, .inr ⟨g, cap, cur, rfl, hg, (hb g rfl).trans hrow, h3⟩⟩
end Go.Proofs.YtpiookgkkaafeaaDoor
end
