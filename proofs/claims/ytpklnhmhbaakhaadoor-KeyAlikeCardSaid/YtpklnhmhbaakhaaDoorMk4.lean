/- TabBase, BsonForth, BytesStr, KeyHash. -/
import Derived.Test.YtpklnhmhbaakhaaDoorCards
import Derived.Test.YtpklnhmhbaakhaaDoorTie
import Derived.Lib.LaidU8T
import Derived.Deep.DeepWitnessRowRef
import Derived.SizedLaws
import Derived.Lay
import Derived.WalkLawsBesides
import Derived.Laws.BytesArg
import Derived.IntWalk
import Derived.Laws.BitsAllLaws
import Derived.Test.YtpklnhmhbaakhaaDoorMk0
import Derived.Test.YtpklnhmhbaakhaaDoorMk2
import Derived.Test.YtpklnhmhbaakhaaDoorMk3
set_option maxRecDepth 100000
section
namespace Go.Proofs.YtpklnhmhbaakhaaDoor
open Go.ChangeShapes Go.WideShapes Go.ChangeAt Go.RowKit
def laidList : List (String × DataW Unit) := [("unicode/utf8.acceptRanges", Rows.laid_unicode_utf8_acceptRanges), ("unicode/utf8.first", Rows.laid_unicode_utf8_first)]
theorem laidList_eq : laidList = [("unicode/utf8.acceptRanges", Lib.acceptData), ("unicode/utf8.first", Lib.firstData)] := by kernel_rfl
noncomputable def laidWorld (os : Os) : World := World.laidAll Tryd.prog os laidList
theorem laid_met_all (os : Os) (args : Array Value) : laidMet Tryd.prog laidList ((laidWorld os).forCall (fun _ _ => 0) ⟨#[], args, []⟩).memory :=
  laidMet_laidAll args (by kernel_rfl) (by kernel_rfl)
end Go.Proofs.YtpklnhmhbaakhaaDoor
end
section
namespace Bson
open Go
theorem size_zero {s : ByteArray} (h : s.size = 0) : s = none_ := by
  apply bytes_inj
  have h1 := bytes_length s
  rw [h] at h1
  rw [List.length_eq_zero_iff.1 h1]
  rfl
theorem bare_n {k n : Int} {s : ByteArray} {b : List Nat} {f : List (ByteArray × Val)} {l : List Val} {sn ss sb sf sl : Bool} (h : bare (.mk k n s b f l) sn ss sb sf sl = true) :
    (sn = false → n = 0) ∧ (ss = false → s = none_) ∧ (sb = false → b = []) ∧ (sf = false → f = []) ∧ (sl = false → l = []) := by
  simp only [bare, Val.n, Val.s, Val.b, Val.f, Val.l, Bool.and_eq_true, Bool.or_eq_true, beq_iff_eq, List.isEmpty_iff] at h
  obtain ⟨⟨⟨⟨h1, h2⟩, h3⟩, h4⟩, h5⟩ := h
  refine ⟨fun e => ?_, fun e => ?_, fun e => ?_, fun e => ?_, fun e => ?_⟩
  · rcases h1 with h | h
    · rw [e] at h; cases h
    · exact h
  · rcases h2 with h | h
    · rw [e] at h; cases h
    · exact size_zero h
  · rcases h3 with h | h
    · rw [e] at h; cases h
    · exact h
  · rcases h4 with h | h
    · rw [e] at h; cases h
    · exact h
  · rcases h5 with h | h
    · rw [e] at h; cases h
    · exact h
theorem scalar_app {v : Val} {bs : List Nat} (h : scalar v = some bs) (hlen : bs.length < 2147483648) (r : List Nat) : scalarOf (code v.kind) (bs ++ r) = .ok v r ∧ known (code v.kind) = true := by
  obtain ⟨k, n, s, b, f, l⟩ := v
  change scalarP k n s b (.mk k n s b f l) = some bs at h
  unfold scalarP at h
  show scalarOf (code k) (bs ++ r) = _ ∧ known (code k) = true
  by_cases c : k = 1 ∨ k = 2 ∨ k = 12
  · rw [if_pos c] at h
    split at h
    · rename_i hb
      obtain ⟨h1, h2, h3, h4, h5⟩ := bare_n hb
      obtain rfl := h1 rfl; obtain rfl := h2 rfl; obtain rfl := h3 rfl; obtain rfl := h4 rfl; obtain rfl := h5 rfl
      injection h with h; subst h
      rcases c with rfl | rfl | rfl <;> exact ⟨by simp [scalarOf, code], rfl⟩
    · cases h
  rw [if_neg c] at h
  by_cases c : k = 3
  · rw [if_pos c] at h; subst c
    split at h
    · rename_i hb
      simp only [Bool.and_eq_true, decide_eq_true_eq] at hb
      obtain ⟨⟨hb, h6⟩, h7⟩ := hb
      obtain ⟨h1, h2, h3, h4, h5⟩ := bare_n hb
      obtain rfl := h2 rfl; obtain rfl := h3 rfl; obtain rfl := h4 rfl; obtain rfl := h5 rfl
      injection h with h; subst h
      refine ⟨?_, rfl⟩
      show number 3 4 (leI n 4 ++ r) = _
      unfold number
      rw [take_app (leI_length _ _)]
      simp only [Res.bind, signed_leI4 n h6 h7]
    · cases h
  rw [if_neg c] at h
  by_cases c : k = 4 ∨ k = 11
  · rw [if_pos c] at h
    split at h
    · rename_i hb
      simp only [Bool.and_eq_true, decide_eq_true_eq] at hb
      obtain ⟨⟨hb, h6⟩, h7⟩ := hb
      obtain ⟨h1, h2, h3, h4, h5⟩ := bare_n hb
      obtain rfl := h2 rfl; obtain rfl := h3 rfl; obtain rfl := h4 rfl; obtain rfl := h5 rfl
      injection h with h; subst h
      rcases c with rfl | rfl
      · refine ⟨?_, rfl⟩
        show number 4 8 (leI n 8 ++ r) = _
        unfold number
        rw [take_app (leI_length _ _)]
        simp only [Res.bind, signed_leI8 n h6 h7]
      · refine ⟨?_, rfl⟩
        show number 11 8 (leI n 8 ++ r) = _
        unfold number
        rw [take_app (leI_length _ _)]
        simp only [Res.bind, signed_leI8 n h6 h7]
    · cases h
  rw [if_neg c] at h
  by_cases c : k = 10
  · rw [if_pos c] at h; subst c
    split at h
    · rename_i hb
      simp only [Bool.and_eq_true, Bool.or_eq_true, beq_iff_eq] at hb
      obtain ⟨hb, h6⟩ := hb
      obtain ⟨h1, h2, h3, h4, h5⟩ := bare_n hb
      obtain rfl := h2 rfl; obtain rfl := h3 rfl; obtain rfl := h4 rfl; obtain rfl := h5 rfl
      injection h with h; subst h
      refine ⟨?_, rfl⟩
      show bool (leI n 1 ++ r) = _
      have h6' : n = 0 ∨ n = 1 := h6
      unfold bool
      rw [take_app (leI_length _ _)]
      simp only [Res.bind, signed_leI1 n (by omega) (by omega)]
      rw [if_neg (by omega)]
    · cases h
  rw [if_neg c] at h
  by_cases c : k = 5
  · rw [if_pos c] at h; subst c
    split at h
    · rename_i hb
      simp only [Bool.and_eq_true] at hb
      obtain ⟨hb, hu⟩ := hb
      have hu' : u8 s = true := hu
      obtain ⟨h1, h2, h3, h4, h5⟩ := bare_n hb
      obtain rfl := h1 rfl; obtain rfl := h3 rfl; obtain rfl := h4 rfl; obtain rfl := h5 rfl
      injection h with h
      subst h
      simp only [List.length_append, leI_length, bytes_length, List.length_singleton] at hlen
      refine ⟨?_, rfl⟩
      show text (leI ((s.size : Int) + 1) 4 ++ (bytes s ++ [0]) ++ r) = _
      unfold text
      rw [List.append_assoc, take_app (leI_length _ _)]
      simp only [Res.bind, signed_leI4 ((s.size : Int) + 1) (by omega) (by omega)]
      rw [if_neg (by omega), show ((s.size : Int) + 1).toNat = s.size + 1 by omega, take_app (by simp [bytes_length])]
      have e1 : (bytes s ++ [0]).length - 1 = (bytes s).length := by simp
      simp only [e1]
      have e2 : (bytes s ++ [0]).getD (bytes s).length 0 = 0 := by simp [List.getD_eq_getElem?_getD]
      have e3 : (bytes s ++ [0]).take (bytes s).length = bytes s := by simp
      rw [e2, e3, ofBytes_bytes, hu', if_neg (by simp), if_neg (by simp)]
    · cases h
  rw [if_neg c] at h
  by_cases c : k = 8
  · rw [if_pos c] at h; subst c
    split at h
    · rename_i hb
      obtain ⟨h1, h2, h3, h4, h5⟩ := bare_n hb
      obtain rfl := h1 rfl; obtain rfl := h2 rfl; obtain rfl := h4 rfl; obtain rfl := h5 rfl
      injection h with h
      subst h
      simp only [List.length_append, leI_length, List.length_cons] at hlen
      refine ⟨?_, rfl⟩
      show blob (leI (b.length : Int) 4 ++ (0 :: b) ++ r) = _
      unfold blob
      have e0 : leI (b.length : Int) 4 ++ (0 :: b) ++ r = (leI (b.length : Int) 4 ++ [0]) ++ (b ++ r) := by simp
      rw [e0, take_app (by simp [leI_length])]
      have e1 : (leI (b.length : Int) 4 ++ [0]).take 4 = leI (b.length : Int) 4 := by
        rw [List.take_append_of_le_length (by rw [leI_length]; omega), List.take_of_length_le (by rw [leI_length]; omega)]
      have e2 : (leI (b.length : Int) 4 ++ [0]).getD 4 0 = 0 := by
        have := leI_length (b.length : Int) 4
        rw [List.getD_eq_getElem?_getD, List.getElem?_append_right (by omega), this]; rfl
      simp only [Res.bind, e1, e2, signed_leI4 (b.length : Int) (by omega) (by omega)]
      rw [if_neg (by omega), show ((b.length : Int)).toNat = b.length by omega, take_app rfl]
    · cases h
  rw [if_neg c] at h
  by_cases c : k = 9
  · rw [if_pos c] at h; subst c
    split at h
    · rename_i hb
      simp only [Bool.and_eq_true, beq_iff_eq] at hb
      obtain ⟨hb, hl⟩ := hb
      have hl' : b.length = 12 := hl
      obtain ⟨h1, h2, h3, h4, h5⟩ := bare_n hb
      obtain rfl := h1 rfl; obtain rfl := h2 rfl; obtain rfl := h4 rfl; obtain rfl := h5 rfl
      injection h with h
      subst h
      refine ⟨?_, rfl⟩
      show ident (b ++ r) = _
      unfold ident
      rw [take_app hl']; rfl
    · cases h
  rw [if_neg c] at h
  cases h
theorem row_cons {e : Val → Option (List Nat)} {s : ByteArray} {v : Val} {fs : List (ByteArray × Val)} {bs : List Nat} (h : row e ((s, v) :: fs) = some bs) :
    ∃ x y, nameMay s = true ∧ e v = some x ∧ row e fs = some y ∧ bs = code v.kind :: (bytes s ++ (0 :: (x ++ y))) := by
  rw [row] at h
  cases h1 : nameMay s with
  | false => rw [h1] at h; simp at h
  | true =>
    cases h2 : e v with
    | none => rw [h1, h2] at h; simp at h
    | some x =>
      cases h3 : row e fs with
      | none => rw [h1, h2, h3] at h; simp at h
      | some y =>
        rw [h1, h2, h3] at h
        injection h with h
        exact ⟨x, y, rfl, rfl, rfl, h.symm⟩
theorem row_length {e : Val → Option (List Nat)} : ∀ {fs : List (ByteArray × Val)} {bs : List Nat}, row e fs = some bs → 2 * fs.length ≤ bs.length
  | [], _, h => by simp
  | (s, v) :: fs, bs, h => by
    obtain ⟨x, y, _, _, hy, rfl⟩ := row_cons h
    have := row_length hy
    simp; omega
theorem loop_app {val : Nat → List Nat → Res Val} {e : Val → Option (List Nat)} {M : Nat} (hv : ∀ v bs, e v = some bs → bs.length < M → ∀ r, val (code v.kind) (bs ++ r) = .ok v r ∧ known (code v.kind) = true) (list : Bool) :
    ∀ (fs : List (ByteArray × Val)) (bs : List Nat) (acc : List (ByteArray × Val)) (g : Nat) (r : List Nat), row e fs = some bs → bs.length < M → fs.length < g → ((acc ++ fs).map (·.1)).Nodup →
      (list = true → ∀ i, i < fs.length → (fs.map (·.1))[i]? = some (digits (acc.length + i))) → loop val list g acc (bs ++ (0 :: r)) = .ok (acc ++ fs) r
  | [], bs, acc, g, r, h, _, hg, _, _ => by
    injection h with h; subst h
    obtain ⟨g, rfl⟩ : ∃ g', g = g' + 1 := ⟨g - 1, by simp at hg; omega⟩
    simp [loop]
  | (s, v) :: fs, bs, acc, g, r, h, hM, hg, hnd, hli => by
    obtain ⟨x, y, hs, hx, hy, rfl⟩ := row_cons h
    obtain ⟨g, rfl⟩ : ∃ g', g = g' + 1 := ⟨g - 1, by simp at hg; omega⟩
    have hk := (hv v x hx (by simp at hM; omega) []).2
    have hk0 : code v.kind ≠ 0 := by intro e0; rw [e0] at hk; simp [known] at hk
    have e0 : code v.kind :: (bytes s ++ (0 :: (x ++ y))) ++ (0 :: r) = code v.kind :: (bytes s ++ (0 :: (x ++ (y ++ (0 :: r))))) := by simp
    rw [e0, loop, if_neg hk0, hk, if_neg (by simp), name_app hs]
    simp only [Res.bind]
    have hn : ¬ (list = true ∧ s ≠ digits acc.length) := by
      rintro ⟨h1, h2⟩
      have := hli h1 0 (by simp)
      simp at this
      exact h2 this
    have ht : ¬ (acc.any (fun p => decide (p.1 = s)) = true) := by
      rw [any_name]
      intro hm
      rw [List.map_append, List.nodup_append] at hnd
      exact hnd.2.2 s hm s (by simp) rfl
    rw [if_neg hn, if_neg ht, (hv v x hx (by simp at hM; omega) _).1]
    simp only
    rw [loop_app hv list fs y (acc ++ [(s, v)]) g r hy (by simp at hM; omega) (by simp at hg; omega) (by simpa using hnd) (fun h1 i hi => by
      have := hli h1 (i + 1) (by simpa using hi)
      simp only [List.map_cons, List.getElem?_cons_succ] at this
      rw [this]; congr 2; simp; omega)]
    simp
theorem named_names (l : List Val) : ∀ i, i < l.length → ((named l).map (·.1))[i]? = some (digits i) := by
  intro i hi
  simp [named, hi]
theorem named_vals (l : List Val) : (named l).map (·.2) = l := by
  unfold named
  apply List.ext_getElem
  · simp
  · intro i h1 h2; simp
theorem named_length (l : List Val) : (named l).length = l.length := by simp [named]
theorem named_nodup (l : List Val) : ((named l).map (·.1)).Nodup := by
  unfold List.Nodup
  rw [List.pairwise_iff_getElem]
  intro i j hi hj hij h
  have hj' : j < l.length := by simpa [named] using hj
  have e1 := named_names l i (by omega)
  have e2 := named_names l j hj'
  rw [List.getElem?_eq_getElem (by omega)] at e1
  rw [List.getElem?_eq_getElem (by omega)] at e2
  rw [h] at e1
  have := digits_inj (Option.some.inj (e1.symm.trans e2))
  omega
theorem wrap_take (l r : List Nat) : take 4 (wrap l ++ r) = .ok (leI ((l.length : Int) + 5) 4) (l ++ (0 :: r)) := by
  have : wrap l ++ r = leI ((l.length : Int) + 5) 4 ++ (l ++ (0 :: r)) := by simp [wrap]
  rw [this, take_app (leI_length _ _)]
mutual
theorem doc_app : ∀ (d : Nat) (v : Val) (bs : List Nat) (list : Bool) (outer : Option Nat), enc d v = some bs → bs.length < 2147483648 → v.kind = (if list then 7 else 6) → (∀ n, outer = some n → bs.length = n) → ∀ r, doc d list outer (bs ++ r) = .ok v r
  | 0, v, bs, list, outer, h, _, hk, _ => by
    have := scalar_kind h
    cases list <;> simp at hk <;> omega
  | d + 1, v, bs, list, outer, h, hlen, hk, ho => by
    intro r
    obtain ⟨k, n, s, b, f, l⟩ := v
    have hk' : k = (if list then 7 else 6) := hk
    have fin : ∀ fs y, bs = wrap y → row (enc d) fs = some y → (fs.map (·.1)).Nodup → (list = true → ∀ i, i < fs.length → (fs.map (·.1))[i]? = some (digits i)) → shut list fs = .mk k n s b f l → doc (d + 1) list outer (bs ++ r) = .ok (.mk k n s b f l) r := by
      intro fs y hbs hy hnd hnm hsh
      subst hbs
      rw [wrap_length] at hlen
      have hs : signed (leI ((y.length : Int) + 5) 4) = (y.length : Int) + 5 := signed_leI4 _ (by omega) (by omega)
      rw [doc, wrap_take]
      simp only [Res.bind, hs]
      have h1 : ¬ ((y.length : Int) + 5 < 5 ∨ ∃ n, outer = some n ∧ (y.length : Int) + 5 ≠ n) := by
        rintro (h | ⟨n, h1, h2⟩)
        · omega
        · have := ho n h1; rw [wrap_length] at this; omega
      have hg : fs.length < (y ++ (0 :: r)).length + 1 := by have := row_length hy; simp; omega
      rw [if_neg h1, loop_app (M := 2147483648) (fun v bs h1 h2 r => val_app d v bs h1 h2 r) list fs y [] _ r hy (by omega) hg (by simpa using hnd) (fun h i hi => by simpa using hnm h i hi)]
      simp only [List.nil_append]
      rw [if_neg (by simp [wrap_length]; try omega), hsh]
    cases list with
    | false =>
      obtain rfl : k = 6 := hk'
      rw [enc_doc _ _ rfl] at h
      split at h
      · rename_i hb
        simp only [Bool.and_eq_true, decide_eq_true_eq] at hb
        obtain ⟨hb, hnd⟩ := hb
        obtain ⟨h1, h2, h3, h4, h5⟩ := bare_n hb
        obtain rfl := h1 rfl; obtain rfl := h2 rfl; obtain rfl := h3 rfl; obtain rfl := h5 rfl
        cases hy : row (enc d) f with
        | none => have : (row (enc d) f).map wrap = some bs := h
                  rw [hy] at this; cases this
        | some y =>
          have : (row (enc d) f).map wrap = some bs := h
          rw [hy] at this
          injection this with this
          exact fin f y this.symm hy hnd (fun h => by cases h) rfl
      · cases h
    | true =>
      obtain rfl : k = 7 := hk'
      rw [enc_list _ _ rfl] at h
      split at h
      · rename_i hb
        obtain ⟨h1, h2, h3, h4, h5⟩ := bare_n hb
        obtain rfl := h1 rfl; obtain rfl := h2 rfl; obtain rfl := h3 rfl; obtain rfl := h4 rfl
        cases hy : row (enc d) (named l) with
        | none => have : (row (enc d) (named l)).map wrap = some bs := h
                  rw [hy] at this; cases this
        | some y =>
          have : (row (enc d) (named l)).map wrap = some bs := h
          rw [hy] at this
          injection this with this
          exact fin (named l) y this.symm hy (named_nodup l) (fun _ i hi => named_names l i (by rwa [named_length] at hi)) (by simp [shut, named_vals])
      · cases h
theorem val_app : ∀ (d : Nat) (v : Val) (bs : List Nat), enc d v = some bs → bs.length < 2147483648 → ∀ r, valOf (doc d false none) (doc d true none) (code v.kind) (bs ++ r) = .ok v r ∧ known (code v.kind) = true := by
  intro d v bs h hlen r
  by_cases c6 : v.kind = 6
  · have := doc_app d v bs false none h hlen (by simpa using c6) (fun n h => by cases h) r
    rw [c6]
    exact ⟨this, rfl⟩
  by_cases c7 : v.kind = 7
  · have := doc_app d v bs true none h hlen (by simpa using c7) (fun n h => by cases h) r
    rw [c7]
    exact ⟨this, rfl⟩
  · have hs : scalar v = some bs := by
      cases d with
      | zero => exact h
      | succ d => rwa [enc, if_neg c6, if_neg c7] at h
    obtain ⟨h1, h2⟩ := scalar_app hs hlen r
    refine ⟨?_, h2⟩
    have n3 : code v.kind ≠ 3 := by
      intro e; rw [e] at h1; simp [scalarOf] at h1
    have n4 : code v.kind ≠ 4 := by
      intro e; rw [e] at h1; simp [scalarOf] at h1
    rw [valOf, if_neg n3, if_neg n4, h1]
end
/-- WHAT IS ENCODED IS DECODED AS IT. -/
theorem enc_decode {v : Val} {bs : List Nat} (h : enc 32 v = some bs) (hk : v.kind = 6) (hlen : bs.length ≤ 65536) : decode bs = (0, v) := by
  unfold decode
  rw [if_neg (by omega)]
  have := doc_app 32 v bs false (some bs.length) h (by omega) (by simpa using hk) (fun n h => by injection h) []
  rw [List.append_nil] at this
  rw [this]
/-- A document's bytes, cut, or with one behind them. -/
theorem cut_short {l : List Nat} (h : l.length < 4) : decode l = (2, zero) := by
  unfold decode
  rw [if_neg (by omega), doc, take, if_pos h]; rfl
theorem cut_form {bs l : List Nat} {v : Val} (h : enc 32 v = some bs) (hk : v.kind = 6) (hlen : bs.length ≤ 65536) (hl : 4 ≤ l.length) (hh : l.take 4 = bs.take 4) (hne : l.length ≠ bs.length) (hm : l.length ≤ 65536) : decode l = (4, zero) := by
  obtain ⟨k, n, s, b, f, l'⟩ := v
  obtain rfl : k = 6 := hk
  rw [enc_doc _ _ rfl] at h
  split at h
  · cases hy : row (enc 31) f with
    | none => have : (row (enc 31) f).map wrap = some bs := h
              rw [hy] at this; cases this
    | some y =>
      have : (row (enc 31) f).map wrap = some bs := h
      rw [hy] at this
      injection this with this
      subst this
      rw [wrap_length] at hlen hne
      have e4 : (wrap y).take 4 = leI ((y.length : Int) + 5) 4 := by
        unfold wrap
        rw [List.take_append_of_le_length (by rw [leI_length]; omega), List.take_of_length_le (by rw [leI_length]; omega)]
      unfold decode
      rw [if_neg (by omega), doc, take, if_neg (by omega), hh, e4]
      simp only [Res.bind]
      rw [if_pos (.inr ⟨_, rfl, by rw [signed_leI4 _ (by omega) (by omega)]; omega⟩)]
  · cases h
end Bson
end
section
namespace Go.Proofs.YtpklnhmhbaakhaaDoor
open Go.RowKit
open Seal
/-- The text that bytes make. -/
def strB (l : List Nat) : ByteArray := ⟨(l.map UInt8.ofNat).toArray⟩
theorem strB_inj {l m : List Nat} (hl : Oct l) (hm : Oct m) (h : strB l = strB m) : l = m := by
  have e : l.map UInt8.ofNat = m.map UInt8.ofNat := by
    have := congrArg (fun b : ByteArray => b.data.toList) h
    simpa [strB] using this
  have e2 : (l.map UInt8.ofNat).map UInt8.toNat = (m.map UInt8.ofNat).map UInt8.toNat := by rw [e]
  rw [List.map_map, List.map_map] at e2
  have id1 : ∀ l : List Nat, Oct l → l.map (UInt8.toNat ∘ UInt8.ofNat) = l := by
    intro l hl
    induction l with
    | nil => rfl
    | cons c r ih =>
      have hc : c < 256 := hl c (by simp)
      rw [List.map_cons, ih (fun x hx => hl x (by simp [hx]))]
      simp [Nat.mod_eq_of_lt hc]
  rw [id1 l hl, id1 m hm] at e2
  exact e2
/-- A block of bytes that was just made, whatever of it is frozen. -/
theorem reads_new (w : World) (l : List Nat) (t : TypeId) (fr : Nat × Nat) : Reads (w.alloc (.cells (u8s l).toArray t fr)) w.heap.size 0 l := by
  intro j hj
  rw [Nat.zero_add, cell_of_row _ w.heap.size j _ _ _ (heap_alloc_new w _)]
  simp [u8s, u8, List.getElem?_eq_getElem hj, List.getD_eq_getElem?_getD]
set_option maxRecDepth 100000 in
theorem conv_str (w : World) (a : Option Addr) (n c : Nat) (l : List Nat) (hl : l.length = n) (h : SliceIs w a l) : (convert 23 9 (.slice a n c)).run Tryd.prog w = .ok (.string (strB l)) w := by
  subst hl
  rcases h with rfl | ⟨b, off, rfl, h⟩
  · cases a with
    | none => exact run_convert_bytes_nil w 23 5 Tryd.underlying23 Tryd.underlying5 0 c 9 Tryd.underlying9
    | some a =>
      rw [List.length_nil, run_convert_bytes_string w 23 9 5 _ 0 c Tryd.underlying23 Tryd.underlying5 Tryd.underlying9, run_bytesToString w a 0 c [] (by simpa using run_loadCells_list (P := Tryd.prog) w a [] (by simp))]
      rfl
  · have := run_convert_bytes_arg w 23 5 Tryd.underlying23 Tryd.underlying5 b off l.length c (l.map fun n : Nat => (n : Int)) (by simp) (fun i hi => by
      rw [h i hi]; simp [List.getD_eq_getElem?_getD, List.getElem?_eq_getElem hi]) 9 Tryd.underlying9
    rw [this]
    congr 3
    unfold strOfNums strB; rw [List.map_map]; congr 3
end Go.Proofs.YtpklnhmhbaakhaaDoor
end
section
namespace Go.Proofs.YtpklnhmhbaakhaaDoor
open Go.RowKit
open Seal
/-- A step of the hash. -/
def hstep (h c : Int) : Int := IntKind.u64.wrap (bits .xor .u64 h c * 1099511628211)
def hfold (h : Int) : Int := bits .xor .u64 h (h / 2 ^ 33)
def hrun (h : Int) : List Nat → Int
  | [] => h
  | c :: r => hrun (hstep h (c : Int)) r
def hlow (lev : Int) : Int := IntKind.u8.wrap lev
def hbegin (lev : Int) : Int := hstep 14695981039346656037 (hlow lev)
def hash (l : List Nat) (lev : Int) : Int := hfold (IntKind.u64.wrap (hfold (hrun (hbegin lev) l) * 18397679294719823053))
theorem hrun_snoc (l : List Nat) (x : Int) (k : Nat) (hk : k < l.length) : hrun x (l.take (k + 1)) = hstep (hrun x (l.take k)) (l.getD k 0 : Nat) := by
  have g : ∀ (a : List Nat) (x : Int) (c : Nat), hrun x (a ++ [c]) = hstep (hrun x a) c := by
    intro a
    induction a with
    | nil => intro x c; rfl
    | cons b r ih => intro x c; exact ih _ c
  rw [List.take_succ_eq_append_getElem hk, g]
  congr 2
  simp [List.getD_eq_getElem?_getD, List.getElem?_eq_getElem hk]
set_option maxRecDepth 100000 in
theorem step_any (h c : Int) (hc : 0 ≤ c ∧ c < 256) (w : World) : Calls Tryd.prog 45 #[.int .u64 h, .int .u8 c] w fun e w' => e = .returned (.int .u64 (hstep h c)) ∧ w' = w := by
  have hw : IntKind.u64.wrap c = c := by rw [IntKind.wrap_u64]; omega
  go_enter Tryd.func45, Tryd.ntmps45
  go_wp2_with fail
  go_ret
  exact ⟨rfl, rfl⟩
set_option maxRecDepth 100000 in
theorem fold_any (h : Int) (w : World) : Calls Tryd.prog 46 #[.int .u64 h] w fun e w' => e = .returned (.int .u64 (hfold h)) ∧ w' = w := by
  go_enter Tryd.func46, Tryd.ntmps46
  go_wp2_with fail
  go_ret
  exact ⟨rfl, rfl⟩
theorem getD_256 {l : List Nat} (ho : Oct l) (k : Nat) : l.getD k 0 < 256 := by
  by_cases h : k < l.length
  · rw [List.getD_eq_getElem?_getD, List.getElem?_eq_getElem h]; exact ho _ (List.getElem_mem h)
  · rw [List.getD_eq_getElem?_getD, List.getElem?_eq_none (by omega)]; decide
set_option maxRecDepth 100000 in
set_option maxHeartbeats 1000000 in
theorem hash_any (w : World) (a : Option Addr) (n c : Nat) (l : List Nat) (lev : Int) (hn : l.length = n) (hS : SliceIs w a l) (ho : Oct l) (hnb : n ≤ 140737488355328) :
    Calls Tryd.prog 27 #[.slice a n c, .int .i64 lev] w fun e w' => e = .returned (.int .u64 (hash l lev)) ∧ w' = w := by
  have HN := Lib.hid hn
  have HS := Lib.hid hS
  have HO := Lib.hid ho
  have hlow2 : 0 ≤ hlow lev ∧ hlow lev < 256 := by unfold hlow; rw [IntKind.wrap_u8]; omega
  have HC0 := Lib.hid (step_any 14695981039346656037 (hlow lev) hlow2 w)
  obtain ⟨x0, hx0⟩ : ∃ x, x = hstep 14695981039346656037 (hlow lev) := ⟨_, rfl⟩
  rw [← hx0] at HC0
  have HBG : Hid (x0 = hrun (hbegin lev) (l.take 0)) := hx0
  have hlw : IntKind.u8.wrap lev = hlow lev := rfl
  generalize hlow lev = lw at *
  clear hn hS ho hlow2 hx0
  go_enter Tryd.func27, Tryd.ntmps27
  go_wp2_with fail
  try rw [hlw]
  refine HC0.out.mono ?_
  rintro e w1 ⟨rfl, rfl⟩
  go_wp2_with fail
  go_loopw [5, 13] (fun x i wr => ∃ k : Nat, i = .int .i64 k ∧ k ≤ n ∧ x = .int .u64 (hrun (hbegin lev) (l.take k)) ∧ wr = w1) (fun _ i _ => n - (intOf i).toNat)
  case atStart => exact ⟨0, rfl, Nat.zero_le _, by rw [HBG.out], rfl⟩
  case round =>
    obtain ⟨k, rfl, hk, rfl, rfl⟩ := hrel
    by_cases hlt : k < n
    · have hkl : k < l.length := by rw [HN.out]; exact hlt
      obtain ⟨g, o, hga, hr⟩ := HS.out.resolve_left (fun e => by rw [e] at hkl; cases hkl)
      obtain rfl := hga
      have hc := hr k hkl
      have hsn := hrun_snoc l (hbegin lev) k hkl
      have hb := getD_256 HO.out k
      obtain ⟨b, hbe⟩ : ∃ b, b = l.getD k 0 := ⟨_, rfl⟩
      rw [← hbe] at hc hsn hb
      have HSN := Lib.hid hsn
      have hsub : IntKind.i64.wrap ((k : Int) + 1) = (k : Int) + 1 := IntWalk.i64_in _ (by omega)
      have HC := Lib.hid (step_any (hrun (hbegin lev) (l.take k)) (b : Int) (by omega) wr)
      generalize hrun (hbegin lev) (l.take k) = x at *
      clear hr hkl hbe hsn hb HC0
      go_wp2_with fail
      go_at_call 45
      refine HC.out.mono ?_
      rintro e w2 ⟨rfl, rfl⟩
      go_wp2_with fail
      go_roundw
      case rel => exact ⟨k + 1, by go_num, by omega, by rw [HSN.out], trivial⟩
      case measure => simp [intOf]; omega
    · obtain rfl : k = n := by omega
      have HTK : Hid (l.take k = l) := List.take_of_length_le (by rw [HN.out]; exact Nat.le_refl _)
      rw [HTK.out]
      have HH : Hid (hash l lev = hfold (IntKind.u64.wrap (hfold (hrun (hbegin lev) l) * 18397679294719823053))) := rfl
      generalize hrun (hbegin lev) l = x at *
      clear HC0
      go_wp2_with fail
      go_at_call 46
      refine (fold_any x wr).mono ?_
      rintro e w2 ⟨rfl, rfl⟩
      go_wp2_with fail
      go_at_call 46
      refine (fold_any _ w2).mono ?_
      rintro e w3 ⟨rfl, rfl⟩
      go_wp2_with fail
      go_ret
      exact ⟨by rw [HH.out]; rfl, rfl⟩
def hpart (h many : Int) : Int := if many < 1 then 0 else h % many
theorem hfold_nn (x : Int) : 0 ≤ hfold x := by
  show 0 ≤ IntKind.u64.wrap _
  rw [IntKind.wrap_u64]
  omega
set_option maxRecDepth 100000 in
set_option maxHeartbeats 1000000 in
theorem part_any (w : World) (a : Option Addr) (n c : Nat) (l : List Nat) (lev many : Int) (hn : l.length = n) (hS : SliceIs w a l) (ho : Oct l) (hnb : n ≤ 140737488355328) (hm : many ≤ 9223372036854775807) :
    Calls Tryd.prog 26 #[.slice a n c, .int .i64 lev, .int .i64 many] w fun e w' => e = .returned (.int .i64 (hpart (hash l lev) many)) ∧ w' = w := by
  have HC := Lib.hid (hash_any w a n c l lev hn hS ho hnb)
  clear hn hS ho hnb
  by_cases h1 : many < 1
  · have hd : decide (many < 1) = true := decide_eq_true h1
    have HR : Hid (hpart (hash l lev) many = 0) := if_pos h1
    clear HC
    go_enter Tryd.func26, Tryd.ntmps26
    go_wp2_with fail
    go_ret
    exact ⟨by rw [HR.out]; rfl, rfl⟩
  · have hd : decide (many < 1) = false := decide_eq_false h1
    have hw : IntKind.u64.wrap many = many := by rw [IntKind.wrap_u64]; omega
    have hnn : 0 ≤ hash l lev := hfold_nn _
    have HR : Hid (hpart (hash l lev) many = hash l lev % many) := if_neg h1
    generalize hash l lev = x at *
    have hne : (many == 0) = false := by rw [beq_eq_false_iff_ne]; omega
    have hm1 := Int.emod_nonneg x (show many ≠ 0 by omega)
    have hm2 := Int.emod_lt_of_pos x (show 0 < many by omega)
    have hw64 : wrap64 (x % many) = x % many := by unfold wrap64; omega
    clear hm1 hm2
    go_enter Tryd.func26, Tryd.ntmps26
    go_wp2_with fail
    go_at_call 27
    refine HC.out.mono ?_
    rintro e w2 ⟨rfl, rfl⟩
    go_wp2_with fail
    go_ret
    exact ⟨by rw [HR.out]; show Ending.returned (Value.int .i64 (wrap64 (x % many))) = _; rw [hw64], rfl⟩
end Go.Proofs.YtpklnhmhbaakhaaDoor
end
