/- THE DISK AS NUMBERS AND LISTS (no program): what is in use, the least free number, what a planned fault does, the words of bits. -/
import Derived.Lib.TrailingZeros
namespace Go.Proofs.YtbkiahnljklhpaaDoor
namespace Disk
/-- A page's bytes, where it is in use. -/
abbrev Pages := List (Option (List Nat))
/-- A disk: its page's size, the most pages, its pages by number; how many operations and writes there were, how many when the plan was made; the kinds of faults that are planned for each operation behind that. -/
structure St where
  page : Nat
  most : Nat
  pages : Pages
  ops : Nat
  writes : Nat
  begun : Nat
  plan : Nat → List Nat
def used (l : Pages) (n : Nat) : Bool := (l.getD n none).isSome
def live (l : Pages) : Nat := l.countP Option.isSome
def leastFree (l : Pages) : Nat := l.findIdx Option.isNone
/-- What a fault of kind k does to what an operation of sort s (1 Alloc, 2 Free, 3 Read, 4 Write) ends with: its error, and the first byte's mask. -/
def app (s : Nat) (r : Nat × Nat) (k : Nat) : Nat × Nat :=
  if k = 1 then (if s = 3 then (16, r.2) else r)
  else if k = 2 then (if s = 4 then (16, r.2) else r)
  else if k = 3 then (if s = 1 then (17, r.2) else r)
  else if k = 4 then (if s = 3 then (r.1, r.2 ^^^ 1) else r)
  else r
def hit (s : Nat) (l : List Nat) : Nat × Nat := l.foldl (app s) (0, 0)
theorem hit_snoc (s : Nat) (l : List Nat) (k : Nat) : hit s (l ++ [k]) = app s (hit s l) k := by simp [hit]
theorem hit_nil (s : Nat) : hit s [] = (0, 0) := rfl
/-- The error: none, or that of the sort; the mask is a bit. -/
theorem app_small (s : Nat) (r : Nat × Nat) (k : Nat) (h : r.1 < 18 ∧ r.2 < 2) : (app s r k).1 < 18 ∧ (app s r k).2 < 2 := by
  have hx : r.2 ^^^ 1 < 2 := Nat.xor_lt_two_pow (n := 1) h.2 (by decide)
  unfold app
  repeat' split
  all_goals first | exact h | exact ⟨h.1, hx⟩ | exact ⟨by simp, h.2⟩
theorem hit_small (s : Nat) (l : List Nat) : (hit s l).1 < 18 ∧ (hit s l).2 < 2 := by
  unfold hit
  suffices h : ∀ (l : List Nat) (r : Nat × Nat), r.1 < 18 ∧ r.2 < 2 → (l.foldl (app s) r).1 < 18 ∧ (l.foldl (app s) r).2 < 2 from h l (0, 0) (by decide)
  intro l
  induction l with
  | nil => intro r h; exact h
  | cons k t ih => intro r h; exact ih _ (app_small s r k h)
/-- Words of 64 bits that tell which numbers are in use. -/
structure Words (ws : List Nat) (nw : Nat) (l : Pages) : Prop where
  len : ws.length = nw
  lt : ∀ i, ws.getD i 0 < 18446744073709551616
  bit : ∀ n, n < 64 * nw → (ws.getD (n / 64) 0).testBit (n % 64) = used l n
theorem getD_set (ws : List Nat) (i j v : Nat) : (ws.set i v).getD j 0 = if i = j ∧ j < ws.length then v else ws.getD j 0 := by
  simp only [List.getD_eq_getElem?_getD, List.getElem?_set]
  by_cases h : i = j
  · subst h
    by_cases h2 : i < ws.length
    · simp [h2]
    · simp [h2]
  · simp [h]
theorem used_lt {l : Pages} {n : Nat} (h : used l n = true) : n < l.length := by
  unfold used at h
  rcases Nat.lt_or_ge n l.length with h1 | h1
  · exact h1
  · rw [List.getD_eq_getElem?_getD, List.getElem?_eq_none h1] at h; simp at h
theorem used_some {l : Pages} {n : Nat} (h : used l n = true) : ∃ b, l.getD n none = some b := Option.isSome_iff_exists.1 h
theorem leastFree_le (l : Pages) : leastFree l ≤ l.length := List.findIdx_le_length
theorem leastFree_not (l : Pages) : used l (leastFree l) = false := by
  unfold used leastFree
  rcases Nat.lt_or_ge (l.findIdx Option.isNone) l.length with h | h
  · have := List.findIdx_getElem (w := h)
    rw [List.getD_eq_getElem?_getD, List.getElem?_eq_getElem h]
    simpa using this
  · rw [List.getD_eq_getElem?_getD, List.getElem?_eq_none h]; rfl
theorem leastFree_min (l : Pages) {n : Nat} (h : n < leastFree l) : used l n = true := by
  unfold used leastFree at *
  have h2 : n < l.length := Nat.lt_of_lt_of_le h List.findIdx_le_length
  have := List.not_of_lt_findIdx h
  rw [List.getD_eq_getElem?_getD, List.getElem?_eq_getElem h2]
  simpa [Option.isSome_iff_ne_none] using this
theorem leastFree_eq {l : Pages} {n : Nat} (h1 : used l n = false) (h2 : ∀ j, j < n → used l j = true) : leastFree l = n := by
  rcases Nat.lt_trichotomy (leastFree l) n with h | h | h
  · have := h2 _ h; rw [leastFree_not] at this; cases this
  · exact h
  · have := leastFree_min l h; rw [h1] at this; cases this
theorem live_le (l : Pages) : live l ≤ l.length := List.countP_le_length
theorem live_full {l : Pages} : ∀ {k : Nat}, (∀ j, j < k → used l j = true) → k ≤ live l := by
  induction l with
  | nil => intro k h; rcases Nat.eq_zero_or_pos k with rfl | hk
           · simp
           · have := h 0 hk; simp [used] at this
  | cons p t ih =>
    intro k h
    rcases Nat.eq_zero_or_pos k with rfl | hk
    · simp
    · have h0 := h 0 hk
      have : k - 1 ≤ live t := ih fun j hj => by have := h (j + 1) (by omega); simpa [used] using this
      have h0' : p.isSome = true := by simpa [used] using h0
      simp only [live, List.countP_cons, h0', if_true] at *
      omega
theorem leastFree_lt {l : Pages} {m : Nat} (h : live l < m) : leastFree l < m :=
  Nat.lt_of_le_of_lt (live_full fun _ hj => leastFree_min l hj) h
/-- The first word that is not full tells the least free number. -/
theorem least_word {ws : List Nat} {nw i : Nat} {l : Pages} (h : Words ws nw l) (hi : i < nw) (hf : ∀ j, j < i → ws.getD j 0 = 18446744073709551615) (hne : ws.getD i 0 ≠ 18446744073709551615) :
    leastFree l = 64 * i + Lib.ctz 64 (18446744073709551615 - ws.getD i 0) ∧ Lib.ctz 64 (18446744073709551615 - ws.getD i 0) < 64 := by
  have hlt := h.lt i
  obtain ⟨m, hm, hk⟩ := Lib.ctzFrom_spec 64 (18446744073709551615 - ws.getD i 0) (by omega) (by omega)
  have e : Lib.ctz 64 (18446744073709551615 - ws.getD i 0) = Lib.ctzFrom 64 (18446744073709551615 - ws.getD i 0) := by
    unfold Lib.ctz; rw [if_neg (by omega)]
  rw [e]
  generalize Lib.ctzFrom 64 (18446744073709551615 - ws.getD i 0) = c at *
  have hbit : ∀ j, j < 64 → (18446744073709551615 - ws.getD i 0).testBit j = !(ws.getD i 0).testBit j := by
    intro j hj
    have := Nat.testBit_two_pow_sub_succ (x := ws.getD i 0) (n := 64) hlt j
    rw [show (2 : Nat) ^ 64 - (ws.getD i 0 + 1) = 18446744073709551615 - ws.getD i 0 by omega] at this
    rw [this]; simp [hj]
  have hc : ∀ j, (2 ^ c * (2 * m + 1)).testBit j = (decide (c ≤ j) && (2 * m + 1).testBit (j - c)) := fun j => Nat.testBit_two_pow_mul ..
  refine ⟨leastFree_eq ?_ ?_, hk⟩
  · have hb := h.bit (64 * i + c) (by omega)
    rw [show (64 * i + c) / 64 = i by omega, show (64 * i + c) % 64 = c by omega] at hb
    rw [← hb]
    have h1 := hbit c hk
    rw [hm, hc] at h1
    simp at h1
    exact h1
  · intro j hj
    rcases Nat.lt_or_ge (j / 64) i with h1 | h1
    · have hb := h.bit j (by omega)
      rw [hf _ h1] at hb
      rw [← hb, show (18446744073709551615 : Nat) = 2 ^ 64 - 1 from rfl, Nat.testBit_two_pow_sub_one]
      simp; omega
    · have e2 : j / 64 = i := by omega
      have hb := h.bit j (by omega)
      rw [e2] at hb
      rw [← hb]
      have h2 := hbit (j % 64) (by omega)
      rw [hm, hc, decide_eq_false (by omega)] at h2
      simpa using h2.symm
/-- A full row of words: all numbers are in use. -/
theorem words_full {ws : List Nat} {nw : Nat} {l : Pages} (h : Words ws nw l) (hf : ∀ j, j < nw → ws.getD j 0 = 18446744073709551615) : 64 * nw ≤ live l :=
  live_full fun j hj => by
    have hb := h.bit j hj
    rw [hf _ (by omega)] at hb
    rw [← hb, show (18446744073709551615 : Nat) = 2 ^ 64 - 1 from rfl, Nat.testBit_two_pow_sub_one]
    simp; omega
/-- The pages, with page n put. -/
def put (l : Pages) (n : Nat) (p : Option (List Nat)) : Pages := if n = l.length then l ++ [p] else l.set n p
theorem used_put {l : Pages} {n : Nat} (p : Option (List Nat)) (hn : n ≤ l.length) (j : Nat) : used (put l n p) j = if j = n then p.isSome else used l j := by
  unfold used put
  split
  · rename_i h
    subst h
    simp only [List.getD_eq_getElem?_getD]
    rcases Nat.lt_trichotomy j l.length with h | h | h
    · rw [List.getElem?_append_left h, if_neg (by omega)]
    · subst h; simp
    · rw [if_neg (by omega), List.getElem?_eq_none (by simp; omega), List.getElem?_eq_none (by omega)]
  · simp only [List.getD_eq_getElem?_getD, List.getElem?_set]
    by_cases h : n = j
    · subst h; simp [show n < l.length by omega]
    · simp [h, Ne.symm h]
theorem bit_lt (n : Nat) : 2 ^ (n % 64) < 18446744073709551616 := by
  have : 2 ^ (n % 64) < 2 ^ 64 := Nat.pow_lt_pow_right (by decide) (by omega)
  omega
theorem Words.set {ws : List Nat} {nw : Nat} {l : Pages} (h : Words ws nw l) (n : Nat) (hn : n ≤ l.length) (hw : n < 64 * nw) (b : List Nat) :
    Words (ws.set (n / 64) (ws.getD (n / 64) 0 ||| 2 ^ (n % 64))) nw (put l n (some b)) := by
  refine ⟨by simp [h.len], fun i => ?_, fun j hj => ?_⟩
  · rw [getD_set]
    split
    · exact Nat.or_lt_two_pow (n := 64) (h.lt _) (bit_lt n)
    · exact h.lt i
  · rw [getD_set, used_put _ hn]
    by_cases e : n / 64 = j / 64
    · rw [if_pos ⟨e, by rw [h.len]; omega⟩, Nat.testBit_or, e, h.bit j hj, Nat.testBit_two_pow]
      by_cases e2 : j = n
      · subst e2; simp
      · rw [if_neg e2, decide_eq_false (by omega)]; simp
    · rw [if_neg (fun x => e x.1), h.bit j hj, if_neg (fun x => e (by rw [x]))]
theorem Words.clear {ws : List Nat} {nw : Nat} {l : Pages} (h : Words ws nw l) (n : Nat) (hn : n < l.length) (hw : n < 64 * nw) :
    Words (ws.set (n / 64) (ws.getD (n / 64) 0 &&& (18446744073709551615 - 2 ^ (n % 64)))) nw (put l n none) := by
  refine ⟨by simp [h.len], fun i => ?_, fun j hj => ?_⟩
  · rw [getD_set]
    split
    · exact Nat.lt_of_le_of_lt Nat.and_le_left (h.lt _)
    · exact h.lt i
  · rw [getD_set, used_put _ (by omega)]
    by_cases e : n / 64 = j / 64
    · rw [if_pos ⟨e, by rw [h.len]; omega⟩, Nat.testBit_and, e, h.bit j hj]
      have hb := Nat.testBit_two_pow_sub_succ (x := 2 ^ (n % 64)) (n := 64) (bit_lt n) (j % 64)
      rw [show (2 : Nat) ^ 64 - (2 ^ (n % 64) + 1) = 18446744073709551615 - 2 ^ (n % 64) by omega, Nat.testBit_two_pow] at hb
      rw [hb]
      by_cases e2 : j = n
      · subst e2; simp
      · rw [if_neg e2, decide_eq_true (by omega : j % 64 < 64), decide_eq_false (by omega : ¬ n % 64 = j % 64)]; simp
    · rw [if_neg (fun x => e x.1), h.bit j hj, if_neg (fun x => e (by rw [x]))]
theorem Words.same {ws : List Nat} {nw : Nat} {l : Pages} (h : Words ws nw l) (n : Nat) (hu : used l n = true) (b : List Nat) : Words ws nw (put l n (some b)) := by
  refine ⟨h.len, h.lt, fun j hj => ?_⟩
  have := used_lt hu
  rw [h.bit j hj, used_put _ (by omega)]
  split
  · rename_i e; subst e; simp [hu]
  · rfl
theorem Words.made (nw : Nat) : Words (List.replicate nw 0) nw [] := by
  have e : ∀ i, (List.replicate nw 0).getD i 0 = 0 := fun i => by
    simp only [List.getD_eq_getElem?_getD, List.getElem?_replicate]
    split <;> rfl
  exact ⟨by simp, fun i => by rw [e]; decide, fun n _ => by rw [e]; simp [used]⟩
theorem countP_set {α : Type} (p : α → Bool) : ∀ (l : List α) (n : Nat) (x : α) (hn : n < l.length), (l.set n x).countP p + (if p l[n] then 1 else 0) = l.countP p + (if p x then 1 else 0)
  | [], n, x, h => by simp at h
  | a :: t, 0, x, h => by simp only [List.set_cons_zero, List.countP_cons, List.getElem_cons_zero]; omega
  | a :: t, n + 1, x, h => by
    have := countP_set p t n x (by simpa using h)
    simp only [List.set_cons_succ, List.countP_cons, List.getElem_cons_succ]; omega
theorem live_put_new {l : Pages} {n : Nat} (hn : n ≤ l.length) (hu : used l n = false) (b : List Nat) : live (put l n (some b)) = live l + 1 := by
  unfold live put
  split
  · simp
  · have hlt : n < l.length := by omega
    have := countP_set Option.isSome l n (some b) hlt
    have e : l[n].isSome = false := by
      have := hu; unfold used at this; rwa [List.getD_eq_getElem?_getD, List.getElem?_eq_getElem hlt] at this
    simp [e] at this
    exact this
theorem live_put_same {l : Pages} {n : Nat} (hu : used l n = true) (b : List Nat) : live (put l n (some b)) = live l := by
  have hlt := used_lt hu
  unfold live put
  rw [if_neg (by omega)]
  have := countP_set Option.isSome l n (some b) hlt
  have e : l[n].isSome = true := by
    have := hu; unfold used at this; rwa [List.getD_eq_getElem?_getD, List.getElem?_eq_getElem hlt] at this
  simp [e] at this
  exact this
theorem live_put_none {l : Pages} {n : Nat} (hu : used l n = true) : live (put l n none) + 1 = live l := by
  have hlt := used_lt hu
  unfold live put
  rw [if_neg (by omega)]
  have := countP_set Option.isSome l n none hlt
  have e : l[n].isSome = true := by
    have := hu; unfold used at this; rwa [List.getD_eq_getElem?_getD, List.getElem?_eq_getElem hlt] at this
  simp [e] at this
  exact this
theorem length_put {l : Pages} {n m : Nat} (p : Option (List Nat)) (hn : n < m) (h : l.length ≤ m) : (put l n p).length ≤ m := by
  unfold put; split
  · simp; omega
  · simpa using h
end Disk
end Go.Proofs.YtbkiahnljklhpaaDoor
