/- THE FIRST OF MANY: plain mathematics (no walk): a heap with the greatest on top; lists in order; the first so many. -/
import Derived.Test.YtfkkckadnookoaaOrdLex
namespace Top
open Order
section
variable {α : Type} {c : α → α → Int}
/-- Two places exchanged. -/
def swp (d : List α) (i j : Nat) (hi : i < d.length) (hj : j < d.length) : List α := (d.set i d[j]).set j d[i]
theorem swp_length (d : List α) (i j : Nat) (hi : i < d.length) (hj : j < d.length) : (swp d i j hi hj).length = d.length := by simp [swp]
theorem swp_get? (d : List α) (i j : Nat) (hi : i < d.length) (hj : j < d.length) (k : Nat) : (swp d i j hi hj)[k]? = if k = j then some d[i] else if k = i then some d[j] else d[k]? := by
  unfold swp
  rw [List.getElem?_set, List.getElem?_set, List.length_set]
  by_cases e : k = j
  · subst e; rw [if_pos rfl, if_pos hj, if_pos rfl]
  · rw [if_neg (fun h => e h.symm), if_neg e]
    by_cases e2 : k = i
    · subst e2; rw [if_pos rfl, if_pos hi, if_pos rfl]
    · rw [if_neg (fun h => e2 h.symm), if_neg e2]
theorem swp_get (d : List α) (i j : Nat) (hi : i < d.length) (hj : j < d.length) (k : Nat) (hk : k < (swp d i j hi hj).length) :
    (swp d i j hi hj)[k] = if k = j then d[i] else if k = i then d[j] else d[k]'(by rw [swp_length] at hk; exact hk) := by
  have hk' : k < d.length := by rw [swp_length] at hk; exact hk
  have h := swp_get? d i j hi hj k
  rw [List.getElem?_eq_getElem hk, List.getElem?_eq_getElem hk'] at h
  by_cases e : k = j
  · rw [if_pos e] at h ⊢; exact Option.some.inj h
  · rw [if_neg e] at h ⊢
    by_cases e2 : k = i
    · rw [if_pos e2] at h ⊢; exact Option.some.inj h
    · rw [if_neg e2] at h ⊢; exact Option.some.inj h
theorem swp_perm (d : List α) (i j : Nat) (hi : i < d.length) (hj : j < d.length) : (swp d i j hi hj).Perm d := by
  have h := Array.swap_perm (xs := d.toArray) (i := i) (j := j) (by simpa using hi) (by simpa using hj)
  have h2 := Array.perm_iff_toList_perm.1 h
  simpa [swp, Array.toList_swap] using h2
def par (k : Nat) : Nat := (k - 1) / 2
/-- The first n are a heap, the greatest on top. -/
def Heap (c : α → α → Int) (d : List α) (n : Nat) : Prop := ∀ k (hk : k < d.length), k < n → 0 < k → c d[k] (d[par k]'(by unfold par; omega)) ≤ 0
theorem Heap.top (hc : IsCmp c) {d : List α} {n : Nat} (h : Heap c d n) : ∀ k (hk : k < d.length), k < n → c d[k] (d[0]'(by omega)) ≤ 0 := by
  intro k
  induction k using Nat.strongRecOn with
  | ind k ih =>
    intro hk hn
    by_cases h0 : k = 0
    · subst h0; exact Int.le_of_eq (hc.refl _)
    · have h1 := h k hk hn (by omega)
      have hp : par k < k := by unfold par; omega
      exact hc.trans _ _ _ h1 (ih (par k) hp (by omega) (by omega))
/-- All is a heap, but what stands at j may be greater than what is above it. -/
structure Up (c : α → α → Int) (d : List α) (j : Nat) : Prop where
  hp : ∀ k (hk : k < d.length), 0 < k → k ≠ j → c d[k] (d[par k]'(by unfold par; omega)) ≤ 0
  gr : ∀ k (hk : k < d.length) (_ : 0 < k) (_ : par k = j), 0 < j → c d[k] (d[par j]'(by unfold par at *; omega)) ≤ 0
theorem Up.done {d : List α} {j : Nat} (h : Up c d j) (hj : j < d.length) (e : j = 0 ∨ c d[j] (d[par j]'(by unfold par; omega)) ≤ 0) : Heap c d d.length := by
  intro k hk _ h0
  by_cases ek : k = j
  · subst ek
    exact e.resolve_left (by omega)
  · exact h.hp k hk h0 ek
theorem Up.next (hc : IsCmp c) {d : List α} {j : Nat} (h : Up c d j) (hj : j < d.length) (h0 : 0 < j) (e : c d[j] (d[par j]'(by unfold par; omega)) > 0) :
    Up c (swp d (par j) j (by unfold par; omega) hj) (par j) := by
  have hp : par j < d.length := by unfold par; omega
  have hpj : par j < j := by unfold par; omega
  have ea := hc.anti (d[j]) (d[par j])
  constructor
  · intro k hk hk0 hne
    have hk' : k < d.length := by rw [swp_length] at hk; exact hk
    have hpk : par k < k := by unfold par; omega
    rw [swp_get, swp_get]
    by_cases e1 : k = j
    · subst e1
      rw [if_pos rfl, if_neg (by omega), if_pos rfl]; omega
    · rw [if_neg e1, if_neg hne]
      by_cases e2 : par k = j
      · rw [if_pos e2]; exact h.gr k hk' hk0 e2 h0
      · rw [if_neg e2]
        by_cases e3 : par k = par j
        · rw [if_pos e3]
          have h1 := h.hp k hk' hk0 e1
          simp only [e3] at h1
          exact hc.trans _ _ _ h1 (by omega)
        · rw [if_neg e3]; exact h.hp k hk' hk0 e1
  · intro k hk hk0 hpk hpp
    have hk' : k < d.length := by rw [swp_length] at hk; exact hk
    have hlt : par k < k := by unfold par; omega
    have hpp2 : par (par j) < par j := by unfold par at *; omega
    have h2 := h.hp (par j) hp hpp (by omega)
    rw [swp_get, swp_get, if_neg (show ¬ par (par j) = j by omega), if_neg (show ¬ par (par j) = par j by omega)]
    by_cases e1 : k = j
    · rw [if_pos e1]; exact h2
    · rw [if_neg e1, if_neg (by omega)]
      have h1 := h.hp k hk' hk0 e1
      simp only [hpk] at h1
      exact hc.trans _ _ _ h1 h2
/-- The first n are a heap, but what stands at i may be less than what is below it. -/
structure Down (c : α → α → Int) (d : List α) (i n : Nat) : Prop where
  hp : ∀ k (hk : k < d.length), k < n → 0 < k → par k ≠ i → c d[k] (d[par k]'(by unfold par; omega)) ≤ 0
  gr : ∀ k (hk : k < d.length), k < n → ∀ (_ : 0 < k) (_ : par k = i), 0 < i → c d[k] (d[par i]'(by unfold par at *; omega)) ≤ 0
theorem Down.leaf {d : List α} {i n : Nat} (h : Down c d i n) (e : n ≤ 2 * i + 1) : Heap c d n := fun k hk hn h0 => h.hp k hk hn h0 (by unfold par; omega)
theorem Down.done (hc : IsCmp c) {d : List α} {i n j : Nat} (h : Down c d i n) (hj : j < d.length) (hi : i < d.length) (hg : ∀ k (hk : k < d.length), k < n → 0 < k → par k = i → c d[k] d[j] ≤ 0) (e : c d[j] d[i] ≤ 0) : Heap c d n := by
  intro k hk hn h0
  by_cases ek : par k = i
  · have h1 := hc.trans _ _ _ (hg k hk hn h0 ek) e
    simp only [ek]; exact h1
  · exact h.hp k hk hn h0 ek
theorem Down.next (hc : IsCmp c) {d : List α} {i n j : Nat} (h : Down c d i n) (hi : i < d.length) (hj : j < d.length) (hjn : j < n) (hj0 : 0 < j) (hpj : par j = i) (hg : ∀ k (hk : k < d.length), k < n → 0 < k → par k = i → c d[k] d[j] ≤ 0)
    (e : c d[j] d[i] > 0) : Down c (swp d i j hi hj) j n := by
  have ea := hc.anti (d[j]) (d[i])
  have hij : i < j := by unfold par at hpj; omega
  constructor
  · intro k hk hn hk0 hne
    have hk' : k < d.length := by rw [swp_length] at hk; exact hk
    have hlt : par k < k := by unfold par; omega
    rw [swp_get, swp_get]
    by_cases e1 : par k = i
    · rw [if_neg hne, if_pos e1]
      by_cases e2 : k = j
      · rw [if_pos e2]; omega
      · rw [if_neg e2, if_neg (by omega)]
        exact hg k hk' hn hk0 e1
    · have ekj : k ≠ j := fun e2 => e1 (by rw [e2]; exact hpj)
      rw [if_neg ekj, if_neg hne, if_neg e1]
      by_cases e2 : k = i
      · rw [if_pos e2]
        have := h.gr j hj hjn hj0 hpj (by omega)
        simp only [e2]
        exact this
      · rw [if_neg e2]; exact h.hp k hk' hn hk0 e1
  · intro k hk hn hk0 hpk _
    have hk' : k < d.length := by rw [swp_length] at hk; exact hk
    have hlt : par k < k := by unfold par; omega
    have hpji : par j < j := by omega
    rw [swp_get, swp_get, if_neg (show ¬ k = j by omega), if_neg (show ¬ k = i by omega), if_neg (show ¬ par j = j by omega), if_pos hpj]
    have h1 := h.hp k hk' hn hk0 (by omega)
    simp only [hpk] at h1
    exact h1
theorem Heap.down {d : List α} (h : Heap c d d.length) (hl : 0 < d.length) : Down c (swp d 0 (d.length - 1) hl (by omega)) 0 (d.length - 1) := by
  constructor
  · intro k hk hn hk0 hne
    have hk' : k < d.length := by rw [swp_length] at hk; exact hk
    have hlt : par k < k := by unfold par; omega
    rw [swp_get, swp_get, if_neg (by omega), if_neg (by omega), if_neg (by omega), if_neg hne]
    exact h k hk' hk' hk0
  · intro k _ _ _ _ h0
    exact absurd h0 (by omega)
theorem Heap.cut {d : List α} {n : Nat} (h : Heap c d n) : Heap c (d.take n) (d.take n).length := by
  intro k hk _ h0
  have hk2 : k < n ∧ k < d.length := by rw [List.length_take] at hk; omega
  rw [List.getElem_take, List.getElem_take]
  exact h k hk2.2 hk2.1 h0
theorem Heap.up {d : List α} (x : α) (h : Heap c d d.length) : Up c (d ++ [x]) d.length := by
  constructor
  · intro k hk h0 hne
    have hk2 : k < d.length := by rw [List.length_append, List.length_singleton] at hk; omega
    have hlt : par k < k := by unfold par; omega
    rw [List.getElem_append_left hk2, List.getElem_append_left (by omega)]
    exact h k hk2 hk2 h0
  · intro k hk h0 hp _
    rw [List.length_append, List.length_singleton] at hk
    unfold par at hp
    omega
/-- In order: what is set behind none that is less. -/
def ins (c : α → α → Int) (x : α) : List α → List α
  | [] => [x]
  | y :: r => if c y x ≤ 0 then y :: ins c x r else x :: y :: r
def Asc (c : α → α → Int) (l : List α) : Prop := l.Pairwise fun a b => c a b ≤ 0
theorem ins_perm (x : α) : ∀ l : List α, (ins c x l).Perm (x :: l)
  | [] => List.Perm.refl _
  | y :: r => by
    unfold ins
    split
    · exact ((ins_perm x r).cons y).trans (List.Perm.swap x y r)
    · exact List.Perm.refl _
theorem ins_length (x : α) (l : List α) : (ins c x l).length = l.length + 1 := (ins_perm x l).length_eq.trans rfl
theorem ins_asc (hc : IsCmp c) (x : α) : ∀ l : List α, Asc c l → Asc c (ins c x l)
  | [], _ => List.pairwise_singleton _ _
  | y :: r, h => by
    obtain ⟨h1, h2⟩ := List.pairwise_cons.1 h
    unfold ins
    split
    · rename_i e
      refine List.pairwise_cons.2 ⟨fun z hz => ?_, ins_asc hc x r h2⟩
      rcases List.mem_cons.1 ((ins_perm x r).mem_iff.1 hz) with rfl | hz
      · exact e
      · exact h1 z hz
    · rename_i e
      have ea := hc.anti x y
      refine List.pairwise_cons.2 ⟨fun z hz => ?_, h⟩
      rcases List.mem_cons.1 hz with rfl | hz
      · omega
      · exact hc.trans _ _ _ (by omega) (h1 z hz)
theorem ins_at (x : α) : ∀ (A B : List α), (∀ a ∈ A, c a x ≤ 0) → (∀ b, B.head? = some b → ¬ c b x ≤ 0) → ins c x (A ++ B) = A ++ x :: B
  | [], [], _, _ => rfl
  | [], b :: B, _, h => by
    show (if c b x ≤ 0 then b :: ins c x B else x :: b :: B) = _
    rw [if_neg (h b rfl)]; rfl
  | a :: A, B, h1, h2 => by
    show (if c a x ≤ 0 then a :: ins c x (A ++ B) else x :: a :: (A ++ B)) = _
    rw [if_pos (h1 a List.mem_cons_self), ins_at x A B (fun z hz => h1 z (List.mem_cons_of_mem _ hz)) h2]; rfl
theorem take_ins (x : α) : ∀ (m : Nat) (l : List α), (ins c x l).take m = (ins c x (l.take m)).take m
  | 0, _ => by simp
  | m + 1, [] => rfl
  | m + 1, y :: r => by
    rw [List.take_succ_cons]
    unfold ins
    split
    · rw [List.take_succ_cons, List.take_succ_cons, take_ins x m r]
    · rw [List.take_succ_cons, List.take_succ_cons, show (y :: r.take m) = (y :: r).take (m + 1) from rfl, List.take_take, Nat.min_eq_left (by omega)]
/-- All, in order, those that are alike as they came. -/
def srt (c : α → α → Int) (l : List α) : List α := l.foldl (fun a x => ins c x a) []
theorem srt_snoc (l : List α) (x : α) : srt c (l ++ [x]) = ins c x (srt c l) := by unfold srt; rw [List.foldl_append]; rfl
theorem srt_asc (hc : IsCmp c) (l : List α) : Asc c (srt c l) := by
  have : ∀ (l a : List α), Asc c a → Asc c (l.foldl (fun a x => ins c x a) a) := by
    intro l
    induction l with
    | nil => exact fun a h => h
    | cons x r ih => exact fun a h => ih _ (ins_asc hc x a h)
  exact this l [] List.Pairwise.nil
theorem srt_perm (l : List α) : (srt c l).Perm l := by
  have : ∀ (l a : List α), (l.foldl (fun a x => ins c x a) a).Perm (a ++ l) := by
    intro l
    induction l with
    | nil => intro a; rw [List.append_nil]; exact List.Perm.refl _
    | cons x r ih =>
      intro a
      refine (ih _).trans ?_
      refine ((ins_perm x a).append_right r).trans ?_
      show (x :: (a ++ r)).Perm (a ++ x :: r)
      exact List.perm_middle.symm
  exact (this l []).trans (by rw [List.nil_append])
/-- The last one. -/
def AheadLast (c : α → α → Int) (x : α) (l : List α) : Prop := ∃ y, l.getLast? = some y ∧ c x y < 0
/-- What is kept of at most m, one more having come. -/
def takes (c : α → α → Int) (m : Nat) (x : α) (l : List α) : Bool := decide (l.length < m) || (l.getLast?.any fun y => decide (c x y < 0))
def nxt (c : α → α → Int) (m : Nat) (x : α) (l : List α) : List α := if l.length < m then ins c x l else if (l.getLast?.any fun y => decide (c x y < 0)) then ins c x l.dropLast else l
theorem last_le (hc : IsCmp c) {l : List α} {z : α} (h : Asc c (l ++ [z])) : ∀ a ∈ l ++ [z], c a z ≤ 0 := by
  intro a ha
  rcases List.mem_append.1 ha with ha | ha
  · exact (List.pairwise_append.1 h).2.2 a ha z List.mem_cons_self
  · rw [List.mem_singleton.1 ha]; exact Int.le_of_eq (hc.refl _)
theorem ins_snoc (x z : α) (hz : ¬ c z x ≤ 0) : ∀ l : List α, ins c x (l ++ [z]) = ins c x l ++ [z]
  | [] => by
    show (if c z x ≤ 0 then z :: ins c x [] else [x, z]) = _
    rw [if_neg hz]; rfl
  | y :: r => by
    show (if c y x ≤ 0 then y :: ins c x (r ++ [z]) else x :: y :: (r ++ [z])) = (if c y x ≤ 0 then y :: ins c x r else x :: y :: r) ++ [z]
    split
    · rw [ins_snoc x z hz r]; rfl
    · rfl
theorem nxt_take (hc : IsCmp c) (m : Nat) (x : α) (l : List α) (h : Asc c l) : nxt c m x (l.take m) = (ins c x l).take m := by
  rw [take_ins]
  have ht : Asc c (l.take m) := List.Pairwise.sublist (List.take_sublist _ _) h
  have hlen : (l.take m).length ≤ m := by rw [List.length_take]; omega
  generalize l.take m = s at ht hlen
  unfold nxt
  by_cases h1 : s.length < m
  · rw [if_pos h1, List.take_of_length_le (by rw [ins_length]; omega)]
  · rw [if_neg h1]
    have hm : s.length = m := by omega
    rcases List.eq_nil_or_concat s with rfl | ⟨t, z, rfl⟩
    · have : m = 0 := by simpa using hm.symm
      subst this
      simp
    · rw [List.concat_eq_append] at *
      have hg : (t ++ [z]).getLast? = some z := by simp
      have ea := hc.anti x z
      rw [hg]
      by_cases h2 : c x z < 0
      · rw [if_pos (by simpa using h2), List.dropLast_concat, ins_snoc x z (by omega)]
        rw [List.length_append, List.length_singleton] at hm
        rw [List.take_left' (by rw [ins_length]; exact hm)]
      · rw [if_neg (by simpa using h2)]
        have := ins_at (c := c) x (t ++ [z]) [] (fun a ha => hc.trans _ _ _ (last_le hc ht a ha) (by omega)) (fun b hb => by cases hb)
        rw [List.append_nil] at this
        rw [this, List.take_left' hm]
theorem nxt_srt (hc : IsCmp c) (m : Nat) (x : α) (l : List α) : nxt c m x ((srt c l).take m) = (srt c (l ++ [x])).take m := by
  rw [nxt_take hc m x _ (srt_asc hc l), srt_snoc]
theorem count_asc (hc : IsCmp c) (x : α) : ∀ (l : List α) (m : Nat), Asc c l → ∀ (_ : 0 < m) (hm : m ≤ l.length), (l.countP (fun y => decide (c y x ≤ 0)) < m ↔ ¬ c (l[m - 1]'(by omega)) x ≤ 0)
  | [], m, _, h0, hm => absurd hm (by simp; omega)
  | y :: r, m, h, h0, hm => by
    obtain ⟨h1, h2⟩ := List.pairwise_cons.1 h
    by_cases e : c y x ≤ 0
    · rw [List.countP_cons_of_pos (by simpa using e)]
      by_cases e1 : m = 1
      · subst e1
        simp only [Nat.sub_self, List.getElem_cons_zero]
        constructor
        · intro hh; omega
        · intro hh; exact absurd e hh
      · have ih := count_asc hc x r (m - 1) h2 (by omega) (by simp at hm; omega)
        have eg : (y :: r)[m - 1] = r[m - 1 - 1]'(by simp at hm; omega) := by
          rw [List.getElem_cons, dif_neg (by omega)]
        rw [eg, ← ih]
        omega
    · have hz : ∀ z ∈ y :: r, ¬ c z x ≤ 0 := by
        intro z hz hh
        rcases List.mem_cons.1 hz with rfl | hz
        · exact e hh
        · exact e (hc.trans _ _ _ (h1 z hz) hh)
      have h0' : (y :: r).countP (fun y => decide (c y x ≤ 0)) = 0 := List.countP_eq_zero.2 fun z hz' => by simpa using hz z hz'
      rw [h0']
      exact ⟨fun _ => hz _ (List.getElem_mem _), fun _ => h0⟩
theorem takes_srt (hc : IsCmp c) (m : Nat) (x : α) (l : List α) : takes c m x ((srt c l).take m) = decide (l.countP (fun y => decide (c y x ≤ 0)) < m) := by
  have hp := (srt_perm (c := c) l).countP_eq (fun y => decide (c y x ≤ 0))
  rw [← hp]
  have ha := srt_asc hc l
  generalize srt c l = s at ha
  have hcl : s.countP (fun y => decide (c y x ≤ 0)) ≤ s.length := List.countP_le_length
  unfold takes
  by_cases h1 : s.length < m
  · rw [List.take_of_length_le (by omega), show decide (s.length < m) = true by simpa using h1, Bool.true_or, eq_comm, decide_eq_true_eq]
    omega
  · have hl : (s.take m).length = m := by rw [List.length_take]; omega
    rw [hl, show decide (m < m) = false by simp, Bool.false_or]
    by_cases h0 : m = 0
    · subst h0; simp
    · have hm1 : m - 1 < s.length := by omega
      have hg : (s.take m).getLast? = some s[m - 1] := by
        rw [List.getLast?_eq_getElem?, hl, List.getElem?_take_of_lt (by omega), List.getElem?_eq_getElem hm1]
      rw [hg, Option.any_some]
      have h2 := count_asc hc x s m ha (by omega) (by omega)
      have ea := hc.anti x s[m - 1]
      rw [decide_eq_decide, h2]
      omega
end
/-- Perm, both in an order in which what is alike is one: one list. -/
theorem asc_unique {α : Type} {c : α → α → Int} : ∀ (l m : List α), l.Perm m → l.Pairwise (fun a b => c a b < 0) → m.Pairwise (fun a b => c a b ≤ 0) → (∀ a b, c a b = - c b a) → l = m
  | [], m, hp, _, _, _ => (List.Perm.nil_eq hp)
  | x :: l, [], hp, _, _, _ => by have := hp.length_eq; simp at this
  | x :: l, y :: m, hp, h1, h2, ha => by
    obtain ⟨a1, a2⟩ := List.pairwise_cons.1 h1
    obtain ⟨b1, b2⟩ := List.pairwise_cons.1 h2
    have hxy : x = y := by
      rcases List.mem_cons.1 (hp.mem_iff.1 (List.mem_cons_self (a := x))) with e | hx
      · exact e
      · rcases List.mem_cons.1 (hp.mem_iff.2 (List.mem_cons_self (a := y))) with e | hy
        · exact e.symm
        · have q1 := a1 y hy
          have q2 := b1 x hx
          have q3 := ha x y
          omega
    subst hxy
    rw [asc_unique l m ((List.perm_cons x).1 hp) a2 b2 ha]
end Top
