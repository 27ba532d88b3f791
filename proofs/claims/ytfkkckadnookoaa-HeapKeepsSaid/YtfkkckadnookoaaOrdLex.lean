/- COMPARISONS, of numbers, of lists item by item, of bytes: plain (no walk). -/
import Derived.Lib.Bytealg
import Derived.Test.YtfkkckadnookoaaRows
namespace Order
open Go
/-- A difference's sign. -/
def sgn (a b : Int) : Int := if a < b then -1 else if b < a then 1 else 0
theorem sgn_lt {a b : Int} (h : a < b) : sgn a b = -1 := if_pos h
theorem sgn_gt {a b : Int} (h : b < a) : sgn a b = 1 := by rw [sgn, if_neg (by omega), if_pos h]
theorem sgn_self (a : Int) : sgn a a = 0 := by rw [sgn, if_neg (by omega), if_neg (by omega)]
theorem sgn_zero {a b : Int} : sgn a b = 0 ↔ a = b := by
  unfold sgn
  constructor
  · intro h
    split at h
    · omega
    · split at h <;> omega
  · intro h
    rw [if_neg (by omega), if_neg (by omega)]
/-- What a comparison is. -/
structure IsCmp {α : Type} (c : α → α → Int) : Prop where
  one : ∀ a b, c a b = -1 ∨ c a b = 0 ∨ c a b = 1
  anti : ∀ a b, c a b = - c b a
  trans : ∀ a b d, c a b ≤ 0 → c b d ≤ 0 → c a d ≤ 0
section
variable {α β : Type} {c : α → α → Int}
theorem IsCmp.refl (h : IsCmp c) (a : α) : c a a = 0 := by have := h.anti a a; omega
theorem IsCmp.lt_le (h : IsCmp c) {a b d : α} (h1 : c a b < 0) (h2 : c b d ≤ 0) : c a d < 0 := by
  have h3 := h.trans a b d (by omega) h2
  by_cases e : c a d = 0
  · have h4 := h.anti d a
    have h5 := h.trans b d a h2 (by omega)
    have h6 := h.anti a b
    omega
  · omega
theorem IsCmp.le_lt (h : IsCmp c) {a b d : α} (h1 : c a b ≤ 0) (h2 : c b d < 0) : c a d < 0 := by
  have h3 := h.trans a b d h1 (by omega)
  by_cases e : c a d = 0
  · have h4 := h.anti d a
    have h5 := h.trans d a b (by omega) h1
    have h6 := h.anti b d
    omega
  · omega
theorem IsCmp.left (h : IsCmp c) {a b : α} (d : α) (e : c a b = 0) : c a d = c b d := by
  have e2 := h.anti b a
  have p1 := h.one a d
  have p2 := h.one b d
  have q1 := h.anti a d
  have q2 := h.anti b d
  have t1 := fun x => h.trans a b d (by omega) x
  have t2 := fun x => h.trans b a d (by omega) x
  have t3 := fun x => h.trans d a b x (by omega)
  have t4 := fun x => h.trans d b a x (by omega)
  rcases p1 with p1 | p1 | p1
  · have := t2 (by omega)
    by_cases z : c b d = 0
    · have := t4 (by omega); omega
    · omega
  · have := t2 (by omega)
    have := t3 (by omega)
    omega
  · have := t3 (by omega)
    by_cases z : c b d = 0
    · have := t1 (by omega); omega
    · omega
theorem IsCmp.right (h : IsCmp c) {a b : α} (d : α) (e : c a b = 0) : c d a = c d b := by
  have := h.left d e
  have := h.anti d a
  have := h.anti d b
  omega
theorem IsCmp.nought : IsCmp (fun _ _ : α => (0 : Int)) := ⟨fun _ _ => .inr (.inl rfl), fun _ _ => rfl, fun _ _ _ _ _ => Int.le_refl _⟩
theorem IsCmp.on {c : β → β → Int} (h : IsCmp c) (f : α → β) : IsCmp (fun a b => c (f a) (f b)) :=
  ⟨fun _ _ => h.one _ _, fun _ _ => h.anti _ _, fun _ _ _ => h.trans _ _ _⟩
theorem IsCmp.sgn : IsCmp sgn := by
  refine ⟨fun a b => ?_, fun a b => ?_, fun a b d => ?_⟩
  · unfold Order.sgn; split
    · omega
    · split <;> omega
  · rcases Int.lt_trichotomy a b with h | h | h
    · rw [sgn_lt h, sgn_gt h]
    · rw [sgn_zero.2 h, sgn_zero.2 h.symm]; rfl
    · rw [sgn_gt h, sgn_lt h]; rfl
  · intro h1 h2
    have h1' : a ≤ b := by
      unfold Order.sgn at h1; split at h1
      · omega
      · split at h1 <;> omega
    have h2' : b ≤ d := by
      unfold Order.sgn at h2; split at h2
      · omega
      · split at h2 <;> omega
    unfold Order.sgn; split
    · omega
    · rw [if_neg (by omega)]; omega
/-- One comparison, and where that is 0 another, which hangs on what the first one goes by. -/
theorem IsCmp.next {κ : Type} {d : κ → α → α → Int} (h : IsCmp c) (hd : ∀ k, IsCmp (d k)) (f : α → κ) (hf : ∀ a b, c a b = 0 → f a = f b) : IsCmp (fun a b => if c a b = 0 then d (f a) a b else c a b) := by
  refine ⟨fun a b => ?_, fun a b => ?_, fun a b e => ?_⟩
  · show (if c a b = 0 then d (f a) a b else c a b) = -1 ∨ (if c a b = 0 then d (f a) a b else c a b) = 0 ∨ (if c a b = 0 then d (f a) a b else c a b) = 1
    split
    · exact (hd _).one _ _
    · exact h.one _ _
  · show (if c a b = 0 then d (f a) a b else c a b) = - (if c b a = 0 then d (f b) b a else c b a)
    have := h.anti a b
    by_cases e : c a b = 0
    · rw [if_pos e, if_pos (by omega), ← hf a b e]; exact (hd _).anti _ _
    · rw [if_neg e, if_neg (by omega)]; exact this
  · show (if c a b = 0 then d (f a) a b else c a b) ≤ 0 → (if c b e = 0 then d (f b) b e else c b e) ≤ 0 → (if c a e = 0 then d (f a) a e else c a e) ≤ 0
    intro h1 h2
    by_cases e1 : c a b = 0
    · rw [if_pos e1] at h1
      have hl := h.left e e1
      by_cases e2 : c b e = 0
      · rw [if_pos e2] at h2
        rw [if_pos (by omega)]
        rw [← hf a b e1] at h2
        exact (hd _).trans _ _ _ h1 h2
      · rw [if_neg e2] at h2
        rw [if_neg (by omega)]; omega
    · rw [if_neg e1] at h1
      by_cases e2 : c b e = 0
      · have hr := h.right a e2
        rw [if_neg (by omega)]; omega
      · rw [if_neg e2] at h2
        have := h.lt_le (a := a) (b := b) (d := e) (by omega) (by omega)
        rw [if_neg (by omega)]; omega
/-- Lists, item by item, a shorter one ahead. -/
def lex (c : α → α → Int) : List α → List α → Int
  | [], [] => 0
  | [], _ :: _ => -1
  | _ :: _, [] => 1
  | a :: r, b :: s => if c a b = 0 then lex c r s else c a b
theorem IsCmp.lex (h : IsCmp c) : IsCmp (lex c) := by
  refine ⟨?_, ?_, ?_⟩
  · intro a
    induction a with
    | nil => intro b; cases b <;> simp [Order.lex]
    | cons x r ih =>
      intro b
      cases b with
      | nil => simp [Order.lex]
      | cons y s =>
        rw [Order.lex]
        split
        · exact ih s
        · exact h.one _ _
  · intro a
    induction a with
    | nil => intro b; cases b <;> simp [Order.lex]
    | cons x r ih =>
      intro b
      cases b with
      | nil => simp [Order.lex]
      | cons y s =>
        rw [Order.lex, Order.lex]
        have := h.anti x y
        by_cases e : c x y = 0
        · rw [if_pos e, if_pos (by omega)]; exact ih s
        · rw [if_neg e, if_neg (by omega)]; exact this
  · intro a
    induction a with
    | nil =>
      intro b d _ h2
      cases d with
      | nil => simp [Order.lex]
      | cons z t => simp [Order.lex]
    | cons x r ih =>
      intro b d h1 h2
      cases b with
      | nil => simp [Order.lex] at h1
      | cons y s =>
        cases d with
        | nil => simp [Order.lex] at h2
        | cons z t =>
          rw [Order.lex] at h1 h2 ⊢
          by_cases e1 : c x y = 0
          · rw [if_pos e1] at h1
            have hl := h.left z e1
            by_cases e2 : c y z = 0
            · rw [if_pos e2] at h2
              rw [if_pos (by omega)]; exact ih s t h1 h2
            · rw [if_neg e2] at h2
              rw [if_neg (by omega)]; omega
          · rw [if_neg e1] at h1
            by_cases e2 : c y z = 0
            · have hr := h.right x e2
              rw [if_neg (by omega)]; omega
            · rw [if_neg e2] at h2
              have := h.lt_le (a := x) (b := y) (d := z) (by omega) (by omega)
              rw [if_neg (by omega)]; omega
theorem lex_step {a b : List α} {k : Nat} (ha : k < a.length) (hb : k < b.length) (e : c a[k] b[k] = 0) : lex c (a.drop k) (b.drop k) = lex c (a.drop (k + 1)) (b.drop (k + 1)) := by
  rw [List.drop_eq_getElem_cons ha, List.drop_eq_getElem_cons hb, lex, if_pos e]
theorem lex_here {a b : List α} {k : Nat} (ha : k < a.length) (hb : k < b.length) (e : c a[k] b[k] ≠ 0) : lex c (a.drop k) (b.drop k) = c a[k] b[k] := by
  rw [List.drop_eq_getElem_cons ha, List.drop_eq_getElem_cons hb, lex, if_neg e]
theorem lex_end {a b : List α} {k : Nat} (ha : k ≤ a.length) (hb : k ≤ b.length) (e : k = a.length ∨ k = b.length) : lex c (a.drop k) (b.drop k) = sgn a.length b.length := by
  rcases e with e | e
  · subst e
    rw [List.drop_eq_nil_of_le (Nat.le_refl _)]
    by_cases h : a.length < b.length
    · rw [List.drop_eq_getElem_cons h, lex, sgn_lt (by omega)]
    · rw [List.drop_eq_nil_of_le (by omega), lex, sgn_zero.2 (by omega)]
  · subst e
    rw [List.drop_eq_nil_of_le (Nat.le_refl b.length)]
    by_cases h : b.length < a.length
    · rw [List.drop_eq_getElem_cons h, lex, sgn_gt (by omega)]
    · rw [List.drop_eq_nil_of_le (by omega), lex, sgn_zero.2 (by omega)]
theorem lex_map {β : Type} {c' : β → β → Int} (f : β → α) (h : ∀ x y, c' x y = c (f x) (f y)) : ∀ (a b : List β), lex c' a b = lex c (a.map f) (b.map f)
  | [], [] => rfl
  | [], _ :: _ => rfl
  | _ :: _, [] => rfl
  | x :: r, y :: s => by
    rw [List.map_cons, List.map_cons, lex, lex, h, lex_map f h r s]
end
/-- Bytes. -/
def oct (a b : Nat) : Int := sgn a b
def octs (a b : List Nat) : Int := lex oct a b
def bytes (s : ByteArray) : List Nat := s.data.toList.map UInt8.toNat
def text (a b : ByteArray) : Int := octs (bytes a) (bytes b)
theorem oct_cmp : IsCmp oct := IsCmp.on (c := sgn) IsCmp.sgn (fun a : Nat => (a : Int))
theorem octs_cmp : IsCmp octs := oct_cmp.lex
theorem text_cmp : IsCmp text := octs_cmp.on bytes
theorem compareBytes_octs : ∀ (a b : List UInt8), Lib.compareBytes a b = octs (a.map UInt8.toNat) (b.map UInt8.toNat)
  | [], [] => rfl
  | [], _ :: _ => rfl
  | _ :: _, [] => rfl
  | x :: r, y :: s => by
    have ih := compareBytes_octs r s
    rw [Lib.compareBytes, List.map_cons, List.map_cons, octs, lex]
    rw [octs] at ih
    rw [← ih]
    by_cases h : x < y
    · have h' : x.toNat < y.toNat := UInt8.lt_iff_toNat_lt.1 h
      have e : oct x.toNat y.toNat = -1 := sgn_lt (by omega)
      rw [if_pos h, e, if_neg (by decide)]
    · by_cases h2 : y < x
      · have h' : y.toNat < x.toNat := UInt8.lt_iff_toNat_lt.1 h2
        have e : oct x.toNat y.toNat = 1 := sgn_gt (by omega)
        rw [if_neg h, if_pos h2, e, if_neg (by decide)]
      · have h3 : ¬ x.toNat < y.toNat := fun e => h (UInt8.lt_iff_toNat_lt.2 e)
        have h4 : ¬ y.toNat < x.toNat := fun e => h2 (UInt8.lt_iff_toNat_lt.2 e)
        have e : oct x.toNat y.toNat = 0 := sgn_zero.2 (by omega)
        rw [if_neg h, if_neg h2, e, if_pos rfl]
theorem compareBytes_text (a b : ByteArray) : Lib.compareBytes a.data.toList b.data.toList = text a b := compareBytes_octs _ _
end Order
