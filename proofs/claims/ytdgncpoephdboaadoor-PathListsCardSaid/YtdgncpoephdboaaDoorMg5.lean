/- OrderMath, PathMath. -/
import Derived.Lib.Bytealg
import Derived.Test.YtdgncpoephdboaaDoorMg4
set_option maxRecDepth 100000
section
namespace Order
open Go
open Bson (Val)
/-- A kind's rank. -/
def cls (k : Int) : Int := if k < 0 ∨ 12 < k then -1 else if k ≤ 3 then k else k - 1
/-- A difference's sign. -/
def sgn (a b : Int) : Int := if a < b then -1 else if b < a then 1 else 0
theorem sgn_lt {a b : Int} (h : a < b) : sgn a b = -1 := if_pos h
theorem sgn_gt {a b : Int} (h : b < a) : sgn a b = 1 := by rw [sgn, if_neg (by omega), if_pos h]
theorem sgn_self (a : Int) : sgn a a = 0 := by rw [sgn, if_neg (by omega), if_neg (by omega)]
theorem sgn_zero {a b : Int} : sgn a b = 0 ↔ a = b := by
  unfold sgn
  constructor
  · intro h
    split at h
    · omega
    · split at h <;> omega
  · intro h
    rw [if_neg (by omega), if_neg (by omega)]
/-- What a comparison is. -/
structure IsCmp {α : Type} (c : α → α → Int) : Prop where
  one : ∀ a b, c a b = -1 ∨ c a b = 0 ∨ c a b = 1
  anti : ∀ a b, c a b = - c b a
  trans : ∀ a b d, c a b ≤ 0 → c b d ≤ 0 → c a d ≤ 0
section
variable {α β : Type} {c : α → α → Int}
theorem IsCmp.refl (h : IsCmp c) (a : α) : c a a = 0 := by have := h.anti a a; omega
theorem IsCmp.lt_le (h : IsCmp c) {a b d : α} (h1 : c a b < 0) (h2 : c b d ≤ 0) : c a d < 0 := by
  have h3 := h.trans a b d (by omega) h2
  by_cases e : c a d = 0
  · have h4 := h.anti d a
    have h5 := h.trans b d a h2 (by omega)
    have h6 := h.anti a b
    omega
  · omega
theorem IsCmp.le_lt (h : IsCmp c) {a b d : α} (h1 : c a b ≤ 0) (h2 : c b d < 0) : c a d < 0 := by
  have h3 := h.trans a b d h1 (by omega)
  by_cases e : c a d = 0
  · have h4 := h.anti d a
    have h5 := h.trans d a b (by omega) h1
    have h6 := h.anti b d
    omega
  · omega
theorem IsCmp.left (h : IsCmp c) {a b : α} (d : α) (e : c a b = 0) : c a d = c b d := by
  have e2 := h.anti b a
  have p1 := h.one a d
  have p2 := h.one b d
  have q1 := h.anti a d
  have q2 := h.anti b d
  have t1 := fun x => h.trans a b d (by omega) x
  have t2 := fun x => h.trans b a d (by omega) x
  have t3 := fun x => h.trans d a b x (by omega)
  have t4 := fun x => h.trans d b a x (by omega)
  rcases p1 with p1 | p1 | p1
  · have := t2 (by omega)
    by_cases z : c b d = 0
    · have := t4 (by omega); omega
    · omega
  · have := t2 (by omega)
    have := t3 (by omega)
    omega
  · have := t3 (by omega)
    by_cases z : c b d = 0
    · have := t1 (by omega); omega
    · omega
theorem IsCmp.right (h : IsCmp c) {a b : α} (d : α) (e : c a b = 0) : c d a = c d b := by
  have := h.left d e
  have := h.anti d a
  have := h.anti d b
  omega
theorem IsCmp.nought : IsCmp (fun _ _ : α => (0 : Int)) := ⟨fun _ _ => .inr (.inl rfl), fun _ _ => rfl, fun _ _ _ _ _ => Int.le_refl _⟩
theorem IsCmp.on {c : β → β → Int} (h : IsCmp c) (f : α → β) : IsCmp (fun a b => c (f a) (f b)) :=
  ⟨fun _ _ => h.one _ _, fun _ _ => h.anti _ _, fun _ _ _ => h.trans _ _ _⟩
theorem IsCmp.sgn : IsCmp sgn := by
  refine ⟨fun a b => ?_, fun a b => ?_, fun a b d => ?_⟩
  · unfold Order.sgn; split
    · omega
    · split <;> omega
  · rcases Int.lt_trichotomy a b with h | h | h
    · rw [sgn_lt h, sgn_gt h]
    · rw [sgn_zero.2 h, sgn_zero.2 h.symm]; rfl
    · rw [sgn_gt h, sgn_lt h]; rfl
  · intro h1 h2
    have h1' : a ≤ b := by
      unfold Order.sgn at h1; split at h1
      · omega
      · split at h1 <;> omega
    have h2' : b ≤ d := by
      unfold Order.sgn at h2; split at h2
      · omega
      · split at h2 <;> omega
    unfold Order.sgn; split
    · omega
    · rw [if_neg (by omega)]; omega
/-- One comparison, and where that is 0 another, which hangs on what the first one goes by. -/
theorem IsCmp.next {κ : Type} {d : κ → α → α → Int} (h : IsCmp c) (hd : ∀ k, IsCmp (d k)) (f : α → κ) (hf : ∀ a b, c a b = 0 → f a = f b) : IsCmp (fun a b => if c a b = 0 then d (f a) a b else c a b) := by
  refine ⟨fun a b => ?_, fun a b => ?_, fun a b e => ?_⟩
  · show (if c a b = 0 then d (f a) a b else c a b) = -1 ∨ (if c a b = 0 then d (f a) a b else c a b) = 0 ∨ (if c a b = 0 then d (f a) a b else c a b) = 1
    split
    · exact (hd _).one _ _
    · exact h.one _ _
  · show (if c a b = 0 then d (f a) a b else c a b) = - (if c b a = 0 then d (f b) b a else c b a)
    have := h.anti a b
    by_cases e : c a b = 0
    · rw [if_pos e, if_pos (by omega), ← hf a b e]; exact (hd _).anti _ _
    · rw [if_neg e, if_neg (by omega)]; exact this
  · show (if c a b = 0 then d (f a) a b else c a b) ≤ 0 → (if c b e = 0 then d (f b) b e else c b e) ≤ 0 → (if c a e = 0 then d (f a) a e else c a e) ≤ 0
    intro h1 h2
    by_cases e1 : c a b = 0
    · rw [if_pos e1] at h1
      have hl := h.left e e1
      by_cases e2 : c b e = 0
      · rw [if_pos e2] at h2
        rw [if_pos (by omega)]
        rw [← hf a b e1] at h2
        exact (hd _).trans _ _ _ h1 h2
      · rw [if_neg e2] at h2
        rw [if_neg (by omega)]; omega
    · rw [if_neg e1] at h1
      by_cases e2 : c b e = 0
      · have hr := h.right a e2
        rw [if_neg (by omega)]; omega
      · rw [if_neg e2] at h2
        have := h.lt_le (a := a) (b := b) (d := e) (by omega) (by omega)
        rw [if_neg (by omega)]; omega
/-- Lists, item by item, a shorter one ahead. -/
def lex (c : α → α → Int) : List α → List α → Int
  | [], [] => 0
  | [], _ :: _ => -1
  | _ :: _, [] => 1
  | a :: r, b :: s => if c a b = 0 then lex c r s else c a b
theorem IsCmp.lex (h : IsCmp c) : IsCmp (lex c) := by
  refine ⟨?_, ?_, ?_⟩
  · intro a
    induction a with
    | nil => intro b; cases b <;> simp [Order.lex]
    | cons x r ih =>
      intro b
      cases b with
      | nil => simp [Order.lex]
      | cons y s =>
        rw [Order.lex]
        split
        · exact ih s
        · exact h.one _ _
  · intro a
    induction a with
    | nil => intro b; cases b <;> simp [Order.lex]
    | cons x r ih =>
      intro b
      cases b with
      | nil => simp [Order.lex]
      | cons y s =>
        rw [Order.lex, Order.lex]
        have := h.anti x y
        by_cases e : c x y = 0
        · rw [if_pos e, if_pos (by omega)]; exact ih s
        · rw [if_neg e, if_neg (by omega)]; exact this
  · intro a
    induction a with
    | nil =>
      intro b d _ h2
      cases d with
      | nil => simp [Order.lex]
      | cons z t => simp [Order.lex]
    | cons x r ih =>
      intro b d h1 h2
      cases b with
      | nil => simp [Order.lex] at h1
      | cons y s =>
        cases d with
        | nil => simp [Order.lex] at h2
        | cons z t =>
          rw [Order.lex] at h1 h2 ⊢
          by_cases e1 : c x y = 0
          · rw [if_pos e1] at h1
            have hl := h.left z e1
            by_cases e2 : c y z = 0
            · rw [if_pos e2] at h2
              rw [if_pos (by omega)]; exact ih s t h1 h2
            · rw [if_neg e2] at h2
              rw [if_neg (by omega)]; omega
          · rw [if_neg e1] at h1
            by_cases e2 : c y z = 0
            · have hr := h.right x e2
              rw [if_neg (by omega)]; omega
            · rw [if_neg e2] at h2
              have := h.lt_le (a := x) (b := y) (d := z) (by omega) (by omega)
              rw [if_neg (by omega)]; omega
theorem lex_step {a b : List α} {k : Nat} (ha : k < a.length) (hb : k < b.length) (e : c a[k] b[k] = 0) : lex c (a.drop k) (b.drop k) = lex c (a.drop (k + 1)) (b.drop (k + 1)) := by
  rw [List.drop_eq_getElem_cons ha, List.drop_eq_getElem_cons hb, lex, if_pos e]
theorem lex_here {a b : List α} {k : Nat} (ha : k < a.length) (hb : k < b.length) (e : c a[k] b[k] ≠ 0) : lex c (a.drop k) (b.drop k) = c a[k] b[k] := by
  rw [List.drop_eq_getElem_cons ha, List.drop_eq_getElem_cons hb, lex, if_neg e]
theorem lex_end {a b : List α} {k : Nat} (ha : k ≤ a.length) (hb : k ≤ b.length) (e : k = a.length ∨ k = b.length) : lex c (a.drop k) (b.drop k) = sgn a.length b.length := by
  rcases e with e | e
  · subst e
    rw [List.drop_eq_nil_of_le (Nat.le_refl _)]
    by_cases h : a.length < b.length
    · rw [List.drop_eq_getElem_cons h, lex, sgn_lt (by omega)]
    · rw [List.drop_eq_nil_of_le (by omega), lex, sgn_zero.2 (by omega)]
  · subst e
    rw [List.drop_eq_nil_of_le (Nat.le_refl b.length)]
    by_cases h : b.length < a.length
    · rw [List.drop_eq_getElem_cons h, lex, sgn_gt (by omega)]
    · rw [List.drop_eq_nil_of_le (by omega), lex, sgn_zero.2 (by omega)]
theorem lex_map {β : Type} {c' : β → β → Int} (f : β → α) (h : ∀ x y, c' x y = c (f x) (f y)) : ∀ (a b : List β), lex c' a b = lex c (a.map f) (b.map f)
  | [], [] => rfl
  | [], _ :: _ => rfl
  | _ :: _, [] => rfl
  | x :: r, y :: s => by
    rw [List.map_cons, List.map_cons, lex, lex, h, lex_map f h r s]
end
/-- Bytes. -/
def oct (a b : Nat) : Int := sgn a b
def octs (a b : List Nat) : Int := lex oct a b
def bytes (s : ByteArray) : List Nat := s.data.toList.map UInt8.toNat
def text (a b : ByteArray) : Int := octs (bytes a) (bytes b)
theorem oct_cmp : IsCmp oct := IsCmp.on (c := sgn) IsCmp.sgn (fun a : Nat => (a : Int))
theorem octs_cmp : IsCmp octs := oct_cmp.lex
theorem text_cmp : IsCmp text := octs_cmp.on bytes
theorem compareBytes_octs : ∀ (a b : List UInt8), Lib.compareBytes a b = octs (a.map UInt8.toNat) (b.map UInt8.toNat)
  | [], [] => rfl
  | [], _ :: _ => rfl
  | _ :: _, [] => rfl
  | x :: r, y :: s => by
    have ih := compareBytes_octs r s
    rw [Lib.compareBytes, List.map_cons, List.map_cons, octs, lex]
    rw [octs] at ih
    rw [← ih]
    by_cases h : x < y
    · have h' : x.toNat < y.toNat := UInt8.lt_iff_toNat_lt.1 h
      have e : oct x.toNat y.toNat = -1 := sgn_lt (by omega)
      rw [if_pos h, e, if_neg (by decide)]
    · by_cases h2 : y < x
      · have h' : y.toNat < x.toNat := UInt8.lt_iff_toNat_lt.1 h2
        have e : oct x.toNat y.toNat = 1 := sgn_gt (by omega)
        rw [if_neg h, if_pos h2, e, if_neg (by decide)]
      · have h3 : ¬ x.toNat < y.toNat := fun e => h (UInt8.lt_iff_toNat_lt.2 e)
        have h4 : ¬ y.toNat < x.toNat := fun e => h2 (UInt8.lt_iff_toNat_lt.2 e)
        have e : oct x.toNat y.toNat = 0 := sgn_zero.2 (by omega)
        rw [if_neg h, if_neg h2, e, if_pos rfl]
theorem compareBytes_text (a b : ByteArray) : Lib.compareBytes a.data.toList b.data.toList = text a b := compareBytes_octs _ _
/-- A field's comparison. -/
def fld (c : Val → Val → Int) (p q : ByteArray × Val) : Int :=
  if sgn (cls p.2.kind) (cls q.2.kind) = 0 then (if text p.1 q.1 = 0 then c p.2 q.2 else text p.1 q.1) else sgn (cls p.2.kind) (cls q.2.kind)
/-- Bytes, by how many first. -/
def blob (a b : List Nat) : Int := if sgn a.length b.length = 0 then octs a b else sgn a.length b.length
def inner (c : Val → Val → Int) (k : Int) (x y : Val) : Int :=
  if k = 3 ∨ k = 9 ∨ k = 10 then sgn x.n y.n
  else if k = 4 then text x.s y.s
  else if k = 5 then lex (fld c) x.f y.f
  else if k = 6 then lex c x.l y.l
  else if k = 7 then blob x.b y.b
  else if k = 8 then octs x.b y.b
  else 0
/-- The order of all values (of at most that height). -/
def cmp : Nat → Val → Val → Int
  | 0, _, _ => 0
  | h + 1, x, y => if sgn (cls x.kind) (cls y.kind) = 0 then inner (cmp h) (cls x.kind) x y else sgn (cls x.kind) (cls y.kind)
theorem fld_cmp {c : Val → Val → Int} (h : IsCmp c) : IsCmp (fld c) := by
  have h1 : IsCmp (fun p q : ByteArray × Val => c p.2 q.2) := h.on (fun p : ByteArray × Val => p.2)
  have h2 : IsCmp (fun p q : ByteArray × Val => if text p.1 q.1 = 0 then c p.2 q.2 else text p.1 q.1) :=
    IsCmp.next (c := fun p q : ByteArray × Val => text p.1 q.1) (d := fun (_ : Unit) (p q : ByteArray × Val) => c p.2 q.2) (text_cmp.on (fun p : ByteArray × Val => p.1)) (fun _ => h1) (fun _ => ()) (fun _ _ _ => rfl)
  exact IsCmp.next (c := fun p q : ByteArray × Val => sgn (cls p.2.kind) (cls q.2.kind)) (d := fun (_ : Unit) (p q : ByteArray × Val) => if text p.1 q.1 = 0 then c p.2 q.2 else text p.1 q.1)
    (IsCmp.on IsCmp.sgn (fun p : ByteArray × Val => cls p.2.kind)) (fun _ => h2) (fun _ => ()) (fun _ _ _ => rfl)
theorem blob_cmp : IsCmp blob :=
  IsCmp.next (IsCmp.on IsCmp.sgn (fun a : List Nat => (a.length : Int))) (d := fun _ : Unit => octs) (fun _ => octs_cmp) (fun _ => ()) (fun _ _ _ => rfl)
theorem inner_cmp {c : Val → Val → Int} (h : IsCmp c) (k : Int) : IsCmp (inner c k) := by
  by_cases e1 : k = 3 ∨ k = 9 ∨ k = 10
  · have : inner c k = fun x y => sgn x.n y.n := by funext x y; rw [inner, if_pos e1]
    rw [this]; exact IsCmp.on IsCmp.sgn _
  by_cases e2 : k = 4
  · have : inner c k = fun x y => text x.s y.s := by funext x y; rw [inner, if_neg e1, if_pos e2]
    rw [this]; exact IsCmp.on text_cmp Val.s
  by_cases e3 : k = 5
  · have : inner c k = fun x y => lex (fld c) x.f y.f := by funext x y; rw [inner, if_neg e1, if_neg e2, if_pos e3]
    rw [this]; exact IsCmp.on (IsCmp.lex (fld_cmp h)) Val.f
  by_cases e4 : k = 6
  · have : inner c k = fun x y => lex c x.l y.l := by funext x y; rw [inner, if_neg e1, if_neg e2, if_neg e3, if_pos e4]
    rw [this]; exact IsCmp.on (IsCmp.lex h) Val.l
  by_cases e5 : k = 7
  · have : inner c k = fun x y => blob x.b y.b := by funext x y; rw [inner, if_neg e1, if_neg e2, if_neg e3, if_neg e4, if_pos e5]
    rw [this]; exact IsCmp.on blob_cmp Val.b
  by_cases e6 : k = 8
  · have : inner c k = fun x y => octs x.b y.b := by funext x y; rw [inner, if_neg e1, if_neg e2, if_neg e3, if_neg e4, if_neg e5, if_pos e6]
    rw [this]; exact IsCmp.on octs_cmp Val.b
  · have : inner c k = fun _ _ => 0 := by funext x y; rw [inner, if_neg e1, if_neg e2, if_neg e3, if_neg e4, if_neg e5, if_neg e6]
    rw [this]; exact IsCmp.nought
theorem cmp_cmp : ∀ h, IsCmp (cmp h)
  | 0 => IsCmp.nought
  | h + 1 => IsCmp.next (IsCmp.on IsCmp.sgn (fun x : Val => cls x.kind)) (inner_cmp (cmp_cmp h)) (fun x => cls x.kind) (fun _ _ e => sgn_zero.1 e)
theorem cmp_cmpH (h : Nat) (x y : Val) : cmp h x y = - cmp h y x := (cmp_cmp h).anti x y
/-- Rows, from the item i on. -/
def byFrom {α : Type} (c : α → α → Int) (z : α) (a b : List α) (down : List Bool) : Nat → Nat → Int
  | 0, _ => 0
  | n + 1, i => if c (a.getD i z) (b.getD i z) = 0 then byFrom c z a b down n (i + 1) else if down.getD i false then - c (a.getD i z) (b.getD i z) else c (a.getD i z) (b.getD i z)
def rows {α : Type} (c : α → α → Int) (z : α) (a b : List α) (down : List Bool) : Int := byFrom c z a b down (max a.length b.length) 0
theorem byFrom_anti {α : Type} {c : α → α → Int} (h : IsCmp c) (z : α) (a b : List α) (down : List Bool) : ∀ n i, byFrom c z a b down n i = - byFrom c z b a down n i
  | 0, _ => rfl
  | n + 1, i => by
    have h1 := h.anti (a.getD i z) (b.getD i z)
    rw [byFrom, byFrom]
    by_cases e : c (a.getD i z) (b.getD i z) = 0
    · rw [if_pos e, if_pos (by omega)]; exact byFrom_anti h z a b down n (i + 1)
    · rw [if_neg e, if_neg (show ¬ c (b.getD i z) (a.getD i z) = 0 by omega)]
      by_cases d : down.getD i false = true
      · rw [if_pos d, if_pos d]; omega
      · rw [if_neg d, if_neg d]; omega
theorem rows_anti {α : Type} {c : α → α → Int} (h : IsCmp c) (z : α) (a b : List α) (down : List Bool) : rows c z a b down = - rows c z b a down := by
  rw [rows, rows, Nat.max_comm]; exact byFrom_anti h z a b down _ _
theorem rows_self {α : Type} {c : α → α → Int} (h : IsCmp c) (z : α) (a : List α) (down : List Bool) : rows c z a a down = 0 := by
  have := rows_anti h z a a down; omega
theorem byFrom_bd {α : Type} {c : α → α → Int} (h : IsCmp c) (z : α) (a b : List α) (down : List Bool) : ∀ n i, -1 ≤ byFrom c z a b down n i ∧ byFrom c z a b down n i ≤ 1
  | 0, _ => by rw [byFrom]; omega
  | n + 1, i => by
    rw [byFrom]
    have := h.one (a.getD i z) (b.getD i z)
    split
    · exact byFrom_bd h z a b down n (i + 1)
    · split <;> omega
/-- A comparison, turned round or not. -/
def turned {α : Type} (c : α → α → Int) (down : Bool) (x y : α) : Int := if down then - c x y else c x y
theorem turned_cmp {α : Type} {c : α → α → Int} (h : IsCmp c) (down : Bool) : IsCmp (turned c down) := by
  cases down with
  | false => exact h
  | true =>
    refine ⟨fun a b => ?_, fun a b => ?_, fun a b d => ?_⟩
    · have := h.one a b
      show - c a b = -1 ∨ - c a b = 0 ∨ - c a b = 1
      omega
    · have := h.anti a b
      show - c a b = - - c b a
      omega
    · show - c a b ≤ 0 → - c b d ≤ 0 → - c a d ≤ 0
      have h1 := h.trans d b a
      have a1 := h.anti a b
      have a2 := h.anti b d
      have a3 := h.anti a d
      intro x y
      have := h1 (by omega) (by omega)
      omega
theorem turned_zero {α : Type} {c : α → α → Int} {d : Bool} {x y : α} : turned c d x y = 0 ↔ c x y = 0 := by
  cases d
  · exact Iff.rfl
  · show - c x y = 0 ↔ _; omega
theorem by_next {α : Type} {c : α → α → Int} {z : α} {a b : List α} {down : List Bool} {M k : Nat} (hk : k < M) (e : turned c (down.getD k false) (a.getD k z) (b.getD k z) = 0) : byFrom c z a b down (M - k) k = byFrom c z a b down (M - (k + 1)) (k + 1) := by
  obtain ⟨n, hn⟩ : ∃ n, M - k = n + 1 := ⟨M - k - 1, by omega⟩
  rw [hn, byFrom, if_pos (turned_zero.1 e), show M - (k + 1) = n by omega]
theorem by_here {α : Type} {c : α → α → Int} {z : α} {a b : List α} {down : List Bool} {M k : Nat} (hk : k < M) (e : ¬ turned c (down.getD k false) (a.getD k z) (b.getD k z) = 0) : byFrom c z a b down (M - k) k = turned c (down.getD k false) (a.getD k z) (b.getD k z) := by
  obtain ⟨n, hn⟩ : ∃ n, M - k = n + 1 := ⟨M - k - 1, by omega⟩
  rw [hn, byFrom, if_neg (fun x => e (turned_zero.2 x))]
  rfl
theorem by_last {α : Type} {c : α → α → Int} {z : α} {a b : List α} {down : List Bool} {M k : Nat} (hk : ¬ k < M) : byFrom c z a b down (M - k) k = 0 := by
  rw [show M - k = 0 by omega]; rfl
/-- The first of the least among the first n. -/
structure Best {α : Type} (c : α → α → Int) (z : α) (l : List α) (n k : Nat) : Prop where
  lt : k < n
  ahead : ∀ j, j < k → 0 < c (l.getD j z) (l.getD k z)
  behind : ∀ j, k < j → j < n → 0 ≤ c (l.getD j z) (l.getD k z)
section
variable {α : Type} {c : α → α → Int} {z : α} {l : List α} {n k : Nat}
theorem Best.first : Best c z l 1 0 := ⟨by omega, fun j h => by omega, fun j h1 h2 => by omega⟩
theorem Best.stay (h : Best c z l n k) (e : ¬ c (l.getD n z) (l.getD k z) < 0) : Best c z l (n + 1) k :=
  ⟨by have := h.lt; omega, h.ahead, fun j h1 h2 => by
    by_cases e2 : j = n
    · subst e2; omega
    · exact h.behind j h1 (by omega)⟩
theorem Best.turn (hc : IsCmp c) (h : Best c z l n k) (e : c (l.getD n z) (l.getD k z) < 0) : Best c z l (n + 1) n :=
  ⟨by omega, fun j hj => by
    have h1 : 0 ≤ c (l.getD j z) (l.getD k z) := by
      by_cases e1 : j < k
      · have := h.ahead j e1; omega
      · by_cases e2 : j = k
        · subst e2; have := hc.refl (l.getD j z); omega
        · exact h.behind j (by omega) hj
    have a1 := hc.anti (l.getD j z) (l.getD k z)
    have a2 := hc.anti (l.getD j z) (l.getD n z)
    have := hc.lt_le e (show c (l.getD k z) (l.getD j z) ≤ 0 by omega)
    omega, fun j h1 h2 => by omega⟩
theorem Best.same (hc : IsCmp c) {k' : Nat} (h : Best c z l n k) (h' : Best c z l n k') : k = k' := by
  have a1 := hc.anti (l.getD k z) (l.getD k' z)
  have l1 := h.lt
  have l2 := h'.lt
  rcases Nat.lt_trichotomy k k' with e | e | e
  · have := h'.ahead k e; have := h.behind k' e l2; omega
  · exact e
  · have := h.ahead k' e; have := h'.behind k e l1; omega
theorem Best.all (hc : IsCmp c) (h : Best c z l n k) (j : Nat) (hj : j < n) : 0 ≤ c (l.getD j z) (l.getD k z) := by
  by_cases e1 : j < k
  · have := h.ahead j e1; omega
  · by_cases e2 : j = k
    · subst e2; have := hc.refl (l.getD j z); omega
    · exact h.behind j (by omega) hj
end
/-- What a value is sorted by (h: the height of what is in it). -/
def CutIs (h : Nat) (down : Bool) (x y : Val) : Prop :=
  (x.kind ≠ 7 ∧ y = x) ∨ (x.kind = 7 ∧ x.l = [] ∧ y = Bson.zero) ∨ (x.kind = 7 ∧ ∃ k, Best (turned (cmp h) down) Bson.zero x.l x.l.length k ∧ y = x.l.getD k Bson.zero)
theorem CutIs.same {h : Nat} {down : Bool} {x y y' : Val} (h1 : CutIs h down x y) (h2 : CutIs h down x y') : y = y' := by
  rcases h1 with ⟨k1, e1⟩ | ⟨k1, n1, e1⟩ | ⟨k1, k, b1, e1⟩
  · rcases h2 with ⟨_, e2⟩ | ⟨k2, _⟩ | ⟨k2, _⟩
    · rw [e1, e2]
    · exact absurd k2 k1
    · exact absurd k2 k1
  · rcases h2 with ⟨k2, _⟩ | ⟨_, _, e2⟩ | ⟨_, k, b2, _⟩
    · exact absurd k1 k2
    · rw [e1, e2]
    · have := b2.lt; rw [n1] at this; simp at this
  · rcases h2 with ⟨k2, _⟩ | ⟨_, n2, _⟩ | ⟨_, k', b2, e2⟩
    · exact absurd k1 k2
    · have := b1.lt; rw [n2] at this; simp at this
    · have := Best.same (turned_cmp (cmp_cmp h) down) b1 b2
      rw [e1, e2, this]
end Order
end
section
namespace Bson
open Go
/-- The value of the first field of that name, Missing where there is none. -/
def fieldIn : List (ByteArray × Val) → ByteArray → Val
  | [], _ => zero
  | (s, v) :: r, a => if s = a then v else fieldIn r a
def nil_ : Val := zero
/-- A List of these items. -/
def listOf (l : List Val) : Val := .mk 7 0 none_ [] [] l
/-- What an expression's path leads to (n: fuel, as much as names and height together). -/
def reach : Nat → Val → List ByteArray → Val
  | _, x, [] => x
  | 0, _, _ :: _ => zero
  | n + 1, x, a :: r => if x.kind = 6 then reach n (fieldIn x.f a) r else if x.kind = 7 then listOf ((x.l.map fun y => reach n y (a :: r)).filter fun y => decide (y.kind ≠ 0)) else zero
/-- What a query's path leads to. -/
def itself (x : Val) : List Val := x :: (if x.kind = 7 then x.l else [])
def all : Nat → Val → List ByteArray → List Val
  | _, x, [] => itself x
  | 0, _, _ :: _ => [zero]
  | n + 1, x, a :: r =>
    if x.kind = 6 then (if (fieldIn x.f a).kind = 0 then [zero] else all n (fieldIn x.f a) r)
    else if x.kind = 7 then (if (x.l.filter fun y => decide (y.kind = 6)).isEmpty then [zero] else (x.l.filter fun y => decide (y.kind = 6)).flatMap fun y => all n y (a :: r))
    else [zero]
theorem reach_nil (n : Nat) (x : Val) : reach n x [] = x := by cases n <;> rfl
theorem all_nil (n : Nat) (x : Val) : all n x [] = itself x := by cases n <;> rfl
theorem reach_doc (n : Nat) (x : Val) (a : ByteArray) (r : List ByteArray) (h : x.kind = 6) : reach (n + 1) x (a :: r) = reach n (fieldIn x.f a) r := by rw [reach, if_pos h]
theorem reach_list (n : Nat) (x : Val) (a : ByteArray) (r : List ByteArray) (h : x.kind = 7) : reach (n + 1) x (a :: r) = listOf ((x.l.map fun y => reach n y (a :: r)).filter fun y => decide (y.kind ≠ 0)) := by rw [reach, if_neg (by omega), if_pos h]
theorem reach_other (n : Nat) (x : Val) (a : ByteArray) (r : List ByteArray) (h6 : x.kind ≠ 6) (h7 : x.kind ≠ 7) : reach n x (a :: r) = zero := by
  cases n with
  | zero => rfl
  | succ n => rw [reach, if_neg h6, if_neg h7]
theorem all_ne (n : Nat) (x : Val) (p : List ByteArray) : all n x p ≠ [] := by
  induction n generalizing x p with
  | zero => cases p <;> simp [all, itself]
  | succ n ih =>
    cases p with
    | nil => simp [all, itself]
    | cons a r =>
      rw [all]
      split
      · split
        · simp
        · exact ih _ _
      · split
        · split
          · simp
          · rename_i h
            intro e
            simp only [List.isEmpty_iff] at h
            cases hl : x.l.filter fun y => decide (y.kind = 6) with
            | nil => exact h hl
            | cons y t =>
              rw [hl, List.flatMap_cons, List.append_eq_nil_iff] at e
              exact ih _ _ e.1
        · simp
theorem all_missing (n : Nat) (x : Val) (a : ByteArray) (r : List ByteArray) (h : x.kind = 6) (h0 : (fieldIn x.f a).kind = 0) : all (n + 1) x (a :: r) = [zero] := by rw [all, if_pos h, if_pos h0]
theorem all_doc (n : Nat) (x : Val) (a : ByteArray) (r : List ByteArray) (h : x.kind = 6) (h0 : (fieldIn x.f a).kind ≠ 0) : all (n + 1) x (a :: r) = all n (fieldIn x.f a) r := by rw [all, if_pos h, if_neg h0]
theorem all_none (n : Nat) (x : Val) (a : ByteArray) (r : List ByteArray) (h : x.kind = 7) (h0 : (x.l.filter fun y => decide (y.kind = 6)) = []) : all (n + 1) x (a :: r) = [zero] := by
  rw [all, if_neg (by omega), if_pos h, if_pos (by rw [h0]; rfl)]
theorem all_list (n : Nat) (x : Val) (a : ByteArray) (r : List ByteArray) (h : x.kind = 7) (h0 : (x.l.filter fun y => decide (y.kind = 6)) ≠ []) : all (n + 1) x (a :: r) = (x.l.filter fun y => decide (y.kind = 6)).flatMap fun y => all n y (a :: r) := by
  rw [all, if_neg (by omega), if_pos h, if_neg (by simp only [List.isEmpty_iff]; exact h0)]
theorem all_other (n : Nat) (x : Val) (a : ByteArray) (r : List ByteArray) (h6 : x.kind ≠ 6) (h7 : x.kind ≠ 7) : all n x (a :: r) = [zero] := by
  cases n with
  | zero => rfl
  | succ n => rw [all, if_neg h6, if_neg h7]
end Bson
end
