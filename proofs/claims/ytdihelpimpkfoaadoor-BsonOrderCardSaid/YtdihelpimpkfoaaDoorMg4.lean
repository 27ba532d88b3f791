/- BsonErr, BsonForth. -/
import Derived.Test.YtdihelpimpkfoaaDoorMg2
set_option maxRecDepth 100000
section
namespace Bson
open Go
def Told {α : Type} (r : Res α) : Prop := ∀ n, r = .err n → n ≠ 0
theorem told_ok {α : Type} (x : α) (r : List Nat) : Told (Res.ok x r) := fun _ h => by cases h
theorem told_err {α : Type} {n : Nat} (h : n ≠ 0) : Told (Res.err n : Res α) := fun m e => by injection e with e; omega
theorem told_bind {α β : Type} {a : Res α} {f : α → List Nat → Res β} (h : Told a) (hf : ∀ x r, Told (f x r)) : Told (a.bind f) := by
  cases a with
  | err n => exact fun m e => h m (by have e2 : (Res.err n : Res β) = .err m := e; injection e2 with e2; rw [e2])
  | ok x r => exact hf x r
theorem told_ite {α : Type} {c : Prop} [Decidable c] {a b : Res α} (ha : Told a) (hb : Told b) : Told (if c then a else b) := by
  split
  · exact ha
  · exact hb
theorem told_take (n : Nat) (l : List Nat) : Told (take n l) := told_ite (told_err (by decide)) (told_ok _ _)
theorem told_name (l : List Nat) : Told (name l) := told_ite (told_err (by decide)) (told_ite (told_err (by decide)) (told_ite (told_err (by decide)) (told_ok _ _)))
theorem told_number (k : Int) (n : Nat) (l : List Nat) : Told (number k n l) := told_bind (told_take _ _) fun _ _ => told_ok _ _
theorem told_float (n : Nat) (l : List Nat) : Told (float n l) := told_bind (told_take _ _) fun _ _ => told_err (by decide)
theorem told_scalar (c : Nat) (l : List Nat) : Told (scalarOf c l) := by
  unfold scalarOf
  refine told_ite (told_float _ _) (told_ite ?_ (told_ite ?_ (told_ite ?_ (told_ite ?_ (told_ite (told_number _ _ _) (told_ite (told_ok _ _) (told_ite (told_number _ _ _) (told_ite (told_number _ _ _) (told_ite (told_float _ _) (told_ite (told_ok _ _) (told_ite (told_ok _ _) (told_err (by decide)))))))))))))
  · refine told_bind (told_take _ _) fun h r => told_ite (told_err (by decide)) (told_bind (told_take _ _) fun t r' => ?_)
    exact told_ite (told_err (by decide)) (told_ite (told_err (by decide)) (told_ok _ _))
  · exact told_bind (told_take _ _) fun h r => told_ite (told_err (by decide)) (told_bind (told_take _ _) fun t r' => told_ok _ _)
  · exact told_bind (told_take _ _) fun _ _ => told_ok _ _
  · exact told_bind (told_take _ _) fun _ _ => told_ite (told_err (by decide)) (told_ok _ _)
theorem told_loop {val : Nat → List Nat → Res Val} (hv : ∀ c l, Told (val c l)) (list : Bool) : ∀ (g : Nat) (acc : List (ByteArray × Val)) (l : List Nat), Told (loop val list g acc l)
  | 0, _, _ => told_err (by decide)
  | _ + 1, _, [] => told_err (by decide)
  | g + 1, acc, c :: r => told_ite (told_ok _ _) (told_ite (told_err (by decide)) (told_bind (told_name _) fun s r2 => told_ite (told_err (by decide)) (told_ite (told_err (by decide)) (told_bind (hv _ _) fun v r3 => told_loop hv list g _ _))))
theorem told_valOf {d3 d4 : List Nat → Res Val} (h3 : ∀ l, Told (d3 l)) (h4 : ∀ l, Told (d4 l)) (c : Nat) (l : List Nat) : Told (valOf d3 d4 c l) := told_ite (h3 l) (told_ite (h4 l) (told_scalar c l))
theorem told_doc : ∀ (d : Nat) (list : Bool) (outer : Option Nat) (l : List Nat), Told (doc d list outer l)
  | 0, _, _, _ => told_err (by decide)
  | d + 1, list, _, _ => told_bind (told_take _ _) fun _ _ => told_ite (told_err (by decide)) (told_bind (told_loop (fun c l => told_valOf (told_doc d false none) (told_doc d true none) c l) list _ _ _) fun _ _ => told_ite (told_err (by decide)) (told_ok _ _))
/-- What is left is no more. -/
def Less {α : Type} (m : Nat) (r : Res α) : Prop := ∀ x r', r = .ok x r' → r'.length ≤ m
theorem less_ok {α : Type} {m : Nat} (x : α) {r : List Nat} (h : r.length ≤ m) : Less m (Res.ok x r) := fun _ _ e => by injection e with _ e2; rw [← e2]; exact h
theorem less_err {α : Type} {m n : Nat} : Less m (Res.err n : Res α) := fun _ _ e => by cases e
theorem less_bind {α β : Type} {m : Nat} {a : Res α} {f : α → List Nat → Res β} (h : Less m a) (hf : ∀ x r, r.length ≤ m → Less m (f x r)) : Less m (a.bind f) := by
  cases a with
  | err n => exact less_err
  | ok x r => exact hf x r (h x r rfl)
theorem less_ite {α : Type} {m : Nat} {c : Prop} [Decidable c] {a b : Res α} (ha : Less m a) (hb : Less m b) : Less m (if c then a else b) := by
  split
  · exact ha
  · exact hb
theorem less_take {m : Nat} (n : Nat) (l : List Nat) (h : l.length ≤ m) : Less m (take n l) := less_ite less_err (less_ok _ (by rw [List.length_drop]; omega))
theorem less_name {m : Nat} (l : List Nat) (h : l.length ≤ m) : Less m (name l) := less_ite less_err (less_ite less_err (less_ite less_err (less_ok _ (by rw [List.length_drop]; omega))))
theorem less_number {m : Nat} (k : Int) (n : Nat) (l : List Nat) (h : l.length ≤ m) : Less m (number k n l) := less_bind (less_take _ _ h) fun _ _ h2 => less_ok _ h2
theorem less_float {m : Nat} (n : Nat) (l : List Nat) (h : l.length ≤ m) : Less m (float n l) := less_bind (less_take _ _ h) fun _ _ _ => less_err
theorem less_scalar {m : Nat} (c : Nat) (l : List Nat) (h : l.length ≤ m) : Less m (scalarOf c l) := by
  unfold scalarOf
  refine less_ite (less_float _ _ h) (less_ite ?_ (less_ite ?_ (less_ite ?_ (less_ite ?_ (less_ite (less_number _ _ _ h) (less_ite (less_ok _ h) (less_ite (less_number _ _ _ h) (less_ite (less_number _ _ _ h) (less_ite (less_float _ _ h) (less_ite (less_ok _ h) (less_ite (less_ok _ h) less_err)))))))))))
  · refine less_bind (less_take _ _ h) fun _ r hr => less_ite less_err (less_bind (less_take _ _ hr) fun t r' hr' => ?_)
    exact less_ite less_err (less_ite less_err (less_ok _ hr'))
  · exact less_bind (less_take _ _ h) fun _ r hr => less_ite less_err (less_bind (less_take _ _ hr) fun t r' hr' => less_ok _ hr')
  · exact less_bind (less_take _ _ h) fun _ _ hr => less_ok _ hr
  · exact less_bind (less_take _ _ h) fun _ _ hr => less_ite less_err (less_ok _ hr)
theorem less_loop {val : Nat → List Nat → Res Val} {m : Nat} (hv : ∀ c l, l.length ≤ m → Less m (val c l)) (list : Bool) : ∀ (g : Nat) (acc : List (ByteArray × Val)) (l : List Nat), l.length ≤ m → Less m (loop val list g acc l)
  | 0, _, _, _ => less_err
  | _ + 1, _, [], _ => less_err
  | g + 1, acc, c :: r, h => by
    have hr : r.length ≤ m := by simp at h; omega
    exact less_ite (less_ok _ hr) (less_ite less_err (less_bind (less_name _ hr) fun s r2 h2 => less_ite less_err (less_ite less_err (less_bind (hv _ _ h2) fun v r3 h3 => less_loop hv list g _ _ h3))))
theorem less_doc {m : Nat} : ∀ (d : Nat) (list : Bool) (outer : Option Nat) (l : List Nat), l.length ≤ m → Less m (doc d list outer l)
  | 0, _, _, _, _ => less_err
  | d + 1, list, _, _, h => less_bind (less_take _ _ h) fun _ _ hr => less_ite less_err (less_bind (less_loop (fun c l hl => less_ite (less_doc d false none l hl) (less_ite (less_doc d true none l hl) (less_scalar c l hl))) list _ _ _ hr) fun _ _ hr' => less_ite less_err (less_ok _ hr'))
theorem less_valOf {m d : Nat} (c : Nat) (l : List Nat) (h : l.length ≤ m) : Less m (valOf (doc d false none) (doc d true none) c l) := less_ite (less_doc d false none l h) (less_ite (less_doc d true none l h) (less_scalar c l h))
theorem name_short {l : List Nat} {s : ByteArray} {r : List Nat} (h : name l = .ok s r) : s.size ≤ 120 := by
  unfold name at h
  split at h
  · cases h
  split at h
  · cases h
  split at h
  · cases h
  · rename_i h1
    injection h with h2 _
    rw [← h2]
    simp [ofBytes, ByteArray.size, List.length_take]
    omega
end Bson
end
section
namespace Bson
open Go
theorem size_zero {s : ByteArray} (h : s.size = 0) : s = none_ := by
  apply bytes_inj
  have h1 := bytes_length s
  rw [h] at h1
  rw [List.length_eq_zero_iff.1 h1]
  rfl
theorem bare_n {k n : Int} {s : ByteArray} {b : List Nat} {f : List (ByteArray × Val)} {l : List Val} {sn ss sb sf sl : Bool} (h : bare (.mk k n s b f l) sn ss sb sf sl = true) :
    (sn = false → n = 0) ∧ (ss = false → s = none_) ∧ (sb = false → b = []) ∧ (sf = false → f = []) ∧ (sl = false → l = []) := by
  simp only [bare, Val.n, Val.s, Val.b, Val.f, Val.l, Bool.and_eq_true, Bool.or_eq_true, beq_iff_eq, List.isEmpty_iff] at h
  obtain ⟨⟨⟨⟨h1, h2⟩, h3⟩, h4⟩, h5⟩ := h
  refine ⟨fun e => ?_, fun e => ?_, fun e => ?_, fun e => ?_, fun e => ?_⟩
  · rcases h1 with h | h
    · rw [e] at h; cases h
    · exact h
  · rcases h2 with h | h
    · rw [e] at h; cases h
    · exact size_zero h
  · rcases h3 with h | h
    · rw [e] at h; cases h
    · exact h
  · rcases h4 with h | h
    · rw [e] at h; cases h
    · exact h
  · rcases h5 with h | h
    · rw [e] at h; cases h
    · exact h
theorem scalar_app {v : Val} {bs : List Nat} (h : scalar v = some bs) (hlen : bs.length < 2147483648) (r : List Nat) : scalarOf (code v.kind) (bs ++ r) = .ok v r ∧ known (code v.kind) = true := by
  obtain ⟨k, n, s, b, f, l⟩ := v
  change scalarP k n s b (.mk k n s b f l) = some bs at h
  unfold scalarP at h
  show scalarOf (code k) (bs ++ r) = _ ∧ known (code k) = true
  by_cases c : k = 1 ∨ k = 2 ∨ k = 12
  · rw [if_pos c] at h
    split at h
    · rename_i hb
      obtain ⟨h1, h2, h3, h4, h5⟩ := bare_n hb
      obtain rfl := h1 rfl; obtain rfl := h2 rfl; obtain rfl := h3 rfl; obtain rfl := h4 rfl; obtain rfl := h5 rfl
      injection h with h; subst h
      rcases c with rfl | rfl | rfl <;> exact ⟨by simp [scalarOf, code], rfl⟩
    · cases h
  rw [if_neg c] at h
  by_cases c : k = 3
  · rw [if_pos c] at h; subst c
    split at h
    · rename_i hb
      simp only [Bool.and_eq_true, decide_eq_true_eq] at hb
      obtain ⟨⟨hb, h6⟩, h7⟩ := hb
      obtain ⟨h1, h2, h3, h4, h5⟩ := bare_n hb
      obtain rfl := h2 rfl; obtain rfl := h3 rfl; obtain rfl := h4 rfl; obtain rfl := h5 rfl
      injection h with h; subst h
      refine ⟨?_, rfl⟩
      show number 3 4 (leI n 4 ++ r) = _
      unfold number
      rw [take_app (leI_length _ _)]
      simp only [Res.bind, signed_leI4 n h6 h7]
    · cases h
  rw [if_neg c] at h
  by_cases c : k = 4 ∨ k = 11
  · rw [if_pos c] at h
    split at h
    · rename_i hb
      simp only [Bool.and_eq_true, decide_eq_true_eq] at hb
      obtain ⟨⟨hb, h6⟩, h7⟩ := hb
      obtain ⟨h1, h2, h3, h4, h5⟩ := bare_n hb
      obtain rfl := h2 rfl; obtain rfl := h3 rfl; obtain rfl := h4 rfl; obtain rfl := h5 rfl
      injection h with h; subst h
      rcases c with rfl | rfl
      · refine ⟨?_, rfl⟩
        show number 4 8 (leI n 8 ++ r) = _
        unfold number
        rw [take_app (leI_length _ _)]
        simp only [Res.bind, signed_leI8 n h6 h7]
      · refine ⟨?_, rfl⟩
        show number 11 8 (leI n 8 ++ r) = _
        unfold number
        rw [take_app (leI_length _ _)]
        simp only [Res.bind, signed_leI8 n h6 h7]
    · cases h
  rw [if_neg c] at h
  by_cases c : k = 10
  · rw [if_pos c] at h; subst c
    split at h
    · rename_i hb
      simp only [Bool.and_eq_true, Bool.or_eq_true, beq_iff_eq] at hb
      obtain ⟨hb, h6⟩ := hb
      obtain ⟨h1, h2, h3, h4, h5⟩ := bare_n hb
      obtain rfl := h2 rfl; obtain rfl := h3 rfl; obtain rfl := h4 rfl; obtain rfl := h5 rfl
      injection h with h; subst h
      refine ⟨?_, rfl⟩
      show bool (leI n 1 ++ r) = _
      have h6' : n = 0 ∨ n = 1 := h6
      unfold bool
      rw [take_app (leI_length _ _)]
      simp only [Res.bind, signed_leI1 n (by omega) (by omega)]
      rw [if_neg (by omega)]
    · cases h
  rw [if_neg c] at h
  by_cases c : k = 5
  · rw [if_pos c] at h; subst c
    split at h
    · rename_i hb
      simp only [Bool.and_eq_true] at hb
      obtain ⟨hb, hu⟩ := hb
      have hu' : u8 s = true := hu
      obtain ⟨h1, h2, h3, h4, h5⟩ := bare_n hb
      obtain rfl := h1 rfl; obtain rfl := h3 rfl; obtain rfl := h4 rfl; obtain rfl := h5 rfl
      injection h with h
      subst h
      simp only [List.length_append, leI_length, bytes_length, List.length_singleton] at hlen
      refine ⟨?_, rfl⟩
      show text (leI ((s.size : Int) + 1) 4 ++ (bytes s ++ [0]) ++ r) = _
      unfold text
      rw [List.append_assoc, take_app (leI_length _ _)]
      simp only [Res.bind, signed_leI4 ((s.size : Int) + 1) (by omega) (by omega)]
      rw [if_neg (by omega), show ((s.size : Int) + 1).toNat = s.size + 1 by omega, take_app (by simp [bytes_length])]
      have e1 : (bytes s ++ [0]).length - 1 = (bytes s).length := by simp
      simp only [e1]
      have e2 : (bytes s ++ [0]).getD (bytes s).length 0 = 0 := by simp [List.getD_eq_getElem?_getD]
      have e3 : (bytes s ++ [0]).take (bytes s).length = bytes s := by simp
      rw [e2, e3, ofBytes_bytes, hu', if_neg (by simp), if_neg (by simp)]
    · cases h
  rw [if_neg c] at h
  by_cases c : k = 8
  · rw [if_pos c] at h; subst c
    split at h
    · rename_i hb
      obtain ⟨h1, h2, h3, h4, h5⟩ := bare_n hb
      obtain rfl := h1 rfl; obtain rfl := h2 rfl; obtain rfl := h4 rfl; obtain rfl := h5 rfl
      injection h with h
      subst h
      simp only [List.length_append, leI_length, List.length_cons] at hlen
      refine ⟨?_, rfl⟩
      show blob (leI (b.length : Int) 4 ++ (0 :: b) ++ r) = _
      unfold blob
      have e0 : leI (b.length : Int) 4 ++ (0 :: b) ++ r = (leI (b.length : Int) 4 ++ [0]) ++ (b ++ r) := by simp
      rw [e0, take_app (by simp [leI_length])]
      have e1 : (leI (b.length : Int) 4 ++ [0]).take 4 = leI (b.length : Int) 4 := by
        rw [List.take_append_of_le_length (by rw [leI_length]; omega), List.take_of_length_le (by rw [leI_length]; omega)]
      have e2 : (leI (b.length : Int) 4 ++ [0]).getD 4 0 = 0 := by
        have := leI_length (b.length : Int) 4
        rw [List.getD_eq_getElem?_getD, List.getElem?_append_right (by omega), this]; rfl
      simp only [Res.bind, e1, e2, signed_leI4 (b.length : Int) (by omega) (by omega)]
      rw [if_neg (by omega), show ((b.length : Int)).toNat = b.length by omega, take_app rfl]
    · cases h
  rw [if_neg c] at h
  by_cases c : k = 9
  · rw [if_pos c] at h; subst c
    split at h
    · rename_i hb
      simp only [Bool.and_eq_true, beq_iff_eq] at hb
      obtain ⟨hb, hl⟩ := hb
      have hl' : b.length = 12 := hl
      obtain ⟨h1, h2, h3, h4, h5⟩ := bare_n hb
      obtain rfl := h1 rfl; obtain rfl := h2 rfl; obtain rfl := h4 rfl; obtain rfl := h5 rfl
      injection h with h
      subst h
      refine ⟨?_, rfl⟩
      show ident (b ++ r) = _
      unfold ident
      rw [take_app hl']; rfl
    · cases h
  rw [if_neg c] at h
  cases h
theorem row_cons {e : Val → Option (List Nat)} {s : ByteArray} {v : Val} {fs : List (ByteArray × Val)} {bs : List Nat} (h : row e ((s, v) :: fs) = some bs) :
    ∃ x y, nameMay s = true ∧ e v = some x ∧ row e fs = some y ∧ bs = code v.kind :: (bytes s ++ (0 :: (x ++ y))) := by
  rw [row] at h
  cases h1 : nameMay s with
  | false => rw [h1] at h; simp at h
  | true =>
    cases h2 : e v with
    | none => rw [h1, h2] at h; simp at h
    | some x =>
      cases h3 : row e fs with
      | none => rw [h1, h2, h3] at h; simp at h
      | some y =>
        rw [h1, h2, h3] at h
        injection h with h
        exact ⟨x, y, rfl, rfl, rfl, h.symm⟩
theorem row_length {e : Val → Option (List Nat)} : ∀ {fs : List (ByteArray × Val)} {bs : List Nat}, row e fs = some bs → 2 * fs.length ≤ bs.length
  | [], _, h => by simp
  | (s, v) :: fs, bs, h => by
    obtain ⟨x, y, _, _, hy, rfl⟩ := row_cons h
    have := row_length hy
    simp; omega
theorem loop_app {val : Nat → List Nat → Res Val} {e : Val → Option (List Nat)} {M : Nat} (hv : ∀ v bs, e v = some bs → bs.length < M → ∀ r, val (code v.kind) (bs ++ r) = .ok v r ∧ known (code v.kind) = true) (list : Bool) :
    ∀ (fs : List (ByteArray × Val)) (bs : List Nat) (acc : List (ByteArray × Val)) (g : Nat) (r : List Nat), row e fs = some bs → bs.length < M → fs.length < g → ((acc ++ fs).map (·.1)).Nodup →
      (list = true → ∀ i, i < fs.length → (fs.map (·.1))[i]? = some (digits (acc.length + i))) → loop val list g acc (bs ++ (0 :: r)) = .ok (acc ++ fs) r
  | [], bs, acc, g, r, h, _, hg, _, _ => by
    injection h with h; subst h
    obtain ⟨g, rfl⟩ : ∃ g', g = g' + 1 := ⟨g - 1, by simp at hg; omega⟩
    simp [loop]
  | (s, v) :: fs, bs, acc, g, r, h, hM, hg, hnd, hli => by
    obtain ⟨x, y, hs, hx, hy, rfl⟩ := row_cons h
    obtain ⟨g, rfl⟩ : ∃ g', g = g' + 1 := ⟨g - 1, by simp at hg; omega⟩
    have hk := (hv v x hx (by simp at hM; omega) []).2
    have hk0 : code v.kind ≠ 0 := by intro e0; rw [e0] at hk; simp [known] at hk
    have e0 : code v.kind :: (bytes s ++ (0 :: (x ++ y))) ++ (0 :: r) = code v.kind :: (bytes s ++ (0 :: (x ++ (y ++ (0 :: r))))) := by simp
    rw [e0, loop, if_neg hk0, hk, if_neg (by simp), name_app hs]
    simp only [Res.bind]
    have hn : ¬ (list = true ∧ s ≠ digits acc.length) := by
      rintro ⟨h1, h2⟩
      have := hli h1 0 (by simp)
      simp at this
      exact h2 this
    have ht : ¬ (acc.any (fun p => decide (p.1 = s)) = true) := by
      rw [any_name]
      intro hm
      rw [List.map_append, List.nodup_append] at hnd
      exact hnd.2.2 s hm s (by simp) rfl
    rw [if_neg hn, if_neg ht, (hv v x hx (by simp at hM; omega) _).1]
    simp only
    rw [loop_app hv list fs y (acc ++ [(s, v)]) g r hy (by simp at hM; omega) (by simp at hg; omega) (by simpa using hnd) (fun h1 i hi => by
      have := hli h1 (i + 1) (by simpa using hi)
      simp only [List.map_cons, List.getElem?_cons_succ] at this
      rw [this]; congr 2; simp; omega)]
    simp
theorem named_names (l : List Val) : ∀ i, i < l.length → ((named l).map (·.1))[i]? = some (digits i) := by
  intro i hi
  simp [named, hi]
theorem named_vals (l : List Val) : (named l).map (·.2) = l := by
  unfold named
  apply List.ext_getElem
  · simp
  · intro i h1 h2; simp
theorem named_length (l : List Val) : (named l).length = l.length := by simp [named]
theorem named_nodup (l : List Val) : ((named l).map (·.1)).Nodup := by
  unfold List.Nodup
  rw [List.pairwise_iff_getElem]
  intro i j hi hj hij h
  have hj' : j < l.length := by simpa [named] using hj
  have e1 := named_names l i (by omega)
  have e2 := named_names l j hj'
  rw [List.getElem?_eq_getElem (by omega)] at e1
  rw [List.getElem?_eq_getElem (by omega)] at e2
  rw [h] at e1
  have := digits_inj (Option.some.inj (e1.symm.trans e2))
  omega
theorem wrap_take (l r : List Nat) : take 4 (wrap l ++ r) = .ok (leI ((l.length : Int) + 5) 4) (l ++ (0 :: r)) := by
  have : wrap l ++ r = leI ((l.length : Int) + 5) 4 ++ (l ++ (0 :: r)) := by simp [wrap]
  rw [this, take_app (leI_length _ _)]
mutual
theorem doc_app : ∀ (d : Nat) (v : Val) (bs : List Nat) (list : Bool) (outer : Option Nat), enc d v = some bs → bs.length < 2147483648 → v.kind = (if list then 7 else 6) → (∀ n, outer = some n → bs.length = n) → ∀ r, doc d list outer (bs ++ r) = .ok v r
  | 0, v, bs, list, outer, h, _, hk, _ => by
    have := scalar_kind h
    cases list <;> simp at hk <;> omega
  | d + 1, v, bs, list, outer, h, hlen, hk, ho => by
    intro r
    obtain ⟨k, n, s, b, f, l⟩ := v
    have hk' : k = (if list then 7 else 6) := hk
    have fin : ∀ fs y, bs = wrap y → row (enc d) fs = some y → (fs.map (·.1)).Nodup → (list = true → ∀ i, i < fs.length → (fs.map (·.1))[i]? = some (digits i)) → shut list fs = .mk k n s b f l → doc (d + 1) list outer (bs ++ r) = .ok (.mk k n s b f l) r := by
      intro fs y hbs hy hnd hnm hsh
      subst hbs
      rw [wrap_length] at hlen
      have hs : signed (leI ((y.length : Int) + 5) 4) = (y.length : Int) + 5 := signed_leI4 _ (by omega) (by omega)
      rw [doc, wrap_take]
      simp only [Res.bind, hs]
      have h1 : ¬ ((y.length : Int) + 5 < 5 ∨ ∃ n, outer = some n ∧ (y.length : Int) + 5 ≠ n) := by
        rintro (h | ⟨n, h1, h2⟩)
        · omega
        · have := ho n h1; rw [wrap_length] at this; omega
      have hg : fs.length < (y ++ (0 :: r)).length + 1 := by have := row_length hy; simp; omega
      rw [if_neg h1, loop_app (M := 2147483648) (fun v bs h1 h2 r => val_app d v bs h1 h2 r) list fs y [] _ r hy (by omega) hg (by simpa using hnd) (fun h i hi => by simpa using hnm h i hi)]
      simp only [List.nil_append]
      rw [if_neg (by simp [wrap_length]; try omega), hsh]
    cases list with
    | false =>
      obtain rfl : k = 6 := hk'
      rw [enc_doc _ _ rfl] at h
      split at h
      · rename_i hb
        simp only [Bool.and_eq_true, decide_eq_true_eq] at hb
        obtain ⟨hb, hnd⟩ := hb
        obtain ⟨h1, h2, h3, h4, h5⟩ := bare_n hb
        obtain rfl := h1 rfl; obtain rfl := h2 rfl; obtain rfl := h3 rfl; obtain rfl := h5 rfl
        cases hy : row (enc d) f with
        | none => have : (row (enc d) f).map wrap = some bs := h
                  rw [hy] at this; cases this
        | some y =>
          have : (row (enc d) f).map wrap = some bs := h
          rw [hy] at this
          injection this with this
          exact fin f y this.symm hy hnd (fun h => by cases h) rfl
      · cases h
    | true =>
      obtain rfl : k = 7 := hk'
      rw [enc_list _ _ rfl] at h
      split at h
      · rename_i hb
        obtain ⟨h1, h2, h3, h4, h5⟩ := bare_n hb
        obtain rfl := h1 rfl; obtain rfl := h2 rfl; obtain rfl := h3 rfl; obtain rfl := h4 rfl
        cases hy : row (enc d) (named l) with
        | none => have : (row (enc d) (named l)).map wrap = some bs := h
                  rw [hy] at this; cases this
        | some y =>
          have : (row (enc d) (named l)).map wrap = some bs := h
          rw [hy] at this
          injection this with this
          exact fin (named l) y this.symm hy (named_nodup l) (fun _ i hi => named_names l i (by rwa [named_length] at hi)) (by simp [shut, named_vals])
      · cases h
theorem val_app : ∀ (d : Nat) (v : Val) (bs : List Nat), enc d v = some bs → bs.length < 2147483648 → ∀ r, valOf (doc d false none) (doc d true none) (code v.kind) (bs ++ r) = .ok v r ∧ known (code v.kind) = true := by
  intro d v bs h hlen r
  by_cases c6 : v.kind = 6
  · have := doc_app d v bs false none h hlen (by simpa using c6) (fun n h => by cases h) r
    rw [c6]
    exact ⟨this, rfl⟩
  by_cases c7 : v.kind = 7
  · have := doc_app d v bs true none h hlen (by simpa using c7) (fun n h => by cases h) r
    rw [c7]
    exact ⟨this, rfl⟩
  · have hs : scalar v = some bs := by
      cases d with
      | zero => exact h
      | succ d => rwa [enc, if_neg c6, if_neg c7] at h
    obtain ⟨h1, h2⟩ := scalar_app hs hlen r
    refine ⟨?_, h2⟩
    have n3 : code v.kind ≠ 3 := by
      intro e; rw [e] at h1; simp [scalarOf] at h1
    have n4 : code v.kind ≠ 4 := by
      intro e; rw [e] at h1; simp [scalarOf] at h1
    rw [valOf, if_neg n3, if_neg n4, h1]
end
/-- WHAT IS ENCODED IS DECODED AS IT. -/
theorem enc_decode {v : Val} {bs : List Nat} (h : enc 32 v = some bs) (hk : v.kind = 6) (hlen : bs.length ≤ 65536) : decode bs = (0, v) := by
  unfold decode
  rw [if_neg (by omega)]
  have := doc_app 32 v bs false (some bs.length) h (by omega) (by simpa using hk) (fun n h => by injection h) []
  rw [List.append_nil] at this
  rw [this]
/-- A document's bytes, cut, or with one behind them. -/
theorem cut_short {l : List Nat} (h : l.length < 4) : decode l = (2, zero) := by
  unfold decode
  rw [if_neg (by omega), doc, take, if_pos h]; rfl
theorem cut_form {bs l : List Nat} {v : Val} (h : enc 32 v = some bs) (hk : v.kind = 6) (hlen : bs.length ≤ 65536) (hl : 4 ≤ l.length) (hh : l.take 4 = bs.take 4) (hne : l.length ≠ bs.length) (hm : l.length ≤ 65536) : decode l = (4, zero) := by
  obtain ⟨k, n, s, b, f, l'⟩ := v
  obtain rfl : k = 6 := hk
  rw [enc_doc _ _ rfl] at h
  split at h
  · cases hy : row (enc 31) f with
    | none => have : (row (enc 31) f).map wrap = some bs := h
              rw [hy] at this; cases this
    | some y =>
      have : (row (enc 31) f).map wrap = some bs := h
      rw [hy] at this
      injection this with this
      subst this
      rw [wrap_length] at hlen hne
      have e4 : (wrap y).take 4 = leI ((y.length : Int) + 5) 4 := by
        unfold wrap
        rw [List.take_append_of_le_length (by rw [leI_length]; omega), List.take_of_length_le (by rw [leI_length]; omega)]
      unfold decode
      rw [if_neg (by omega), doc, take, if_neg (by omega), hh, e4]
      simp only [Res.bind]
      rw [if_pos (.inr ⟨_, rfl, by rw [signed_leI4 _ (by omega) (by omega)]; omega⟩)]
  · cases h
end Bson
end
