/- Rows as keys: in the rows' order (no walk). -/
import Derived.Test.YtdcfddiicclpeaaDoorKeyMath
import Derived.Test.YtdcfddiicclpeaaDoorBsonMem
namespace Go.Proofs.YtdcfddiicclpeaaDoor
open Go.RowKit
open Bson (Val)
open Key
/-- All bytes are bytes. -/
def OctsIn : Nat → Val → Prop
  | 0, x => ∀ c ∈ x.b, c < 256
  | L + 1, x => (∀ c ∈ x.b, c < 256) ∧ (∀ p ∈ x.f, OctsIn L p.2) ∧ ∀ v ∈ x.l, OctsIn L v
theorem OctsIn.here {L : Nat} {x : Val} (h : OctsIn L x) : ∀ c ∈ x.b, c < 256 := by
  cases L with
  | zero => exact h
  | succ L => exact h.1
theorem be_oct (n : Nat) : ∀ k, ∀ c ∈ be n k, c < 256
  | 0, c, h => by cases h
  | k + 1, c, h => by
    rcases List.mem_cons.1 h with e | h
    · rw [e]; exact Nat.mod_lt _ (by decide)
    · exact be_oct n k c h
theorem esc_oct : ∀ l : List Nat, (∀ c ∈ l, c < 256) → ∀ c ∈ esc l, c < 256
  | [], _, c, h => by cases h
  | x :: r, hl, c, h => by
    rw [esc_cons] at h
    have ih := esc_oct r (fun y hy => hl y (by simp [hy]))
    split at h
    · rcases List.mem_cons.1 h with e | h
      · omega
      · rcases List.mem_cons.1 h with e | h
        · omega
        · exact ih c h
    · rcases List.mem_cons.1 h with e | h
      · rw [e]; exact hl x (by simp)
      · exact ih c h
theorem text_oct (l : List Nat) (hl : ∀ c ∈ l, c < 256) : ∀ c ∈ textB l, c < 256 := fun c h => by
  rcases List.mem_append.1 h with h | h
  · exact esc_oct l hl c h
  · simp at h; omega
theorem bytes_oct (s : ByteArray) : ∀ c ∈ Order.bytes s, c < 256 := fun c hc => by
  obtain ⟨b, _, rfl⟩ := List.mem_map.1 hc
  exact b.toNat_lt
theorem row_oct {α : Type} (e : α → List Nat) : ∀ l : List α, (∀ a ∈ l, ∀ c ∈ e a, c < 256) → ∀ c ∈ rowB e l, c < 256
  | [], _, c, h => by simp [rowB] at h; omega
  | a :: r, hl, c, h => by
    rcases List.mem_append.1 h with h | h
    · exact hl a (by simp) c h
    · exact row_oct e r (fun y hy => hl y (by simp [hy])) c h
theorem beh_oct : ∀ (L : Nat) (x : Val), OctsIn L x → ∀ c ∈ beh L x, c < 256 := by
  intro L
  induction L with
  | zero =>
    intro x hx c hc
    unfold beh at hc
    split at hc
    · exact be_oct _ 8 c hc
    split at hc
    · exact text_oct _ (bytes_oct _) c hc
    split at hc
    · rcases List.mem_append.1 hc with h | h
      · exact be_oct _ 8 c h
      · exact hx.here c h
    split at hc
    · exact text_oct _ hx.here c hc
    · cases hc
  | succ L ih =>
    intro x hx c hc
    unfold beh at hc
    split at hc
    · exact be_oct _ 8 c hc
    split at hc
    · exact text_oct _ (bytes_oct _) c hc
    split at hc
    · rcases List.mem_append.1 hc with h | h
      · exact be_oct _ 8 c h
      · exact hx.here c h
    split at hc
    · exact text_oct _ hx.here c hc
    · simp only [] at hc
      split at hc
      · refine row_oct _ x.f (fun p hp c hc => ?_) c hc
        rcases List.mem_cons.1 hc with e | hc
        · rw [e]; exact mark_lt _
        · rcases List.mem_append.1 hc with h | h
          · exact text_oct _ (bytes_oct _) c h
          · exact ih p.2 (hx.2.1 p hp) c h
      · split at hc
        · refine row_oct _ x.l (fun p hp c hc => ?_) c hc
          rcases List.mem_cons.1 hc with e | hc
          · rw [e]; exact mark_lt _
          · exact ih p (hx.2.2 p hp) c hc
        · cases hc
theorem val_oct (L : Nat) (x : Val) (h : OctsIn L x) : ∀ c ∈ valB L x, c < 256 := fun c hc => by
  rcases List.mem_cons.1 hc with e | hc
  · rw [e]; exact mark_lt _
  · exact beh_oct L x h c hc
/-- What is known of an item. -/
def Fine (L : Nat) (x : Val) : Prop := fits L x ∧ Okay L x ∧ OctsIn L x
theorem item_codes (L h : Nat) (d : Bool) (x y : Val) (hx : Fine L x) (hy : Fine L y) (hL : L < h) (r s : List Nat) : Order.octs (itemB L d x ++ r) (itemB L d y ++ s) = next (Order.turned (Order.cmp h) d x y) (Order.octs r s) := by
  have hv := fun r s => val_codes L h x y hx.1 hy.1 hx.2.1 hy.2.1 hL r s
  cases d
  · exact hv r s
  · exact turn_codes (val_oct L x hx.2.2) (val_oct L y hy.2.2) hv r s
def rowsC (h : Nat) (d : List Bool) : List Val → List Val → Nat → Int
  | x :: a, y :: b, i => next (Order.turned (Order.cmp h) (d.getD i false) x y) (rowsC h d a b (i + 1))
  | _, _, _ => 0
theorem enc_codes (L h : Nat) (hL : L < h) (d : List Bool) : ∀ (a b : List Val) (i : Nat), a.length = b.length → (∀ x ∈ a, Fine L x) → (∀ x ∈ b, Fine L x) → ∀ r s,
    Order.octs (encB L d a i ++ r) (encB L d b i ++ s) = next (rowsC h d a b i) (Order.octs r s)
  | [], [], i, _, _, _, r, s => (next_zero _).symm
  | [], _ :: _, _, hl, _, _, _, _ => by simp at hl
  | _ :: _, [], _, hl, _, _, _, _ => by simp at hl
  | x :: a, y :: b, i, hl, ha, hb, r, s => by
    rw [encB, encB, List.append_assoc, List.append_assoc, item_codes L h _ x y (ha x (by simp)) (hb y (by simp)) hL, enc_codes L h hL d a b (i + 1) (by simpa using hl) (fun z hz => ha z (by simp [hz])) (fun z hz => hb z (by simp [hz])), rowsC, next_assoc]
theorem next_turned (h : Nat) (t : Bool) (x y : Val) (c : Int) : next (Order.turned (Order.cmp h) t x y) c = if Order.cmp h x y = 0 then c else if t then - Order.cmp h x y else Order.cmp h x y := by
  unfold next
  by_cases e : Order.cmp h x y = 0
  · rw [if_pos (Order.turned_zero.2 e), if_pos e]
  · rw [if_neg (fun z => e (Order.turned_zero.1 z)), if_neg e]; rfl
theorem rows_from (h : Nat) (z : Val) (d : List Bool) : ∀ (a b p q : List Val), a.length = b.length → p.length = q.length → Order.byFrom (Order.cmp h) z (p ++ a) (q ++ b) d a.length p.length = rowsC h d a b p.length
  | [], [], _, _, _, _ => rfl
  | [], _ :: _, _, _, hl, _ => by simp at hl
  | _ :: _, [], _, _, hl, _ => by simp at hl
  | x :: a, y :: b, p, q, hl, hp => by
    have e1 : (p ++ x :: a).getD p.length z = x := by simp [List.getD_eq_getElem?_getD]
    have e2 : (q ++ y :: b).getD p.length z = y := by rw [hp]; simp [List.getD_eq_getElem?_getD]
    have ih := rows_from h z d a b (p ++ [x]) (q ++ [y]) (by simpa using hl) (by simp [hp])
    rw [List.append_assoc, List.append_assoc, List.length_append, List.length_singleton] at ih
    rw [List.length_cons, Order.byFrom, e1, e2, rowsC, next_turned]
    rw [show p ++ ([x] ++ a) = p ++ x :: a from rfl, show q ++ ([y] ++ b) = q ++ y :: b from rfl] at ih
    rw [ih]
theorem key_rows (L h : Nat) (hL : L < h) (d : List Bool) (z : Val) (a b : List Val) (hl : a.length = b.length) (ha : ∀ x ∈ a, Fine L x) (hb : ∀ x ∈ b, Fine L x) : Order.octs (encB L d a 0) (encB L d b 0) = Order.rows (Order.cmp h) z a b d := by
  have h1 := enc_codes L h hL d a b 0 hl ha hb [] []
  rw [List.append_nil, List.append_nil, show Order.octs ([] : List Nat) [] = 0 from rfl] at h1
  have h2 := rows_from h z d a b [] [] hl rfl
  rw [h1, Order.rows, ← hl, Nat.max_self]
  rw [List.nil_append, List.nil_append, List.length_nil] at h2
  rw [h2]
  unfold next
  split
  · rename_i e; exact e.symm
  · rfl
/-- What is read has its numbers and bytes within bounds. -/
theorem VIn.okay {w : World} {Q : Nat → Prop} : ∀ {h : Nat} {x : Val} {v : Value}, VIn w Q h x v → ∀ L, Okay L x
  | 0, _, _, hv, _ => hv.elim
  | h + 1, x, v, ⟨_, _, _, _, _, _, _, hL, _, _, _, _, hF, hI⟩, L => by
    have h0 : -9223372036854775808 ≤ x.n ∧ x.n ≤ 9223372036854775807 ∧ x.b.length ≤ 140737488355328 := ⟨hL.n0, hL.n1, hL.b⟩
    cases L with
    | zero => exact h0
    | succ L =>
      refine ⟨h0, fun p hp => ?_, fun y hy => ?_⟩
      · obtain ⟨i, hi, rfl⟩ := List.getElem_of_mem hp
        rcases hF with e | ⟨g, o, _, _, hr⟩
        · rw [e] at hi; cases hi
        · obtain ⟨_, _, u, _, hu⟩ := hr i hi
          exact VIn.okay hu L
      · obtain ⟨i, hi, rfl⟩ := List.getElem_of_mem hy
        rcases hI with e | ⟨g, o, _, _, hr⟩
        · rw [e] at hi; cases hi
        · obtain ⟨u, _, hu⟩ := hr i hi
          exact VIn.okay hu L
theorem VIn.octsIn {w : World} {Q : Nat → Prop} : ∀ {h : Nat} {x : Val} {v : Value}, VIn w Q h x v → ∀ L, OctsIn L x
  | 0, _, _, hv, _ => hv.elim
  | h + 1, x, v, ⟨_, _, _, _, _, _, _, hL, _, _, _, _, hF, hI⟩, L => by
    cases L with
    | zero => exact hL.o
    | succ L =>
      refine ⟨hL.o, fun p hp => ?_, fun y hy => ?_⟩
      · obtain ⟨i, hi, rfl⟩ := List.getElem_of_mem hp
        rcases hF with e | ⟨g, o, _, _, hr⟩
        · rw [e] at hi; cases hi
        · obtain ⟨_, _, u, _, hu⟩ := hr i hi
          exact VIn.octsIn hu L
      · obtain ⟨i, hi, rfl⟩ := List.getElem_of_mem hy
        rcases hI with e | ⟨g, o, _, _, hr⟩
        · rw [e] at hi; cases hi
        · obtain ⟨u, _, hu⟩ := hr i hi
          exact VIn.octsIn hu L
theorem ItemsIn.take {w : World} {Q : Nat → Prop} {V : Val → Value → Prop} {a : Option Addr} {l : List Val} (h : ItemsIn w Q V a l) (n : Nat) : ItemsIn w Q V a (l.take n) := by
  rcases h with h | ⟨g, o, e, hq, h⟩
  · exact .inl (by rw [h]; exact List.take_nil)
  · refine .inr ⟨g, o, e, hq, fun i hi => ?_⟩
    have hi' : i < l.length := by rw [List.length_take] at hi; omega
    obtain ⟨v, h1, h2⟩ := h i hi'
    exact ⟨v, h1, by rw [List.getElem_take]; exact h2⟩
theorem ItemsIn.lt {w : World} {Q : Nat → Prop} {h : Nat} {a : Option Addr} {l : List Val} (hI : ItemsIn w Q (VIn w Q h) a l) (hl : ∀ {x : Val} {v : Value}, VIn w Q h x v → VIn w (fun g => Q g ∧ g < w.heap.size) h x v) : ItemsIn w (fun g => Q g ∧ g < w.heap.size) (VIn w (fun g => Q g ∧ g < w.heap.size) h) a l := by
  rcases hI with e | ⟨g, o, e, hq, hr⟩
  · exact .inl e
  · cases hx : l with
    | nil => exact .inl rfl
    | cons c r =>
      obtain ⟨v0, h0, _⟩ := hr 0 (by rw [hx]; simp)
      obtain ⟨_, _, _, _, _, _, _, hc, _⟩ := h0
      refine .inr ⟨g, o, e, ⟨hq, World.block_lt_of_cell? w _ hc⟩, ?_⟩
      rw [← hx]
      intro i hi
      obtain ⟨v, a3, a4⟩ := hr i hi
      exact ⟨v, a3, hl a4⟩
theorem ItemsIn.mem {w : World} {Q : Nat → Prop} {V : Val → Value → Prop} {a : Option Addr} {l : List Val} (hI : ItemsIn w Q V a l) {x : Val} (hx : x ∈ l) : ∃ v, V x v := by
  obtain ⟨i, hi, rfl⟩ := List.getElem_of_mem hx
  rcases hI with e | ⟨g, o, _, _, hr⟩
  · rw [e] at hi; cases hi
  · obtain ⟨v, _, h⟩ := hr i hi
    exact ⟨v, h⟩
end Go.Proofs.YtdcfddiicclpeaaDoor
