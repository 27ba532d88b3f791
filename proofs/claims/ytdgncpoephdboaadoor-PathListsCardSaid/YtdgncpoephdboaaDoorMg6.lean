/- BsonShallow, KeyMath. -/
import Derived.Deep.RegionHeld3
import Derived.Test.YtdgncpoephdboaaDoorMg4
import Derived.Test.YtdgncpoephdboaaDoorMg5
set_option maxRecDepth 100000
section
namespace Go.Proofs.YtdgncpoephdboaaDoor
open Go.RowKit
open Seal
open Bson (Val)
theorem ret_eq {a b : Value} (h : a = b) : Ending.returned a = .returned b := by rw [h]
/-- Some answer, and nothing old has turned. -/
def SomeBool (w : World) (e : Ending) (w' : World) : Prop := ∃ b, e = .returned (.bool b) ∧ Below w.heap.size w w'
theorem cell_keep {w w' : World} {p : Addr} {v : Value} (hb : Below w.heap.size w w') (h : w.cell? p = some v) : w'.cell? p = some v := (hb.cell (World.block_lt_of_cell? w _ h)).trans h
/-- A box was laid behind w, and since then nothing has turned of it or of what is older. -/
def Boxed (w : World) (cs : Array Value) (t : TypeId) (wr : World) : Prop := Below (w.heap.size + 1) (w.alloc (.cells cs t)) wr
section
variable {w wr w' : World} {cs : Array Value} {t : TypeId}
theorem Boxed.refl (w : World) (cs : Array Value) (t : TypeId) : Boxed w cs t (w.alloc (.cells cs t)) := Below.refl _ _
theorem Boxed.cell (h : Boxed w cs t wr) (j : Nat) : wr.cell? ⟨w.heap.size, j, none⟩ = cs[j]? :=
  (Below.cell h (p := ⟨w.heap.size, j, none⟩) (Nat.lt_succ_self _)).trans (cell_of_row _ _ j cs t (0, 0) (heap_alloc_new w _))
theorem Boxed.size (h : Boxed w cs t wr) : w.heap.size + 1 ≤ wr.heap.size := by have := Below.size h; simpa using this
theorem Boxed.below (h : Boxed w cs t wr) : Below w.heap.size w wr := ((Below.refl _ w).alloc (Nat.le_refl _) _).trans (Below.mono h (by simp))
theorem Boxed.step (h : Boxed w cs t wr) (hb : Below wr.heap.size wr w') : Boxed w cs t w' := Below.trans h (hb.mono h.size)
end
set_option maxRecDepth 100000 in
set_option maxHeartbeats 1000000 in
theorem shallow_any (Q : Nat → Prop) : ∀ (h : Nat) (x : Val) (v : Value) (m : Int) (w : World), VIn w Q h x v → 0 ≤ m → m ≤ 60 → Calls Tryd.prog 33 #[v, .int .i64 m] w (SomeBool w)
  | 0, _, _, _, _, hv, _, _ => hv.elim
  | h + 1, x, v, m, w, hv, h0, h1 => by
    obtain ⟨ba, fa, la, bc, fc, lc, rfl, hL, hb, hf, hl, hB, hF, hI⟩ := hv
    unfold agg
    have IH := Lib.hid (fun x v m w => shallow_any Q h x v m w)
    have HF := Lib.hid hF; have HI := Lib.hid hI
    obtain ⟨fn, hfn⟩ : ∃ fn, fn = x.f.length := ⟨_, rfl⟩
    obtain ⟨ln, hln⟩ : ∃ ln, ln = x.l.length := ⟨_, rfl⟩
    have hfl := hL.f; have hll := hL.l
    rw [← hfn] at hfl ⊢; rw [← hln] at hll ⊢
    have HFN := Lib.hid hfn; have HLN := Lib.hid hln
    clear hF hI hB hb hL hf hl hfn hln
    obtain ⟨cs, hcs⟩ : ∃ cs, cs = #[Value.int .i64 x.kind, .int .i64 x.n, .string x.s, .slice ba x.b.length bc, .slice fa fn fc, .slice la ln lc] := ⟨_, rfl⟩
    have HC := Lib.hid hcs; clear hcs
    go_enter Tryd.func33, Tryd.ntmps33
    go_wp2
    go_loopw [5] (fun i wr => ∃ k : Nat, i = .int .i64 k ∧ k ≤ fn ∧ Hid (Boxed w cs 27 wr)) (fun i _ => fn - (intOf i).toNat)
    case atStart => exact ⟨0, rfl, Nat.zero_le _, by rw [HC.out]; exact Boxed.refl _ _ _⟩
    case round =>
      obtain ⟨k, rfl, hk, hbx⟩ := hrel
      have c4 : wr.cell? ⟨w.heap.size, 4, none⟩ = some (.slice fa fn fc) := by rw [hbx.out.cell, HC.out]; rfl
      have c5 : wr.cell? ⟨w.heap.size, 5, none⟩ = some (.slice la ln lc) := by rw [hbx.out.cell, HC.out]; rfl
      by_cases hlt : k < fn
      · by_cases hm : m = 0
        · subst hm
          go_wp2
          go_ret
          exact ⟨_, rfl, hbx.out.below⟩
        · have hm' : (m == 0) = false := by simpa using hm
          obtain ⟨g, o, hfa, _, hall⟩ := HF.out.resolve_left (fun e => by have := HFN.out; rw [e] at this; simp at this; omega)
          obtain ⟨hnm, _, v', hsix, hV⟩ := hall k (by have := HFN.out; omega)
          subst hfa
          have hV := Lib.hid (VIn.keep hbx.out.below hV)
          obtain ⟨d0, d1, d2, d3, d4, d5, rfl, s0, s1, s2, s3, s4, s5⟩ := hsix.keep hbx.out.below
          clear hnm hall
          go_wp2_with fail
          refine (IH.out _ _ (m - 1) _ hV.out (by omega) (by omega)).mono ?_
          rintro e w' ⟨b, rfl, hB'⟩
          have HB := Lib.hid (hbx.out.step (cs := cs) hB')
          clear hB'
          cases b with
          | false =>
            go_wp2_with fail
            go_ret
            exact ⟨_, rfl, HB.out.below⟩
          | true =>
            go_wp2_with fail
            go_roundw
            case rel => exact ⟨k + 1, by go_num, by omega, HB⟩
            case measure => simp [intOf]; omega
      · obtain rfl : fn = k := by omega
        clear hk
        go_wp2_with fail
        go_loopw [6] (fun i wr => ∃ k : Nat, i = .int .i64 k ∧ k ≤ ln ∧ Hid (Boxed w cs 27 wr)) (fun i _ => ln - (intOf i).toNat)
        case atStart => exact ⟨0, rfl, Nat.zero_le _, hbx⟩
        case round =>
          obtain ⟨j, rfl, hj, hbx⟩ := hrel
          have c5 : wr.cell? ⟨w.heap.size, 5, none⟩ = some (.slice la ln lc) := by rw [hbx.out.cell, HC.out]; rfl
          by_cases hlt : j < ln
          · by_cases hm : m = 0
            · subst hm
              go_wp2
              go_ret
              exact ⟨_, rfl, hbx.out.below⟩
            · have hm' : (m == 0) = false := by simpa using hm
              obtain ⟨g, o, hla, _, hall⟩ := HI.out.resolve_left (fun e => by have := HLN.out; rw [e] at this; simp at this; omega)
              obtain ⟨v', hsix, hV⟩ := hall j (by have := HLN.out; omega)
              subst hla
              have hV := Lib.hid (VIn.keep hbx.out.below hV)
              obtain ⟨d0, d1, d2, d3, d4, d5, rfl, s0, s1, s2, s3, s4, s5⟩ := hsix.keep hbx.out.below
              clear hall
              go_wp2_with fail
              refine (IH.out _ _ (m - 1) _ hV.out (by omega) (by omega)).mono ?_
              rintro e w' ⟨b, rfl, hB'⟩
              have HB := Lib.hid (hbx.out.step (cs := cs) hB')
              clear hB'
              cases b with
              | false =>
                go_wp2_with fail
                go_ret
                exact ⟨_, rfl, HB.out.below⟩
              | true =>
                go_wp2_with fail
                go_roundw
                case rel => exact ⟨j + 1, by go_num, by omega, HB⟩
                case measure => simp [intOf]; omega
          · have hjj : j = ln := by omega
            clear hj
            go_wp2_with fail
            go_ret
            exact ⟨_, rfl, hbx.out.below⟩
end Go.Proofs.YtdgncpoephdboaaDoor
end
section
namespace Key
open Go
open Bson (Val)
open Order
/-- First by the one, then by the other. -/
def next (c d : Int) : Int := if c = 0 then d else c
theorem next_zero (d : Int) : next 0 d = d := if_pos rfl
theorem next_ne {c : Int} (h : c ≠ 0) (d : Int) : next c d = c := if_neg h
theorem next_assoc (a b c : Int) : next (next a b) c = next a (next b c) := by
  unfold next
  by_cases h : a = 0
  · simp [h]
  · simp [h]
theorem octs_cons (a b : Nat) (r s : List Nat) : octs (a :: r) (b :: s) = next (sgn a b) (octs r s) := by
  rw [octs, lex]; rfl
theorem octs_same (a : Nat) (r s : List Nat) : octs (a :: r) (a :: s) = octs r s := by rw [octs_cons, sgn_self, next_zero]
theorem octs_pre : ∀ (p r s : List Nat), octs (p ++ r) (p ++ s) = octs r s
  | [], _, _ => rfl
  | a :: p, r, s => by rw [List.cons_append, List.cons_append, octs_same]; exact octs_pre p r s
/-- Texts, each byte 0 told from the end. -/
def esc : List Nat → List Nat
  | [] => []
  | 0 :: r => 0 :: 1 :: esc r
  | (a + 1) :: r => (a + 1) :: esc r
def textB (l : List Nat) : List Nat := esc l ++ [0, 0]
theorem esc_cons (a : Nat) (r : List Nat) : esc (a :: r) = if a = 0 then 0 :: 1 :: esc r else a :: esc r := by
  cases a with
  | zero => rfl
  | succ a => rfl
theorem text_codes : ∀ (a b r s : List Nat), octs (textB a ++ r) (textB b ++ s) = next (octs a b) (octs r s)
  | [], [], r, s => by
    show octs (0 :: 0 :: r) (0 :: 0 :: s) = _
    rw [octs_same, octs_same, show octs ([] : List Nat) [] = 0 from rfl, next_zero]
  | [], y :: t, r, s => by
    have e : octs ([] : List Nat) (y :: t) = -1 := rfl
    rw [e, next_ne (by decide)]
    cases y with
    | zero =>
      show octs (0 :: 0 :: r) (0 :: 1 :: (esc t ++ [0, 0] ++ s)) = -1
      rw [octs_same, octs_cons, sgn_lt (by decide), next_ne (by decide)]
    | succ y =>
      show octs (0 :: 0 :: r) ((y + 1) :: (esc t ++ [0, 0] ++ s)) = -1
      rw [octs_cons, sgn_lt (by omega), next_ne (by decide)]
  | x :: t, [], r, s => by
    have e : octs (x :: t) ([] : List Nat) = 1 := rfl
    rw [e, next_ne (by decide)]
    cases x with
    | zero =>
      show octs (0 :: 1 :: (esc t ++ [0, 0] ++ r)) (0 :: 0 :: s) = 1
      rw [octs_same, octs_cons, sgn_gt (by decide), next_ne (by decide)]
    | succ x =>
      show octs ((x + 1) :: (esc t ++ [0, 0] ++ r)) (0 :: 0 :: s) = 1
      rw [octs_cons, sgn_gt (by omega), next_ne (by decide)]
  | x :: t, y :: u, r, s => by
    have ih := text_codes t u r s
    unfold textB at ih
    rw [octs_cons, next_assoc]
    cases x with
    | zero =>
      cases y with
      | zero =>
        show octs (0 :: 1 :: (esc t ++ [0, 0] ++ r)) (0 :: 1 :: (esc u ++ [0, 0] ++ s)) = _
        rw [octs_same, octs_same, sgn_self, next_zero, ih]
      | succ y =>
        show octs (0 :: 1 :: (esc t ++ [0, 0] ++ r)) ((y + 1) :: (esc u ++ [0, 0] ++ s)) = _
        rw [octs_cons, sgn_lt (by omega), next_ne (by decide), next_ne (by decide)]
    | succ x =>
      cases y with
      | zero =>
        show octs ((x + 1) :: (esc t ++ [0, 0] ++ r)) (0 :: 1 :: (esc u ++ [0, 0] ++ s)) = _
        rw [octs_cons, sgn_gt (by omega), next_ne (by decide), next_ne (by decide)]
      | succ y =>
        show octs ((x + 1) :: (esc t ++ [0, 0] ++ r)) ((y + 1) :: (esc u ++ [0, 0] ++ s)) = _
        rw [octs_cons, ih]
/-- A number's lowest k bytes, the highest first. -/
def be (n : Nat) : Nat → List Nat
  | 0 => []
  | k + 1 => n / 256 ^ k % 256 :: be n k
theorem be_length (n : Nat) : ∀ k, (be n k).length = k
  | 0 => rfl
  | k + 1 => by rw [be, List.length_cons, be_length n k]
theorem be_codes (m n : Nat) : ∀ (k : Nat) (r s : List Nat), octs (be m k ++ r) (be n k ++ s) = next (sgn (m % 256 ^ k : Nat) (n % 256 ^ k : Nat)) (octs r s)
  | 0, r, s => by
    rw [Nat.pow_zero, Nat.mod_one, Nat.mod_one, sgn_self, next_zero]; rfl
  | k + 1, r, s => by
    have ih := be_codes m n k r s
    rw [be, be, List.cons_append, List.cons_append, octs_cons, ih, ← next_assoc]
    congr 1
    have hp : 0 < 256 ^ k := Nat.pow_pos (by decide)
    have em : ∀ x : Nat, x % 256 ^ (k + 1) = x % 256 ^ k + 256 ^ k * (x / 256 ^ k % 256) := fun x => by rw [Nat.pow_succ, Nat.mod_mul]
    rw [em m, em n]
    have hm := Nat.mod_lt m hp
    have hn := Nat.mod_lt n hp
    generalize m % 256 ^ k = a at *
    generalize n % 256 ^ k = b at *
    generalize m / 256 ^ k % 256 = c at *
    generalize n / 256 ^ k % 256 = d at *
    generalize 256 ^ k = p at *
    rcases Nat.lt_trichotomy c d with h | h | h
    · rw [sgn_lt (show (c : Int) < d by omega), next_ne (by decide)]
      have h2 : p * (c + 1) ≤ p * d := Nat.mul_le_mul_left _ h
      rw [Nat.mul_add, Nat.mul_one] at h2
      exact (sgn_lt (by omega)).symm
    · subst h
      rw [sgn_self, next_zero]
      rcases Nat.lt_trichotomy a b with h | h | h
      · rw [sgn_lt (by omega), sgn_lt (by omega)]
      · rw [h]
        rw [sgn_self, sgn_self]
      · rw [sgn_gt (by omega), sgn_gt (by omega)]
    · rw [sgn_gt (show (d : Int) < c by omega), next_ne (by decide)]
      have h2 : p * (d + 1) ≤ p * c := Nat.mul_le_mul_left _ h
      rw [Nat.mul_add, Nat.mul_one] at h2
      exact (sgn_gt (by omega)).symm
/-- A whole number of 64 bits, those below nought ahead. -/
def off (n : Int) : Nat := (n + 9223372036854775808).toNat
def numB (n : Int) : List Nat := be (off n) 8
theorem num_codes {m n : Int} (hm0 : -9223372036854775808 ≤ m) (hm1 : m ≤ 9223372036854775807) (hn0 : -9223372036854775808 ≤ n) (hn1 : n ≤ 9223372036854775807) (r s : List Nat) :
    octs (numB m ++ r) (numB n ++ s) = next (sgn m n) (octs r s) := by
  unfold numB off
  rw [be_codes, Nat.mod_eq_of_lt (show (m + 9223372036854775808).toNat < 256 ^ 8 by omega), Nat.mod_eq_of_lt (show (n + 9223372036854775808).toNat < 256 ^ 8 by omega)]
  congr 1
  rcases Int.lt_trichotomy m n with h | h | h
  · rw [sgn_lt (by omega), sgn_lt h]
  · rw [h, sgn_self, sgn_self]
  · rw [sgn_gt (by omega), sgn_gt h]
theorem same_length_codes : ∀ (a b r s : List Nat), a.length = b.length → octs (a ++ r) (b ++ s) = next (octs a b) (octs r s)
  | [], [], _, _, _ => by rw [show octs ([] : List Nat) [] = 0 from rfl, next_zero]; rfl
  | [], _ :: _, _, _, h => by simp at h
  | _ :: _, [], _, _, h => by simp at h
  | x :: t, y :: u, r, s, h => by
    rw [List.cons_append, List.cons_append, octs_cons, octs_cons, next_assoc, same_length_codes t u r s (by simpa using h)]
/-- Bytes, by how many first. -/
def blobB (l : List Nat) : List Nat := be l.length 8 ++ l
theorem blob_codes {a b : List Nat} (ha : a.length ≤ 140737488355328) (hb : b.length ≤ 140737488355328) (r s : List Nat) : octs (blobB a ++ r) (blobB b ++ s) = next (blob a b) (octs r s) := by
  unfold blobB blob
  rw [List.append_assoc, List.append_assoc, be_codes, Nat.mod_eq_of_lt (show a.length < 256 ^ 8 by omega), Nat.mod_eq_of_lt (show b.length < 256 ^ 8 by omega)]
  by_cases h : sgn a.length b.length = 0
  · rw [if_pos h, h, next_zero]
    have := sgn_zero.1 h
    exact same_length_codes a b r s (by omega)
  · rw [if_neg h, next_ne h, next_ne h]
/-- Items, then the end. -/
def rowB {α : Type} (e : α → List Nat) : List α → List Nat
  | [] => [0]
  | a :: r => e a ++ rowB e r
theorem row_codes {α : Type} {e : α → List Nat} {c : α → α → Int} : ∀ (a b : List α), (∀ x ∈ a, ∀ y ∈ b, ∀ r s, octs (e x ++ r) (e y ++ s) = next (c x y) (octs r s)) → (∀ x, x ∈ a ∨ x ∈ b → ∃ m t, e x = (m + 1) :: t) → ∀ r s,
    octs (rowB e a ++ r) (rowB e b ++ s) = next (lex c a b) (octs r s)
  | [], [], _, _, r, s => by
    show octs (0 :: r) (0 :: s) = _
    rw [octs_same, show lex c ([] : List α) [] = 0 from rfl, next_zero]
  | [], y :: u, _, hm, r, s => by
    obtain ⟨m, t, e1⟩ := hm y (.inr (by simp))
    rw [show lex c ([] : List α) (y :: u) = -1 from rfl, next_ne (by decide), rowB, rowB, e1]
    show octs (0 :: r) ((m + 1) :: (t ++ rowB e u ++ s)) = -1
    rw [octs_cons, sgn_lt (by omega), next_ne (by decide)]
  | x :: u, [], _, hm, r, s => by
    obtain ⟨m, t, e1⟩ := hm x (.inl (by simp))
    rw [show lex c (x :: u) ([] : List α) = 1 from rfl, next_ne (by decide), rowB, rowB, e1]
    show octs ((m + 1) :: (t ++ rowB e u ++ r)) (0 :: s) = 1
    rw [octs_cons, sgn_gt (by omega), next_ne (by decide)]
  | x :: t, y :: u, h, hm, r, s => by
    rw [rowB, rowB, List.append_assoc, List.append_assoc, h x (by simp) y (by simp), row_codes t u (fun p hp q hq => h p (by simp [hp]) q (by simp [hq])) (fun p hp => hm p (hp.imp (fun z => by simp [z]) (fun z => by simp [z]))) r s, ← next_assoc, lex]
    rfl
/-- What tells classes apart. -/
def markB (k : Int) : Nat := (cls k + 2).toNat
theorem mark_codes (k j : Int) (r s : List Nat) : octs (markB k :: r) (markB j :: s) = next (sgn (cls k) (cls j)) (octs r s) := by
  have h1 : -1 ≤ cls k := by unfold cls; split <;> (try split) <;> omega
  have h2 : -1 ≤ cls j := by unfold cls; split <;> (try split) <;> omega
  rw [octs_cons]
  congr 1
  unfold markB
  rcases Int.lt_trichotomy (cls k) (cls j) with h | h | h
  · rw [sgn_lt (by omega), sgn_lt h]
  · rw [h, sgn_self, sgn_self]
  · rw [sgn_gt (by omega), sgn_gt h]
theorem mark_pos (k : Int) : ∃ m, markB k = m + 1 := by
  have h1 : -1 ≤ cls k := by unfold cls; split <;> (try split) <;> omega
  exact ⟨markB k - 1, by unfold markB; omega⟩
theorem mark_lt (k : Int) : markB k < 256 := by unfold markB cls; split <;> (try split) <;> omega
/-- What stands behind a value's mark, of so many levels. -/
def beh : Nat → Val → List Nat
  | L, x =>
    if x.kind = 3 ∨ x.kind = 4 ∨ x.kind = 10 ∨ x.kind = 11 then numB x.n
    else if x.kind = 5 then textB (Order.bytes x.s)
    else if x.kind = 8 then blobB x.b
    else if x.kind = 9 then textB x.b
    else match L with
      | 0 => []
      | L + 1 => if x.kind = 6 then rowB (fun p : ByteArray × Val => markB p.2.kind :: (textB (Order.bytes p.1) ++ beh L p.2)) x.f
        else if x.kind = 7 then rowB (fun v => markB v.kind :: beh L v) x.l
        else []
def valB (L : Nat) (x : Val) : List Nat := markB x.kind :: beh L x
def fldB (L : Nat) (p : ByteArray × Val) : List Nat := markB p.2.kind :: (textB (Order.bytes p.1) ++ beh L p.2)
/-- Are no more documents and Lists within each other than levels? -/
def fits : Nat → Val → Prop
  | 0, x => x.kind ≠ 6 ∧ x.kind ≠ 7
  | L + 1, x => (x.kind = 6 → ∀ p ∈ x.f, fits L p.2) ∧ (x.kind = 7 → ∀ v ∈ x.l, fits L v)
/-- What the walk knows of a value's numbers. -/
def Okay : Nat → Val → Prop
  | 0, x => -9223372036854775808 ≤ x.n ∧ x.n ≤ 9223372036854775807 ∧ x.b.length ≤ 140737488355328
  | L + 1, x => (-9223372036854775808 ≤ x.n ∧ x.n ≤ 9223372036854775807 ∧ x.b.length ≤ 140737488355328) ∧ (∀ p ∈ x.f, Okay L p.2) ∧ ∀ v ∈ x.l, Okay L v
theorem Okay.here {L : Nat} {x : Val} (h : Okay L x) : -9223372036854775808 ≤ x.n ∧ x.n ≤ 9223372036854775807 ∧ x.b.length ≤ 140737488355328 := by
  cases L with
  | zero => exact h
  | succ L => exact h.1
theorem beh_num {L : Nat} {x : Val} (h : x.kind = 3 ∨ x.kind = 4 ∨ x.kind = 10 ∨ x.kind = 11) : beh L x = numB x.n := by
  cases L <;> (rw [beh, if_pos h])
theorem beh_text {L : Nat} {x : Val} (h : x.kind = 5) : beh L x = textB (Order.bytes x.s) := by
  cases L <;> (rw [beh, if_neg (by omega), if_pos h])
theorem beh_blob {L : Nat} {x : Val} (h : x.kind = 8) : beh L x = blobB x.b := by
  cases L <;> (rw [beh, if_neg (by omega), if_neg (by omega), if_pos h])
theorem beh_id {L : Nat} {x : Val} (h : x.kind = 9) : beh L x = textB x.b := by
  cases L <;> (rw [beh, if_neg (by omega), if_neg (by omega), if_neg (by omega), if_pos h])
theorem beh_doc {L : Nat} {x : Val} (h : x.kind = 6) : beh (L + 1) x = rowB (fldB L) x.f := by
  rw [beh, if_neg (by omega), if_neg (by omega), if_neg (by omega), if_neg (by omega)]
  show (if x.kind = 6 then _ else _) = _
  rw [if_pos h]; rfl
theorem beh_list {L : Nat} {x : Val} (h : x.kind = 7) : beh (L + 1) x = rowB (valB L) x.l := by
  rw [beh, if_neg (by omega), if_neg (by omega), if_neg (by omega), if_neg (by omega)]
  show (if x.kind = 6 then _ else _) = _
  rw [if_neg (by omega), if_pos h]; rfl
theorem beh_none {L : Nat} {x : Val} (h : x.kind < 3 ∨ 11 < x.kind) : beh L x = [] := by
  have e1 : ¬ (x.kind = 3 ∨ x.kind = 4 ∨ x.kind = 10 ∨ x.kind = 11) := by omega
  cases L with
  | zero => rw [beh, if_neg e1, if_neg (by omega), if_neg (by omega), if_neg (by omega)]
  | succ L =>
    rw [beh, if_neg e1, if_neg (by omega), if_neg (by omega), if_neg (by omega)]
    show (if x.kind = 6 then _ else _) = _
    rw [if_neg (by omega), if_neg (by omega)]
/-- Of what has one class, what stands behind the mark is in the order of that class. -/
theorem beh_codes : ∀ (L : Nat) (h : Nat) (x y : Val), fits L x → fits L y → Okay L x → Okay L y → L < h → cls x.kind = cls y.kind → ∀ r s, octs (beh L x ++ r) (beh L y ++ s) = next (cmp h x y) (octs r s) := by
  intro L
  induction L with
  | zero =>
    intro h x y fx fy ox oy hL hc r s
    obtain ⟨h, rfl⟩ : ∃ k, h = k + 1 := ⟨h - 1, by omega⟩
    have hs : sgn (cls x.kind) (cls y.kind) = 0 := by rw [hc]; exact sgn_self _
    rw [cmp, if_pos hs]
    have ox := ox.here; have oy := oy.here
    by_cases k1 : x.kind = 3 ∨ x.kind = 4 ∨ x.kind = 10 ∨ x.kind = 11
    · have k2 : y.kind = 3 ∨ y.kind = 4 ∨ y.kind = 10 ∨ y.kind = 11 := by unfold cls at hc; revert hc; split <;> split <;> (try split) <;> (try split) <;> omega
      have k3 : cls x.kind = 3 ∨ cls x.kind = 9 ∨ cls x.kind = 10 := by unfold cls; split <;> (try split) <;> omega
      rw [beh_num k1, beh_num k2, inner, if_pos k3]
      exact num_codes ox.1 ox.2.1 oy.1 oy.2.1 r s
    by_cases k2 : x.kind = 5
    · have k3 : y.kind = 5 := by unfold cls at hc; revert hc; split <;> split <;> (try split) <;> (try split) <;> omega
      have k4 : cls x.kind = 4 := by unfold cls; split <;> (try split) <;> omega
      rw [beh_text k2, beh_text k3, inner, if_neg (by omega), if_pos k4]
      exact text_codes _ _ r s
    by_cases k3 : x.kind = 8
    · have k4 : y.kind = 8 := by unfold cls at hc; revert hc; split <;> split <;> (try split) <;> (try split) <;> omega
      have k5 : cls x.kind = 7 := by unfold cls; split <;> (try split) <;> omega
      rw [beh_blob k3, beh_blob k4, inner, if_neg (by omega), if_neg (by omega), if_neg (by omega), if_neg (by omega), if_pos k5]
      exact blob_codes ox.2.2 oy.2.2 r s
    by_cases k4 : x.kind = 9
    · have k5 : y.kind = 9 := by unfold cls at hc; revert hc; split <;> split <;> (try split) <;> (try split) <;> omega
      have k6 : cls x.kind = 8 := by unfold cls; split <;> (try split) <;> omega
      rw [beh_id k4, beh_id k5, inner, if_neg (by omega), if_neg (by omega), if_neg (by omega), if_neg (by omega), if_neg (by omega), if_pos k6]
      exact text_codes _ _ r s
    · have k5 : x.kind < 3 ∨ 11 < x.kind := by have := fx.1; have := fx.2; omega
      have k6 : y.kind < 3 ∨ 11 < y.kind := by have := fy.1; have := fy.2; unfold cls at hc; revert hc; split <;> split <;> (try split) <;> (try split) <;> omega
      have k7 : cls x.kind < 3 ∨ 10 < cls x.kind := by unfold cls; split <;> (try split) <;> omega
      rw [beh_none k5, beh_none k6, inner, if_neg (by omega), if_neg (by omega), if_neg (by omega), if_neg (by omega), if_neg (by omega), if_neg (by omega), next_zero]
      rfl
  | succ L ih =>
    intro h x y fx fy ox oy hL hc r s
    obtain ⟨h, rfl⟩ : ∃ k, h = k + 1 := ⟨h - 1, by omega⟩
    have hs : sgn (cls x.kind) (cls y.kind) = 0 := by rw [hc]; exact sgn_self _
    rw [cmp, if_pos hs]
    have ox' := ox.here; have oy' := oy.here
    by_cases k1 : x.kind = 3 ∨ x.kind = 4 ∨ x.kind = 10 ∨ x.kind = 11
    · have k2 : y.kind = 3 ∨ y.kind = 4 ∨ y.kind = 10 ∨ y.kind = 11 := by unfold cls at hc; revert hc; split <;> split <;> (try split) <;> (try split) <;> omega
      have k3 : cls x.kind = 3 ∨ cls x.kind = 9 ∨ cls x.kind = 10 := by unfold cls; split <;> (try split) <;> omega
      rw [beh_num k1, beh_num k2, inner, if_pos k3]
      exact num_codes ox'.1 ox'.2.1 oy'.1 oy'.2.1 r s
    by_cases k2 : x.kind = 5
    · have k3 : y.kind = 5 := by unfold cls at hc; revert hc; split <;> split <;> (try split) <;> (try split) <;> omega
      have k4 : cls x.kind = 4 := by unfold cls; split <;> (try split) <;> omega
      rw [beh_text k2, beh_text k3, inner, if_neg (by omega), if_pos k4]
      exact text_codes _ _ r s
    by_cases k3 : x.kind = 8
    · have k4 : y.kind = 8 := by unfold cls at hc; revert hc; split <;> split <;> (try split) <;> (try split) <;> omega
      have k5 : cls x.kind = 7 := by unfold cls; split <;> (try split) <;> omega
      rw [beh_blob k3, beh_blob k4, inner, if_neg (by omega), if_neg (by omega), if_neg (by omega), if_neg (by omega), if_pos k5]
      exact blob_codes ox'.2.2 oy'.2.2 r s
    by_cases k4 : x.kind = 9
    · have k5 : y.kind = 9 := by unfold cls at hc; revert hc; split <;> split <;> (try split) <;> (try split) <;> omega
      have k6 : cls x.kind = 8 := by unfold cls; split <;> (try split) <;> omega
      rw [beh_id k4, beh_id k5, inner, if_neg (by omega), if_neg (by omega), if_neg (by omega), if_neg (by omega), if_neg (by omega), if_pos k6]
      exact text_codes _ _ r s
    by_cases k5 : x.kind = 6
    · have k6 : y.kind = 6 := by unfold cls at hc; revert hc; split <;> split <;> (try split) <;> (try split) <;> omega
      have k7 : cls x.kind = 5 := by unfold cls; split <;> (try split) <;> omega
      rw [beh_doc k5, beh_doc k6, inner, if_neg (by omega), if_neg (by omega), if_pos k7]
      refine row_codes x.f y.f (fun p hp q hq r s => ?_) (fun p _ => ?_) r s
      · unfold fldB
        rw [List.cons_append, List.cons_append, mark_codes, List.append_assoc, List.append_assoc, text_codes, ← next_assoc]
        unfold fld
        by_cases e1 : sgn (cls p.2.kind) (cls q.2.kind) = 0
        · rw [if_pos e1, e1, next_zero]
          by_cases e2 : text p.1 q.1 = 0
          · rw [if_pos e2, show octs (Order.bytes p.1) (Order.bytes q.1) = 0 from e2, next_zero]
            exact ih h p.2 q.2 (fx.1 k5 p hp) (fy.1 k6 q hq) (ox.2.1 p hp) (oy.2.1 q hq) (by omega) (sgn_zero.1 e1) r s
          · rw [if_neg e2, next_ne (show octs (Order.bytes p.1) (Order.bytes q.1) ≠ 0 from e2), next_ne e2]; rfl
        · rw [if_neg e1, next_ne e1, next_ne e1, next_ne e1]
      · obtain ⟨m, e⟩ := mark_pos p.2.kind
        exact ⟨m, _, by unfold fldB; rw [e]⟩
    by_cases k6 : x.kind = 7
    · have k7 : y.kind = 7 := by unfold cls at hc; revert hc; split <;> split <;> (try split) <;> (try split) <;> omega
      have k8 : cls x.kind = 6 := by unfold cls; split <;> (try split) <;> omega
      rw [beh_list k6, beh_list k7, inner, if_neg (by omega), if_neg (by omega), if_neg (by omega), if_pos k8]
      refine row_codes x.l y.l (fun p hp q hq r s => ?_) (fun p _ => ?_) r s
      · unfold valB
        rw [List.cons_append, List.cons_append, mark_codes]
        obtain ⟨h, rfl⟩ : ∃ k, h = k + 1 := ⟨h - 1, by omega⟩
        by_cases e1 : sgn (cls p.kind) (cls q.kind) = 0
        · rw [e1, next_zero]
          exact ih (h + 1) p q (fx.2 k6 p hp) (fy.2 k7 q hq) (ox.2.2 p hp) (oy.2.2 q hq) (by omega) (sgn_zero.1 e1) r s
        · rw [next_ne e1, cmp, if_neg e1, next_ne e1]
      · obtain ⟨m, e⟩ := mark_pos p.kind
        exact ⟨m, _, by unfold valB; rw [e]⟩
    · have k7 : x.kind < 3 ∨ 11 < x.kind := by omega
      have k8 : y.kind < 3 ∨ 11 < y.kind := by unfold cls at hc; revert hc; split <;> split <;> (try split) <;> (try split) <;> omega
      have k9 : cls x.kind < 3 ∨ 10 < cls x.kind := by unfold cls; split <;> (try split) <;> omega
      rw [beh_none k7, beh_none k8, inner, if_neg (by omega), if_neg (by omega), if_neg (by omega), if_neg (by omega), if_neg (by omega), if_neg (by omega), next_zero]
      rfl
theorem val_codes (L h : Nat) (x y : Val) (fx : fits L x) (fy : fits L y) (ox : Okay L x) (oy : Okay L y) (hL : L < h) (r s : List Nat) : octs (valB L x ++ r) (valB L y ++ s) = next (cmp h x y) (octs r s) := by
  unfold valB
  rw [List.cons_append, List.cons_append, mark_codes]
  by_cases e1 : sgn (cls x.kind) (cls y.kind) = 0
  · rw [e1, next_zero]
    exact beh_codes L h x y fx fy ox oy hL (sgn_zero.1 e1) r s
  · obtain ⟨h, rfl⟩ : ∃ k, h = k + 1 := ⟨h - 1, by omega⟩
    rw [next_ne e1, cmp, if_neg e1, next_ne e1]
/-- Bytes turned round. -/
def tur (l : List Nat) : List Nat := l.map (255 - ·)
theorem octs_zero : ∀ {a b : List Nat}, octs a b = 0 → a = b
  | [], [], _ => rfl
  | [], _ :: _, h => by cases h
  | _ :: _, [], h => by cases h
  | x :: t, y :: u, h => by
    rw [octs_cons] at h
    by_cases e : sgn x y = 0
    · rw [e, next_zero] at h
      have := sgn_zero.1 e
      rw [octs_zero h, show x = y by omega]
    · rw [next_ne e] at h; exact absurd h e
/-- Either the one begins the other, or they part at some place. -/
theorem part : ∀ (a b : List Nat), (∃ t, b = a ++ t) ∨ (∃ t, a = b ++ t) ∨ ∃ p x y t u, a = p ++ x :: t ∧ b = p ++ y :: u ∧ x ≠ y
  | [], b => .inl ⟨b, rfl⟩
  | a, [] => .inr (.inl ⟨a, rfl⟩)
  | x :: t, y :: u => by
    by_cases e : x = y
    · subst e
      rcases part t u with ⟨v, h⟩ | ⟨v, h⟩ | ⟨p, x', y', t', u', h1, h2, h3⟩
      · exact .inl ⟨v, by rw [h]; rfl⟩
      · exact .inr (.inl ⟨v, by rw [h]; rfl⟩)
      · exact .inr (.inr ⟨x :: p, x', y', t', u', by rw [h1]; rfl, by rw [h2]; rfl, h3⟩)
    · exact .inr (.inr ⟨[], x, y, t, u, rfl, rfl, e⟩)
theorem turn_codes {u v : List Nat} {c : Int} (hu : ∀ b ∈ u, b < 256) (hv : ∀ b ∈ v, b < 256) (h : ∀ r s, octs (u ++ r) (v ++ s) = next c (octs r s)) (r s : List Nat) : octs (tur u ++ r) (tur v ++ s) = next (- c) (octs r s) := by
  by_cases hc : c = 0
  · subst hc
    have e := h [] []
    rw [List.append_nil, List.append_nil, next_zero, show octs ([] : List Nat) [] = 0 from rfl] at e
    rw [octs_zero e, octs_pre, Int.neg_zero, next_zero]
  · rcases part u v with ⟨t, e⟩ | ⟨t, e⟩ | ⟨p, x, y, t, w, e1, e2, hne⟩
    · have := h (t ++ []) []
      rw [e, List.append_assoc, octs_pre, next_ne hc] at this
      have h0 := octs_cmp.refl (t ++ [])
      rw [h0] at this
      exact absurd this.symm hc
    · have := h [] (t ++ [])
      rw [e, List.append_assoc, octs_pre, next_ne hc] at this
      have h0 := octs_cmp.refl (t ++ [])
      rw [h0] at this
      exact absurd this.symm hc
    · have h1 := h r s
      rw [next_ne hc, e1, e2, List.append_assoc, List.append_assoc, octs_pre, List.cons_append, List.cons_append, octs_cons] at h1
      have hsn : sgn x y ≠ 0 := fun z => hne (by have := sgn_zero.1 z; omega)
      rw [next_ne hsn] at h1
      have hx : x < 256 := hu x (by rw [e1]; simp)
      have hy : y < 256 := hv y (by rw [e2]; simp)
      rw [next_ne (by omega), e1, e2]
      unfold tur
      rw [List.map_append, List.map_append, List.append_assoc, List.append_assoc, octs_pre, List.map_cons, List.map_cons, List.cons_append, List.cons_append, octs_cons]
      rw [← h1]
      rcases Nat.lt_trichotomy x y with q | q | q
      · rw [sgn_lt (show (x : Int) < y by omega), sgn_gt (by omega), next_ne (by decide)]; rfl
      · exact absurd q hne
      · rw [sgn_gt (show (y : Int) < x by omega), sgn_lt (by omega), next_ne (by decide)]
/-- A row's bytes. -/
def itemB (L : Nat) (d : Bool) (x : Val) : List Nat := if d then tur (valB L x) else valB L x
def encB (L : Nat) (down : List Bool) : List Val → Nat → List Nat
  | [], _ => []
  | x :: r, i => itemB L (down.getD i false) x ++ encB L down r (i + 1)
end Key
end
