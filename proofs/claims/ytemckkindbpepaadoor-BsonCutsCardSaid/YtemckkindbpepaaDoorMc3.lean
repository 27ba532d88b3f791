/- PathBound, BsonCutsMath, SixIs, PathSmall. -/
import Derived.Test.YtemckkindbpepaaDoorMg5
import Derived.Test.YtemckkindbpepaaDoorMc2
import Derived.Test.YtemckkindbpepaaDoorMg4
import Derived.Test.YtemckkindbpepaaDoorMg19
import Derived.Test.YtemckkindbpepaaDoorMg2
set_option maxRecDepth 100000
section
namespace Go.Proofs.YtemckkindbpepaaDoor
open Bson (Val)
/-- At most so high. -/
def Hgt : Nat → Val → Prop
  | 0, _ => False
  | h + 1, x => (∀ p ∈ x.f, Hgt h p.2) ∧ ∀ y ∈ x.l, Hgt h y
theorem wt_pos {h : Nat} {x : Val} (hx : Hgt h x) : 1 ≤ wt h x := by
  cases h with
  | zero => exact hx.elim
  | succ h => rw [wt]; omega
theorem sum_le {α : Type} (f g : α → Nat) : ∀ (l : List α), (∀ y ∈ l, f y ≤ g y) → (l.map f).sum ≤ (l.map g).sum
  | [], _ => Nat.le_refl _
  | a :: r, h => by
    simp only [List.map_cons, List.sum_cons]
    have h1 := h a (by simp)
    have h2 := sum_le f g r (fun y hy => h y (by simp [hy]))
    omega
theorem sum_filter_le {α : Type} (f : α → Nat) (q : α → Bool) : ∀ (l : List α), ((l.filter q).map f).sum ≤ (l.map f).sum
  | [] => Nat.le_refl _
  | a :: r => by
    have h2 := sum_filter_le f q r
    rw [List.filter_cons]
    split
    · simp only [List.map_cons, List.sum_cons]; omega
    · simp only [List.map_cons, List.sum_cons]; omega
theorem mem_le_sum {α : Type} (f : α → Nat) : ∀ (l : List α) (a : α), a ∈ l → f a ≤ (l.map f).sum
  | b :: r, a, h => by
    simp only [List.map_cons, List.sum_cons]
    rcases List.mem_cons.1 h with rfl | h
    · omega
    · have := mem_le_sum f r a h; omega
theorem length_le_sum {α : Type} (f : α → Nat) : ∀ (l : List α), (∀ y ∈ l, 1 ≤ f y) → l.length ≤ (l.map f).sum
  | [], _ => Nat.le_refl _
  | a :: r, h => by
    simp only [List.map_cons, List.sum_cons, List.length_cons]
    have h1 := h a (by simp)
    have h2 := length_le_sum f r (fun y hy => h y (by simp [hy]))
    omega
theorem fieldIn_mem : ∀ (f : List (ByteArray × Val)) (a : ByteArray), Bson.fieldIn f a = Bson.zero ∨ ∃ p ∈ f, Bson.fieldIn f a = p.2
  | [], _ => .inl rfl
  | (s, v) :: r, a => by
    rw [Bson.fieldIn]
    split
    · exact .inr ⟨(s, v), by simp, rfl⟩
    · rcases fieldIn_mem r a with h | ⟨p, hp, h⟩
      · exact .inl h
      · exact .inr ⟨p, by simp [hp], h⟩
theorem length_flatMap_le {α β : Type} (f : α → List β) (g : α → Nat) : ∀ (l : List α), (∀ y ∈ l, (f y).length ≤ g y) → (l.flatMap f).length ≤ (l.map g).sum
  | [], _ => Nat.le_refl _
  | a :: r, h => by
    simp only [List.flatMap_cons, List.length_append, List.map_cons, List.sum_cons]
    have h1 := h a (by simp)
    have h2 := length_flatMap_le f g r (fun y hy => h y (by simp [hy]))
    omega
theorem all_le : ∀ (n h : Nat) (x : Val) (p : List ByteArray), Hgt h x → (Bson.all n x p).length ≤ wt h x
  | n, 0, x, p, hx => hx.elim
  | n, h + 1, x, [], hx => by
    rw [Bson.all_nil, Bson.itself]
    have hl := length_le_sum (wt h) x.l (fun y hy => wt_pos (hx.2 y hy))
    rw [wt]
    split
    · rw [List.length_cons]; omega
    · simp only [List.length_cons, List.length_nil]; omega
  | 0, h + 1, x, a :: r, hx => by
    rw [Bson.all]; exact wt_pos hx
  | n + 1, h + 1, x, a :: r, hx => by
    have h1 := wt_pos hx
    rw [Bson.all]
    split
    · split
      · exact h1
      · next hk =>
        rcases fieldIn_mem x.f a with e | ⟨p, hp, e⟩
        · rw [e] at hk; exact absurd rfl hk
        · rw [e]
          refine Nat.le_trans (all_le n h p.2 r (hx.1 p hp)) ?_
          have := mem_le_sum (fun p : ByteArray × Val => p.1.size + wt h p.2) x.f p hp
          rw [wt]; omega
    · split
      · split
        · exact h1
        · refine Nat.le_trans (length_flatMap_le _ (wt h) _ (fun y hy => all_le n h y (a :: r) (hx.2 y (List.mem_filter.1 hy).1))) ?_
          have := sum_filter_le (wt h) (fun y => decide (y.kind = 6)) x.l
          rw [wt]; omega
      · exact h1
theorem VIn.hgt {w : World} {Q : Nat → Prop} : ∀ {h : Nat} {x : Val} {v : Value}, VIn w Q h x v → Hgt h x
  | 0, _, _, hv => hv.elim
  | h + 1, x, v, ⟨ba, fa, la, bc, fc, lc, e, h1, h2, h3, h4, h5, h6, h7⟩ => by
    refine ⟨fun p hp => ?_, fun y hy => ?_⟩
    · rcases h6 with h6 | ⟨g, o, _, _, h6⟩
      · rw [h6] at hp; cases hp
      · obtain ⟨i, hi, rfl⟩ := List.getElem_of_mem hp
        obtain ⟨_, _, u, _, hu⟩ := h6 i hi
        exact VIn.hgt hu
    · rcases h7 with h7 | ⟨g, o, _, _, h7⟩
      · rw [h7] at hy; cases hy
      · obtain ⟨i, hi, rfl⟩ := List.getElem_of_mem hy
        obtain ⟨u, _, hu⟩ := h7 i hi
        exact VIn.hgt hu
end Go.Proofs.YtemckkindbpepaaDoor
end
section
namespace Go.Proofs.YtemckkindbpepaaDoor
open Bson (Val enc row scalar scalarP digits named wrap decode)
theorem dec_len : ∀ (k n : Nat), n < 10 ^ (k + 1) → (Lib.decDigits n).length ≤ k + 1
  | 0, n, h => by
    rw [Lib.decDigits, dif_pos (by omega)]; simp
  | k + 1, n, h => by
    rw [Lib.decDigits]
    split
    · simp
    · have := dec_len k (n / 10) (by rw [Nat.pow_succ] at h; omega)
      rw [List.length_append, List.length_singleton]; omega
theorem digits_len (n : Nat) (h : n < 10000) : (digits n).size ≤ 4 := by
  have := dec_len 3 n (by omega)
  show (Lib.decDigits n).toArray.size ≤ 4
  rw [List.size_toArray]; exact this
theorem scalar_le {v : Val} {l : List Nat} (h : scalar v = some l) : l.length + 8 ≤ 20 * (1 + v.s.size + v.b.length) := by
  unfold scalar scalarP at h
  repeat' split at h
  all_goals try (cases h; done)
  all_goals simp only [Option.some.injEq] at h
  all_goals subst h
  all_goals try simp [Bson.leI_length, Bson.bytes_length]
  all_goals omega
theorem row_le {e : Val → Option (List Nat)} (c : ByteArray × Val → Nat) : ∀ (f : List (ByteArray × Val)) (bs : List Nat), (∀ p ∈ f, ∀ l, e p.2 = some l → 2 + p.1.size + l.length ≤ 20 * c p) → row e f = some bs → bs.length ≤ 20 * (f.map c).sum
  | [], bs, _, h => by cases h; simp
  | (s, v) :: f, bs, hc, h => by
    obtain ⟨x, y, _, hx, hy, rfl⟩ := Bson.row_cons h
    have h1 := hc (s, v) (List.mem_cons_self ..) x hx
    have h2 := row_le c f y (fun p hp => hc p (List.mem_cons_of_mem _ hp)) hy
    rw [List.map_cons, List.sum_cons]
    simp only [List.length_cons, List.length_append, Bson.bytes_length] at h1 ⊢
    omega
theorem wrap_len (l : List Nat) : (wrap l).length = l.length + 5 := by
  unfold wrap; simp [Bson.leI_length]; omega
theorem enc_le : ∀ (d h : Nat) (x : Val) (l : List Nat), Hgt h x → wt h x ≤ 3000 → enc d x = some l → l.length + 8 ≤ 20 * wt h x
  | _, 0, _, _, hx, _, _ => hx.elim
  | 0, h + 1, x, l, _, _, he => by
    have := scalar_le (v := x) he
    rw [wt]; omega
  | d + 1, h + 1, x, l, hx, hw, he => by
    rw [wt] at hw ⊢
    by_cases h6 : x.kind = 6
    · rw [Bson.enc_doc d x h6] at he
      split at he
      · cases hr : row (enc d) x.f with
        | none => rw [hr] at he; cases he
        | some r =>
          rw [hr] at he; cases he
          have h1 := row_le (e := enc d) (fun p => p.1.size + wt h p.2) x.f r (fun p hp l hl => by
            have h2 := mem_le_sum (fun p : ByteArray × Val => p.1.size + wt h p.2) x.f p hp
            have h3 := enc_le d h p.2 l (hx.1 p hp) (by omega) hl
            show _ ≤ 20 * (p.1.size + wt h p.2); omega) hr
          rw [wrap_len]; omega
      · cases he
    · by_cases h7 : x.kind = 7
      · rw [Bson.enc_list d x h7] at he
        split at he
        · cases hr : row (enc d) (named x.l) with
          | none => rw [hr] at he; cases he
          | some r =>
            rw [hr] at he; cases he
            have hlen := length_le_sum (wt h) x.l (fun y hy => wt_pos (hx.2 y hy))
            have h1 := row_le (e := enc d) (fun p => wt h p.2) (named x.l) r (fun p hp l hl => by
              obtain ⟨k, hk, rfl⟩ := List.mem_iff_getElem.1 hp
              have hk2 : k < x.l.length := by rw [Bson.named_length] at hk; exact hk
              rw [named_at x.l k hk2] at hl ⊢
              have hm : x.l[k] ∈ x.l := List.getElem_mem hk2
              have h2 := mem_le_sum (wt h) x.l _ hm
              have h3 := enc_le d h x.l[k] l (hx.2 _ hm) (by omega) hl
              have h4 := digits_len k (by omega)
              show 2 + (digits k).size + l.length ≤ 20 * wt h x.l[k]; omega) hr
            have e2 : (named x.l).map (fun p => wt h p.2) = x.l.map (wt h) := by
              have e3 := congrArg (List.map (wt h)) (Bson.named_vals x.l)
              rw [List.map_map] at e3
              exact e3
            rw [e2] at h1
            rw [wrap_len]; omega
        · cases he
      · rw [Bson.enc_other (d + 1) x h6 h7] at he
        have := scalar_le he; omega
/-- The bytes of a value's blobs are octets. -/
def OctV : Nat → Val → Prop
  | 0, _ => False
  | h + 1, x => (∀ c ∈ x.b, c < 256) ∧ (∀ p ∈ x.f, OctV h p.2) ∧ ∀ y ∈ x.l, OctV h y
theorem VIn.octs {w : World} {Q : Nat → Prop} : ∀ {h : Nat} {x : Val} {v : Value}, VIn w Q h x v → OctV h x
  | 0, _, _, hv => hv.elim
  | h + 1, x, v, ⟨ba, fa, la, bc, fc, lc, e, h1, h2, h3, h4, h5, h6, h7⟩ => by
    refine ⟨h1.o, fun p hp => ?_, fun y hy => ?_⟩
    · rcases h6 with h6 | ⟨g, o, _, _, h6⟩
      · rw [h6] at hp; cases hp
      · obtain ⟨i, hi, rfl⟩ := List.getElem_of_mem hp
        obtain ⟨_, _, u, _, hu⟩ := h6 i hi
        exact VIn.octs hu
    · rcases h7 with h7 | ⟨g, o, _, _, h7⟩
      · rw [h7] at hy; cases hy
      · obtain ⟨i, hi, rfl⟩ := List.getElem_of_mem hy
        obtain ⟨u, _, hu⟩ := h7 i hi
        exact VIn.octs hu
theorem scalar_oct {v : Val} {l : List Nat} (hb : ∀ c ∈ v.b, c < 256) (h : scalar v = some l) : ∀ c ∈ l, c < 256 := by
  unfold scalar scalarP at h
  repeat' split at h
  all_goals try (cases h; done)
  all_goals simp only [Option.some.injEq] at h
  all_goals subst h
  all_goals intro c hc
  all_goals try (exact Bson.leI_lt _ _ c hc)
  all_goals try (exact hb c hc)
  all_goals try (cases hc; done)
  · rcases List.mem_append.1 hc with hc | hc
    · exact Bson.leI_lt _ _ c hc
    · rcases List.mem_append.1 hc with hc | hc
      · exact Bson.bytes_lt _ c hc
      · rw [List.mem_singleton.1 hc]; decide
  · rcases List.mem_append.1 hc with hc | hc
    · exact Bson.leI_lt _ _ c hc
    · rcases List.mem_cons.1 hc with hc | hc
      · rw [hc]; decide
      · exact hb c hc
theorem code_oct (k : Int) : Bson.code k < 256 := by
  unfold Bson.code
  repeat' split
  all_goals decide
theorem row_oct {e : Val → Option (List Nat)} : ∀ (f : List (ByteArray × Val)) (bs : List Nat), (∀ p ∈ f, ∀ l, e p.2 = some l → ∀ c ∈ l, c < 256) → row e f = some bs → ∀ c ∈ bs, c < 256
  | [], bs, _, h => by cases h; intro c hc; cases hc
  | (s, v) :: f, bs, hk, h => by
    obtain ⟨x, y, _, hx, hy, rfl⟩ := Bson.row_cons h
    intro c hc
    rcases List.mem_cons.1 hc with hc | hc
    · rw [hc]; exact code_oct _
    · rcases List.mem_append.1 hc with hc | hc
      · exact Bson.bytes_lt _ c hc
      · rcases List.mem_cons.1 hc with hc | hc
        · rw [hc]; decide
        · rcases List.mem_append.1 hc with hc | hc
          · exact hk (s, v) (List.mem_cons_self ..) x hx c hc
          · exact row_oct f y (fun p hp => hk p (List.mem_cons_of_mem _ hp)) hy c hc
theorem wrap_oct {l : List Nat} (h : ∀ c ∈ l, c < 256) : ∀ c ∈ wrap l, c < 256 := by
  intro c hc
  unfold wrap at hc
  rcases List.mem_append.1 hc with hc | hc
  · exact Bson.leI_lt _ _ c hc
  · rcases List.mem_append.1 hc with hc | hc
    · exact h c hc
    · rw [List.mem_singleton.1 hc]; decide
theorem enc_oct : ∀ (d h : Nat) (x : Val) (l : List Nat), OctV h x → enc d x = some l → ∀ c ∈ l, c < 256
  | _, 0, _, _, hx, _ => hx.elim
  | 0, h + 1, x, l, hx, he => scalar_oct hx.1 (v := x) he
  | d + 1, h + 1, x, l, hx, he => by
    by_cases h6 : x.kind = 6
    · rw [Bson.enc_doc d x h6] at he
      split at he
      · cases hr : row (enc d) x.f with
        | none => rw [hr] at he; cases he
        | some r =>
          rw [hr] at he; cases he
          exact wrap_oct (row_oct x.f r (fun p hp l hl => enc_oct d h p.2 l (hx.2.1 p hp) hl) hr)
      · cases he
    · by_cases h7 : x.kind = 7
      · rw [Bson.enc_list d x h7] at he
        split at he
        · cases hr : row (enc d) (named x.l) with
          | none => rw [hr] at he; cases he
          | some r =>
            rw [hr] at he; cases he
            refine wrap_oct (row_oct (named x.l) r (fun p hp l hl => ?_) hr)
            obtain ⟨k, hk, rfl⟩ := List.mem_iff_getElem.1 hp
            have hk2 : k < x.l.length := by rw [Bson.named_length] at hk; exact hk
            rw [named_at x.l k hk2] at hl
            exact enc_oct d h x.l[k] l (hx.2.2 _ (List.getElem_mem hk2)) hl
        · cases he
      · rw [Bson.enc_other (d + 1) x h6 h7] at he
        exact scalar_oct hx.1 he
end Go.Proofs.YtemckkindbpepaaDoor
end
section
namespace Go.Proofs.YtemckkindbpepaaDoor
open Go.RowKit
open Seal
def SixIs (W : World) (n : Nat) (c0 c1 c2 c3 c4 c5 : Value) : Prop := W.cell? ⟨n, 0, none⟩ = some c0 ∧ W.cell? ⟨n, 1, none⟩ = some c1 ∧ W.cell? ⟨n, 2, none⟩ = some c2 ∧ W.cell? ⟨n, 3, none⟩ = some c3 ∧ W.cell? ⟨n, 4, none⟩ = some c4 ∧ W.cell? ⟨n, 5, none⟩ = some c5
theorem SixIs.keep {W W' : World} {n : Nat} {c0 c1 c2 c3 c4 c5 : Value} (h : SixIs W n c0 c1 c2 c3 c4 c5) (hb : Below W.heap.size W W') : SixIs W' n c0 c1 c2 c3 c4 c5 := by
  obtain ⟨h0, h1, h2, h3, h4, h5⟩ := h
  exact ⟨cell_keep hb h0, cell_keep hb h1, cell_keep hb h2, cell_keep hb h3, cell_keep hb h4, cell_keep hb h5⟩
theorem SixIs.new (w : World) (c0 c1 c2 c3 c4 c5 : Value) (t : TypeId) : SixIs (w.alloc (.cells #[c0, c1, c2, c3, c4, c5] t)) w.heap.size c0 c1 c2 c3 c4 c5 := by
  have e := heap_alloc_new w (.cells #[c0, c1, c2, c3, c4, c5] t)
  exact ⟨(cell_of_row _ _ 0 _ _ _ e).trans rfl, (cell_of_row _ _ 1 _ _ _ e).trans rfl, (cell_of_row _ _ 2 _ _ _ e).trans rfl, (cell_of_row _ _ 3 _ _ _ e).trans rfl, (cell_of_row _ _ 4 _ _ _ e).trans rfl, (cell_of_row _ _ 5 _ _ _ e).trans rfl⟩
end Go.Proofs.YtemckkindbpepaaDoor
end
section
namespace Go.Proofs.YtemckkindbpepaaDoor
open Go.RowKit
open Seal
open Bson (Val)
def SmallPost (w : World) (h : Nat) (x : Val) (e : Ending) (w' : World) : Prop := ∃ b, e = .returned (.bool b) ∧ (b = true → wt h x ≤ 3000) ∧ Below w.heap.size w w'
set_option maxRecDepth 100000 in
set_option maxHeartbeats 2000000 in
theorem small_any (Q : Nat → Prop) (h : Nat) (x : Val) (v : Value) (w : World) (hv : VIn w Q (h + 1) x v) : Calls Tryd.prog 16 #[v] w (SmallPost w (h + 1) x) := by
  obtain ⟨xk, xn, xs, ba, fa, la, bn, bc, fn, fc, ln, lc, rfl, hxk, hxn, hxs, hbn, hfn, hln, hL, hF, hI⟩ := hv.letters
  have HV := Lib.hid hv
  have HV0 : Hid (VIn (w.alloc (.cells #[.int .i64 xk, .int .i64 xn, .string xs, .slice ba bn bc, .slice fa fn fc, .slice la ln lc] 27)) Q (h + 1) x (.agg #[.int .i64 xk, .int .i64 xn, .string xs, .slice ba bn bc, .slice fa fn fc, .slice la ln lc])) := VIn.keep ((Below.refl _ w).alloc (Nat.le_refl _) _) hv
  have HB0 : Hid (Below w.heap.size w (w.alloc (.cells #[.int .i64 xk, .int .i64 xn, .string xs, .slice ba bn bc, .slice fa fn fc, .slice la ln lc] 27))) := (Below.refl _ w).alloc (Nat.le_refl _) _
  have hS := SixIs.new w (.int .i64 xk) (.int .i64 xn) (.string xs) (.slice ba bn bc) (.slice fa fn fc) (.slice la ln lc) 27
  have HS0 := Lib.hid hS
  clear hv hxk hS hxn hxs hbn hfn hln hL hF hI
  generalize hW : w.alloc (.cells #[.int .i64 xk, .int .i64 xn, .string xs, .slice ba bn bc, .slice fa fn fc, .slice la ln lc] 27) = W0 at *
  obtain ⟨e0, e1, e2, e3, e4, e5⟩ := HS0.out
  go_enter Tryd.func16, Tryd.ntmps16
  go_wp2_with fail
  clear hW
  go_at_call 27
  refine (weight_any Q (h + 1) x _ 3000 W0 HV0.out (by decide) (by decide)).mono ?_
  rintro e w1 ⟨r, rfl, hr1, hr2, hr3, hb1⟩
  obtain ⟨f0, f1, f2, f3, f4, f5⟩ := HS0.out.keep hb1
  have HV1 := Lib.hid (VIn.keep hb1 HV0.out)
  have HB1 : Hid (Below w.heap.size w w1) := HB0.out.trans (hb1.mono HB0.out.size)
  have HR := Lib.hid hr3
  clear hb1 hr3 hr1 hr2
  by_cases hr : r ≤ 3000
  · have hd : decide (r ≤ 3000) = true := decide_eq_true hr
    have HW : Hid (wt (h + 1) x ≤ 3000) := by have := HR.out hr; show wt (h + 1) x ≤ 3000; omega
    go_wp2_with fail
    go_at_call 28
    refine (shallow_any Q (h + 1) x _ 60 w1 HV1.out (by decide) (by decide)).mono ?_
    rintro e w2 ⟨b, rfl, hb2⟩
    have HB2 : Hid (Below w.heap.size w w2) := HB1.out.trans (hb2.mono HB1.out.size)
    clear hb2
    go_wp2_with fail
    go_ret
    exact ⟨_, rfl, fun _ => HW.out, HB2.out⟩
  · have hd : decide (r ≤ 3000) = false := decide_eq_false hr
    go_wp2_with fail
    go_ret
    exact ⟨_, rfl, fun hb => (by cases hb), HB1.out⟩
end Go.Proofs.YtemckkindbpepaaDoor
end
