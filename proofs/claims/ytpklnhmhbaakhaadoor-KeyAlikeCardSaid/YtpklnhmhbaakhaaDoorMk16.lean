/- PathBound, PathSmall, KeyBound, OrderFew. -/
import Derived.Test.YtpklnhmhbaakhaaDoorMk6
import Derived.Test.YtpklnhmhbaakhaaDoorMk15
import Derived.Test.YtpklnhmhbaakhaaDoorMk9
import Derived.Test.YtpklnhmhbaakhaaDoorMk7
import Derived.Test.YtpklnhmhbaakhaaDoorMk8
set_option maxRecDepth 100000
section
namespace Go.Proofs.YtpklnhmhbaakhaaDoor
open Bson (Val)
/-- At most so high. -/
def Hgt : Nat → Val → Prop
  | 0, _ => False
  | h + 1, x => (∀ p ∈ x.f, Hgt h p.2) ∧ ∀ y ∈ x.l, Hgt h y
theorem wt_pos {h : Nat} {x : Val} (hx : Hgt h x) : 1 ≤ wt h x := by
  cases h with
  | zero => exact hx.elim
  | succ h => rw [wt]; omega
theorem sum_le {α : Type} (f g : α → Nat) : ∀ (l : List α), (∀ y ∈ l, f y ≤ g y) → (l.map f).sum ≤ (l.map g).sum
  | [], _ => Nat.le_refl _
  | a :: r, h => by
    simp only [List.map_cons, List.sum_cons]
    have h1 := h a (by simp)
    have h2 := sum_le f g r (fun y hy => h y (by simp [hy]))
    omega
theorem sum_filter_le {α : Type} (f : α → Nat) (q : α → Bool) : ∀ (l : List α), ((l.filter q).map f).sum ≤ (l.map f).sum
  | [] => Nat.le_refl _
  | a :: r => by
    have h2 := sum_filter_le f q r
    rw [List.filter_cons]
    split
    · simp only [List.map_cons, List.sum_cons]; omega
    · simp only [List.map_cons, List.sum_cons]; omega
theorem mem_le_sum {α : Type} (f : α → Nat) : ∀ (l : List α) (a : α), a ∈ l → f a ≤ (l.map f).sum
  | b :: r, a, h => by
    simp only [List.map_cons, List.sum_cons]
    rcases List.mem_cons.1 h with rfl | h
    · omega
    · have := mem_le_sum f r a h; omega
theorem length_le_sum {α : Type} (f : α → Nat) : ∀ (l : List α), (∀ y ∈ l, 1 ≤ f y) → l.length ≤ (l.map f).sum
  | [], _ => Nat.le_refl _
  | a :: r, h => by
    simp only [List.map_cons, List.sum_cons, List.length_cons]
    have h1 := h a (by simp)
    have h2 := length_le_sum f r (fun y hy => h y (by simp [hy]))
    omega
theorem fieldIn_mem : ∀ (f : List (ByteArray × Val)) (a : ByteArray), Bson.fieldIn f a = Bson.zero ∨ ∃ p ∈ f, Bson.fieldIn f a = p.2
  | [], _ => .inl rfl
  | (s, v) :: r, a => by
    rw [Bson.fieldIn]
    split
    · exact .inr ⟨(s, v), by simp, rfl⟩
    · rcases fieldIn_mem r a with h | ⟨p, hp, h⟩
      · exact .inl h
      · exact .inr ⟨p, by simp [hp], h⟩
theorem length_flatMap_le {α β : Type} (f : α → List β) (g : α → Nat) : ∀ (l : List α), (∀ y ∈ l, (f y).length ≤ g y) → (l.flatMap f).length ≤ (l.map g).sum
  | [], _ => Nat.le_refl _
  | a :: r, h => by
    simp only [List.flatMap_cons, List.length_append, List.map_cons, List.sum_cons]
    have h1 := h a (by simp)
    have h2 := length_flatMap_le f g r (fun y hy => h y (by simp [hy]))
    omega
theorem all_le : ∀ (n h : Nat) (x : Val) (p : List ByteArray), Hgt h x → (Bson.all n x p).length ≤ wt h x
  | n, 0, x, p, hx => hx.elim
  | n, h + 1, x, [], hx => by
    rw [Bson.all_nil, Bson.itself]
    have hl := length_le_sum (wt h) x.l (fun y hy => wt_pos (hx.2 y hy))
    rw [wt]
    split
    · rw [List.length_cons]; omega
    · simp only [List.length_cons, List.length_nil]; omega
  | 0, h + 1, x, a :: r, hx => by
    rw [Bson.all]; exact wt_pos hx
  | n + 1, h + 1, x, a :: r, hx => by
    have h1 := wt_pos hx
    rw [Bson.all]
    split
    · split
      · exact h1
      · next hk =>
        rcases fieldIn_mem x.f a with e | ⟨p, hp, e⟩
        · rw [e] at hk; exact absurd rfl hk
        · rw [e]
          refine Nat.le_trans (all_le n h p.2 r (hx.1 p hp)) ?_
          have := mem_le_sum (fun p : ByteArray × Val => p.1.size + wt h p.2) x.f p hp
          rw [wt]; omega
    · split
      · split
        · exact h1
        · refine Nat.le_trans (length_flatMap_le _ (wt h) _ (fun y hy => all_le n h y (a :: r) (hx.2 y (List.mem_filter.1 hy).1))) ?_
          have := sum_filter_le (wt h) (fun y => decide (y.kind = 6)) x.l
          rw [wt]; omega
      · exact h1
theorem VIn.hgt {w : World} {Q : Nat → Prop} : ∀ {h : Nat} {x : Val} {v : Value}, VIn w Q h x v → Hgt h x
  | 0, _, _, hv => hv.elim
  | h + 1, x, v, ⟨ba, fa, la, bc, fc, lc, e, h1, h2, h3, h4, h5, h6, h7⟩ => by
    refine ⟨fun p hp => ?_, fun y hy => ?_⟩
    · rcases h6 with h6 | ⟨g, o, _, _, h6⟩
      · rw [h6] at hp; cases hp
      · obtain ⟨i, hi, rfl⟩ := List.getElem_of_mem hp
        obtain ⟨_, _, u, _, hu⟩ := h6 i hi
        exact VIn.hgt hu
    · rcases h7 with h7 | ⟨g, o, _, _, h7⟩
      · rw [h7] at hy; cases hy
      · obtain ⟨i, hi, rfl⟩ := List.getElem_of_mem hy
        obtain ⟨u, _, hu⟩ := h7 i hi
        exact VIn.hgt hu
end Go.Proofs.YtpklnhmhbaakhaaDoor
end
section
namespace Go.Proofs.YtpklnhmhbaakhaaDoor
open Go.RowKit
open Seal
open Bson (Val)
def SmallPost (w : World) (h : Nat) (x : Val) (e : Ending) (w' : World) : Prop := ∃ b, e = .returned (.bool b) ∧ (b = true → wt h x ≤ 3000) ∧ Below w.heap.size w w'
set_option maxRecDepth 100000 in
set_option maxHeartbeats 2000000 in
theorem small_any (Q : Nat → Prop) (h : Nat) (x : Val) (v : Value) (w : World) (hv : VIn w Q (h + 1) x v) : Calls Tryd.prog 18 #[v] w (SmallPost w (h + 1) x) := by
  obtain ⟨xk, xn, xs, ba, fa, la, bn, bc, fn, fc, ln, lc, rfl, hxk, hxn, hxs, hbn, hfn, hln, hL, hF, hI⟩ := hv.letters
  have HV := Lib.hid hv
  have HV0 : Hid (VIn (w.alloc (.cells #[.int .i64 xk, .int .i64 xn, .string xs, .slice ba bn bc, .slice fa fn fc, .slice la ln lc] 27)) Q (h + 1) x (.agg #[.int .i64 xk, .int .i64 xn, .string xs, .slice ba bn bc, .slice fa fn fc, .slice la ln lc])) := VIn.keep ((Below.refl _ w).alloc (Nat.le_refl _) _) hv
  have HB0 : Hid (Below w.heap.size w (w.alloc (.cells #[.int .i64 xk, .int .i64 xn, .string xs, .slice ba bn bc, .slice fa fn fc, .slice la ln lc] 27))) := (Below.refl _ w).alloc (Nat.le_refl _) _
  have hS := SixIs.new w (.int .i64 xk) (.int .i64 xn) (.string xs) (.slice ba bn bc) (.slice fa fn fc) (.slice la ln lc) 27
  have HS0 := Lib.hid hS
  clear hv hxk hS hxn hxs hbn hfn hln hL hF hI
  generalize hW : w.alloc (.cells #[.int .i64 xk, .int .i64 xn, .string xs, .slice ba bn bc, .slice fa fn fc, .slice la ln lc] 27) = W0 at *
  obtain ⟨e0, e1, e2, e3, e4, e5⟩ := HS0.out
  go_enter Tryd.func18, Tryd.ntmps18
  go_wp2_with fail
  clear hW
  go_at_call 32
  refine (weight_any Q (h + 1) x _ 3000 W0 HV0.out (by decide) (by decide)).mono ?_
  rintro e w1 ⟨r, rfl, hr1, hr2, hr3, hb1⟩
  obtain ⟨f0, f1, f2, f3, f4, f5⟩ := HS0.out.keep hb1
  have HV1 := Lib.hid (VIn.keep hb1 HV0.out)
  have HB1 : Hid (Below w.heap.size w w1) := HB0.out.trans (hb1.mono HB0.out.size)
  have HR := Lib.hid hr3
  clear hb1 hr3 hr1 hr2
  by_cases hr : r ≤ 3000
  · have hd : decide (r ≤ 3000) = true := decide_eq_true hr
    have HW : Hid (wt (h + 1) x ≤ 3000) := by have := HR.out hr; show wt (h + 1) x ≤ 3000; omega
    go_wp2_with fail
    go_at_call 33
    refine (shallow_any Q (h + 1) x _ 60 w1 HV1.out (by decide) (by decide)).mono ?_
    rintro e w2 ⟨b, rfl, hb2⟩
    have HB2 : Hid (Below w.heap.size w w2) := HB1.out.trans (hb2.mono HB1.out.size)
    clear hb2
    go_wp2_with fail
    go_ret
    exact ⟨_, rfl, fun _ => HW.out, HB2.out⟩
  · have hd : decide (r ≤ 3000) = false := decide_eq_false hr
    go_wp2_with fail
    go_ret
    exact ⟨_, rfl, fun hb => (by cases hb), HB1.out⟩
end Go.Proofs.YtpklnhmhbaakhaaDoor
end
section
namespace Go.Proofs.YtpklnhmhbaakhaaDoor
open Bson (Val)
theorem esc_len : ∀ l : List Nat, (Key.esc l).length ≤ 2 * l.length
  | [] => Nat.le_refl _
  | x :: r => by
    have := esc_len r
    rw [Key.esc_cons]
    split <;> (simp only [List.length_cons]; omega)
theorem text_len (l : List Nat) : (Key.textB l).length ≤ 2 * l.length + 2 := by
  have := esc_len l
  unfold Key.textB
  rw [List.length_append]
  simp only [List.length_cons, List.length_nil]
  omega
theorem bytes_size' (s : ByteArray) : (Order.bytes s).length = s.size := by simp [Order.bytes]
theorem rowB_len {α : Type} (e : α → List Nat) : ∀ l : List α, (Key.rowB e l).length = (l.map (fun a => (e a).length)).sum + 1
  | [] => rfl
  | a :: r => by rw [Key.rowB, List.length_append, rowB_len e r, List.map_cons, List.sum_cons]; omega
theorem beh_le : ∀ (L h : Nat) (x : Val), Hgt h x → (Key.beh L x).length + 3 ≤ 11 * wt h x
  | L, 0, x, hx => hx.elim
  | L, h + 1, x, hx => by
    have hw : wt (h + 1) x = 1 + x.s.size + x.b.length + (x.f.map fun p => p.1.size + wt h p.2).sum + (x.l.map (wt h)).sum := rfl
    by_cases k1 : x.kind = 3 ∨ x.kind = 4 ∨ x.kind = 10 ∨ x.kind = 11
    · rw [Key.beh_num k1, Key.numB, Key.be_length]; omega
    by_cases k2 : x.kind = 5
    · have := text_len (Order.bytes x.s)
      rw [bytes_size'] at this
      rw [Key.beh_text k2]; omega
    by_cases k3 : x.kind = 8
    · rw [Key.beh_blob k3, Key.blobB, List.length_append, Key.be_length]; omega
    by_cases k4 : x.kind = 9
    · have := text_len x.b
      rw [Key.beh_id k4]; omega
    by_cases k5 : x.kind = 6
    · cases L with
      | zero =>
        rw [Key.beh, if_neg k1, if_neg k2, if_neg k3, if_neg k4]
        simp only [List.length_nil]; omega
      | succ L =>
        rw [Key.beh_doc k5, rowB_len]
        have := sum_le (fun p : ByteArray × Val => (Key.fldB L p).length) (fun p => 11 * (p.1.size + wt h p.2)) x.f (fun p hp => by
          have h1 := beh_le L h p.2 (hx.1 p hp)
          have h2 := text_len (Order.bytes p.1)
          rw [bytes_size'] at h2
          show (Key.markB p.2.kind :: (Key.textB (Order.bytes p.1) ++ Key.beh L p.2)).length ≤ _
          rw [List.length_cons, List.length_append]
          omega)
        have e : (x.f.map fun p : ByteArray × Val => 11 * (p.1.size + wt h p.2)).sum = 11 * (x.f.map fun p => p.1.size + wt h p.2).sum := by
          generalize x.f = f
          induction f with
          | nil => rfl
          | cons a r ih => rw [List.map_cons, List.sum_cons, List.map_cons, List.sum_cons, ih]; omega
        omega
    by_cases k6 : x.kind = 7
    · cases L with
      | zero =>
        rw [Key.beh, if_neg k1, if_neg k2, if_neg k3, if_neg k4]
        simp only [List.length_nil]; omega
      | succ L =>
        rw [Key.beh_list k6, rowB_len]
        have := sum_le (fun v : Val => (Key.valB L v).length) (fun v => 11 * wt h v) x.l (fun v hv => by
          have h1 := beh_le L h v (hx.2 v hv)
          show (Key.markB v.kind :: Key.beh L v).length ≤ _
          rw [List.length_cons]
          omega)
        have e : (x.l.map fun v : Val => 11 * wt h v).sum = 11 * (x.l.map (wt h)).sum := by
          generalize x.l = f
          induction f with
          | nil => rfl
          | cons a r ih => rw [List.map_cons, List.sum_cons, List.map_cons, List.sum_cons, ih]; omega
        omega
    · rw [Key.beh_none (by have := k1; omega)]
      simp only [List.length_nil]; omega
theorem val_le (L h : Nat) (x : Val) (hx : Hgt h x) : (Key.valB L x).length ≤ 11 * wt h x := by
  have := beh_le L h x hx
  unfold Key.valB
  rw [List.length_cons]; omega
theorem enc_le (L h : Nat) (d : List Bool) : ∀ (l : List Val) (i : Nat), (∀ x ∈ l, Hgt h x) → (∀ x ∈ l, wt h x ≤ 3000) → (Key.encB L d l i).length ≤ 33000 * l.length
  | [], _, _, _ => Nat.zero_le _
  | x :: r, i, hh, hw => by
    have h1 := enc_le L h d r (i + 1) (fun y hy => hh y (by simp [hy])) (fun y hy => hw y (by simp [hy]))
    have h2 := val_le L h x (hh x (by simp))
    have h3 := hw x (by simp)
    have h4 : (Key.itemB L (d.getD i false) x).length = (Key.valB L x).length := by
      unfold Key.itemB
      split
      · exact List.length_map _
      · rfl
    rw [Key.encB, List.length_append, h4, List.length_cons]
    omega
theorem fits_up : ∀ (L : Nat) (x : Val), Key.fits L x → Key.fits (L + 1) x
  | 0, _, h => ⟨fun e => absurd e h.1, fun e => absurd e h.2⟩
  | L + 1, _, h => ⟨fun e p hp => fits_up L p.2 (h.1 e p hp), fun e v hv => fits_up L v (h.2 e v hv)⟩
theorem fits_more (L : Nat) (x : Val) (h : Key.fits L x) : ∀ n, Key.fits (L + n) x
  | 0 => h
  | n + 1 => fits_up _ _ (fits_more L x h n)
end Go.Proofs.YtpklnhmhbaakhaaDoor
end
section
namespace Go.Proofs.YtpklnhmhbaakhaaDoor
open Go.RowKit
open Seal
open Bson (Val)
theorem VIn.some_h {w : World} {Q : Nat → Prop} : ∀ {h : Nat} {x : Val} {v : Value}, VIn w Q h x v → ∃ h', h = h' + 1
  | 0, _, _, hv => hv.elim
  | h + 1, _, _, _ => ⟨h, rfl⟩
set_option maxRecDepth 100000 in
set_option maxHeartbeats 4000000 in
theorem few_more (Q : Nat → Prop) (h : Nat) (a : Option Addr) (n c : Nat) (l : List Val) (w : World) (hn : l.length = n) (hnb : n ≤ 1353245080339) (hI : ItemsIn w Q (VIn w Q (h + 1)) a l) :
    Calls Tryd.prog 47 #[.slice a n c] w fun e w' => ∃ b, e = .returned (.bool b) ∧ (b = true → n ≤ 30 ∧ ∀ x ∈ l, wt (h + 1) x ≤ 3000) ∧ Below w.heap.size w w' := by
  have HI := Lib.hid hI
  have HN := Lib.hid hn
  clear hI hn
  go_enter Tryd.func47, Tryd.ntmps47
  go_wp2_with fail
  go_loopw [3, 4] (fun q i wr => ∃ (k : Nat) (m : Int), q = .int .i64 m ∧ i = .int .i64 k ∧ k ≤ n ∧ Hid (Below w.heap.size w wr) ∧ Hid (∀ j (hj : j < l.length), j < k → wt (h + 1) l[j] ≤ 3000)) (fun _ i _ => n - (intOf i).toNat)
  case atStart => exact ⟨0, 0, rfl, rfl, Nat.zero_le _, Below.refl _ _, fun j _ hj => absurd hj (Nat.not_lt_zero _)⟩
  case round =>
    obtain ⟨k, m, rfl, rfl, hk, HB, HW⟩ := hrel
    by_cases hlt : k < n
    · obtain ⟨g, o, hla, _, hall⟩ := HI.out.resolve_left (fun e => by have := HN.out; rw [e] at this; simp at this; omega)
      obtain ⟨v1, hsix, hV⟩ := hall k (by have := HN.out; omega)
      obtain rfl := hla
      obtain ⟨ka, na, sa, ba, fa, la, bl, bc, fl, fc, ll, lc, rfl⟩ := VIn.shape (h := h + 1) hV
      have HV := Lib.hid (VIn.keep (h := h + 1) HB.out hV)
      have HSX := Lib.hid (hsix.keep HB.out)
      obtain ⟨s0, s1, s2, s3, s4, s5⟩ := HSX.out.cells
      clear hall hsix hV
      go_wp2_with fail
      go_at_call 18
      refine (small_any Q h _ _ wr HV.out).mono ?_
      rintro e w1 ⟨b, rfl, hw1, hb1⟩
      have HW1 := Lib.hid hw1
      clear hw1
      have HB1 : Hid (Below w.heap.size w w1) := HB.out.trans (hb1.mono HB.out.size)
      have HV1 := Lib.hid (VIn.keep hb1 HV.out)
      obtain ⟨z0, z1, z2, z3, z4, z5⟩ := (HSX.out.keep hb1).cells
      clear hb1 s0 s1 s2 s3 s4 s5
      cases b with
      | false =>
        go_wp2_with fail
        go_ret
        exact ⟨_, rfl, nofun, HB1.out⟩
      | true =>
        have HWN : Hid (∀ j (hj : j < l.length), j < k + 1 → wt (h + 1) l[j] ≤ 3000) := fun j hj hjk => by
          by_cases e : j = k
          · subst e; exact HW1.out rfl
          · exact HW.out j hj (by omega)
        clear HW1
        go_wp2_with fail
        go_at_call 32
        refine (weight_any Q (h + 1) _ _ 3000 w1 HV1.out (by decide) (by decide)).mono ?_
        rintro e w2 ⟨r, rfl, _, _, _, hb2⟩
        have HB2 : Hid (Below w.heap.size w w2) := HB1.out.trans (hb2.mono HB1.out.size)
        clear hb2
        go_wp2_with fail
        go_roundw
        case rel => exact ⟨k + 1, _, rfl, by go_num, by omega, HB2, HWN⟩
        case measure => simp [intOf]; omega
    · by_cases h30 : n ≤ 30
      · have hd : decide ((n : Int) ≤ 30) = true := by rw [decide_eq_true_eq]; omega
        go_wp2_with fail
        go_ret
        exact ⟨_, rfl, fun _ => ⟨h30, fun x hx => by obtain ⟨j, hj, rfl⟩ := List.getElem_of_mem hx; exact HW.out j hj (by have := HN.out; omega)⟩, HB.out⟩
      · have hd : decide ((n : Int) ≤ 30) = false := by rw [decide_eq_false_iff_not]; omega
        go_wp2_with fail
        go_ret
        exact ⟨_, rfl, nofun, HB.out⟩
theorem few7_any (Q : Nat → Prop) (h : Nat) (a : Option Addr) (n c : Nat) (l : List Val) (w : World) (hn : l.length = n) (hnb : n ≤ 1353245080339) (hI : ItemsIn w Q (VIn w Q (h + 1)) a l) :
    Calls Tryd.prog 47 #[.slice a n c] w (SomeBool w) := (few_more Q h a n c l w hn hnb hI).mono fun _ _ ⟨b, h1, _, h3⟩ => ⟨b, h1, h3⟩
end Go.Proofs.YtpklnhmhbaakhaaDoor
end
