/- A REGION THAT DRAWS ITS ORDER, WHOSE OPERATIONS TURN NOTHING THAT WAS THERE (they read, call, lay new blocks): EACH OPERATION BY ITSELF, ONCE, in whatever world, from what those that it waits for have left; whatever the order. -/
import Derived.Below
import Derived.Deep.RegionHeld
namespace Go.Proofs.Ytfkkckadnookoaa
open Go.RowKit
/-- What an operation has left: a value, of which more blocks turn nothing. -/
structure Fact where
  p : Value → World → Prop
  keep : ∀ v w w', p v w → Below w.heap.size w w' → p v w'
def Fact.any : Fact := ⟨fun _ _ => True, fun _ _ _ h _ => h⟩
/-- Just that value. -/
def Fact.is (u : Value) : Fact := ⟨fun v _ => v = u, fun _ _ _ h _ => h⟩
def putAll (a : Act) (V : Nat → Value) : List (Option Tmp) → Nat → Act
  | [], _ => a
  | d :: r, k => putAll (a.put d (V k)) V r (k + 1)
def upd (V : Nat → Value) (i : Nat) (v : Value) : Nat → Value := fun j => if j = i then v else V j
theorem putAll_congr {V V' : Nat → Value} : ∀ (r : List (Option Tmp)) (k : Nat) (a : Act), (∀ j, k ≤ j → V j = V' j) → putAll a V r k = putAll a V' r k
  | [], _, _, _ => rfl
  | d :: r, k, a, h => by
    rw [putAll, putAll, h k (Nat.le_refl _)]
    exact putAll_congr r (k + 1) _ (fun j hj => h j (by omega))
theorem putAll_put {V : Nat → Value} {x : Option Tmp} (v : Value) : ∀ (r : List (Option Tmp)) (k : Nat) (a : Act), (∀ d, x = some d → some d ∉ r) → (putAll a V r k).put x v = putAll (a.put x v) V r k
  | [], _, _, _ => rfl
  | d :: r, k, a, h => by
    rw [putAll, putAll, putAll_put v r (k + 1) _ (fun e he hm => h e he (List.mem_cons_of_mem _ hm))]
    congr 1
    refine Act.put_comm a _ _ (fun e he hx => ?_)
    exact h e hx (by rw [he]; exact List.mem_cons_self)
theorem put_put (a : Act) (x : Option Tmp) (u v : Value) : (a.put x u).put x v = a.put x v := by
  cases x with
  | none => rfl
  | some d => simp [Act.put]
def nodupB : List (Option Tmp) → Bool
  | [] => true
  | none :: r => nodupB r
  | some d :: r => !r.contains (some d) && nodupB r
theorem nodup_head {x : Option Tmp} {r : List (Option Tmp)} (h : nodupB (x :: r) = true) : (∀ d, x = some d → some d ∉ r) ∧ nodupB r = true := by
  cases x with
  | none => exact ⟨nofun, h⟩
  | some d =>
    rw [nodupB, Bool.and_eq_true] at h
    refine ⟨fun e he hm => ?_, h.2⟩
    cases he
    have h1 := h.1
    rw [Bool.not_eq_true', ← Bool.not_eq_true, List.contains_iff_mem] at h1
    exact h1 hm
theorem putAll_upd {V : Nat → Value} (v : Value) : ∀ (ds : List (Option Tmp)) (k i : Nat) (x : Option Tmp) (a : Act), nodupB ds = true → ds[i]? = some x → (putAll a V ds k).put x v = putAll a (upd V (k + i) v) ds k
  | [], _, _, _, _, _, h => by simp at h
  | d :: r, k, 0, x, a, hn, h => by
    obtain ⟨h1, h2⟩ := nodup_head hn
    obtain rfl : d = x := by simpa using h
    rw [putAll, putAll, putAll_put v r _ _ h1, put_put, show upd V (k + 0) v k = v from if_pos rfl]
    exact putAll_congr r _ _ (fun j hj => (if_neg (by omega)).symm)
  | d :: r, k, i + 1, x, a, hn, h => by
    obtain ⟨h1, h2⟩ := nodup_head hn
    rw [putAll, putAll, putAll_upd v r (k + 1) i x _ h2 (by simpa using h), show upd V (k + (i + 1)) v k = V k from if_neg (by omega), show k + 1 + i = k + (i + 1) by omega]
theorem put_own (a : Act) (d : Tmp) : a.put (some d) (a.tmps.getD d undef) = a := by
  obtain ⟨ts, ds⟩ := a
  simp only [Act.put, Act.mk.injEq, and_true]
  apply Array.ext_getElem?
  intro i
  rw [Array.getElem?_setIfInBounds]
  by_cases e : d = i
  · subst e
    by_cases h : d < ts.size
    · simp [h]
    · simp [h]
  · simp [e]
/-- What stands in the temporaries already. -/
def own0 (a : Act) (ds : List (Option Tmp)) : Nat → Value := fun j => match ds[j]? with | some (some d) => a.tmps.getD d undef | _ => undef
theorem putAll_own {a : Act} : ∀ (ds : List (Option Tmp)) (k : Nat) (V : Nat → Value), (∀ i d, ds[i]? = some (some d) → V (k + i) = a.tmps.getD d undef) → putAll a V ds k = a
  | [], _, _, _ => rfl
  | none :: r, k, V, h => by
    rw [putAll]
    exact putAll_own r (k + 1) V (fun i d hi => by rw [show k + 1 + i = k + (i + 1) by omega]; exact h (i + 1) d (by simpa using hi))
  | some d :: r, k, V, h => by
    rw [putAll, show V k = a.tmps.getD d undef from h 0 d (by simp), put_own]
    exact putAll_own r (k + 1) V (fun i d hi => by rw [show k + 1 + i = k + (i + 1) by omega]; exact h (i + 1) d (by simpa using hi))
/-- How many of the first n have not come up. -/
def unl (l : Array Bool) : Nat → Nat
  | 0 => 0
  | n + 1 => unl l n + (if l.getD n true = true then 0 else 1)
theorem unl_le (l : Array Bool) : ∀ n, unl l n ≤ n
  | 0 => Nat.le_refl _
  | n + 1 => by have := unl_le l n; rw [unl]; split <;> omega
theorem unl_set_le (l : Array Bool) (i : Nat) : ∀ n, unl (l.setIfInBounds i true) n ≤ unl l n
  | 0 => Nat.le_refl _
  | n + 1 => by
    have := unl_set_le l i n
    rw [unl, unl]
    by_cases e : i = n
    · subst e
      have : (l.setIfInBounds i true).getD i true = true := by
        by_cases h : i < l.size
        · simp [h]
        · simp [h]
      rw [if_pos this]; omega
    · rw [getD_set_ne true e]; omega
theorem unl_set_lt (l : Array Bool) (i : Nat) (hi : l.getD i true = false) : ∀ n, i < n → unl (l.setIfInBounds i true) n < unl l n
  | 0, h => by omega
  | n + 1, h => by
    rw [unl, unl]
    by_cases e : i = n
    · subst e
      have h1 : (l.setIfInBounds i true).getD i true = true := by
        by_cases h : i < l.size
        · simp [h]
        · simp [h]
      have h2 := unl_set_le l i i
      rw [if_pos h1, hi, if_neg (by decide)]; omega
    · have := unl_set_lt l i hi n (by omega)
      rw [getD_set_ne true e]; omega
theorem unl_zero (l : Array Bool) : ∀ n, unl l n = 0 → ∀ j, j < n → l.getD j true = true
  | 0, _, _, h => by omega
  | n + 1, h, j, hj => by
    rw [unl] at h
    have h1 : l.getD n true = true := by
      by_cases e : l.getD n true = true
      · exact e
      · rw [if_neg e] at h; omega
    by_cases e : j = n
    · subst e; exact h1
    · exact unl_zero l n (by omega) j (by omega)
/-- Who waits, waits for those ahead of it in the text. -/
def backB (md : Region.Mode) : List Oper → Nat → Bool
  | [], _ => true
  | o :: r, i => (o.after.all fun e => !Region.binds md e || decide (e.on < i)) && backB md r (i + 1)
theorem back_spec (md : Region.Mode) : ∀ (l : List Oper) (k i : Nat) (o : Oper), backB md l k = true → l[i]? = some o → ∀ e ∈ o.after, Region.binds md e = true → e.on < k + i
  | [], _, _, _, _, h => by simp at h
  | x :: r, k, 0, o, hb, h => by
    obtain rfl : x = o := by simpa using h
    rw [backB, Bool.and_eq_true, Array.all_eq_true_iff_forall_mem] at hb
    intro e he hbind
    have := hb.1 e he
    rw [hbind] at this
    simpa using this
  | x :: r, k, i + 1, o, hb, h => by
    rw [backB, Bool.and_eq_true] at hb
    intro e he hbind
    have := back_spec md r (k + 1) i o hb.2 (by simpa using h) e he hbind
    omega
section
variable {P : Program} {Q : Exit → Act → World → Prop} {md : Region.Mode}
def factAt (fs : List Fact) (j : Nat) : Fact := fs.getD j Fact.any
def FactStep (P : Program) (md : Region.Mode) (ops : Array Oper) (Q : Exit → Act → World → Prop) (A : (Nat → Value) → Act) (w0 : World) (fs : List Fact) (i : Nat) (o : Oper) : Prop :=
  ∀ (V : Nat → Value) (w : World), Below w0.heap.size w0 w → Shut (∀ j, (o.after.any fun e => Region.binds md e && e.on == j) = true → (factAt fs j).p (V j) w) →
    ∀ K : Act → World → Prop, Shut (∀ a' v w', (A V).put o.dst v = a' → Below w.heap.size w w' → (factAt fs i).p v w' → K a' w') →
    if Region.wanted o (yielded ops (A V).tmps) = true then Oper.wp P o (A V) w K Q else K ((A V).put o.dst undef) w
def FactSteps (P : Program) (md : Region.Mode) (ops : Array Oper) (Q : Exit → Act → World → Prop) (A : (Nat → Value) → Act) (w0 : World) (fs : List Fact) : List Oper → Nat → Prop
  | [], _ => True
  | o :: r, i => FactStep P md ops Q A w0 fs i o ∧ FactSteps P md ops Q A w0 fs r (i + 1)
theorem FactSteps.at {ops : Array Oper} {A : (Nat → Value) → Act} {w0 : World} {fs : List Fact} : ∀ {r : List Oper} {k i : Nat} {o : Oper}, FactSteps P md ops Q A w0 fs r k → r[i]? = some o → FactStep P md ops Q A w0 fs (k + i) o
  | [], _, _, _, _, h => by simp at h
  | x :: r, k, 0, o, hs, h => by
    obtain rfl : x = o := by simpa using h
    exact hs.1
  | x :: r, k, i + 1, o, hs, h => by
    have := FactSteps.at (r := r) (k := k + 1) (i := i) hs.2 (by simpa using h)
    rwa [show k + 1 + i = k + (i + 1) by omega] at this
theorem facts_any {l : List Oper} {A : (Nat → Value) → Act} {w0 : World} {fs : List Fact} (hb : backB md l 0 = true)
    (hA : ∀ V i o v, l[i]? = some o → (A V).put o.dst v = A (upd V i v)) (hs : FactSteps P md l.toArray Q A w0 fs l 0)
    (hend : ∀ V w, Below w0.heap.size w0 w → (∀ j, j < l.length → (factAt fs j).p (V j) w) → Q .normal (A V) w) :
    ∀ (fuel : Nat) (listed : Array Bool) (V : Nat → Value) (w : World), listed.size = l.length → unl listed l.length ≤ fuel → Below w0.heap.size w0 w →
      (∀ j, listed.getD j false = true → (factAt fs j).p (V j) w) → wpAny P md l.toArray Q fuel listed (A V) w := by
  have full : ∀ (listed : Array Bool), Region.ready md l.toArray listed = [] → ∀ n j, j < n → j < l.length → listed.getD j true = true := by
    intro listed hr n
    induction n with
    | zero => intro j h; omega
    | succ n ih =>
      intro j hj hl
      by_cases e : listed.getD j true = true
      · exact e
      · exfalso
        have ho : l[j]? = some l[j] := List.getElem?_eq_getElem hl
        have : j ∈ Region.ready md l.toArray listed := by
          refine mem_ready.2 ⟨by simpa using e, l[j], by simp, fun e' he' hb' => ?_⟩
          have hlt := back_spec md l 0 j _ hb ho e' he' hb'
          have h1 := ih e'.on (by omega) (by omega)
          by_cases hs : e'.on < listed.size
          · simp [hs] at h1 ⊢; exact h1
          · exfalso
            apply e
            have : ¬ j < listed.size := by omega
            simp [this]
        rw [hr] at this
        cases this
  have done : ∀ (listed : Array Bool) (V : Nat → Value) (w : World), listed.size = l.length → (∀ j, j < l.length → listed.getD j true = true) → Below w0.heap.size w0 w →
      (∀ j, listed.getD j false = true → (factAt fs j).p (V j) w) → Q .normal (A V) w := fun listed V w hz hall hB hf => hend V w hB fun j hj => hf j (by
        have := hall j hj
        have h2 : j < listed.size := by omega
        simp [h2] at this ⊢; exact this)
  intro fuel
  induction fuel with
  | zero =>
    intro listed V w hz hu hB hf
    have hall := unl_zero listed l.length (by omega)
    refine ⟨?_, done listed V w hz hall hB hf⟩
    cases hr : Region.ready md l.toArray listed with
    | nil => rfl
    | cons x xs =>
      have hx : x ∈ Region.ready md l.toArray listed := by rw [hr]; exact List.mem_cons_self
      obtain ⟨h0, o, ho, _⟩ := mem_ready.1 hx
      have hlt : x < l.length := by simpa using (Array.getElem?_eq_some_iff.1 ho).1
      rw [hall x hlt] at h0; cases h0
  | succ fuel ih =>
    intro listed V w hz hu hB hf
    refine ⟨fun hr => done listed V w hz (fun j hj => full listed hr (j + 1) j (by omega) hj) hB hf, fun i hi => ?_⟩
    obtain ⟨h0, o, ho, hall⟩ := mem_ready.1 hi
    have ho' : l[i]? = some o := by simpa using ho
    have hlt : i < l.length := (List.getElem?_eq_some_iff.1 ho').1
    have hstep := FactSteps.at (k := 0) (i := i) hs ho'
    rw [Nat.zero_add] at hstep
    have h1 := hstep V w hB (fun j hj => hf j (by
      obtain ⟨e, he, hb2⟩ := Array.any_eq_true'.1 hj
      simp only [Bool.and_eq_true, beq_iff_eq] at hb2
      rw [← hb2.2]; exact hall e he hb2.1)) (wpAny P md l.toArray Q fuel (listed.setIfInBounds i true)) (fun a' v w' ha hb2 hfi => by
        rw [← ha, hA V i o v ho']
        refine ih _ _ _ (by simpa using hz) (by have := unl_set_lt listed i h0 l.length hlt; omega) (hB.trans (hb2.mono hB.size)) (fun j hj => ?_)
        by_cases e : j = i
        · subst e
          rw [show upd V j v j = v from if_pos rfl]; exact hfi
        · rw [show upd V i v j = V j from if_neg e]
          refine (factAt fs j).keep _ _ _ (hf j ?_) hb2
          rw [getD_set_ne false (Ne.symm e)] at hj
          exact hj)
    unfold wpOp
    simp only [ho]
    split
    · rename_i hw
      rw [if_pos hw] at h1
      exact .inl h1
    · rename_i hw
      rw [if_neg hw] at h1
      exact h1
/-- An operation without a guard. -/
theorem fact_free {ops : Array Oper} {A : (Nat → Value) → Act} {w0 : World} {fs : List Fact} {i : Nat} {o : Oper} (hg : o.guard = none)
    (h : ∀ (V : Nat → Value) (w : World), Below w0.heap.size w0 w → Shut (∀ j, (o.after.any fun e => Region.binds md e && e.on == j) = true → (factAt fs j).p (V j) w) →
      ∀ K : Act → World → Prop, Shut (∀ v w', Below w.heap.size w w' → (factAt fs i).p v w' → K ((A V).put o.dst v) w') → Oper.wp P o (A V) w K Q) : FactStep P md ops Q A w0 fs i o := by
  intro V w hB hF K hK
  rw [if_pos (show Region.wanted o (yielded ops (A V).tmps) = true by simp [Region.wanted, hg])]
  exact h V w hB hF K (fun v w' h1 h2 => hK _ v w' rfl h1 h2)
theorem wp_region_facts {id : Nat} {a : Act} {w : World} {l : List Oper} (A : (Nat → Value) → Act) (fs : List Fact) (hm : P.follows .mixedOrders = true) (hb : backB .any l 0 = true)
    (hn : nodupB (l.map (·.dst)) = true) (hA : ∀ V, putAll a V (l.map (·.dst)) 0 = A V) (hs : FactSteps P .any l.toArray Q A w fs l 0)
    (hend : ∀ V w', Below w.heap.size w w' → (∀ j, j < l.length → (factAt fs j).p (V j) w') → Q .normal (A V) w') : (Code.region id l.toArray true).wp P Q a w := by
  refine wp_region_any hm ?_
  have e0 : a = A (own0 a (l.map (·.dst))) := by
    rw [← hA, putAll_own]
    intro i d hi
    rw [Nat.zero_add, own0, hi]
  have h := facts_any (fs := fs) hb (fun V i o v ho => by
      rw [← hA, ← hA]
      have := putAll_upd (V := V) v (l.map (·.dst)) 0 i o.dst a hn (by rw [List.getElem?_map, ho]; rfl)
      rwa [Nat.zero_add] at this) hs hend l.toArray.size (Array.replicate l.toArray.size false) (own0 a (l.map (·.dst))) { w with drawn := w.drawn + 1 } (by simp) (by simpa using unl_le _ l.length) ⟨rfl, rfl, rfl, Nat.le_refl _, fun _ _ => rfl⟩
      (fun j hj => by
        exfalso
        have e : (Array.replicate l.toArray.size false).getD j false = false := by
          by_cases h : j < l.length
          · simp [h]
          · simp [h]
        rw [e] at hj; cases hj)
  rw [← e0] at h
  exact h
/-- The same, the temporaries as they stand. -/
theorem wp_region_facts_at {id : Nat} {a : Act} {w : World} {l : List Oper} (fs : List Fact) (hm : P.follows .mixedOrders = true) (hb : backB .any l 0 = true)
    (hn : nodupB (l.map (·.dst)) = true) (hs : FactSteps P .any l.toArray Q (fun V => putAll a V (l.map (·.dst)) 0) w fs l 0)
    (hend : ∀ V w', Below w.heap.size w w' → (∀ j, j < l.length → (factAt fs j).p (V j) w') → Q .normal (putAll a V (l.map (·.dst)) 0) w') : (Code.region id l.toArray true).wp P Q a w :=
  wp_region_facts _ fs hm hb hn (fun _ => rfl) hs hend
theorem put_is {K : Act → World → Prop} {a a' : Act} {w : World} (e : a = a') (h : K a w) : K a' w := e ▸ h
end
end Go.Proofs.Ytfkkckadnookoaa
