/- RegFacts, SealMath. -/
import Derived.Below
import Derived.Deep.RegionHeld
set_option maxRecDepth 100000
section
namespace Go.Proofs.YtdihelpimpkfoaaDoor
open Go.RowKit
/-- What an operation has left: a value, of which more blocks turn nothing. -/
structure Fact where
  p : Value → World → Prop
  keep : ∀ v w w', p v w → Below w.heap.size w w' → p v w'
def Fact.any : Fact := ⟨fun _ _ => True, fun _ _ _ h _ => h⟩
/-- Just that value. -/
def Fact.is (u : Value) : Fact := ⟨fun v _ => v = u, fun _ _ _ h _ => h⟩
def putAll (a : Act) (V : Nat → Value) : List (Option Tmp) → Nat → Act
  | [], _ => a
  | d :: r, k => putAll (a.put d (V k)) V r (k + 1)
def upd (V : Nat → Value) (i : Nat) (v : Value) : Nat → Value := fun j => if j = i then v else V j
theorem putAll_congr {V V' : Nat → Value} : ∀ (r : List (Option Tmp)) (k : Nat) (a : Act), (∀ j, k ≤ j → V j = V' j) → putAll a V r k = putAll a V' r k
  | [], _, _, _ => rfl
  | d :: r, k, a, h => by
    rw [putAll, putAll, h k (Nat.le_refl _)]
    exact putAll_congr r (k + 1) _ (fun j hj => h j (by omega))
theorem putAll_put {V : Nat → Value} {x : Option Tmp} (v : Value) : ∀ (r : List (Option Tmp)) (k : Nat) (a : Act), (∀ d, x = some d → some d ∉ r) → (putAll a V r k).put x v = putAll (a.put x v) V r k
  | [], _, _, _ => rfl
  | d :: r, k, a, h => by
    rw [putAll, putAll, putAll_put v r (k + 1) _ (fun e he hm => h e he (List.mem_cons_of_mem _ hm))]
    congr 1
    refine Act.put_comm a _ _ (fun e he hx => ?_)
    exact h e hx (by rw [he]; exact List.mem_cons_self)
theorem put_put (a : Act) (x : Option Tmp) (u v : Value) : (a.put x u).put x v = a.put x v := by
  cases x with
  | none => rfl
  | some d => simp [Act.put]
def nodupB : List (Option Tmp) → Bool
  | [] => true
  | none :: r => nodupB r
  | some d :: r => !r.contains (some d) && nodupB r
theorem nodup_head {x : Option Tmp} {r : List (Option Tmp)} (h : nodupB (x :: r) = true) : (∀ d, x = some d → some d ∉ r) ∧ nodupB r = true := by
  cases x with
  | none => exact ⟨nofun, h⟩
  | some d =>
    rw [nodupB, Bool.and_eq_true] at h
    refine ⟨fun e he hm => ?_, h.2⟩
    cases he
    have h1 := h.1
    rw [Bool.not_eq_true', ← Bool.not_eq_true, List.contains_iff_mem] at h1
    exact h1 hm
theorem putAll_upd {V : Nat → Value} (v : Value) : ∀ (ds : List (Option Tmp)) (k i : Nat) (x : Option Tmp) (a : Act), nodupB ds = true → ds[i]? = some x → (putAll a V ds k).put x v = putAll a (upd V (k + i) v) ds k
  | [], _, _, _, _, _, h => by simp at h
  | d :: r, k, 0, x, a, hn, h => by
    obtain ⟨h1, h2⟩ := nodup_head hn
    obtain rfl : d = x := by simpa using h
    rw [putAll, putAll, putAll_put v r _ _ h1, put_put, show upd V (k + 0) v k = v from if_pos rfl]
    exact putAll_congr r _ _ (fun j hj => (if_neg (by omega)).symm)
  | d :: r, k, i + 1, x, a, hn, h => by
    obtain ⟨h1, h2⟩ := nodup_head hn
    rw [putAll, putAll, putAll_upd v r (k + 1) i x _ h2 (by simpa using h), show upd V (k + (i + 1)) v k = V k from if_neg (by omega), show k + 1 + i = k + (i + 1) by omega]
theorem put_own (a : Act) (d : Tmp) : a.put (some d) (a.tmps.getD d undef) = a := by
  obtain ⟨ts, ds⟩ := a
  simp only [Act.put, Act.mk.injEq, and_true]
  apply Array.ext_getElem?
  intro i
  rw [Array.getElem?_setIfInBounds]
  by_cases e : d = i
  · subst e
    by_cases h : d < ts.size
    · simp [h]
    · simp [h]
  · simp [e]
/-- What stands in the temporaries already. -/
def own0 (a : Act) (ds : List (Option Tmp)) : Nat → Value := fun j => match ds[j]? with | some (some d) => a.tmps.getD d undef | _ => undef
theorem putAll_own {a : Act} : ∀ (ds : List (Option Tmp)) (k : Nat) (V : Nat → Value), (∀ i d, ds[i]? = some (some d) → V (k + i) = a.tmps.getD d undef) → putAll a V ds k = a
  | [], _, _, _ => rfl
  | none :: r, k, V, h => by
    rw [putAll]
    exact putAll_own r (k + 1) V (fun i d hi => by rw [show k + 1 + i = k + (i + 1) by omega]; exact h (i + 1) d (by simpa using hi))
  | some d :: r, k, V, h => by
    rw [putAll, show V k = a.tmps.getD d undef from h 0 d (by simp), put_own]
    exact putAll_own r (k + 1) V (fun i d hi => by rw [show k + 1 + i = k + (i + 1) by omega]; exact h (i + 1) d (by simpa using hi))
/-- How many of the first n have not come up. -/
def unl (l : Array Bool) : Nat → Nat
  | 0 => 0
  | n + 1 => unl l n + (if l.getD n true = true then 0 else 1)
theorem unl_le (l : Array Bool) : ∀ n, unl l n ≤ n
  | 0 => Nat.le_refl _
  | n + 1 => by have := unl_le l n; rw [unl]; split <;> omega
theorem unl_set_le (l : Array Bool) (i : Nat) : ∀ n, unl (l.setIfInBounds i true) n ≤ unl l n
  | 0 => Nat.le_refl _
  | n + 1 => by
    have := unl_set_le l i n
    rw [unl, unl]
    by_cases e : i = n
    · subst e
      have : (l.setIfInBounds i true).getD i true = true := by
        by_cases h : i < l.size
        · simp [h]
        · simp [h]
      rw [if_pos this]; omega
    · rw [getD_set_ne true e]; omega
theorem unl_set_lt (l : Array Bool) (i : Nat) (hi : l.getD i true = false) : ∀ n, i < n → unl (l.setIfInBounds i true) n < unl l n
  | 0, h => by omega
  | n + 1, h => by
    rw [unl, unl]
    by_cases e : i = n
    · subst e
      have h1 : (l.setIfInBounds i true).getD i true = true := by
        by_cases h : i < l.size
        · simp [h]
        · simp [h]
      have h2 := unl_set_le l i i
      rw [if_pos h1, hi, if_neg (by decide)]; omega
    · have := unl_set_lt l i hi n (by omega)
      rw [getD_set_ne true e]; omega
theorem unl_zero (l : Array Bool) : ∀ n, unl l n = 0 → ∀ j, j < n → l.getD j true = true
  | 0, _, _, h => by omega
  | n + 1, h, j, hj => by
    rw [unl] at h
    have h1 : l.getD n true = true := by
      by_cases e : l.getD n true = true
      · exact e
      · rw [if_neg e] at h; omega
    by_cases e : j = n
    · subst e; exact h1
    · exact unl_zero l n (by omega) j (by omega)
/-- Who waits, waits for those ahead of it in the text. -/
def backB (md : Region.Mode) : List Oper → Nat → Bool
  | [], _ => true
  | o :: r, i => (o.after.all fun e => !Region.binds md e || decide (e.on < i)) && backB md r (i + 1)
theorem back_spec (md : Region.Mode) : ∀ (l : List Oper) (k i : Nat) (o : Oper), backB md l k = true → l[i]? = some o → ∀ e ∈ o.after, Region.binds md e = true → e.on < k + i
  | [], _, _, _, _, h => by simp at h
  | x :: r, k, 0, o, hb, h => by
    obtain rfl : x = o := by simpa using h
    rw [backB, Bool.and_eq_true, Array.all_eq_true_iff_forall_mem] at hb
    intro e he hbind
    have := hb.1 e he
    rw [hbind] at this
    simpa using this
  | x :: r, k, i + 1, o, hb, h => by
    rw [backB, Bool.and_eq_true] at hb
    intro e he hbind
    have := back_spec md r (k + 1) i o hb.2 (by simpa using h) e he hbind
    omega
section
variable {P : Program} {Q : Exit → Act → World → Prop} {md : Region.Mode}
def factAt (fs : List Fact) (j : Nat) : Fact := fs.getD j Fact.any
def FactStep (P : Program) (md : Region.Mode) (ops : Array Oper) (Q : Exit → Act → World → Prop) (A : (Nat → Value) → Act) (w0 : World) (fs : List Fact) (i : Nat) (o : Oper) : Prop :=
  ∀ (V : Nat → Value) (w : World), Below w0.heap.size w0 w → Shut (∀ j, (o.after.any fun e => Region.binds md e && e.on == j) = true → (factAt fs j).p (V j) w) →
    ∀ K : Act → World → Prop, Shut (∀ a' v w', (A V).put o.dst v = a' → Below w.heap.size w w' → (factAt fs i).p v w' → K a' w') →
    if Region.wanted o (yielded ops (A V).tmps) = true then Oper.wp P o (A V) w K Q else K ((A V).put o.dst undef) w
def FactSteps (P : Program) (md : Region.Mode) (ops : Array Oper) (Q : Exit → Act → World → Prop) (A : (Nat → Value) → Act) (w0 : World) (fs : List Fact) : List Oper → Nat → Prop
  | [], _ => True
  | o :: r, i => FactStep P md ops Q A w0 fs i o ∧ FactSteps P md ops Q A w0 fs r (i + 1)
theorem FactSteps.at {ops : Array Oper} {A : (Nat → Value) → Act} {w0 : World} {fs : List Fact} : ∀ {r : List Oper} {k i : Nat} {o : Oper}, FactSteps P md ops Q A w0 fs r k → r[i]? = some o → FactStep P md ops Q A w0 fs (k + i) o
  | [], _, _, _, _, h => by simp at h
  | x :: r, k, 0, o, hs, h => by
    obtain rfl : x = o := by simpa using h
    exact hs.1
  | x :: r, k, i + 1, o, hs, h => by
    have := FactSteps.at (r := r) (k := k + 1) (i := i) hs.2 (by simpa using h)
    rwa [show k + 1 + i = k + (i + 1) by omega] at this
theorem facts_any {l : List Oper} {A : (Nat → Value) → Act} {w0 : World} {fs : List Fact} (hb : backB md l 0 = true)
    (hA : ∀ V i o v, l[i]? = some o → (A V).put o.dst v = A (upd V i v)) (hs : FactSteps P md l.toArray Q A w0 fs l 0)
    (hend : ∀ V w, Below w0.heap.size w0 w → (∀ j, j < l.length → (factAt fs j).p (V j) w) → Q .normal (A V) w) :
    ∀ (fuel : Nat) (listed : Array Bool) (V : Nat → Value) (w : World), listed.size = l.length → unl listed l.length ≤ fuel → Below w0.heap.size w0 w →
      (∀ j, listed.getD j false = true → (factAt fs j).p (V j) w) → wpAny P md l.toArray Q fuel listed (A V) w := by
  have full : ∀ (listed : Array Bool), Region.ready md l.toArray listed = [] → ∀ n j, j < n → j < l.length → listed.getD j true = true := by
    intro listed hr n
    induction n with
    | zero => intro j h; omega
    | succ n ih =>
      intro j hj hl
      by_cases e : listed.getD j true = true
      · exact e
      · exfalso
        have ho : l[j]? = some l[j] := List.getElem?_eq_getElem hl
        have : j ∈ Region.ready md l.toArray listed := by
          refine mem_ready.2 ⟨by simpa using e, l[j], by simp, fun e' he' hb' => ?_⟩
          have hlt := back_spec md l 0 j _ hb ho e' he' hb'
          have h1 := ih e'.on (by omega) (by omega)
          by_cases hs : e'.on < listed.size
          · simp [hs] at h1 ⊢; exact h1
          · exfalso
            apply e
            have : ¬ j < listed.size := by omega
            simp [this]
        rw [hr] at this
        cases this
  have done : ∀ (listed : Array Bool) (V : Nat → Value) (w : World), listed.size = l.length → (∀ j, j < l.length → listed.getD j true = true) → Below w0.heap.size w0 w →
      (∀ j, listed.getD j false = true → (factAt fs j).p (V j) w) → Q .normal (A V) w := fun listed V w hz hall hB hf => hend V w hB fun j hj => hf j (by
        have := hall j hj
        have h2 : j < listed.size := by omega
        simp [h2] at this ⊢; exact this)
  intro fuel
  induction fuel with
  | zero =>
    intro listed V w hz hu hB hf
    have hall := unl_zero listed l.length (by omega)
    refine ⟨?_, done listed V w hz hall hB hf⟩
    cases hr : Region.ready md l.toArray listed with
    | nil => rfl
    | cons x xs =>
      have hx : x ∈ Region.ready md l.toArray listed := by rw [hr]; exact List.mem_cons_self
      obtain ⟨h0, o, ho, _⟩ := mem_ready.1 hx
      have hlt : x < l.length := by simpa using (Array.getElem?_eq_some_iff.1 ho).1
      rw [hall x hlt] at h0; cases h0
  | succ fuel ih =>
    intro listed V w hz hu hB hf
    refine ⟨fun hr => done listed V w hz (fun j hj => full listed hr (j + 1) j (by omega) hj) hB hf, fun i hi => ?_⟩
    obtain ⟨h0, o, ho, hall⟩ := mem_ready.1 hi
    have ho' : l[i]? = some o := by simpa using ho
    have hlt : i < l.length := (List.getElem?_eq_some_iff.1 ho').1
    have hstep := FactSteps.at (k := 0) (i := i) hs ho'
    rw [Nat.zero_add] at hstep
    have h1 := hstep V w hB (fun j hj => hf j (by
      obtain ⟨e, he, hb2⟩ := Array.any_eq_true'.1 hj
      simp only [Bool.and_eq_true, beq_iff_eq] at hb2
      rw [← hb2.2]; exact hall e he hb2.1)) (wpAny P md l.toArray Q fuel (listed.setIfInBounds i true)) (fun a' v w' ha hb2 hfi => by
        rw [← ha, hA V i o v ho']
        refine ih _ _ _ (by simpa using hz) (by have := unl_set_lt listed i h0 l.length hlt; omega) (hB.trans (hb2.mono hB.size)) (fun j hj => ?_)
        by_cases e : j = i
        · subst e
          rw [show upd V j v j = v from if_pos rfl]; exact hfi
        · rw [show upd V i v j = V j from if_neg e]
          refine (factAt fs j).keep _ _ _ (hf j ?_) hb2
          rw [getD_set_ne false (Ne.symm e)] at hj
          exact hj)
    unfold wpOp
    simp only [ho]
    split
    · rename_i hw
      rw [if_pos hw] at h1
      exact .inl h1
    · rename_i hw
      rw [if_neg hw] at h1
      exact h1
/-- An operation without a guard. -/
theorem fact_free {ops : Array Oper} {A : (Nat → Value) → Act} {w0 : World} {fs : List Fact} {i : Nat} {o : Oper} (hg : o.guard = none)
    (h : ∀ (V : Nat → Value) (w : World), Below w0.heap.size w0 w → Shut (∀ j, (o.after.any fun e => Region.binds md e && e.on == j) = true → (factAt fs j).p (V j) w) →
      ∀ K : Act → World → Prop, Shut (∀ v w', Below w.heap.size w w' → (factAt fs i).p v w' → K ((A V).put o.dst v) w') → Oper.wp P o (A V) w K Q) : FactStep P md ops Q A w0 fs i o := by
  intro V w hB hF K hK
  rw [if_pos (show Region.wanted o (yielded ops (A V).tmps) = true by simp [Region.wanted, hg])]
  exact h V w hB hF K (fun v w' h1 h2 => hK _ v w' rfl h1 h2)
theorem wp_region_facts {id : Nat} {a : Act} {w : World} {l : List Oper} (A : (Nat → Value) → Act) (fs : List Fact) (hm : P.follows .mixedOrders = true) (hb : backB .any l 0 = true)
    (hn : nodupB (l.map (·.dst)) = true) (hA : ∀ V, putAll a V (l.map (·.dst)) 0 = A V) (hs : FactSteps P .any l.toArray Q A w fs l 0)
    (hend : ∀ V w', Below w.heap.size w w' → (∀ j, j < l.length → (factAt fs j).p (V j) w') → Q .normal (A V) w') : (Code.region id l.toArray true).wp P Q a w := by
  refine wp_region_any hm ?_
  have e0 : a = A (own0 a (l.map (·.dst))) := by
    rw [← hA, putAll_own]
    intro i d hi
    rw [Nat.zero_add, own0, hi]
  have h := facts_any (fs := fs) hb (fun V i o v ho => by
      rw [← hA, ← hA]
      have := putAll_upd (V := V) v (l.map (·.dst)) 0 i o.dst a hn (by rw [List.getElem?_map, ho]; rfl)
      rwa [Nat.zero_add] at this) hs hend l.toArray.size (Array.replicate l.toArray.size false) (own0 a (l.map (·.dst))) { w with drawn := w.drawn + 1 } (by simp) (by simpa using unl_le _ l.length) ⟨rfl, rfl, rfl, Nat.le_refl _, fun _ _ => rfl⟩
      (fun j hj => by
        exfalso
        have e : (Array.replicate l.toArray.size false).getD j false = false := by
          by_cases h : j < l.length
          · simp [h]
          · simp [h]
        rw [e] at hj; cases hj)
  rw [← e0] at h
  exact h
/-- The same, the temporaries as they stand. -/
theorem wp_region_facts_at {id : Nat} {a : Act} {w : World} {l : List Oper} (fs : List Fact) (hm : P.follows .mixedOrders = true) (hb : backB .any l 0 = true)
    (hn : nodupB (l.map (·.dst)) = true) (hs : FactSteps P .any l.toArray Q (fun V => putAll a V (l.map (·.dst)) 0) w fs l 0)
    (hend : ∀ V w', Below w.heap.size w w' → (∀ j, j < l.length → (factAt fs j).p (V j) w') → Q .normal (putAll a V (l.map (·.dst)) 0) w') : (Code.region id l.toArray true).wp P Q a w :=
  wp_region_facts _ fs hm hb hn (fun _ => rfl) hs hend
theorem put_is {K : Act → World → Prop} {a a' : Act} {w : World} (e : a = a') (h : K a w) : K a' w := e ▸ h
end
end Go.Proofs.YtdihelpimpkfoaaDoor
end
section
namespace Go.Proofs.YtdihelpimpkfoaaDoor.Seal

/-- One step of the register, on a number of any size. -/
def T (s : Nat) : Nat := s / 2 ^^^ s % 2 * 2197175160
def Tn : Nat → Nat → Nat
  | 0, s => s
  | n + 1, s => Tn n (T s)

theorem T_xor (a b : Nat) : T (a ^^^ b) = T a ^^^ T b := by
  unfold T
  have h2 : (a ^^^ b) % 2 = (a % 2) ^^^ (b % 2) := by
    have := Nat.xor_mod_two_pow (a := a) (b := b) (n := 1)
    simpa using this
  have h1 : (a ^^^ b) / 2 = (a / 2) ^^^ (b / 2) := Nat.xor_div_two
  rw [h1, h2]
  rcases Nat.mod_two_eq_zero_or_one a with ha | ha <;> rcases Nat.mod_two_eq_zero_or_one b with hb | hb <;> rw [ha, hb] <;> simp
  · rw [Nat.xor_assoc]
  · rw [Nat.xor_assoc, Nat.xor_assoc, Nat.xor_comm 2197175160]
  · rw [Nat.xor_assoc, ← Nat.xor_assoc 2197175160, Nat.xor_comm 2197175160, Nat.xor_assoc, Nat.xor_self, Nat.xor_zero]
theorem Tn_xor (n a b : Nat) : Tn n (a ^^^ b) = Tn n a ^^^ Tn n b := by
  induction n generalizing a b with
  | zero => rfl
  | succ n ih => simp only [Tn, T_xor, ih]
theorem Tn_add (m n s : Nat) : Tn (m + n) s = Tn n (Tn m s) := by
  induction m generalizing s with
  | zero => simp [Tn]
  | succ m ih => rw [Nat.succ_add]; simp only [Tn, ih]
theorem T_zero : T 0 = 0 := rfl
theorem Tn_zero (n : Nat) : Tn n 0 = 0 := by
  induction n with
  | zero => rfl
  | succ n ih => simp only [Tn, T_zero, ih]
theorem Tn_mul (k q : Nat) : Tn k (2 ^ k * q) = q := by
  induction k generalizing q with
  | zero => simp [Tn]
  | succ k ih =>
    have h : T (2 ^ (k + 1) * q) = 2 ^ k * q := by
      have e : 2 ^ (k + 1) * q = 2 * (2 ^ k * q) := by rw [Nat.pow_succ]; rw [Nat.mul_comm (2 ^ k) 2, Nat.mul_assoc]
      rw [e]; unfold T
      have a1 : 2 * (2 ^ k * q) / 2 = 2 ^ k * q := by omega
      have a2 : 2 * (2 ^ k * q) % 2 = 0 := by omega
      rw [a1, a2]; simp
    simp only [Tn, h, ih]
theorem T_lt (s : Nat) (h : s < 4294967296) : T s < 4294967296 := by
  unfold T
  refine Nat.xor_lt_two_pow (n := 32) (by omega) ?_
  have : s % 2 < 2 := Nat.mod_lt _ (by decide)
  omega
theorem Tn_lt (n s : Nat) (h : s < 4294967296) : Tn n s < 4294967296 := by
  induction n generalizing s with
  | zero => exact h
  | succ n ih => exact ih _ (T_lt _ h)
theorem xor_eq_zero {a b : Nat} (h : a ^^^ b = 0) : a = b := by
  have : a ^^^ b ^^^ b = 0 ^^^ b := by rw [h]
  simpa [Nat.xor_assoc] using this
theorem T_eq_zero (s : Nat) (h : s < 4294967296) (h0 : T s = 0) : s = 0 := by
  unfold T at h0
  have h1 := xor_eq_zero h0
  rcases Nat.mod_two_eq_zero_or_one s with hs | hs <;> rw [hs] at h1 <;> omega
theorem Tn_eq_zero (n s : Nat) (h : s < 4294967296) (h0 : Tn n s = 0) : s = 0 := by
  induction n generalizing s with
  | zero => exact h0
  | succ n ih => exact T_eq_zero s h (ih _ (T_lt _ h) h0)
theorem add_xor (k q r : Nat) (h : r < 2 ^ k) : 2 ^ k * q + r = r ^^^ 2 ^ k * q := by
  apply Nat.eq_of_testBit_eq
  intro j
  rw [Nat.testBit_two_pow_mul_add _ h, Nat.testBit_xor, Nat.testBit_two_pow_mul]
  by_cases hj : j < k
  · have hj' : ¬ k ≤ j := by omega
    simp [hj, hj']
  · have hj' : k ≤ j := by omega
    have : r.testBit j = false := Nat.testBit_lt_two_pow (Nat.lt_of_lt_of_le h (Nat.pow_le_pow_right (by decide) (by omega)))
    simp [hj, hj', this]
theorem split16 (s : Nat) : s = s % 16 ^^^ 2 ^ 4 * (s / 16) := by
  rw [← add_xor 4 (s / 16) (s % 16) (Nat.mod_lt _ (by decide))]; omega
theorem join256 (c r : Nat) (h : c < 256) : c + 256 * r = c ^^^ 2 ^ 8 * r := by
  rw [← add_xor 8 r c h]; omega

/-- The table of four steps. -/
def tab : List Nat := [0, 274646895, 549293790, 820201905, 1098587580, 1361435347, 1640403810, 1905808397, 2197175160, 2460548119, 2722870694, 2987750089, 3280807620, 3553878443, 3811616794, 4084100981]
def half (s : Nat) : Nat := s / 16 ^^^ tab.getD (s % 16) 0
theorem tab_eq (i : Nat) (h : i < 16) : tab.getD i 0 = Tn 4 i := by
  have : ∀ i : Fin 16, tab.getD i 0 = Tn 4 i := by decide +kernel
  exact this ⟨i, h⟩
theorem half_eq (s : Nat) : half s = Tn 4 s := by
  conv => rhs; rw [split16 s]
  rw [Tn_xor, Tn_mul, ← tab_eq _ (Nat.mod_lt _ (by decide)), Nat.xor_comm]; rfl
theorem tab_lt (i : Nat) (h : i < 16) : tab.getD i 0 < 4294967296 := by
  rw [tab_eq i h]; exact Tn_lt _ _ (by omega)
theorem half_lt (s : Nat) (h : s < 4294967296) : half s < 4294967296 := by rw [half_eq]; exact Tn_lt _ _ h
def stepB (s c : Nat) : Nat := half (half (s ^^^ c))
theorem stepB_eq (s c : Nat) : stepB s c = Tn 8 (s ^^^ c) := by unfold stepB; rw [half_eq, half_eq, ← Tn_add]
def Oct (l : List Nat) : Prop := ∀ c ∈ l, c < 256
def run (s : Nat) (l : List Nat) : Nat := l.foldl stepB s
def crc0 (l : List Nat) : Nat := run 4294967295 l
def crc (l : List Nat) : Nat := 4294967295 ^^^ crc0 l
def num : List Nat → Nat
  | [] => 0
  | c :: r => c + 256 * num r
theorem run_eq (s : Nat) (l : List Nat) (h : Oct l) : run s l = Tn (8 * l.length) (s ^^^ num l) := by
  induction l generalizing s with
  | nil => simp [run, Tn, num]
  | cons c r ih =>
    have hc : c < 256 := h c (by simp)
    have hr : Oct r := fun x hx => h x (by simp [hx])
    show run (stepB s c) r = _
    rw [ih _ hr, stepB_eq, List.length_cons, Nat.mul_succ, Nat.add_comm, Tn_add]
    congr 1
    show _ = Tn 8 (s ^^^ (c + 256 * num r))
    rw [join256 c _ hc, ← Nat.xor_assoc, Tn_xor _ (s ^^^ c), Tn_mul]
theorem num_lt (l : List Nat) (h : Oct l) : num l < 256 ^ l.length := by
  induction l with
  | nil => simp [num]
  | cons c r ih =>
    have hc : c < 256 := h c (by simp)
    have := ih (fun x hx => h x (by simp [hx]))
    simp only [num, List.length_cons, Nat.pow_succ]
    omega
theorem num_lt32 (l : List Nat) (h : Oct l) (hl : l.length ≤ 4) : num l < 4294967296 := by
  have := num_lt l h
  have h2 : 256 ^ l.length ≤ 256 ^ 4 := Nat.pow_le_pow_right (by decide) hl
  omega
theorem run_lt (s : Nat) (l : List Nat) (hs : s < 4294967296) (h : Oct l) : run s l < 4294967296 := by
  unfold run
  induction l generalizing s with
  | nil => exact hs
  | cons c r ih =>
    have hc : c < 256 := h c (by simp)
    exact ih _ (half_lt _ (half_lt _ (Nat.xor_lt_two_pow (n := 32) hs (by omega)))) (fun x hx => h x (by simp [hx]))
theorem crc0_lt (l : List Nat) (h : Oct l) : crc0 l < 4294967296 := run_lt _ _ (by decide) h
theorem crc_lt (l : List Nat) (h : Oct l) : crc l < 4294967296 := Nat.xor_lt_two_pow (n := 32) (by decide) (crc0_lt l h)
theorem run_snoc (s : Nat) (l : List Nat) (c : Nat) : run s (l ++ [c]) = stepB (run s l) c := by simp [run]

/-- A number's Oct, the lowest first. -/
def le : Nat → Nat → List Nat
  | _, 0 => []
  | x, n + 1 => x % 256 :: le (x / 256) n
theorem length_le (x n : Nat) : (le x n).length = n := by
  induction n generalizing x with
  | zero => rfl
  | succ n ih => simp [le, ih]
theorem oct_le (x n : Nat) : Oct (le x n) := by
  induction n generalizing x with
  | zero => intro c hc; simp [le] at hc
  | succ n ih => intro c hc; rcases List.mem_cons.1 hc with rfl | hc
                 · exact Nat.mod_lt _ (by decide)
                 · exact ih _ c hc
theorem num_le (x n : Nat) : num (le x n) = x % 256 ^ n := by
  induction n generalizing x with
  | zero => simp [le, num, Nat.mod_one]
  | succ n ih => rw [le, num, ih, Nat.pow_succ, Nat.mul_comm (256 ^ n), Nat.mod_mul]
theorem le_num (l : List Nat) (h : Oct l) : le (num l) l.length = l := by
  induction l with
  | nil => rfl
  | cons c r ih =>
    have hc : c < 256 := h c (by simp)
    simp only [num, List.length_cons, le]
    have e1 : (c + 256 * num r) % 256 = c := by omega
    have e2 : (c + 256 * num r) / 256 = num r := by omega
    rw [e1, e2, ih (fun x hx => h x (by simp [hx]))]

theorem oct_append {a b : List Nat} (ha : Oct a) (hb : Oct b) : Oct (a ++ b) := by
  intro c hc; rcases List.mem_append.1 hc with h | h; exact ha c h; exact hb c h
theorem oct_replicate (n c : Nat) (h : c < 256) : Oct (List.replicate n c) := by
  intro x hx; rw [(List.mem_replicate.1 hx).2]; exact h
theorem oct_take {l : List Nat} (n : Nat) (h : Oct l) : Oct (l.take n) := fun c hc => h c (List.mem_of_mem_take hc)
theorem oct_drop {l : List Nat} (n : Nat) (h : Oct l) : Oct (l.drop n) := fun c hc => h c (List.mem_of_mem_drop hc)

def pageOk (p : Nat) : Bool := p == 64 || p == 128 || p == 256 || p == 512 || p == 1024 || p == 2048 || p == 4096
theorem pageOk_cases {p : Nat} (h : pageOk p = true) : p = 64 ∨ p = 128 ∨ p = 256 ∨ p = 512 ∨ p = 1024 ∨ p = 2048 ∨ p = 4096 := by
  simpa [pageOk, or_assoc] using h
theorem pageOk_bounds {p : Nat} (h : pageOk p = true) : 64 ≤ p ∧ p ≤ 4096 := by have := pageOk_cases h; omega

def body (page next : Nat) (data : List Nat) : List Nat := le next 4 ++ (le data.length 2 ++ (data ++ List.replicate (page - 10 - data.length) 0))
/-- A page: 'next' is the next's number and 1. -/
def closeB (page next : Nat) (data : List Nat) : List Nat := body page next data ++ le (crc (body page next data)) 4
def openB (l : List Nat) : Int × List Nat × Int :=
  if pageOk l.length = true then
    if num (l.drop (l.length - 4)) = crc (l.take (l.length - 4)) then
      if num (l.take 4) ≤ 16384 ∧ num ((l.drop 4).take 2) ≤ l.length - 10 then ((num (l.take 4) : Int) - 1, (l.drop 6).take (num ((l.drop 4).take 2)), 0)
      else (0, [], 4)
    else (0, [], 18)
  else (0, [], 1)
theorem length_body (page next : Nat) (data : List Nat) (h : data.length + 10 ≤ page) : (body page next data).length = page - 4 := by
  simp [body, length_le]; omega
theorem length_closeB (page next : Nat) (data : List Nat) (h : data.length + 10 ≤ page) : (closeB page next data).length = page := by
  simp [closeB, length_body _ _ _ h, length_le]; omega
theorem oct_body (page next : Nat) (data : List Nat) (h : Oct data) : Oct (body page next data) :=
  oct_append (oct_le _ _) (oct_append (oct_le _ _) (oct_append h (oct_replicate _ _ (by decide))))
theorem oct_closeB (page next : Nat) (data : List Nat) (h : Oct data) : Oct (closeB page next data) := oct_append (oct_body _ _ _ h) (oct_le _ _)
theorem open_close (page next : Nat) (data : List Nat) (hp : pageOk page = true) (hn : next ≤ 16384) (hd : data.length + 10 ≤ page) (hb : Oct data) :
    openB (closeB page next data) = ((next : Int) - 1, data, 0) := by
  have hpb := pageOk_bounds hp
  have hl := length_closeB page next data hd
  have hlb := length_body page next data hd
  have hbb := oct_body page next data hb
  have e1 : (closeB page next data).drop (page - 4) = le (crc (body page next data)) 4 := by
    unfold closeB; rw [← hlb, List.drop_left]
  have e2 : (closeB page next data).take (page - 4) = body page next data := by
    unfold closeB; rw [← hlb, List.take_left]
  have e3 : (closeB page next data).take 4 = le next 4 := by
    unfold closeB body; rw [List.append_assoc]; exact List.take_left' (length_le _ _)
  have e4 : (closeB page next data).drop 4 = le data.length 2 ++ (data ++ List.replicate (page - 10 - data.length) 0) ++ le (crc (body page next data)) 4 := by
    conv => lhs; unfold closeB; rw [body]
    rw [List.append_assoc]; exact List.drop_left' (length_le _ _)
  have e5 : ((closeB page next data).drop 4).take 2 = le data.length 2 := by
    rw [e4, List.append_assoc]; exact List.take_left' (length_le _ _)
  have e6 : (closeB page next data).drop 6 = data ++ List.replicate (page - 10 - data.length) 0 ++ le (crc (body page next data)) 4 := by
    have : (closeB page next data).drop 6 = ((closeB page next data).drop 4).drop 2 := by rw [List.drop_drop]
    rw [this, e4, List.append_assoc]; exact List.drop_left' (length_le _ _)
  have n1 : num (le (crc (body page next data)) 4) = crc (body page next data) := by
    rw [num_le]; exact Nat.mod_eq_of_lt (crc_lt _ hbb)
  have n2 : num (le next 4) = next := by rw [num_le]; exact Nat.mod_eq_of_lt (by omega)
  have n3 : num (le data.length 2) = data.length := by rw [num_le]; exact Nat.mod_eq_of_lt (by omega)
  unfold openB
  rw [hl, if_pos hp, e1, e2, n1, if_pos rfl, e3, e5, n2, n3, if_pos ⟨hn, by omega⟩, e6, List.append_assoc, List.take_left]

/-! ### Exclusive or of two lists of one length -/
def xorL : List Nat → List Nat → List Nat
  | a :: r, b :: q => (a ^^^ b) :: xorL r q
  | _, _ => []
theorem length_xorL (a b : List Nat) (h : a.length = b.length) : (xorL a b).length = a.length := by
  induction a generalizing b with
  | nil => cases b <;> rfl
  | cons x r ih => cases b with
    | nil => simp at h
    | cons y q => simp [xorL, ih q (by simpa using h)]
theorem oct_xorL (a b : List Nat) (ha : Oct a) (hb : Oct b) : Oct (xorL a b) := by
  induction a generalizing b with
  | nil => cases b <;> (intro c hc; simp [xorL] at hc)
  | cons x r ih => cases b with
    | nil => intro c hc; simp [xorL] at hc
    | cons y q =>
      intro c hc
      rcases List.mem_cons.1 hc with rfl | hc
      · exact Nat.xor_lt_two_pow (n := 8) (ha x (by simp)) (hb y (by simp))
      · exact ih q (fun z hz => ha z (by simp [hz])) (fun z hz => hb z (by simp [hz])) c hc
theorem mix256 (a b x y : Nat) (ha : a < 256) (hb : b < 256) : (a ^^^ b) + 256 * (x ^^^ y) = (a + 256 * x) ^^^ (b + 256 * y) := by
  have e : 2 ^ 8 * (x ^^^ y) = 2 ^ 8 * x ^^^ 2 ^ 8 * y := by
    apply Nat.eq_of_testBit_eq
    intro j
    rw [Nat.testBit_xor, Nat.testBit_two_pow_mul, Nat.testBit_two_pow_mul, Nat.testBit_two_pow_mul, Nat.testBit_xor]
    by_cases h : 8 ≤ j <;> simp [h]
  rw [join256 a x ha, join256 b y hb, join256 _ _ (Nat.xor_lt_two_pow (n := 8) ha hb), e]
  rw [Nat.xor_assoc, ← Nat.xor_assoc b, Nat.xor_comm b, Nat.xor_assoc (2 ^ 8 * x), ← Nat.xor_assoc a]
theorem num_xorL (a b : List Nat) (h : a.length = b.length) (ha : Oct a) (hb : Oct b) : num (xorL a b) = num a ^^^ num b := by
  induction a generalizing b with
  | nil => cases b with
    | nil => rfl
    | cons y q => simp at h
  | cons x r ih => cases b with
    | nil => simp at h
    | cons y q =>
      simp only [xorL, num]
      rw [ih q (by simpa using h) (fun z hz => ha z (by simp [hz])) (fun z hz => hb z (by simp [hz])), mix256 _ _ _ _ (ha x (by simp)) (hb y (by simp))]
theorem run_xorL (s t : Nat) (a b : List Nat) (h : a.length = b.length) (ha : Oct a) (hb : Oct b) : run (s ^^^ t) (xorL a b) = run s a ^^^ run t b := by
  rw [run_eq _ _ (oct_xorL a b ha hb), run_eq _ _ ha, run_eq _ _ hb, length_xorL a b h, num_xorL a b h ha hb, ← h, ← Tn_xor]
  congr 1
  rw [Nat.xor_assoc, ← Nat.xor_assoc t, Nat.xor_comm t, Nat.xor_assoc (num a), ← Nat.xor_assoc s]
theorem num_zeros (n : Nat) : num (List.replicate n 0) = 0 := by
  induction n with
  | zero => rfl
  | succ n ih => simp [List.replicate_succ, num, ih]
/-- What 'SealSums' says. -/
theorem sums (a b : List Nat) (h : a.length = b.length) (ha : Oct a) (hb : Oct b) : crc a ^^^ crc b = crc (xorL a b) ^^^ crc (List.replicate a.length 0) := by
  have h0 : Oct (List.replicate a.length 0) := oct_replicate _ _ (by decide)
  have hx := oct_xorL a b ha hb
  have hl := length_xorL a b h
  unfold crc crc0
  rw [run_eq _ _ ha, run_eq _ _ hb, run_eq _ _ hx, run_eq _ _ h0, num_xorL a b h ha hb, num_zeros, hl, List.length_replicate, ← h, Tn_xor, Tn_xor, Tn_xor, Tn_xor, Tn_xor, Tn_zero]
  generalize Tn (8 * a.length) 4294967295 = m
  generalize Tn (8 * a.length) (num a) = x
  generalize Tn (8 * a.length) (num b) = y
  generalize (4294967295 : Nat) = k
  apply Nat.eq_of_testBit_eq
  intro j
  simp only [Nat.testBit_xor, Nat.xor_zero]
  cases k.testBit j <;> cases m.testBit j <;> cases x.testBit j <;> cases y.testBit j <;> rfl

/-! ### A burst -/
theorem num_append (a b : List Nat) : num (a ++ b) = num a + 256 ^ a.length * num b := by
  induction a with
  | nil => simp [num]
  | cons x r ih => simp only [List.cons_append, num, ih, List.length_cons, Nat.pow_succ, Nat.mul_comm (256 ^ r.length), Nat.mul_add, Nat.mul_assoc, Nat.add_assoc]
/-- A page that is turned by 'v' (below 2^32, not 0) from bit 'from' on is told: 'p' as it was, 'q' as it is. -/
theorem told (p q : List Nat) (hl : p.length = q.length) (hp : Oct p) (hq : Oct q) (h4 : 4 ≤ p.length) (v at_ : Nat) (hv : v < 4294967296) (h0 : v ≠ 0) (hat : at_ + 32 ≤ 8 * p.length)
    (hx : num p ^^^ num q = 2 ^ at_ * v) (hs : num (p.drop (p.length - 4)) = crc (p.take (p.length - 4))) : num (q.drop (q.length - 4)) ≠ crc (q.take (q.length - 4)) := by
  intro hc
  have e : xorL p q = xorL (p.take (p.length - 4)) (q.take (p.length - 4)) ++ xorL (p.drop (p.length - 4)) (q.drop (p.length - 4)) := by
    generalize p.length - 4 = n
    clear hs hc hx hat h4 hp hq
    induction p generalizing q n with
    | nil => cases q with
      | nil => simp [xorL]
      | cons y r => simp at hl
    | cons x r ih => cases q with
      | nil => simp at hl
      | cons y s => cases n with
        | zero => simp [xorL]
        | succ n => simp [xorL]; exact ih s (by simpa using hl) n
  rw [← hl] at hc
  have hpt : Oct (p.take (p.length - 4)) := oct_take _ hp
  have hqt : Oct (q.take (p.length - 4)) := oct_take _ hq
  have hpd : Oct (p.drop (p.length - 4)) := oct_drop _ hp
  have hqd : Oct (q.drop (p.length - 4)) := oct_drop _ hq
  have r0 := run_eq 0 (xorL p q) (oct_xorL p q hp hq)
  rw [num_xorL p q hl hp hq, hx, Nat.zero_xor, length_xorL p q hl] at r0
  have r1 : run 0 (xorL p q) = 0 := by
    have ea : run 0 (xorL (p.take (p.length - 4)) (q.take (p.length - 4))) = crc0 (p.take (p.length - 4)) ^^^ crc0 (q.take (p.length - 4)) := by
      have := run_xorL 4294967295 4294967295 (p.take (p.length - 4)) (q.take (p.length - 4)) (by simp; omega) hpt hqt
      rw [Nat.xor_self] at this
      exact this
    have eb : crc0 (p.take (p.length - 4)) ^^^ crc0 (q.take (p.length - 4)) = num (p.drop (p.length - 4)) ^^^ num (q.drop (p.length - 4)) := by
      rw [hs, hc]; unfold crc
      generalize crc0 (p.take (p.length - 4)) = x
      generalize crc0 (q.take (p.length - 4)) = y
      generalize (4294967295 : Nat) = k
      apply Nat.eq_of_testBit_eq
      intro j
      simp only [Nat.testBit_xor]
      cases k.testBit j <;> cases x.testBit j <;> cases y.testBit j <;> rfl
    have ec : run 0 (xorL p q) = run (run 0 (xorL (p.take (p.length - 4)) (q.take (p.length - 4)))) (xorL (p.drop (p.length - 4)) (q.drop (p.length - 4))) := by
      rw [e]; unfold run; rw [List.foldl_append]
    rw [ec, ea, eb, run_eq _ _ (oct_xorL _ _ hpd hqd), num_xorL _ _ (by simp; omega) hpd hqd, Nat.xor_self, Tn_zero]
  rw [r1, show 8 * p.length = at_ + (8 * p.length - at_) by omega, Tn_add, Tn_mul] at r0
  exact h0 (Tn_eq_zero _ v hv r0.symm)
end Go.Proofs.YtdihelpimpkfoaaDoor.Seal
end
