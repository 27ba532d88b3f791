/- A REGION THAT DRAWS ITS ORDER, BY AN INVARIANT over what is done; and: EACH OPERATION WRITES NOTHING BUT NEW BLOCKS AND THE BLOCK OF ONE THAT IT WAITS FOR (an append in place): each by itself, once. -/
import Derived.Test.YtfkkckadnookoaaRegFacts
import Derived.Laws.AppendOwn
namespace Go.Proofs.Ytfkkckadnookoaa
open Go.RowKit
def setD (D : Nat → Bool) (i : Nat) : Nat → Bool := fun j => if j = i then true else D j
section
variable {P : Program} {Q : Exit → Act → World → Prop} {md : Region.Mode}
def InvStep (P : Program) (md : Region.Mode) (ops : Array Oper) (Q : Exit → Act → World → Prop) (A : (Nat → Value) → Act) (I : (Nat → Bool) → (Nat → Value) → World → Prop) (i : Nat) (o : Oper) : Prop :=
  ∀ (D : Nat → Bool) (V : Nat → Value) (w : World), D i = false → (∀ j, (o.after.any fun e => Region.binds md e && e.on == j) = true → D j = true) → I D V w →
    ∀ K : Act → World → Prop, (∀ a' v w', (A V).put o.dst v = a' → I (setD D i) (upd V i v) w' → K a' w') →
    if Region.wanted o (yielded ops (A V).tmps) = true then Oper.wp P o (A V) w K Q else K ((A V).put o.dst undef) w
def InvSteps (P : Program) (md : Region.Mode) (ops : Array Oper) (Q : Exit → Act → World → Prop) (A : (Nat → Value) → Act) (I : (Nat → Bool) → (Nat → Value) → World → Prop) : List Oper → Nat → Prop
  | [], _ => True
  | o :: r, i => InvStep P md ops Q A I i o ∧ InvSteps P md ops Q A I r (i + 1)
theorem InvSteps.at {ops : Array Oper} {A : (Nat → Value) → Act} {I : (Nat → Bool) → (Nat → Value) → World → Prop} : ∀ {r : List Oper} {k i : Nat} {o : Oper}, InvSteps P md ops Q A I r k → r[i]? = some o → InvStep P md ops Q A I (k + i) o
  | [], _, _, _, _, h => by simp at h
  | x :: r, k, 0, o, hs, h => by
    obtain rfl : x = o := by simpa using h
    exact hs.1
  | x :: r, k, i + 1, o, hs, h => by
    have := InvSteps.at (r := r) (k := k + 1) (i := i) hs.2 (by simpa using h)
    rwa [show k + 1 + i = k + (i + 1) by omega] at this
theorem inv_any {l : List Oper} {A : (Nat → Value) → Act} {I : (Nat → Bool) → (Nat → Value) → World → Prop} (hb : backB md l 0 = true)
    (hA : ∀ V i o v, l[i]? = some o → (A V).put o.dst v = A (upd V i v)) (hs : InvSteps P md l.toArray Q A I l 0)
    (hend : ∀ D V w, (∀ j, j < l.length → D j = true) → I D V w → Q .normal (A V) w) :
    ∀ (fuel : Nat) (listed : Array Bool) (V : Nat → Value) (w : World), listed.size = l.length → unl listed l.length ≤ fuel →
      I (fun j => listed.getD j false) V w → wpAny P md l.toArray Q fuel listed (A V) w := by
  have full : ∀ (listed : Array Bool), Region.ready md l.toArray listed = [] → ∀ n j, j < n → j < l.length → listed.getD j true = true := by
    intro listed hr n
    induction n with
    | zero => intro j h; omega
    | succ n ih =>
      intro j hj hl
      by_cases e : listed.getD j true = true
      · exact e
      · exfalso
        have ho : l[j]? = some l[j] := List.getElem?_eq_getElem hl
        have : j ∈ Region.ready md l.toArray listed := by
          refine mem_ready.2 ⟨by simpa using e, l[j], by simp, fun e' he' hb' => ?_⟩
          have hlt := back_spec md l 0 j _ hb ho e' he' hb'
          have h1 := ih e'.on (by omega) (by omega)
          by_cases hs : e'.on < listed.size
          · simp [hs] at h1 ⊢; exact h1
          · exfalso
            apply e
            have : ¬ j < listed.size := by omega
            simp [this]
        rw [hr] at this
        cases this
  have done : ∀ (listed : Array Bool) (V : Nat → Value) (w : World), listed.size = l.length → (∀ j, j < l.length → listed.getD j true = true) →
      I (fun j => listed.getD j false) V w → Q .normal (A V) w := fun listed V w hz hall hI => hend _ V w (fun j hj => by
        have := hall j hj
        have h2 : j < listed.size := by omega
        simp [h2] at this ⊢; exact this) hI
  intro fuel
  induction fuel with
  | zero =>
    intro listed V w hz hu hI
    have hall := unl_zero listed l.length (by omega)
    refine ⟨?_, done listed V w hz hall hI⟩
    cases hr : Region.ready md l.toArray listed with
    | nil => rfl
    | cons x xs =>
      have hx : x ∈ Region.ready md l.toArray listed := by rw [hr]; exact List.mem_cons_self
      obtain ⟨h0, o, ho, _⟩ := mem_ready.1 hx
      have hlt : x < l.length := by simpa using (Array.getElem?_eq_some_iff.1 ho).1
      rw [hall x hlt] at h0; cases h0
  | succ fuel ih =>
    intro listed V w hz hu hI
    refine ⟨fun hr => done listed V w hz (fun j hj => full listed hr (j + 1) j (by omega) hj) hI, fun i hi => ?_⟩
    obtain ⟨h0, o, ho, hall⟩ := mem_ready.1 hi
    have ho' : l[i]? = some o := by simpa using ho
    have hlt : i < l.length := (List.getElem?_eq_some_iff.1 ho').1
    have hstep := InvSteps.at (k := 0) (i := i) hs ho'
    rw [Nat.zero_add] at hstep
    have hls : i < listed.size := by omega
    have h1 := hstep (fun j => listed.getD j false) V w (by simp [hls] at h0 ⊢; exact h0) (fun j hj => by
      obtain ⟨e, he, hb2⟩ := Array.any_eq_true'.1 hj
      simp only [Bool.and_eq_true, beq_iff_eq] at hb2
      rw [← hb2.2]; exact hall e he hb2.1) hI (wpAny P md l.toArray Q fuel (listed.setIfInBounds i true)) (fun a' v w' ha hI' => by
        rw [← ha, hA V i o v ho']
        refine ih _ _ _ (by simpa using hz) (by have := unl_set_lt listed i h0 l.length hlt; omega) ?_
        have e : (fun j => (listed.setIfInBounds i true).getD j false) = setD (fun j => listed.getD j false) i := by
          funext j
          by_cases e : j = i
          · subst e; simp [setD, hls]
          · rw [getD_set_ne false (Ne.symm e), setD, if_neg e]
        rw [e]; exact hI')
    unfold wpOp
    simp only [ho]
    split
    · rename_i hw
      rw [if_pos hw] at h1
      exact .inl h1
    · rename_i hw
      rw [if_neg hw] at h1
      exact h1
theorem wp_region_inv {id : Nat} {a : Act} {w : World} {l : List Oper} (A : (Nat → Value) → Act) (I : (Nat → Bool) → (Nat → Value) → World → Prop) (hm : P.follows .mixedOrders = true) (hb : backB .any l 0 = true)
    (hn : nodupB (l.map (·.dst)) = true) (hA : ∀ V, putAll a V (l.map (·.dst)) 0 = A V) (hs : InvSteps P .any l.toArray Q A I l 0)
    (h0 : ∀ V, I (fun _ => false) V { w with drawn := w.drawn + 1 })
    (hend : ∀ D V w', (∀ j, j < l.length → D j = true) → I D V w' → Q .normal (A V) w') : (Code.region id l.toArray true).wp P Q a w := by
  refine wp_region_any hm ?_
  have e0 : a = A (own0 a (l.map (·.dst))) := by
    rw [← hA, putAll_own]
    intro i d hi
    rw [Nat.zero_add, own0, hi]
  have h := inv_any (I := I) hb (fun V i o v ho => by
      rw [← hA, ← hA]
      have := putAll_upd (V := V) v (l.map (·.dst)) 0 i o.dst a hn (by rw [List.getElem?_map, ho]; rfl)
      rwa [Nat.zero_add] at this) hs hend l.toArray.size (Array.replicate l.toArray.size false) (own0 a (l.map (·.dst))) { w with drawn := w.drawn + 1 } (by simp) (by simpa using unl_le _ l.length)
      (by
        have e : (fun j => (Array.replicate l.toArray.size false).getD j false) = fun _ => false := by
          funext j
          by_cases h : j < l.length
          · simp [h]
          · simp [h]
        rw [e]; exact h0 _)
  rw [← e0] at h
  exact h
end
/-- What an operation has left, with the block that is its own (if it has one). -/
structure OFact where
  own : Bool
  p : Value → Nat → World → Prop
def OFact.Keeps (f : OFact) (base : Nat) : Prop := ∀ v g w w', f.p v g w → (∀ k, k < base → w'.heap[k]? = w.heap[k]?) → (f.own = true → w'.heap[g]? = w.heap[g]?) → f.p v g w'
def OFact.any : OFact := ⟨false, fun _ _ _ => True⟩
def ofactAt (fs : List OFact) (j : Nat) : OFact := fs.getD j OFact.any
/-- j's block has gone over to another that is done. -/
def gone (ret : List (Option Nat)) (D : Nat → Bool) (j : Nat) : Bool := match ret.getD j none with | some i => D i | none => false
def OInv (base : Nat) (w0 : World) (fs : List OFact) (ret : List (Option Nat)) (D : Nat → Bool) (V : Nat → Value) (w : World) : Prop :=
  Below base w0 w ∧ base ≤ w.heap.size ∧ ∃ B : Nat → Nat, (∀ j, D j = true → gone ret D j = false → (ofactAt fs j).p (V j) (B j) w ∧ ((ofactAt fs j).own = true → base ≤ B j ∧ B j < w.heap.size)) ∧
    ∀ j k, D j = true → D k = true → gone ret D j = false → gone ret D k = false → (ofactAt fs j).own = true → (ofactAt fs k).own = true → j ≠ k → B j ≠ B k
section
variable {P : Program} {Q : Exit → Act → World → Prop} {md : Region.Mode}
/-- An operation: from the facts of those that it waits for; it writes new blocks, and at most the block of c, whose fact it takes over. -/
def OStep (P : Program) (md : Region.Mode) (Q : Exit → Act → World → Prop) (A : (Nat → Value) → Act) (base : Nat) (w0 : World) (fs : List OFact) (ret : List (Option Nat)) (c : Option Nat) (i : Nat) (o : Oper) : Prop :=
  ∀ (V : Nat → Value) (B : Nat → Nat) (w : World), Below base w0 w → base ≤ w.heap.size → Shut (∀ j, (o.after.any fun e => Region.binds md e && e.on == j) = true → ret.getD j none = none ∨ ret.getD j none = some i → (ofactAt fs j).p (V j) (B j) w ∧ ((ofactAt fs j).own = true → base ≤ B j ∧ B j < w.heap.size)) →
    ∀ K : Act → World → Prop, Shut (∀ v g w', w.grownBy w' (c.map B) → ((ofactAt fs i).own = true → (w.heap.size ≤ g ∨ c.map B = some g) ∧ g < w'.heap.size) → (ofactAt fs i).p v g w' → K ((A V).put o.dst v) w') →
    Oper.wp P o (A V) w K Q
theorem OStep.inv {ops : Array Oper} {A : (Nat → Value) → Act} {base : Nat} {w0 : World} {fs : List OFact} {ret : List (Option Nat)} {c : Option Nat} {i : Nat} {o : Oper} (hk : ∀ j, (ofactAt fs j).Keeps base) (hg : o.guard = none)
    (hc : ∀ j, c = some j → ret.getD j none = some i ∧ (ofactAt fs j).own = true ∧ (o.after.any fun e => Region.binds md e && e.on == j) = true) (hr : ∀ j, ret.getD j none = some i → c = some j)
    (h : OStep P md Q A base w0 fs ret c i o) : InvStep P md ops Q A (OInv base w0 fs ret) i o := by
  intro D V w hDi hpre hI K hK
  obtain ⟨hB, hsz, B, hf, hd⟩ := hI
  rw [if_pos (show Region.wanted o (yielded ops (A V).tmps) = true by simp [Region.wanted, hg])]
  have live : ∀ j, ret.getD j none = none ∨ ret.getD j none = some i → gone ret D j = false := by
    intro j hj
    unfold gone
    rcases hj with e | e <;> rw [e]
    exact hDi
  have hcB : ∀ j, c = some j → base ≤ B j ∧ B j < w.heap.size := fun j hj => (hf j (hpre j (hc j hj).2.2) (live j (.inr (hc j hj).1))).2 (hc j hj).2.1
  refine h V B w hB hsz (fun j hj hret => hf j (hpre j hj) (live j hret)) K ?_
  intro v g w' hgrow hg' hp
  have hold : ∀ k, k < base → w'.heap[k]? = w.heap[k]? := fun k hk2 => hgrow.block k (by omega) (fun e => by
    cases hcc : c with
    | none => rw [hcc] at e; cases e
    | some j =>
      rw [hcc] at e
      have := (hcB j hcc).1
      have e2 : k = B j := by simpa using e
      omega)
  refine hK _ v w' rfl ⟨⟨hgrow.os.trans hB.os, hgrow.tape.trans hB.tape, hgrow.output.trans hB.output, Nat.le_trans hB.size hgrow.size, fun k hk2 => (hold k hk2).trans (hB.block k hk2)⟩, Nat.le_trans hsz hgrow.size, fun j => if j = i then g else B j, ?_, ?_⟩
  · intro j hj hgo
    dsimp only
    by_cases e : j = i
    · subst e
      rw [if_pos rfl, show upd V j v j = v from if_pos rfl]
      refine ⟨hp, fun ho => ?_⟩
      obtain ⟨h1, h2⟩ := hg' ho
      refine ⟨?_, h2⟩
      rcases h1 with h1 | h1
      · omega
      · cases hcc : c with
        | none => rw [hcc] at h1; cases h1
        | some k =>
          rw [hcc] at h1
          have e2 : B k = g := by simpa using h1
          have := (hcB k hcc).1
          omega
    · rw [if_neg e, show upd V i v j = V j from if_neg e]
      have hDj : D j = true := by simpa [setD, e] using hj
      have hnr : ret.getD j none ≠ some i := fun e2 => by
        unfold gone at hgo
        rw [e2] at hgo
        simp [setD] at hgo
      have hgD : gone ret D j = false := by
        unfold gone at hgo ⊢
        cases hre : ret.getD j none with
        | none => rfl
        | some k =>
          rw [hre] at hgo
          have : k ≠ i := fun e2 => hnr (by rw [hre, e2])
          simpa [setD, this] using hgo
      obtain ⟨h1, h2⟩ := hf j hDj hgD
      refine ⟨hk j _ _ _ _ h1 hold (fun ho => hgrow.block _ (h2 ho).2 (fun e2 => ?_)), fun ho => ⟨(h2 ho).1, Nat.lt_of_lt_of_le (h2 ho).2 hgrow.size⟩⟩
      cases hcc : c with
      | none => rw [hcc] at e2; cases e2
      | some k =>
        rw [hcc] at e2
        have e3 : B j = B k := by simpa using e2
        have hjk : j ≠ k := fun e4 => hnr (by rw [e4]; exact (hc k hcc).1)
        exact hd j k hDj (hpre k (hc k hcc).2.2) hgD (live k (.inr (hc k hcc).1)) ho (hc k hcc).2.1 hjk e3
  · have part : ∀ k, k ≠ i → setD D i k = true → gone ret (setD D i) k = false → D k = true ∧ gone ret D k = false ∧ ret.getD k none ≠ some i := by
      intro k e hj hgo
      have hnr : ret.getD k none ≠ some i := fun e2 => by
        unfold gone at hgo
        rw [e2] at hgo
        simp [setD] at hgo
      refine ⟨by simpa [setD, e] using hj, ?_, hnr⟩
      unfold gone at hgo ⊢
      cases hre : ret.getD k none with
      | none => rfl
      | some m =>
        rw [hre] at hgo
        have : m ≠ i := fun e2 => hnr (by rw [hre, e2])
        simpa [setD, this] using hgo
    have new : ∀ k, k ≠ i → setD D i k = true → gone ret (setD D i) k = false → (ofactAt fs k).own = true → (ofactAt fs i).own = true → g ≠ B k := by
      intro k e hj hgo ho hoi e2
      obtain ⟨h1, h2, h3⟩ := part k e hj hgo
      have h4 := (hf k h1 h2).2 ho
      rcases (hg' hoi).1 with h5 | h5
      · omega
      · cases hcc : c with
        | none => rw [hcc] at h5; cases h5
        | some m =>
          rw [hcc] at h5
          have e3 : B m = g := by simpa using h5
          have hmk : k ≠ m := fun e4 => h3 (by rw [e4]; exact (hc m hcc).1)
          exact hd k m h1 (hpre m (hc m hcc).2.2) h2 (live m (.inr (hc m hcc).1)) ho (hc m hcc).2.1 hmk (by omega)
    intro j k hj hk2 hgj hgk hoj hok hne
    dsimp only
    by_cases e : j = i
    · subst e
      have ek : k ≠ j := Ne.symm hne
      rw [if_pos rfl, if_neg ek]
      exact new k ek hk2 hgk hok hoj
    · by_cases e2 : k = i
      · subst e2
        rw [if_neg e, if_pos rfl]
        exact fun h => new j e hj hgj hoj hok h.symm
      · rw [if_neg e, if_neg e2]
        obtain ⟨a1, a2, _⟩ := part j e hj hgj
        obtain ⟨b1, b2, _⟩ := part k e2 hk2 hgk
        exact hd j k a1 b1 a2 b2 hoj hok hne
end

section
variable {P : Program} {Q : Exit → Act → World → Prop} {md : Region.Mode}
/-- An operation without a guard. -/
theorem inv_free {ops : Array Oper} {A : (Nat → Value) → Act} {I : (Nat → Bool) → (Nat → Value) → World → Prop} {i : Nat} {o : Oper} (hg : o.guard = none)
    (h : ∀ (D : Nat → Bool) (V : Nat → Value) (w : World), D i = false → Shut (∀ j, (o.after.any fun e => Region.binds md e && e.on == j) = true → D j = true) → I D V w →
      ∀ K : Act → World → Prop, Shut (∀ v w', I (setD D i) (upd V i v) w' → K ((A V).put o.dst v) w') → Oper.wp P o (A V) w K Q) : InvStep P md ops Q A I i o := by
  intro D V w hDi hpre hI K hK
  rw [if_pos (show Region.wanted o (yielded ops (A V).tmps) = true by simp [Region.wanted, hg])]
  exact h D V w hDi hpre hI K (fun v w' h1 => hK _ v w' rfl h1)
end
end Go.Proofs.Ytfkkckadnookoaa
