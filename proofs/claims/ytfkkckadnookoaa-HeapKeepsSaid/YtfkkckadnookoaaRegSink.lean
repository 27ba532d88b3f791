/- A REGION THAT DRAWS ITS ORDER, WHOSE LAST OPERATION WAITS FOR ALL: the others turn nothing old; the last one does as it likes (of no program). -/
import Derived.Test.YtfkkckadnookoaaRegInv
namespace Go.Proofs.Ytfkkckadnookoaa
open Go.RowKit
section
variable {P : Program} {Q : Exit → Act → World → Prop}
def waitsB (o : Oper) (j : Nat) : Bool := o.after.any fun e => Region.binds .any e && e.on == j
/-- Each but the last is waited for by a later one. -/
def feedsB (L : List Oper) (n : Nat) : Bool := (List.range n).all fun j => (List.range (n + 1)).any fun k => decide (j < k) && (match L[k]? with | some o => waitsB o j | none => false)
def FactFirst (P : Program) (ops : Array Oper) (Q : Exit → Act → World → Prop) (A : (Nat → Value) → Act) (w0 : World) (fs : List Fact) : List Oper → Nat → Nat → Prop
  | o :: r, i, k + 1 => FactStep P .any ops Q A w0 fs i o ∧ FactFirst P ops Q A w0 fs r (i + 1) k
  | _, _, _ => True
theorem FactFirst.at {ops : Array Oper} {A : (Nat → Value) → Act} {w0 : World} {fs : List Fact} : ∀ {r : List Oper} {k i m : Nat} {o : Oper}, FactFirst P ops Q A w0 fs r k m → r[i]? = some o → i < m → FactStep P .any ops Q A w0 fs (k + i) o
  | [], _, _, _, _, _, h, _ => by simp at h
  | _ :: _, _, _, 0, _, _, _, h => absurd h (Nat.not_lt_zero _)
  | x :: r, k, 0, m + 1, o, hs, h, _ => by
    obtain rfl : x = o := by simpa using h
    exact hs.1
  | x :: r, k, i + 1, m + 1, o, hs, h, hm => by
    have := FactFirst.at (r := r) (k := k + 1) (i := i) hs.2 (by simpa using h) (by omega)
    rwa [show k + 1 + i = k + (i + 1) by omega] at this
def SinkI (L : List Oper) (n : Nat) (w0 : World) (fs : List Fact) (A : (Nat → Value) → Act) (Q : Exit → Act → World → Prop) (D : Nat → Bool) (V : Nat → Value) (w : World) : Prop :=
  (∀ i o, D i = true → L[i]? = some o → ∀ j, waitsB o j = true → D j = true) ∧ (D n = false → Below w0.heap.size w0 w ∧ ∀ j, D j = true → (factAt fs j).p (V j) w) ∧ (D n = true → Q .normal (A V) w)
theorem feeds_all {L : List Oper} {n : Nat} {D : Nat → Bool} (hf : feedsB L n = true) (hcl : ∀ i o, D i = true → L[i]? = some o → ∀ j, waitsB o j = true → D j = true) (hn : D n = true) : ∀ j, j ≤ n → D j = true := by
  have : ∀ d j, j ≤ n → n - j ≤ d → D j = true := by
    intro d
    induction d with
    | zero => intro j hj hd; obtain rfl : j = n := by omega
              exact hn
    | succ d ih =>
      intro j hj hd
      by_cases e : j = n
      · subst e; exact hn
      · have h1 := List.all_eq_true.1 hf j (List.mem_range.2 (by omega))
        obtain ⟨k, hk, h2⟩ := List.any_eq_true.1 h1
        rw [Bool.and_eq_true, decide_eq_true_eq] at h2
        have hk2 := List.mem_range.1 hk
        have hDk := ih k (by omega) (by omega)
        cases hL : L[k]? with
        | none => rw [hL] at h2; exact absurd h2.2 (by simp)
        | some o => rw [hL] at h2; exact hcl k o hDk hL j h2.2
  exact fun j hj => this n j hj (by omega)
theorem wp_region_sink {id : Nat} {a : Act} {w : World} {L : List Oper} {o : Oper} (n : Nat) (A : (Nat → Value) → Act) (fs : List Fact) (hL : L[n]? = some o) (hm : P.follows .mixedOrders = true) (hb : backB .any L 0 = true)
    (hn : nodupB (L.map (·.dst)) = true) (hl : L.length = n + 1) (hf : feedsB L n = true) (hg : o.guard = none) (hA : ∀ V, putAll a V (L.map (·.dst)) 0 = A V) (hs : FactFirst P L.toArray Q A w fs L 0 n)
    (hlast : ∀ V w', Below w.heap.size w w' → Shut (∀ j, j < n → (factAt fs j).p (V j) w') → ∀ K : Act → World → Prop, Shut (∀ (v : Value) (w2 : World), Q .normal ((A V).put o.dst v) w2 → K ((A V).put o.dst v) w2) → Oper.wp P o (A V) w' K Q) : (Code.region id L.toArray true).wp P Q a w := by
  have hAp : ∀ (V : Nat → Value) (i : Nat) (o : Oper) (v : Value), L[i]? = some o → (A V).put o.dst v = A (upd V i v) := fun V i o v ho => by
    rw [← hA, ← hA]
    have := putAll_upd (V := V) v (L.map (·.dst)) 0 i o.dst a hn (by rw [List.getElem?_map, ho]; rfl)
    rwa [Nat.zero_add] at this
  refine wp_region_inv A (SinkI L n w fs A Q) hm hb hn hA ?_ ?_ ?_
  · have all : ∀ (r : List Oper) (k : Nat), (∀ i o, r[i]? = some o → L[k + i]? = some o) → InvSteps P .any L.toArray Q A (SinkI L n w fs A Q) r k := by
      intro r
      induction r with
      | nil => exact fun _ _ => trivial
      | cons x r ih =>
        intro k hr
        refine ⟨?_, ih (k + 1) fun i o ho => by have := hr (i + 1) o (by simpa using ho); rwa [show k + (i + 1) = k + 1 + i by omega] at this⟩
        have hx : L[k]? = some x := by have := hr 0 x (by simp); simpa using this
        have hk : k < n + 1 := by rw [← hl]; exact (List.getElem?_eq_some_iff.1 hx).1
        intro D V w1 hDi hpre hI K hK
        obtain ⟨hcl, hopen, hshut⟩ := hI
        have hcl' : ∀ (_ : Value) (i : Nat) (o : Oper), setD D k i = true → L[i]? = some o → ∀ j, waitsB o j = true → setD D k j = true := by
          intro _ i o hi ho j hj
          have up : D j = true → setD D k j = true := fun h => by unfold setD; split <;> first | rfl | exact h
          by_cases e : i = k
          · subst e
            obtain rfl : x = o := Option.some.inj (hx.symm.trans ho)
            exact up (hpre j hj)
          · exact up (hcl i o (by simpa [setD, e] using hi) ho j hj)
        have hDn : D n = false := by
          cases e : D n with
          | false => rfl
          | true => rw [feeds_all hf hcl e k (by omega)] at hDi; cases hDi
        obtain ⟨hB, hF⟩ := hopen hDn
        by_cases ek : k = n
        · subst ek
          obtain rfl : x = o := Option.some.inj (hx.symm.trans hL)
          have hall : ∀ j, j < k → D j = true := fun j hj => by
            have h1 := feeds_all hf (hcl' undef) (show setD D k k = true from if_pos rfl) j (by omega)
            simpa [setD, show j ≠ k by omega] using h1
          rw [if_pos (show Region.wanted x (yielded L.toArray (A V).tmps) = true by simp [Region.wanted, hg])]
          refine hlast V w1 hB (fun j hj => hF j (hall j hj)) K ?_
          intro v w2 hq
          refine hK _ v w2 rfl ⟨hcl' undef, fun hn2 => ?_, fun _ => by rw [← hAp V k x v hx]; exact hq⟩
          rw [show setD D k k = true from if_pos rfl] at hn2; cases hn2
        · have hst := FactFirst.at (k := 0) (i := k) hs hx (by omega)
          rw [Nat.zero_add] at hst
          refine hst V w1 hB (fun j hj => hF j (hpre j hj)) K ?_
          intro a' v w' ha hb2 hfi
          refine hK a' v w' ha ⟨hcl' undef, fun hn2 => ⟨hB.trans (hb2.mono hB.size), fun j hj => ?_⟩, fun hn2 => ?_⟩
          · by_cases e : j = k
            · subst e; rw [show upd V j v j = v from if_pos rfl]; exact hfi
            · rw [show upd V k v j = V j from if_neg e]
              exact (factAt fs j).keep _ _ _ (hF j (by simpa [setD, e] using hj)) hb2
          · exfalso
            have : D n = true := by simpa [setD, show n ≠ k by omega] using hn2
            rw [hDn] at this; cases this
    exact all L 0 fun i o ho => by rwa [Nat.zero_add]
  · intro V
    exact ⟨fun _ _ h => (by cases h), fun _ => ⟨⟨rfl, rfl, rfl, Nat.le_refl _, fun _ _ => rfl⟩, fun _ h => (by cases h)⟩, fun h => (by cases h)⟩
  · intro D V w' hall hI
    exact hI.2.2 (hall n (by omega))
end
end Go.Proofs.Ytfkkckadnookoaa
