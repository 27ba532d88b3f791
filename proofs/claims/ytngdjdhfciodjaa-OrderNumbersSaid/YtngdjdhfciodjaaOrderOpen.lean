/- WHAT COMES IN: arrays of three values, of two numbers, rows of Bools. -/
import Derived.Test.YtngdjdhfciodjaaOpenVal
import Derived.Test.YtngdjdhfciodjaaOrderBy
namespace Go.Proofs.Ytngdjdhfciodjaa
open Go.ChangeShapes Go.WideShapes Go.ChangeAt Go.RowKit
open Seal
open Bson (Val)
section
variable {H : Type} {enc : TypeId × Value → H} {W : World}
theorem cellsTriV : Try.prog.cellsOf 27 = 18 := by kernel_rfl
theorem cellsTwoI : Try.prog.cellsOf 38 = 2 := by kernel_rfl
theorem cellsBool : Try.prog.cellsOf 4 = 1 := by kernel_rfl
theorem fit_item {t e : TypeId} {n : Nat} (ht : Try.prog.underlying t = some (.array n e)) {parts : List (DataW H)} (h : Fit t (.agg parts)) {d : DataW H} (hd : d ∈ parts) : Fit e d := by
  intro n hn
  refine h n ?_
  simp only [DataW.weights, ht]
  exact weightsAll_mem hd n hn
theorem eighteen {α : Type} {cs : Array α} (h : cs.size = 18) : ∃ a0 a1 a2 a3 a4 a5 b0 b1 b2 b3 b4 b5 c0 c1 c2 c3 c4 c5, cs = #[a0, a1, a2, a3, a4, a5, b0, b1, b2, b3, b4, b5, c0, c1, c2, c3, c4, c5] := by
  obtain ⟨l⟩ := cs
  simp only [List.size_toArray] at h
  rcases l with _ | ⟨a0, l⟩
  · simp at h
  rcases l with _ | ⟨a1, l⟩
  · simp at h
  rcases l with _ | ⟨a2, l⟩
  · simp at h
  rcases l with _ | ⟨a3, l⟩
  · simp at h
  rcases l with _ | ⟨a4, l⟩
  · simp at h
  rcases l with _ | ⟨a5, l⟩
  · simp at h
  rcases l with _ | ⟨b0, l⟩
  · simp at h
  rcases l with _ | ⟨b1, l⟩
  · simp at h
  rcases l with _ | ⟨b2, l⟩
  · simp at h
  rcases l with _ | ⟨b3, l⟩
  · simp at h
  rcases l with _ | ⟨b4, l⟩
  · simp at h
  rcases l with _ | ⟨b5, l⟩
  · simp at h
  rcases l with _ | ⟨c0, l⟩
  · simp at h
  rcases l with _ | ⟨c1, l⟩
  · simp at h
  rcases l with _ | ⟨c2, l⟩
  · simp at h
  rcases l with _ | ⟨c3, l⟩
  · simp at h
  rcases l with _ | ⟨c4, l⟩
  · simp at h
  rcases l with _ | ⟨c5, l⟩
  · simp at h
  rcases l with _ | ⟨z, l⟩
  · exact ⟨a0, a1, a2, a3, a4, a5, b0, b1, b2, b3, b4, b5, c0, c1, c2, c3, c4, c5, rfl⟩
  · simp at h
theorem two_arr {α : Type} {cs : Array α} (h : cs.size = 2) : ∃ c0 c1, cs = #[c0, c1] :=
  ⟨cs[0], cs[1], by apply Array.ext (by simp [h]); intro i h1 h2; match i, h2 with | 0, _ => rfl | 1, _ => rfl⟩
set_option maxRecDepth 100000 in
theorem open_a3val {base : Nat} {v : Value} {d : DataW H} {ps : List MemPlace} (hval : Value.okWide Try.prog W .any base 27 v) (hd : DataW.Trod enc Try.prog W 0 (fun _ => true) true 27 v d ps) (hx : Fit 27 d) :
    ∃ h X Y Z a0 a1 a2 a3 a4 a5 b0 b1 b2 b3 b4 b5 c0 c1 c2 c3 c4 c5, v = .agg #[a0, a1, a2, a3, a4, a5, b0, b1, b2, b3, b4, b5, c0, c1, c2, c3, c4, c5] ∧ VIn W (fun _ => True) h X (.agg #[a0, a1, a2, a3, a4, a5]) ∧ VIn W (fun _ => True) h Y (.agg #[b0, b1, b2, b3, b4, b5]) ∧ VIn W (fun _ => True) h Z (.agg #[c0, c1, c2, c3, c4, c5]) := by
  have hu := Try.underlying27
  simp only [Value.okWide, hu] at hval
  obtain ⟨cs, rfl, hsz, _⟩ := hval
  obtain ⟨a0, a1, a2, a3, a4, a5, b0, b1, b2, b3, b4, b5, c0, c1, c2, c3, c4, c5, rfl⟩ := eighteen (hsz.trans cellsTriV)
  obtain ⟨fuel, h⟩ := hd
  cases fuel with
  | zero => simp [DataW.trod] at h
  | succ n =>
    unfold DataW.trod at h
    rw [hu] at h
    have r3 : List.range 3 = [0, 1, 2] := rfl
    simp [r3, cellsVal, Value.cells] at h
    cases h0 : DataW.trod enc Try.prog W 0 (fun _ => true) true n 26 [a0, a1, a2, a3, a4, a5] with
    | none => simp [h0] at h
    | some y0 =>
      cases h1 : DataW.trod enc Try.prog W 0 (fun _ => true) true n 26 [b0, b1, b2, b3, b4, b5] with
      | none => simp [h0, h1] at h
      | some y1 =>
        cases h2 : DataW.trod enc Try.prog W 0 (fun _ => true) true n 26 [c0, c1, c2, c3, c4, c5] with
        | none => simp [h0, h1, h2] at h
        | some y2 =>
          simp [h0, h1, h2] at h
          obtain ⟨_, hd, _⟩ := h
          have hmem : ∀ y ∈ [y0.1, y1.1, y2.1], Fit 26 y := fun y hy => fit_item hu (by rw [← hd] at hx; exact hx) hy
          obtain ⟨X, x0, x1, x2, x3, x4, x5, e0, hX⟩ := open_val n _ _ h0 (hmem _ (by simp))
          obtain ⟨Y, z0, z1, z2, z3, z4, z5, e1, hY⟩ := open_val n _ _ h1 (hmem _ (by simp))
          obtain ⟨Z, q0, q1, q2, q3, q4, q5, e2, hZ⟩ := open_val n _ _ h2 (hmem _ (by simp))
          simp only [List.cons.injEq, and_true] at e0 e1 e2
          obtain ⟨rfl, rfl, rfl, rfl, rfl, rfl⟩ := e0
          obtain ⟨rfl, rfl, rfl, rfl, rfl, rfl⟩ := e1
          obtain ⟨rfl, rfl, rfl, rfl, rfl, rfl⟩ := e2
          exact ⟨n, X, Y, Z, _, _, _, _, _, _, _, _, _, _, _, _, _, _, _, _, _, _, rfl, hX, hY, hZ⟩
set_option maxRecDepth 100000 in
theorem open_i64p {base : Nat} {v : Value} {d : DataW H} {ps : List MemPlace} (hval : Value.okWide Try.prog W .any base 38 v)
    (hd : DataW.Trod enc Try.prog W 0 (fun _ => true) true 38 v d ps) : ∃ y z : Int, v = .agg #[.int .i64 y, .int .i64 z] ∧ (-9223372036854775808 ≤ y ∧ y ≤ 9223372036854775807) ∧ (-9223372036854775808 ≤ z ∧ z ≤ 9223372036854775807) := by
  have hu := Try.underlying38
  simp only [Value.okWide, hu] at hval
  obtain ⟨cs, rfl, hsz, _⟩ := hval
  obtain ⟨c0, c1, rfl⟩ := two_arr (hsz.trans cellsTwoI)
  obtain ⟨fuel, h⟩ := hd
  cases fuel with
  | zero => simp [DataW.trod] at h
  | succ n =>
    unfold DataW.trod at h
    rw [hu] at h
    have r2 : List.range 2 = [0, 1] := rfl
    simp [r2, cellsI64, Value.cells] at h
    cases h0 : DataW.trod enc Try.prog W 0 (fun _ => true) true n 2 [c0] with
    | none => simp [h0] at h
    | some y0 =>
      cases h1 : DataW.trod enc Try.prog W 0 (fun _ => true) true n 2 [c1] with
      | none => simp [h0, h1] at h
      | some y1 =>
        obtain ⟨a, e0, _, w0⟩ := DataW.trod_int Try.underlying2 h0
        obtain ⟨b, e1, _, w1⟩ := DataW.trod_int Try.underlying2 h1
        simp at e0 e1
        subst e0; subst e1
        exact ⟨a, b, rfl, wf_i64 w0, wf_i64 w1⟩
/-- A row of Bools that comes in. -/
theorem open_bools {base : Nat} {v : Value} {d : DataW H} {ps : List MemPlace} (hval : Value.okWide Try.prog W .any base 33 v) (hd : DataW.Trod enc Try.prog W 0 (fun _ => true) true 33 v d ps) (hx : Fit 33 d) :
    ∃ a c l, v = .slice a (l : List Bool).length c ∧ l.length ≤ c ∧ c ≤ 9223372036854775807 ∧ BoolsIn W (fun g => g < W.heap.size) a l := by
  obtain ⟨a0, len0, cap0, rfl⟩ := okWide_slice Try.underlying33 hval
  obtain ⟨fuel, hf⟩ := hd
  rcases open_each Try.underlying33 cellsBool (by decide) hf hx with h0 | ⟨a, len, cap, m, rfl, hcs, ha, hl, hm, hbt, hall⟩
  · simp [Value.cells] at h0
    obtain ⟨rfl, rfl, rfl⟩ := h0
    exact ⟨none, 0, [], rfl, Nat.le_refl _, by omega, .inl rfl⟩
  · simp [Value.cells] at hcs
    obtain ⟨rfl, rfl, rfl⟩ := hcs
    have each : ∀ i, i < len0 → ∃ q : Bool, W.cell? ⟨a.block, a.off + i, none⟩ = some (.bool q) := by
      intro i hi
      obtain ⟨cs', y, h1, h2, h3, h4⟩ := hall i hi
      obtain ⟨q, rfl, _⟩ := DataW.trod_bool Try.underlying4 h3
      refine ⟨q, ?_⟩
      have := h2 0 (by omega)
      simpa using this
    obtain ⟨f, hfl, hff⟩ := row_of each
    refine ⟨some a, cap0, f, by rw [hfl], by rw [hfl]; exact hl, hm, ?_⟩
    by_cases h0 : len0 = 0
    · exact .inl (List.eq_nil_of_length_eq_zero (by omega))
    · refine .inr ⟨a.block, a.off, congrArg some (ha (by omega)), ?_, hff⟩
      have hc := hff 0 (by omega)
      exact World.block_lt_of_cell? W ⟨a.block, a.off + 0, none⟩ hc
end
end Go.Proofs.Ytngdjdhfciodjaa
