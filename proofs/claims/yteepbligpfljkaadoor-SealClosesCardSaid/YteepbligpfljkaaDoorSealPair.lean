/- TWO NUMBERS OF 32 BITS THAT COME IN AS AN ARRAY. -/
import Derived.Test.YteepbligpfljkaaDoorSealTab
namespace Go.Proofs.YteepbligpfljkaaDoor
open Go.ChangeShapes Go.WideShapes Go.ChangeAt Go.RowKit
theorem two_of {α : Type} {cs : Array α} (h : cs.size = 2) : ∃ c0 c1, cs = #[c0, c1] :=
  ⟨cs[0], cs[1], by apply Array.ext (by simp [h]); intro i h1 h2; match i, h2 with | 0, _ => rfl | 1, _ => rfl⟩
theorem u32_wf {n : Int} (h : (Lit.int .u32 n).wf = true) : 0 ≤ n ∧ n < 4294967296 := by
  have h1 : IntKind.u32.min = 0 := rfl
  have h2 : IntKind.u32.max = 4294967295 := rfl
  simp only [Lit.wf, Bool.and_eq_true, decide_eq_true_eq] at h
  omega
theorem i64_wf {n : Int} (h : (Lit.int .i64 n).wf = true) : -9223372036854775808 ≤ n ∧ n ≤ 9223372036854775807 := by
  have h1 : IntKind.i64.min = -9223372036854775808 := rfl
  have h2 : IntKind.i64.max = 9223372036854775807 := rfl
  simp only [Lit.wf, Bool.and_eq_true, decide_eq_true_eq] at h
  omega
theorem cellsPair : Tryd.prog.cellsOf 38 = 2 := by kernel_rfl
theorem open_pair {H : Type} {enc : TypeId × Value → H} {W : World} {base : Nat} {v : Value} {d : DataW H} {ps : List MemPlace} (hval : Value.okWide Tryd.prog W .any base 38 v)
    (hd : DataW.Trod enc Tryd.prog W 0 (fun _ => true) true 38 v d ps) : ∃ y z : Nat, v = .agg #[.int .u32 (y : Int), .int .u32 (z : Int)] ∧ y < 4294967296 ∧ z < 4294967296 := by
  have hu := Tryd.underlying38
  simp only [Value.okWide, hu] at hval
  obtain ⟨cs, rfl, hsz, _⟩ := hval
  obtain ⟨c0, c1, rfl⟩ := two_of (hsz.trans cellsPair)
  obtain ⟨fuel, h⟩ := hd
  cases fuel with
  | zero => simp [DataW.trod] at h
  | succ n =>
    unfold DataW.trod at h
    rw [hu] at h
    have r2 : List.range 2 = [0, 1] := rfl
    simp [r2, cellsU32, Value.cells] at h
    cases h0 : DataW.trod enc Tryd.prog W 0 (fun _ => true) true n 30 [c0] with
    | none => simp [h0] at h
    | some y0 =>
      cases h1 : DataW.trod enc Tryd.prog W 0 (fun _ => true) true n 30 [c1] with
      | none => simp [h0, h1] at h
      | some y1 =>
        obtain ⟨a, e0, _, w0⟩ := DataW.trod_int Tryd.underlying30 h0
        obtain ⟨b, e1, _, w1⟩ := DataW.trod_int Tryd.underlying30 h1
        simp at e0 e1
        subst e0; subst e1
        obtain ⟨a0, a1⟩ := u32_wf w0
        obtain ⟨b0, b1⟩ := u32_wf w1
        obtain ⟨x, rfl⟩ := Int.eq_ofNat_of_zero_le a0
        obtain ⟨y, rfl⟩ := Int.eq_ofNat_of_zero_le b0
        exact ⟨x, y, rfl, by omega, by omega⟩
end Go.Proofs.YteepbligpfljkaaDoor
