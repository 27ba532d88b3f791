/- THREE NUMBERS THAT COME IN AS AN ARRAY. -/
import Derived.Test.YtlfjffpbofigmaaDoorTapeTab
namespace Go.Proofs.YtlfjffpbofigmaaDoor
open Go.ChangeShapes Go.WideShapes Go.ChangeAt Go.RowKit
theorem three_of {α : Type} {cs : Array α} (h : cs.size = 3) : ∃ c0 c1 c2, cs = #[c0, c1, c2] :=
  ⟨cs[0], cs[1], cs[2], by apply Array.ext (by simp [h]); intro i h1 h2; match i, h2 with | 0, _ => rfl | 1, _ => rfl | 2, _ => rfl⟩
theorem u32_wf {n : Int} (h : (Lit.int .u32 n).wf = true) : 0 ≤ n ∧ n < 4294967296 := by
  have h1 : IntKind.u32.min = 0 := rfl
  have h2 : IntKind.u32.max = 4294967295 := rfl
  simp only [Lit.wf, Bool.and_eq_true, decide_eq_true_eq] at h
  omega
theorem cellsTri32 : Tryd.prog.cellsOf 61 = 3 := by kernel_rfl
theorem cellsTri8 : Tryd.prog.cellsOf 58 = 3 := by kernel_rfl
set_option maxRecDepth 100000 in
theorem open_a3u32 {H : Type} {enc : TypeId × Value → H} {W : World} {base : Nat} {v : Value} {d : DataW H} {ps : List MemPlace} (hval : Value.okWide Tryd.prog W .any base 61 v)
    (hd : DataW.Trod enc Tryd.prog W 0 (fun _ => true) true 61 v d ps) : ∃ y z q : Nat, v = .agg #[.int .u32 (y : Int), .int .u32 (z : Int), .int .u32 (q : Int)] ∧ y < 4294967296 ∧ z < 4294967296 ∧ q < 4294967296 := by
  have hu := Tryd.underlying61
  simp only [Value.okWide, hu] at hval
  obtain ⟨cs, rfl, hsz, _⟩ := hval
  obtain ⟨c0, c1, c2, rfl⟩ := three_of (hsz.trans cellsTri32)
  obtain ⟨fuel, h⟩ := hd
  cases fuel with
  | zero => simp [DataW.trod] at h
  | succ n =>
    unfold DataW.trod at h
    rw [hu] at h
    have r3 : List.range 3 = [0, 1, 2] := rfl
    simp [r3, cellsU32, Value.cells] at h
    cases h0 : DataW.trod enc Tryd.prog W 0 (fun _ => true) true n 60 [c0] with
    | none => simp [h0] at h
    | some y0 =>
      cases h1 : DataW.trod enc Tryd.prog W 0 (fun _ => true) true n 60 [c1] with
      | none => simp [h0, h1] at h
      | some y1 =>
        cases h2 : DataW.trod enc Tryd.prog W 0 (fun _ => true) true n 60 [c2] with
        | none => simp [h0, h1, h2] at h
        | some y2 =>
          obtain ⟨a, e0, _, w0⟩ := DataW.trod_int Tryd.underlying60 h0
          obtain ⟨b, e1, _, w1⟩ := DataW.trod_int Tryd.underlying60 h1
          obtain ⟨c, e2, _, w2⟩ := DataW.trod_int Tryd.underlying60 h2
          simp at e0 e1 e2
          subst e0; subst e1; subst e2
          obtain ⟨ha, hb⟩ := u32_wf w0
          obtain ⟨ha1, hb1⟩ := u32_wf w1
          obtain ⟨ha2, hb2⟩ := u32_wf w2
          refine ⟨a.toNat, b.toNat, c.toNat, ?_, by omega, by omega, by omega⟩
          rw [Int.toNat_of_nonneg ha, Int.toNat_of_nonneg ha1, Int.toNat_of_nonneg ha2]
set_option maxRecDepth 100000 in
theorem open_a3u8 {H : Type} {enc : TypeId × Value → H} {W : World} {base : Nat} {v : Value} {d : DataW H} {ps : List MemPlace} (hval : Value.okWide Tryd.prog W .any base 58 v)
    (hd : DataW.Trod enc Tryd.prog W 0 (fun _ => true) true 58 v d ps) : ∃ y z q : Nat, v = .agg #[.int .u8 (y : Int), .int .u8 (z : Int), .int .u8 (q : Int)] ∧ y < 256 ∧ z < 256 ∧ q < 256 := by
  have hu := Tryd.underlying58
  simp only [Value.okWide, hu] at hval
  obtain ⟨cs, rfl, hsz, _⟩ := hval
  obtain ⟨c0, c1, c2, rfl⟩ := three_of (hsz.trans cellsTri8)
  obtain ⟨fuel, h⟩ := hd
  cases fuel with
  | zero => simp [DataW.trod] at h
  | succ n =>
    unfold DataW.trod at h
    rw [hu] at h
    have r3 : List.range 3 = [0, 1, 2] := rfl
    simp [r3, cellsU8, Value.cells] at h
    cases h0 : DataW.trod enc Tryd.prog W 0 (fun _ => true) true n 5 [c0] with
    | none => simp [h0] at h
    | some y0 =>
      cases h1 : DataW.trod enc Tryd.prog W 0 (fun _ => true) true n 5 [c1] with
      | none => simp [h0, h1] at h
      | some y1 =>
        cases h2 : DataW.trod enc Tryd.prog W 0 (fun _ => true) true n 5 [c2] with
        | none => simp [h0, h1, h2] at h
        | some y2 =>
          obtain ⟨a, e0, _, w0⟩ := DataW.trod_int Tryd.underlying5 h0
          obtain ⟨b, e1, _, w1⟩ := DataW.trod_int Tryd.underlying5 h1
          obtain ⟨c, e2, _, w2⟩ := DataW.trod_int Tryd.underlying5 h2
          simp at e0 e1 e2
          subst e0; subst e1; subst e2
          obtain ⟨ha, hb⟩ := u8_wf w0
          obtain ⟨ha1, hb1⟩ := u8_wf w1
          obtain ⟨ha2, hb2⟩ := u8_wf w2
          refine ⟨a.toNat, b.toNat, c.toNat, ?_, by omega, by omega, by omega⟩
          rw [Int.toNat_of_nonneg ha, Int.toNat_of_nonneg ha1, Int.toNat_of_nonneg ha2]
end Go.Proofs.YtlfjffpbofigmaaDoor
