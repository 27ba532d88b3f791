/- THE TWO TABLES IN A ROW's LIST; RECORDS, NUMBERS AND ARRAYS THAT COME IN; a world that holds the tables, for the witness. -/
import Derived.Test.YtbkiahnljklhpaaDoorLaw
import Derived.Test.YtbkiahnljklhpaaDoorTapeCommon
import Derived.Test.YtbkiahnljklhpaaDoorCards
import Derived.Test.YtbkiahnljklhpaaDoorTie
import Derived.Lib.LaidTab
import Derived.Deep.Matrix
import Derived.SizedLaws
namespace Go.Proofs.YtbkiahnljklhpaaDoor
open Go.ChangeShapes Go.WideShapes Go.ChangeAt Go.RowKit
theorem gTab1 : Tryd.prog.globalNamed "aqueduct/seal.quarters" = some 1 := by kernel_rfl
theorem gTab1Type : (Tryd.prog.globals[1]?).map (·.type) = some 109 := by kernel_rfl
theorem cellsArr16 : Tryd.prog.cellsOf 109 = 16 := by kernel_rfl
theorem gTab2 : Tryd.prog.globalNamed "math/bits.deBruijn64tab" = some 0 := by kernel_rfl
theorem gTab2Type : (Tryd.prog.globals[0]?).map (·.type) = some 99 := by kernel_rfl
theorem cellsArr64 : Tryd.prog.cellsOf 99 = 64 := by kernel_rfl
theorem cellsU8 : Tryd.prog.cellsOf 5 = 1 := by kernel_rfl
theorem cellsU32 : Tryd.prog.cellsOf 107 = 1 := by kernel_rfl
theorem cellsBytes : Tryd.prog.cellsOf 29 = 1 := by kernel_rfl
theorem bytesU8 : Tryd.prog.bytesOf 5 = 1 := by kernel_rfl
def quI : List Int := [0, 274646895, 549293790, 820201905, 1098587580, 1361435347, 1640403810, 1905808397, 2197175160, 2460548119, 2722870694, 2987750089, 3280807620, 3553878443, 3811616794, 4084100981]
def brI : List Int := [0, 1, 56, 2, 57, 49, 28, 3, 61, 58, 42, 50, 38, 29, 17, 4, 62, 47, 59, 36, 45, 43, 51, 22, 53, 39, 33, 30, 24, 18, 12, 5, 63, 55, 48, 27, 60, 41, 37, 16, 46, 35, 44, 21, 52, 32, 23, 11, 54, 26, 40, 15, 34, 20, 31, 10, 25, 14, 19, 9, 13, 8, 7, 6]
theorem laid_tail {P : Program} {x : String × DataW Unit} {rest : List (String × DataW Unit)} {W : World} (h : laidMet P (x :: rest) W) : laidMet P rest W := by
  obtain ⟨ps, ⟨g, t, cs, fuel, p, q, _, _, _, _, hr, rfl⟩, hnd, hfz⟩ := h
  exact ⟨q, hr, (List.nodup_append.1 hnd).2.1, fun b off hm => hfz b off (List.mem_append_right _ hm)⟩
theorem tables {W : World} (h : laidMetH Tryd.prog [("aqueduct/seal.quarters", Rows.laid_aqueduct_seal_quarters), ("math/bits.deBruijn64tab", Rows.laid_math_bits_deBruijn64tab)] W) : Tab W ∧ Bruijn W ∧ 1 < W.heap.size ∧ 0 < W.heap.size := by
  have h1 : Lib.TabIs Tryd.prog W "aqueduct/seal.quarters" .u32 quI := Lib.tabIs_of_head (rest := [("math/bits.deBruijn64tab", Rows.laid_math_bits_deBruijn64tab)]) gTab1 gTab1Type Tryd.underlying109 Tryd.underlying107 cellsU32 cellsArr16 h
  have h' : laidMetH Tryd.prog [("math/bits.deBruijn64tab", Rows.laid_math_bits_deBruijn64tab)] W := laid_tail (x := ("aqueduct/seal.quarters", Rows.laid_aqueduct_seal_quarters)) (show laidMet Tryd.prog _ W from h)
  have h2 : Lib.TabIs Tryd.prog W "math/bits.deBruijn64tab" .u8 brI := Lib.tabIs_of_head (rest := []) gTab2 gTab2Type Tryd.underlying99 Tryd.underlying5 cellsU8 cellsArr64 h'
  have hc1 : Tab W := by
    intro j hj
    have := h1.cell gTab1 j (by simp [quI]; omega)
    rw [this]
    have e : ∀ j : Fin 16, quI.getD j 0 = ((Seal.tab.getD j 0 : Nat) : Int) := by decide
    have := e ⟨j, hj⟩
    simp only at this
    rw [← this]
  have hc2 : Bruijn W := by
    intro j hj
    have hj' : j < 64 := hj
    have := h2.cell gTab2 j (by simp [brI]; omega)
    rw [this]
    have e : ∀ j : Fin 64, brI.getD j 0 = ((Lib.deBruijn64tab.getD j 0 : Nat) : Int) := by decide
    have := e ⟨j, hj'⟩
    simp only at this
    rw [← this]
  exact ⟨hc1, hc2, World.block_lt_of_cell? W _ (hc1 0 (by decide)), World.block_lt_of_cell? W _ (hc2 0 (by decide))⟩
theorem reach_eq : reachBytes = 140737488351232 := rfl
theorem weightsAll_mem {H : Type} {P : Program} {e : TypeId} : ∀ {l : List (DataW H)} {d : DataW H}, d ∈ l → ∀ n ∈ d.weights P e, n ∈ DataW.weightsAll P e l
  | d' :: r, d, hd, n, hn => by
    simp only [DataW.weightsAll, List.mem_append]
    rcases List.mem_cons.1 hd with rfl | h
    · exact Or.inl hn
    · exact Or.inr (weightsAll_mem h n hn)
/-- The form's own reach, of a row within a slice of slices. -/
theorem sized_inner {H : Type} {P : Program} {ts : List TypeId} {ds : List (DataW H)} (h : (DataW.weightsEach P ts ds).all (· ≤ reachBytes) = true) {j : Nat} {t e q : TypeId} {elems spare e' sp' : List (DataW H)}
    (ht : ts[j]? = some t) (hd : ds[j]? = some (.slice elems spare)) (hu : P.underlying t = some (.slice e)) (hu2 : P.underlying e = some (.slice q)) (hx : DataW.slice e' sp' ∈ elems) : (e'.length + sp'.length) * P.bytesOf q ≤ reachBytes := by
  refine of_decide_eq_true (List.all_eq_true.1 h _ (DataW.weights_mem_each ht hd _ ?_))
  simp only [DataW.weights, hu, List.mem_cons, List.mem_append]
  exact Or.inr (Or.inl (weightsAll_mem hx _ (by simp [DataW.weights, hu2])))
theorem addr_spot {w : World} {a : Addr} {v : Value} (h : w.cell? (a.add 0) = some v) : a = ⟨a.block, a.off, none⟩ := by
  obtain ⟨b, off, spot⟩ := a
  have hspot : spot = none := by simpa [Addr.add] using World.cell?_spot h
  subst hspot
  rfl
set_option maxRecDepth 100000 in
/-- Records that come in: what they read as. -/
theorem open_records {H : Type} {enc : TypeId × Value → H} {W : World} {base : Nat} {v : Value} {d : DataW H} {ps : List MemPlace} (hval : Value.okWide Tryd.prog W .any base 41 v)
    (hd : DataW.Trod enc Tryd.prog W 0 (fun _ => true) true 41 v d ps) {ts : List TypeId} {ds : List (DataW H)} (hw : (DataW.weightsEach Tryd.prog ts ds).all (· ≤ reachBytes) = true) {j : Nat} (hj : ts[j]? = some 41) (hdj : ds[j]? = some d) :
    ∃ (a : Option Addr) (len cap : Nat) (rs : List (List Nat)), v = .slice a len cap ∧ rs.length = len ∧ len ≤ cap ∧ cap ≤ 9223372036854775807 ∧ RowsIn W a rs (fun b => b < W.heap.size) ∧ ∀ i, i < rs.length → (rs.getD i []).length ≤ 140737488355328 := by
  obtain ⟨a0, len, cap, rfl⟩ := okWide_slice Tryd.underlying41 hval
  obtain ⟨fuel, hf⟩ := hd
  rcases Deep.open_int_rows Tryd.underlying41 Tryd.underlying29 Tryd.underlying5 cellsBytes cellsU8 hf with ⟨hcs, hx⟩ | ⟨a, len', cap', A, L, C, Z, hcs, _, hl, hm, hx, hr⟩
  · simp [Value.cells] at hcs
    obtain ⟨rfl, rfl, rfl⟩ := hcs
    exact ⟨none, 0, 0, [], rfl, rfl, Nat.le_refl _, by omega, .inl rfl, fun i hi => by simp at hi⟩
  · simp [Value.cells] at hcs
    obtain ⟨rfl, rfl, rfl⟩ := hcs
    have hm' : cap ≤ 9223372036854775807 := hm
    simp only [Prod.mk.injEq] at hx
    obtain ⟨rfl, _⟩ := hx
    have hget : ∀ i, i < len → ((List.range len).map fun r => ((Z r).take (L r)).map Int.toNat).getD i [] = ((Z i).take (L i)).map Int.toNat := fun i hi => by
      simp [List.getD_eq_getElem?_getD, hi]
    have hzl : ∀ i, i < len → (((Z i).take (L i)).map Int.toNat).length = L i := fun i hi => by
      obtain ⟨_, h1, _, h3, _⟩ := hr i (by omega)
      simp; omega
    have hwf : ∀ i, i < len → ∀ z ∈ Z i, 0 ≤ z ∧ z < 256 := fun i hi z hz => u8_wf ((hr i (by omega)).2.2.2.2.1 z hz)
    refine ⟨some a, len, cap, (List.range len).map fun r => ((Z r).take (L r)).map Int.toNat, rfl, by simp, hl, hm', ?_, fun i hi => ?_⟩
    · by_cases h0 : len = 0
      · subst h0; exact .inl rfl
      · have ha := addr_spot (hr 0 (by omega)).1
        refine .inr ⟨a.block, a.off, by rw [← ha], World.block_lt_of_cell? W ⟨a.block, a.off + 0, none⟩ (by have := (hr 0 (by omega)).1; rw [ha, add_plain] at this; exact this), fun i hi => ?_⟩
        have hi' : i < len := by simpa using hi
        obtain ⟨h1, h2, h3, h4, h5, h6, h7⟩ := hr i (by omega)
        rw [hget i hi', hzl i hi']
        refine ⟨A i, C i, ?_, h2, h3, ?_, ?_, fun hne p hp => ?_⟩
        · rw [ha, add_plain] at h1; exact h1
        · by_cases hL : L i = 0
          · exact .inl (by rw [hL]; rfl)
          · cases hA : A i with
            | none => have := h6 hA; omega
            | some a' =>
              have h8 := (h7 a' hA).2
              have ha' := addr_spot (h8 0 (by omega))
              refine .inr ⟨a'.block, a'.off, by rw [← ha'], fun c hc => ?_⟩
              rw [hzl i hi'] at hc
              have := h8 c (by omega)
              rw [ha', add_plain] at this
              rw [this]
              have hz0 := hwf i hi' ((Z i).getD c 0) (by rw [List.getD_eq_getElem?_getD, List.getElem?_eq_getElem (show c < (Z i).length by omega)]; exact List.getElem_mem _)
              have e : (((Z i).take (L i)).map Int.toNat).getD c 0 = ((Z i).getD c 0).toNat := by
                simp [List.getD_eq_getElem?_getD, hc, List.getElem?_eq_getElem (show c < (Z i).length by omega)]
              rw [e, Int.toNat_of_nonneg hz0.1]
        · intro c hc
          obtain ⟨z, hz, rfl⟩ := List.mem_map.1 hc
          have := hwf i hi' z (List.mem_of_mem_take hz)
          omega
        · have hL : L i ≠ 0 := fun e => hne (by rw [e]; rfl)
          have h8 := (h7 p hp).2 0 (by omega)
          have hp' := addr_spot h8
          rw [hp', add_plain] at h8
          exact World.block_lt_of_cell? W ⟨p.block, p.off + 0, none⟩ h8
    · have hi' : i < len := by simpa using hi
      rw [hget i hi', hzl i hi']
      obtain ⟨h1, h2, h3, h4, h5, h6, h7⟩ := hr i (by omega)
      cases hA : A i with
      | none => have := h6 hA; omega
      | some a' =>
        have := sized_inner hw hj hdj Tryd.underlying41 Tryd.underlying29 (e' := lits .u8 ((Z i).take (L i))) (sp' := lits .u8 ((Z i).drop (L i))) (List.mem_map.2 ⟨i, List.mem_range.2 hi', by unfold Deep.intRow; rw [hA]⟩)
        rw [bytesU8, reach_eq] at this
        simp [lits] at this
        omega
def layQ : Obj → Obj
  | .cells _ t frozen => .cells #[.int .u32 0, .int .u32 274646895, .int .u32 549293790, .int .u32 820201905, .int .u32 1098587580, .int .u32 1361435347, .int .u32 1640403810, .int .u32 1905808397, .int .u32 2197175160, .int .u32 2460548119, .int .u32 2722870694, .int .u32 2987750089, .int .u32 3280807620, .int .u32 3553878443, .int .u32 3811616794, .int .u32 4084100981] t frozen
  | o => o
def layB : Obj → Obj
  | .cells _ t frozen => .cells #[.int .u8 0, .int .u8 1, .int .u8 56, .int .u8 2, .int .u8 57, .int .u8 49, .int .u8 28, .int .u8 3, .int .u8 61, .int .u8 58, .int .u8 42, .int .u8 50, .int .u8 38, .int .u8 29, .int .u8 17, .int .u8 4, .int .u8 62, .int .u8 47, .int .u8 59, .int .u8 36, .int .u8 45, .int .u8 43, .int .u8 51, .int .u8 22, .int .u8 53, .int .u8 39, .int .u8 33, .int .u8 30, .int .u8 24, .int .u8 18, .int .u8 12, .int .u8 5, .int .u8 63, .int .u8 55, .int .u8 48, .int .u8 27, .int .u8 60, .int .u8 41, .int .u8 37, .int .u8 16, .int .u8 46, .int .u8 35, .int .u8 44, .int .u8 21, .int .u8 52, .int .u8 32, .int .u8 23, .int .u8 11, .int .u8 54, .int .u8 26, .int .u8 40, .int .u8 15, .int .u8 34, .int .u8 20, .int .u8 31, .int .u8 10, .int .u8 25, .int .u8 14, .int .u8 19, .int .u8 9, .int .u8 13, .int .u8 8, .int .u8 7, .int .u8 6] t frozen
  | o => o
noncomputable def laidWorld (os : Os) : World :=
  { World.holding Tryd.prog os ⟨#[], #[], []⟩ with heap := ((World.holding Tryd.prog os ⟨#[], #[], []⟩).heap.modify 1 layQ).modify 0 layB }
end Go.Proofs.YtbkiahnljklhpaaDoor
