/- aqueductlaw7.OrderKnown. -/
import Derived.Test.YtkpbfocbombpjaaOrderCut
import Derived.Test.YtkpbfocbombpjaaOrderAwake
import Derived.Test.YtkpbfocbombpjaaRegFacts
import Derived.Test.YtkpbfocbombpjaaItemsOf
import Derived.Laws.MakeOwn
import Derived.IntWalk
namespace Go.Proofs.Ytkpbfocbombpjaa
open Go.RowKit
open Seal
open Bson (Val)
def oneC : Array Value := #[.int .i64 (3), .int .i64 (1), .string ⟨#[]⟩, .slice none 0 0, .slice none 0 0, .slice none 0 0]
def fieldC : Array Value := #[.string ⟨#[97]⟩, .int .i64 (3), .int .i64 (1), .string ⟨#[]⟩, .slice none 0 0, .slice none 0 0, .slice none 0 0]
def blockFact (p : Nat → Value) (c : Array Value) (t : TypeId) : Fact := ⟨fun v w => ∃ g, v = p g ∧ w.heap[g]? = some (.cells c t (0, 0)), fun _ _ _ ⟨g, h1, h2⟩ hb => ⟨g, h1, (hb.block g (Array.getElem?_eq_some_iff.1 h2).1).trans h2⟩⟩
def fieldRow : Fact := blockFact (fun g => .slice (some ⟨g, 0, none⟩) 1 1) fieldC 30
def docVal : Fact := blockFact (fun g => .agg #[.int .i64 (6), .int .i64 (0), .string ⟨#[]⟩, .slice none 0 0, .slice (some ⟨g, 0, none⟩) 1 1, .slice none 0 0]) fieldC 30
def oneRow : Fact := blockFact (fun g => .slice (some ⟨g, 0, none⟩) 1 1) oneC 27
def listVal : Fact := blockFact (fun g => .agg #[.int .i64 (7), .int .i64 (0), .string ⟨#[]⟩, .slice none 0 0, .slice none 0 0, .slice (some ⟨g, 0, none⟩) 1 1]) oneC 27
def byteRow (l : List Nat) : Fact := ⟨fun v w => ∃ g, v = .slice (some ⟨g, 0, none⟩) l.length l.length ∧ Row w g l, fun _ _ _ ⟨g, h1, h2⟩ hb => ⟨g, h1, (hb.block g h2.lt).trans h2⟩⟩
def byteVal (k : Int) (l : List Nat) (n : Nat) : Fact := ⟨fun v w => ∃ g, v = .agg #[.int .i64 k, .int .i64 0, .string ⟨#[]⟩, .slice (some ⟨g, 0, none⟩) n n, .slice none 0 0, .slice none 0 0] ∧ Row w g l, fun _ _ _ ⟨g, h1, h2⟩ hb => ⟨g, h1, (hb.block g h2.lt).trans h2⟩⟩
def oknownL : List Val := [.mk (0) (0) ⟨#[]⟩ [] [] [], .mk (1) (0) ⟨#[]⟩ [] [] [], .mk (2) (0) ⟨#[]⟩ [] [] [], .mk (3) (-5) ⟨#[]⟩ [] [] [], .mk (4) (7) ⟨#[]⟩ [] [] [], .mk (5) (0) ⟨#[]⟩ [] [] [], .mk (5) (0) ⟨#[97]⟩ [] [] [], .mk (6) (0) ⟨#[]⟩ [] [] [], .mk 6 0 ⟨#[]⟩ [] [(⟨#[97]⟩, .mk 3 1 ⟨#[]⟩ [] [] [])] [], .mk (7) (0) ⟨#[]⟩ [] [] [], .mk 7 0 ⟨#[]⟩ [] [] [.mk 3 1 ⟨#[]⟩ [] [] []], .mk 8 0 ⟨#[]⟩ [9] [] [], .mk 8 0 ⟨#[]⟩ [1, 1] [] [], .mk 9 0 ⟨#[]⟩ (List.replicate 12 0) [] [], .mk (10) (0) ⟨#[]⟩ [] [] [], .mk (10) (1) ⟨#[]⟩ [] [] [], .mk (11) (-3) ⟨#[]⟩ [] [] [], .mk (12) (0) ⟨#[]⟩ [] [] []]
def oknownRow : Fact := ⟨fun v w => ∃ g, v = .slice (some ⟨g, 0, none⟩) 18 18 ∧ ItemsIn w (fun _ => True) (VIn w (fun _ => True) 2) (some ⟨g, 0, none⟩) oknownL, fun _ _ _ ⟨g, h1, h2⟩ hb => ⟨g, h1, h2.kept (Kept.of_below hb) (fun _ z => z) (fun _ _ z => VIn.keep hb z)⟩⟩
theorem infoByteO : (Try.prog.info? 5).map (fun i => (i.zero, i.size, i.bytes)) = some (some (.int .u8 0), 1, 1) := by kernel_rfl
theorem run_make12o (u : World) : (Instr.makeSlice 23 (.int .i64 12) (.int .i64 12)).run Try.prog u = .ok (.slice (some ⟨u.heap.size, 0, none⟩) 12 12) (u.alloc (.cells (madeCells #[.int .u8 0] 12) 5)) := by
  obtain ⟨i0, hi, hz0, hz1, hz2⟩ := info_parts infoByteO
  have h := run_make (P := Try.prog) u 23 5 i0 (.int .u8 0) Try.underlying23 hi hz0 .i64 .i64 12 12 (by omega) (Int.le_refl _) (by rw [hz2]; omega) (by omega)
  simpa [hz1, Value.cells] using h
set_option maxRecDepth 100000 in
theorem oknown_items {w : World} {g : Nat} (g1 g2 g3 g4 g5 : Nat) (hr : w.heap[g]? = some (.cells #[.int .i64 (0), .int .i64 (0), .string ⟨#[]⟩, .slice none 0 0, .slice none 0 0, .slice none 0 0, .int .i64 (1), .int .i64 (0), .string ⟨#[]⟩, .slice none 0 0, .slice none 0 0, .slice none 0 0, .int .i64 (2), .int .i64 (0), .string ⟨#[]⟩, .slice none 0 0, .slice none 0 0, .slice none 0 0, .int .i64 (3), .int .i64 (-5), .string ⟨#[]⟩, .slice none 0 0, .slice none 0 0, .slice none 0 0, .int .i64 (4), .int .i64 (7), .string ⟨#[]⟩, .slice none 0 0, .slice none 0 0, .slice none 0 0, .int .i64 (5), .int .i64 (0), .string ⟨#[]⟩, .slice none 0 0, .slice none 0 0, .slice none 0 0, .int .i64 (5), .int .i64 (0), .string ⟨#[97]⟩, .slice none 0 0, .slice none 0 0, .slice none 0 0, .int .i64 (6), .int .i64 (0), .string ⟨#[]⟩, .slice none 0 0, .slice none 0 0, .slice none 0 0, .int .i64 (6), .int .i64 (0), .string ⟨#[]⟩, .slice none 0 0, .slice (some ⟨g1, 0, none⟩) 1 1, .slice none 0 0, .int .i64 (7), .int .i64 (0), .string ⟨#[]⟩, .slice none 0 0, .slice none 0 0, .slice none 0 0, .int .i64 (7), .int .i64 (0), .string ⟨#[]⟩, .slice none 0 0, .slice none 0 0, .slice (some ⟨g2, 0, none⟩) 1 1, .int .i64 (8), .int .i64 (0), .string ⟨#[]⟩, .slice (some ⟨g3, 0, none⟩) 1 1, .slice none 0 0, .slice none 0 0, .int .i64 (8), .int .i64 (0), .string ⟨#[]⟩, .slice (some ⟨g4, 0, none⟩) 2 2, .slice none 0 0, .slice none 0 0, .int .i64 (9), .int .i64 (0), .string ⟨#[]⟩, .slice (some ⟨g5, 0, none⟩) 12 12, .slice none 0 0, .slice none 0 0, .int .i64 (10), .int .i64 (0), .string ⟨#[]⟩, .slice none 0 0, .slice none 0 0, .slice none 0 0, .int .i64 (10), .int .i64 (1), .string ⟨#[]⟩, .slice none 0 0, .slice none 0 0, .slice none 0 0, .int .i64 (11), .int .i64 (-3), .string ⟨#[]⟩, .slice none 0 0, .slice none 0 0, .slice none 0 0, .int .i64 (12), .int .i64 (0), .string ⟨#[]⟩, .slice none 0 0, .slice none 0 0, .slice none 0 0] 27 (0, 0))) (h1 : w.heap[g1]? = some (.cells fieldC 30 (0, 0))) (h2 : w.heap[g2]? = some (.cells oneC 27 (0, 0)))
    (h3 : Row w g3 [9]) (h4 : Row w g4 [1, 1]) (h5 : Row w g5 (List.replicate 12 0)) :
    ItemsIn w (fun _ => True) (VIn w (fun _ => True) 2) (some ⟨g, 0, none⟩) oknownL := by
  have hO : VIn w (fun _ => True) 1 (.mk 3 1 ⟨#[]⟩ [] [] []) (.agg #[.int .i64 (3), .int .i64 (1), .string ⟨#[]⟩, .slice none 0 0, .slice none 0 0, .slice none 0 0]) := text_in w _ 3 1 ⟨#[]⟩ (by decide) (by decide) (by decide) 0
  have hN : ItemsIn w (fun _ => True) (VIn w (fun _ => True) 1) (some ⟨g2, 0, none⟩) [.mk 3 1 ⟨#[]⟩ [] [] []] := one_items h2 trivial hO
  refine items_of [(.mk (0) (0) ⟨#[]⟩ [] [] [], [.int .i64 (0), .int .i64 (0), .string ⟨#[]⟩, .slice none 0 0, .slice none 0 0, .slice none 0 0]), (.mk (1) (0) ⟨#[]⟩ [] [] [], [.int .i64 (1), .int .i64 (0), .string ⟨#[]⟩, .slice none 0 0, .slice none 0 0, .slice none 0 0]), (.mk (2) (0) ⟨#[]⟩ [] [] [], [.int .i64 (2), .int .i64 (0), .string ⟨#[]⟩, .slice none 0 0, .slice none 0 0, .slice none 0 0]), (.mk (3) (-5) ⟨#[]⟩ [] [] [], [.int .i64 (3), .int .i64 (-5), .string ⟨#[]⟩, .slice none 0 0, .slice none 0 0, .slice none 0 0]), (.mk (4) (7) ⟨#[]⟩ [] [] [], [.int .i64 (4), .int .i64 (7), .string ⟨#[]⟩, .slice none 0 0, .slice none 0 0, .slice none 0 0]), (.mk (5) (0) ⟨#[]⟩ [] [] [], [.int .i64 (5), .int .i64 (0), .string ⟨#[]⟩, .slice none 0 0, .slice none 0 0, .slice none 0 0]), (.mk (5) (0) ⟨#[97]⟩ [] [] [], [.int .i64 (5), .int .i64 (0), .string ⟨#[97]⟩, .slice none 0 0, .slice none 0 0, .slice none 0 0]), (.mk (6) (0) ⟨#[]⟩ [] [] [], [.int .i64 (6), .int .i64 (0), .string ⟨#[]⟩, .slice none 0 0, .slice none 0 0, .slice none 0 0]), (.mk 6 0 ⟨#[]⟩ [] [(⟨#[97]⟩, .mk 3 1 ⟨#[]⟩ [] [] [])] [], [.int .i64 (6), .int .i64 (0), .string ⟨#[]⟩, .slice none 0 0, .slice (some ⟨g1, 0, none⟩) 1 1, .slice none 0 0]), (.mk (7) (0) ⟨#[]⟩ [] [] [], [.int .i64 (7), .int .i64 (0), .string ⟨#[]⟩, .slice none 0 0, .slice none 0 0, .slice none 0 0]), (.mk 7 0 ⟨#[]⟩ [] [] [.mk 3 1 ⟨#[]⟩ [] [] []], [.int .i64 (7), .int .i64 (0), .string ⟨#[]⟩, .slice none 0 0, .slice none 0 0, .slice (some ⟨g2, 0, none⟩) 1 1]), (.mk 8 0 ⟨#[]⟩ [9] [] [], [.int .i64 (8), .int .i64 (0), .string ⟨#[]⟩, .slice (some ⟨g3, 0, none⟩) 1 1, .slice none 0 0, .slice none 0 0]), (.mk 8 0 ⟨#[]⟩ [1, 1] [] [], [.int .i64 (8), .int .i64 (0), .string ⟨#[]⟩, .slice (some ⟨g4, 0, none⟩) 2 2, .slice none 0 0, .slice none 0 0]), (.mk 9 0 ⟨#[]⟩ (List.replicate 12 0) [] [], [.int .i64 (9), .int .i64 (0), .string ⟨#[]⟩, .slice (some ⟨g5, 0, none⟩) 12 12, .slice none 0 0, .slice none 0 0]), (.mk (10) (0) ⟨#[]⟩ [] [] [], [.int .i64 (10), .int .i64 (0), .string ⟨#[]⟩, .slice none 0 0, .slice none 0 0, .slice none 0 0]), (.mk (10) (1) ⟨#[]⟩ [] [] [], [.int .i64 (10), .int .i64 (1), .string ⟨#[]⟩, .slice none 0 0, .slice none 0 0, .slice none 0 0]), (.mk (11) (-3) ⟨#[]⟩ [] [] [], [.int .i64 (11), .int .i64 (-3), .string ⟨#[]⟩, .slice none 0 0, .slice none 0 0, .slice none 0 0]), (.mk (12) (0) ⟨#[]⟩ [] [] [], [.int .i64 (12), .int .i64 (0), .string ⟨#[]⟩, .slice none 0 0, .slice none 0 0, .slice none 0 0])] ?_ hr trivial ?_
  · simp
  · have hD := doc_in (nm := ⟨#[97]⟩) h1 trivial (by decide) hO
    have hL := list_in (h := 1) hN (by decide)
    have hB1 := blob_in (Q := fun _ => True) (g := g3) (l := [9]) 8 h3 trivial (fun c hc => by rw [List.mem_singleton.1 hc]; decide) (by decide) (by decide) 1
    have hB2 := blob_in (Q := fun _ => True) (g := g4) (l := [1, 1]) 8 h4 trivial (fun c hc => by simp at hc; omega) (by decide) (by decide) 1
    have hB3 := blob_in (Q := fun _ => True) (g := g5) (l := List.replicate 12 0) 9 h5 trivial (fun c hc => by have := List.eq_of_mem_replicate hc; omega) (by decide) (by decide) 1
    simp only [List.mem_cons, List.not_mem_nil, or_false, forall_eq_or_imp, forall_eq]
    refine ⟨text_in w _ _ _ _ (by decide) (by decide) (by decide) 1, text_in w _ _ _ _ (by decide) (by decide) (by decide) 1, text_in w _ _ _ _ (by decide) (by decide) (by decide) 1, text_in w _ _ _ _ (by decide) (by decide) (by decide) 1, text_in w _ _ _ _ (by decide) (by decide) (by decide) 1, text_in w _ _ _ _ (by decide) (by decide) (by decide) 1, text_in w _ _ _ _ (by decide) (by decide) (by decide) 1, text_in w _ _ _ _ (by decide) (by decide) (by decide) 1, hD, text_in w _ _ _ _ (by decide) (by decide) (by decide) 1, hL, hB1, hB2, hB3, text_in w _ _ _ _ (by decide) (by decide) (by decide) 1, text_in w _ _ _ _ (by decide) (by decide) (by decide) 1, text_in w _ _ _ _ (by decide) (by decide) (by decide) 1, text_in w _ _ _ _ (by decide) (by decide) (by decide) 1⟩
theorem oknown_orders : (List.range 18).all (fun i => (List.range 18).all (fun k => decide (Order.cmp 2 (oknownL.getD i Bson.zero) (oknownL.getD k Bson.zero) = Order.sgn i k))) = true := by decide +kernel
theorem oknown_order (i k : Nat) (h1 : i < oknownL.length) (h2 : k < oknownL.length) : Order.cmp 2 oknownL[i] oknownL[k] = Order.sgn i k := by
  have h1' : i < 18 := h1
  have h2' : k < 18 := h2
  have h := of_decide_eq_true (List.all_eq_true.1 (List.all_eq_true.1 oknown_orders i (List.mem_range.2 h1')) k (List.mem_range.2 h2'))
  rw [List.getD_eq_getElem?_getD, List.getD_eq_getElem?_getD, List.getElem?_eq_getElem h1, List.getElem?_eq_getElem h2] at h
  exact h
set_option maxRecDepth 100000 in
set_option maxHeartbeats 2000000 in
theorem oknown_f (k n : Int) (w : World) : Calls Try.prog 5 #[.int .i64 k, .int .i64 n] w fun e w' => e = .returned (.agg #[.int .i64 (k), .int .i64 (n), .string ⟨#[]⟩, .slice none 0 0, .slice none 0 0, .slice none 0 0]) ∧ Below w.heap.size w w' := by
  have HB : Hid (Below w.heap.size w (w.alloc (.cells #[.int .i64 (k), .int .i64 (n), .string ⟨#[]⟩, .slice none 0 0, .slice none 0 0, .slice none 0 0] 27))) := (Below.refl _ w).alloc (Nat.le_refl _) _
  go_enter Try.func5, Try.ntmps5
  go_wp2_with fail
  exact bodyPost_ret (v := .agg #[.int .i64 (k), .int .i64 (n), .string ⟨#[]⟩, .slice none 0 0, .slice none 0 0, .slice none 0 0]) (by simp [results, Try.results5, go_sem]) rfl ⟨rfl, HB.out⟩
set_option maxRecDepth 100000 in
set_option maxHeartbeats 8000000 in
theorem oknown_any (w : World) : Calls Try.prog 3 #[] w fun e w' => e = .returned (.bool true) ∧ Below w.heap.size w w' := by
  go_enter Try.func3, Try.ntmps3
  go_wp2_with fail
  go_at_call 4
  refine (awake_any w).mono ?_
  rintro e w1 ⟨rfl, hb1⟩
  have HB1 := Lib.hid hb1
  clear hb1
  go_wp2_with fail
  refine wp_region_facts (fun V => { tmps := #[.bool false, .func (.func 5) #[] #[], V 34, undef, undef, undef, .bool true, .bool false, V 0, V 1, V 2, V 3, V 4, V 5, V 6, V 7, V 8, V 9, V 10, V 11, V 12, V 13, V 14, V 15, V 16, V 17, V 18, V 19, V 20, V 21, V 22, V 23, V 24, V 25, V 26, V 27, V 28, V 29, V 30, V 31, V 32, V 33, undef, undef, undef, undef, undef, undef, undef, undef, undef, undef, undef, undef, undef, undef, undef, undef, undef, undef, undef, undef, undef, undef, undef, undef, undef, undef, undef, undef, undef, undef, undef, undef, undef], defers := [] }) [Fact.is (.agg #[.int .i64 (0), .int .i64 (0), .string ⟨#[]⟩, .slice none 0 0, .slice none 0 0, .slice none 0 0]), Fact.is (.agg #[.int .i64 (1), .int .i64 (0), .string ⟨#[]⟩, .slice none 0 0, .slice none 0 0, .slice none 0 0]), Fact.is (.agg #[.int .i64 (2), .int .i64 (0), .string ⟨#[]⟩, .slice none 0 0, .slice none 0 0, .slice none 0 0]), Fact.is (.func (.func 5) #[] #[]), Fact.is (.agg #[.int .i64 (3), .int .i64 (-5), .string ⟨#[]⟩, .slice none 0 0, .slice none 0 0, .slice none 0 0]), Fact.is (.func (.func 5) #[] #[]), Fact.is (.agg #[.int .i64 (4), .int .i64 (7), .string ⟨#[]⟩, .slice none 0 0, .slice none 0 0, .slice none 0 0]), Fact.is (.agg #[.int .i64 (5), .int .i64 (0), .string ⟨#[]⟩, .slice none 0 0, .slice none 0 0, .slice none 0 0]), Fact.is (.agg #[.int .i64 (5), .int .i64 (0), .string ⟨#[97]⟩, .slice none 0 0, .slice none 0 0, .slice none 0 0]), Fact.is (.agg #[.int .i64 (6), .int .i64 (0), .string ⟨#[]⟩, .slice none 0 0, .slice none 0 0, .slice none 0 0]), Fact.is (.func (.func 5) #[] #[]), Fact.is (.agg #[.int .i64 (3), .int .i64 (1), .string ⟨#[]⟩, .slice none 0 0, .slice none 0 0, .slice none 0 0]), Fact.is (.agg #[.string ⟨#[97]⟩, .int .i64 (3), .int .i64 (1), .string ⟨#[]⟩, .slice none 0 0, .slice none 0 0, .slice none 0 0]), fieldRow, docVal, Fact.is (.agg #[.int .i64 (7), .int .i64 (0), .string ⟨#[]⟩, .slice none 0 0, .slice none 0 0, .slice none 0 0]), Fact.is (.func (.func 5) #[] #[]), Fact.is (.agg #[.int .i64 (3), .int .i64 (1), .string ⟨#[]⟩, .slice none 0 0, .slice none 0 0, .slice none 0 0]), oneRow, listVal, byteRow [9], byteVal 8 [9] 1, byteRow [1, 1], byteVal 8 [1, 1] 2, byteRow (List.replicate 12 0), byteVal 9 (List.replicate 12 0) 12, Fact.is (.func (.func 5) #[] #[]), Fact.is (.agg #[.int .i64 (10), .int .i64 (0), .string ⟨#[]⟩, .slice none 0 0, .slice none 0 0, .slice none 0 0]), Fact.is (.func (.func 5) #[] #[]), Fact.is (.agg #[.int .i64 (10), .int .i64 (1), .string ⟨#[]⟩, .slice none 0 0, .slice none 0 0, .slice none 0 0]), Fact.is (.func (.func 5) #[] #[]), Fact.is (.agg #[.int .i64 (11), .int .i64 (-3), .string ⟨#[]⟩, .slice none 0 0, .slice none 0 0, .slice none 0 0]), Fact.is (.agg #[.int .i64 (12), .int .i64 (0), .string ⟨#[]⟩, .slice none 0 0, .slice none 0 0, .slice none 0 0]), oknownRow, oknownRow] (by kernel_rfl) (by kernel_rfl) (by kernel_rfl) (fun V => by kernel_rfl) ?_ ?_
  · refine ⟨?_, ?_⟩
    · refine fact_free rfl (fun V w hB hF K hK => ?_)
      go_simp
      exact put_is (by kernel_rfl) (hK.out (.agg #[.int .i64 (0), .int .i64 (0), .string ⟨#[]⟩, .slice none 0 0, .slice none 0 0, .slice none 0 0]) _ (Below.refl _ _) rfl)
    refine ⟨?_, ?_⟩
    · refine fact_free rfl (fun V w hB hF K hK => ?_)
      go_simp
      exact put_is (by kernel_rfl) (hK.out (.agg #[.int .i64 (1), .int .i64 (0), .string ⟨#[]⟩, .slice none 0 0, .slice none 0 0, .slice none 0 0]) _ (Below.refl _ _) rfl)
    refine ⟨?_, ?_⟩
    · refine fact_free rfl (fun V w hB hF K hK => ?_)
      go_simp
      exact put_is (by kernel_rfl) (hK.out (.agg #[.int .i64 (2), .int .i64 (0), .string ⟨#[]⟩, .slice none 0 0, .slice none 0 0, .slice none 0 0]) _ (Below.refl _ _) rfl)
    refine ⟨?_, ?_⟩
    · refine fact_free rfl (fun V w hB hF K hK => ?_)
      go_simp
      exact put_is (by kernel_rfl) (hK.out (.func (.func 5) #[] #[]) _ (Below.refl _ _) rfl)
    refine ⟨?_, ?_⟩
    · refine fact_free rfl (fun V w hB hF K hK => ?_)
      have h3 : V 3 = .func (.func 5) #[] #[] := hF.out 3 (by kernel_rfl)
      go_simp
      go_at_call 5
      refine (oknown_f (3) (-5) w).mono ?_
      rintro e w2 ⟨rfl, hb⟩
      exact put_is (by rw [h3]; kernel_rfl) (hK.out (.agg #[.int .i64 (3), .int .i64 (-5), .string ⟨#[]⟩, .slice none 0 0, .slice none 0 0, .slice none 0 0]) _ hb rfl)
    refine ⟨?_, ?_⟩
    · refine fact_free rfl (fun V w hB hF K hK => ?_)
      go_simp
      exact put_is (by kernel_rfl) (hK.out (.func (.func 5) #[] #[]) _ (Below.refl _ _) rfl)
    refine ⟨?_, ?_⟩
    · refine fact_free rfl (fun V w hB hF K hK => ?_)
      have h5 : V 5 = .func (.func 5) #[] #[] := hF.out 5 (by kernel_rfl)
      go_simp
      go_at_call 5
      refine (oknown_f (4) (7) w).mono ?_
      rintro e w2 ⟨rfl, hb⟩
      exact put_is (by rw [h5]; kernel_rfl) (hK.out (.agg #[.int .i64 (4), .int .i64 (7), .string ⟨#[]⟩, .slice none 0 0, .slice none 0 0, .slice none 0 0]) _ hb rfl)
    refine ⟨?_, ?_⟩
    · refine fact_free rfl (fun V w hB hF K hK => ?_)
      go_simp
      exact put_is (by kernel_rfl) (hK.out (.agg #[.int .i64 (5), .int .i64 (0), .string ⟨#[]⟩, .slice none 0 0, .slice none 0 0, .slice none 0 0]) _ (Below.refl _ _) rfl)
    refine ⟨?_, ?_⟩
    · refine fact_free rfl (fun V w hB hF K hK => ?_)
      go_simp
      exact put_is (by kernel_rfl) (hK.out (.agg #[.int .i64 (5), .int .i64 (0), .string ⟨#[97]⟩, .slice none 0 0, .slice none 0 0, .slice none 0 0]) _ (Below.refl _ _) rfl)
    refine ⟨?_, ?_⟩
    · refine fact_free rfl (fun V w hB hF K hK => ?_)
      go_simp
      exact put_is (by kernel_rfl) (hK.out (.agg #[.int .i64 (6), .int .i64 (0), .string ⟨#[]⟩, .slice none 0 0, .slice none 0 0, .slice none 0 0]) _ (Below.refl _ _) rfl)
    refine ⟨?_, ?_⟩
    · refine fact_free rfl (fun V w hB hF K hK => ?_)
      go_simp
      exact put_is (by kernel_rfl) (hK.out (.func (.func 5) #[] #[]) _ (Below.refl _ _) rfl)
    refine ⟨?_, ?_⟩
    · refine fact_free rfl (fun V w hB hF K hK => ?_)
      have h10 : V 10 = .func (.func 5) #[] #[] := hF.out 10 (by kernel_rfl)
      go_simp
      go_at_call 5
      refine (oknown_f (3) (1) w).mono ?_
      rintro e w2 ⟨rfl, hb⟩
      exact put_is (by rw [h10]; kernel_rfl) (hK.out (.agg #[.int .i64 (3), .int .i64 (1), .string ⟨#[]⟩, .slice none 0 0, .slice none 0 0, .slice none 0 0]) _ hb rfl)
    refine ⟨?_, ?_⟩
    · refine fact_free rfl (fun V w hB hF K hK => ?_)
      have h11 : V 11 = .agg #[.int .i64 (3), .int .i64 (1), .string ⟨#[]⟩, .slice none 0 0, .slice none 0 0, .slice none 0 0] := hF.out 11 (by kernel_rfl)
      go_simp
      exact put_is (by rw [h11]; kernel_rfl) (hK.out (.agg #[.string ⟨#[97]⟩, .int .i64 (3), .int .i64 (1), .string ⟨#[]⟩, .slice none 0 0, .slice none 0 0, .slice none 0 0]) _ (Below.refl _ _) rfl)
    refine ⟨?_, ?_⟩
    · refine fact_free rfl (fun V w hB hF K hK => ?_)
      have h12 : V 12 = .agg #[.string ⟨#[97]⟩, .int .i64 (3), .int .i64 (1), .string ⟨#[]⟩, .slice none 0 0, .slice none 0 0, .slice none 0 0] := hF.out 12 (by kernel_rfl)
      go_simp
      exact put_is (by rw [h12]; kernel_rfl) (hK.out _ _ ((Below.refl _ w).alloc (Nat.le_refl _) _) ⟨w.heap.size, rfl, heap_alloc_new w _⟩)
    refine ⟨?_, ?_⟩
    · refine fact_free rfl (fun V w hB hF K hK => ?_)
      obtain ⟨gg, h13, hr⟩ := hF.out 13 (by kernel_rfl)
      go_simp
      exact put_is (by rw [h13]; kernel_rfl) (hK.out _ _ (Below.refl _ _) ⟨gg, rfl, hr⟩)
    refine ⟨?_, ?_⟩
    · refine fact_free rfl (fun V w hB hF K hK => ?_)
      go_simp
      exact put_is (by kernel_rfl) (hK.out (.agg #[.int .i64 (7), .int .i64 (0), .string ⟨#[]⟩, .slice none 0 0, .slice none 0 0, .slice none 0 0]) _ (Below.refl _ _) rfl)
    refine ⟨?_, ?_⟩
    · refine fact_free rfl (fun V w hB hF K hK => ?_)
      go_simp
      exact put_is (by kernel_rfl) (hK.out (.func (.func 5) #[] #[]) _ (Below.refl _ _) rfl)
    refine ⟨?_, ?_⟩
    · refine fact_free rfl (fun V w hB hF K hK => ?_)
      have h16 : V 16 = .func (.func 5) #[] #[] := hF.out 16 (by kernel_rfl)
      go_simp
      go_at_call 5
      refine (oknown_f (3) (1) w).mono ?_
      rintro e w2 ⟨rfl, hb⟩
      exact put_is (by rw [h16]; kernel_rfl) (hK.out (.agg #[.int .i64 (3), .int .i64 (1), .string ⟨#[]⟩, .slice none 0 0, .slice none 0 0, .slice none 0 0]) _ hb rfl)
    refine ⟨?_, ?_⟩
    · refine fact_free rfl (fun V w hB hF K hK => ?_)
      have h17 : V 17 = .agg #[.int .i64 (3), .int .i64 (1), .string ⟨#[]⟩, .slice none 0 0, .slice none 0 0, .slice none 0 0] := hF.out 17 (by kernel_rfl)
      go_simp
      exact put_is (by rw [h17]; kernel_rfl) (hK.out _ _ ((Below.refl _ w).alloc (Nat.le_refl _) _) ⟨w.heap.size, rfl, heap_alloc_new w _⟩)
    refine ⟨?_, ?_⟩
    · refine fact_free rfl (fun V w hB hF K hK => ?_)
      obtain ⟨gg, h18, hr⟩ := hF.out 18 (by kernel_rfl)
      go_simp
      exact put_is (by rw [h18]; kernel_rfl) (hK.out _ _ (Below.refl _ _) ⟨gg, rfl, hr⟩)
    refine ⟨?_, ?_⟩
    · refine fact_free rfl (fun V w hB hF K hK => ?_)
      go_simp
      exact put_is (by kernel_rfl) (hK.out _ _ ((Below.refl _ w).alloc (Nat.le_refl _) _) ⟨w.heap.size, rfl, heap_alloc_new w _⟩)
    refine ⟨?_, ?_⟩
    · refine fact_free rfl (fun V w hB hF K hK => ?_)
      obtain ⟨gg, h20, hr⟩ := hF.out 20 (by kernel_rfl)
      go_simp
      exact put_is (by rw [h20]; kernel_rfl) (hK.out _ _ (Below.refl _ _) ⟨gg, rfl, hr⟩)
    refine ⟨?_, ?_⟩
    · refine fact_free rfl (fun V w hB hF K hK => ?_)
      go_simp
      exact put_is (by kernel_rfl) (hK.out _ _ ((Below.refl _ w).alloc (Nat.le_refl _) _) ⟨w.heap.size, rfl, heap_alloc_new w _⟩)
    refine ⟨?_, ?_⟩
    · refine fact_free rfl (fun V w hB hF K hK => ?_)
      obtain ⟨gg, h22, hr⟩ := hF.out 22 (by kernel_rfl)
      go_simp
      exact put_is (by rw [h22]; kernel_rfl) (hK.out _ _ (Below.refl _ _) ⟨gg, rfl, hr⟩)
    refine ⟨?_, ?_⟩
    · refine fact_free rfl (fun V w hB hF K hK => ?_)
      have hmk := run_make12o w
      have hb : Below w.heap.size w (w.alloc (.cells (madeCells #[.int .u8 0] 12) 5)) := (Below.refl _ w).alloc (Nat.le_refl _) _
      have hrow := Row.made (w := w) 12
      generalize w.alloc (.cells (madeCells #[.int .u8 0] 12) 5) = w2 at *
      go_simp
      exact put_is (by kernel_rfl) (hK.out _ _ hb ⟨w.heap.size, rfl, hrow⟩)
    refine ⟨?_, ?_⟩
    · refine fact_free rfl (fun V w hB hF K hK => ?_)
      obtain ⟨gg, h24, hr⟩ := hF.out 24 (by kernel_rfl)
      go_simp
      exact put_is (by rw [h24]; kernel_rfl) (hK.out _ _ (Below.refl _ _) ⟨gg, rfl, hr⟩)
    refine ⟨?_, ?_⟩
    · refine fact_free rfl (fun V w hB hF K hK => ?_)
      go_simp
      exact put_is (by kernel_rfl) (hK.out (.func (.func 5) #[] #[]) _ (Below.refl _ _) rfl)
    refine ⟨?_, ?_⟩
    · refine fact_free rfl (fun V w hB hF K hK => ?_)
      have h26 : V 26 = .func (.func 5) #[] #[] := hF.out 26 (by kernel_rfl)
      go_simp
      go_at_call 5
      refine (oknown_f (10) (0) w).mono ?_
      rintro e w2 ⟨rfl, hb⟩
      exact put_is (by rw [h26]; kernel_rfl) (hK.out (.agg #[.int .i64 (10), .int .i64 (0), .string ⟨#[]⟩, .slice none 0 0, .slice none 0 0, .slice none 0 0]) _ hb rfl)
    refine ⟨?_, ?_⟩
    · refine fact_free rfl (fun V w hB hF K hK => ?_)
      go_simp
      exact put_is (by kernel_rfl) (hK.out (.func (.func 5) #[] #[]) _ (Below.refl _ _) rfl)
    refine ⟨?_, ?_⟩
    · refine fact_free rfl (fun V w hB hF K hK => ?_)
      have h28 : V 28 = .func (.func 5) #[] #[] := hF.out 28 (by kernel_rfl)
      go_simp
      go_at_call 5
      refine (oknown_f (10) (1) w).mono ?_
      rintro e w2 ⟨rfl, hb⟩
      exact put_is (by rw [h28]; kernel_rfl) (hK.out (.agg #[.int .i64 (10), .int .i64 (1), .string ⟨#[]⟩, .slice none 0 0, .slice none 0 0, .slice none 0 0]) _ hb rfl)
    refine ⟨?_, ?_⟩
    · refine fact_free rfl (fun V w hB hF K hK => ?_)
      go_simp
      exact put_is (by kernel_rfl) (hK.out (.func (.func 5) #[] #[]) _ (Below.refl _ _) rfl)
    refine ⟨?_, ?_⟩
    · refine fact_free rfl (fun V w hB hF K hK => ?_)
      have h30 : V 30 = .func (.func 5) #[] #[] := hF.out 30 (by kernel_rfl)
      go_simp
      go_at_call 5
      refine (oknown_f (11) (-3) w).mono ?_
      rintro e w2 ⟨rfl, hb⟩
      exact put_is (by rw [h30]; kernel_rfl) (hK.out (.agg #[.int .i64 (11), .int .i64 (-3), .string ⟨#[]⟩, .slice none 0 0, .slice none 0 0, .slice none 0 0]) _ hb rfl)
    refine ⟨?_, ?_⟩
    · refine fact_free rfl (fun V w hB hF K hK => ?_)
      go_simp
      exact put_is (by kernel_rfl) (hK.out (.agg #[.int .i64 (12), .int .i64 (0), .string ⟨#[]⟩, .slice none 0 0, .slice none 0 0, .slice none 0 0]) _ (Below.refl _ _) rfl)
    refine ⟨?_, ?_⟩
    · refine fact_free rfl (fun V w hB hF K hK => ?_)
      have h0 : V 0 = .agg #[.int .i64 (0), .int .i64 (0), .string ⟨#[]⟩, .slice none 0 0, .slice none 0 0, .slice none 0 0] := hF.out 0 (by kernel_rfl)
      have h1 : V 1 = .agg #[.int .i64 (1), .int .i64 (0), .string ⟨#[]⟩, .slice none 0 0, .slice none 0 0, .slice none 0 0] := hF.out 1 (by kernel_rfl)
      have h2 : V 2 = .agg #[.int .i64 (2), .int .i64 (0), .string ⟨#[]⟩, .slice none 0 0, .slice none 0 0, .slice none 0 0] := hF.out 2 (by kernel_rfl)
      have h4 : V 4 = .agg #[.int .i64 (3), .int .i64 (-5), .string ⟨#[]⟩, .slice none 0 0, .slice none 0 0, .slice none 0 0] := hF.out 4 (by kernel_rfl)
      have h6 : V 6 = .agg #[.int .i64 (4), .int .i64 (7), .string ⟨#[]⟩, .slice none 0 0, .slice none 0 0, .slice none 0 0] := hF.out 6 (by kernel_rfl)
      have h7 : V 7 = .agg #[.int .i64 (5), .int .i64 (0), .string ⟨#[]⟩, .slice none 0 0, .slice none 0 0, .slice none 0 0] := hF.out 7 (by kernel_rfl)
      have h8 : V 8 = .agg #[.int .i64 (5), .int .i64 (0), .string ⟨#[97]⟩, .slice none 0 0, .slice none 0 0, .slice none 0 0] := hF.out 8 (by kernel_rfl)
      have h9 : V 9 = .agg #[.int .i64 (6), .int .i64 (0), .string ⟨#[]⟩, .slice none 0 0, .slice none 0 0, .slice none 0 0] := hF.out 9 (by kernel_rfl)
      obtain ⟨g1, h14, hg1⟩ := hF.out 14 (by kernel_rfl)
      have h15 : V 15 = .agg #[.int .i64 (7), .int .i64 (0), .string ⟨#[]⟩, .slice none 0 0, .slice none 0 0, .slice none 0 0] := hF.out 15 (by kernel_rfl)
      obtain ⟨g2, h19, hg2⟩ := hF.out 19 (by kernel_rfl)
      obtain ⟨g3, h21, hg3⟩ := hF.out 21 (by kernel_rfl)
      obtain ⟨g4, h23, hg4⟩ := hF.out 23 (by kernel_rfl)
      obtain ⟨g5, h25, hg5⟩ := hF.out 25 (by kernel_rfl)
      have h27 : V 27 = .agg #[.int .i64 (10), .int .i64 (0), .string ⟨#[]⟩, .slice none 0 0, .slice none 0 0, .slice none 0 0] := hF.out 27 (by kernel_rfl)
      have h29 : V 29 = .agg #[.int .i64 (10), .int .i64 (1), .string ⟨#[]⟩, .slice none 0 0, .slice none 0 0, .slice none 0 0] := hF.out 29 (by kernel_rfl)
      have h31 : V 31 = .agg #[.int .i64 (11), .int .i64 (-3), .string ⟨#[]⟩, .slice none 0 0, .slice none 0 0, .slice none 0 0] := hF.out 31 (by kernel_rfl)
      have h32 : V 32 = .agg #[.int .i64 (12), .int .i64 (0), .string ⟨#[]⟩, .slice none 0 0, .slice none 0 0, .slice none 0 0] := hF.out 32 (by kernel_rfl)
      have hb : Below w.heap.size w (w.alloc (.cells #[.int .i64 (0), .int .i64 (0), .string ⟨#[]⟩, .slice none 0 0, .slice none 0 0, .slice none 0 0, .int .i64 (1), .int .i64 (0), .string ⟨#[]⟩, .slice none 0 0, .slice none 0 0, .slice none 0 0, .int .i64 (2), .int .i64 (0), .string ⟨#[]⟩, .slice none 0 0, .slice none 0 0, .slice none 0 0, .int .i64 (3), .int .i64 (-5), .string ⟨#[]⟩, .slice none 0 0, .slice none 0 0, .slice none 0 0, .int .i64 (4), .int .i64 (7), .string ⟨#[]⟩, .slice none 0 0, .slice none 0 0, .slice none 0 0, .int .i64 (5), .int .i64 (0), .string ⟨#[]⟩, .slice none 0 0, .slice none 0 0, .slice none 0 0, .int .i64 (5), .int .i64 (0), .string ⟨#[97]⟩, .slice none 0 0, .slice none 0 0, .slice none 0 0, .int .i64 (6), .int .i64 (0), .string ⟨#[]⟩, .slice none 0 0, .slice none 0 0, .slice none 0 0, .int .i64 (6), .int .i64 (0), .string ⟨#[]⟩, .slice none 0 0, .slice (some ⟨g1, 0, none⟩) 1 1, .slice none 0 0, .int .i64 (7), .int .i64 (0), .string ⟨#[]⟩, .slice none 0 0, .slice none 0 0, .slice none 0 0, .int .i64 (7), .int .i64 (0), .string ⟨#[]⟩, .slice none 0 0, .slice none 0 0, .slice (some ⟨g2, 0, none⟩) 1 1, .int .i64 (8), .int .i64 (0), .string ⟨#[]⟩, .slice (some ⟨g3, 0, none⟩) 1 1, .slice none 0 0, .slice none 0 0, .int .i64 (8), .int .i64 (0), .string ⟨#[]⟩, .slice (some ⟨g4, 0, none⟩) 2 2, .slice none 0 0, .slice none 0 0, .int .i64 (9), .int .i64 (0), .string ⟨#[]⟩, .slice (some ⟨g5, 0, none⟩) 12 12, .slice none 0 0, .slice none 0 0, .int .i64 (10), .int .i64 (0), .string ⟨#[]⟩, .slice none 0 0, .slice none 0 0, .slice none 0 0, .int .i64 (10), .int .i64 (1), .string ⟨#[]⟩, .slice none 0 0, .slice none 0 0, .slice none 0 0, .int .i64 (11), .int .i64 (-3), .string ⟨#[]⟩, .slice none 0 0, .slice none 0 0, .slice none 0 0, .int .i64 (12), .int .i64 (0), .string ⟨#[]⟩, .slice none 0 0, .slice none 0 0, .slice none 0 0] 27)) := (Below.refl _ w).alloc (Nat.le_refl _) _
      have hI := oknown_items (w := w.alloc (.cells #[.int .i64 (0), .int .i64 (0), .string ⟨#[]⟩, .slice none 0 0, .slice none 0 0, .slice none 0 0, .int .i64 (1), .int .i64 (0), .string ⟨#[]⟩, .slice none 0 0, .slice none 0 0, .slice none 0 0, .int .i64 (2), .int .i64 (0), .string ⟨#[]⟩, .slice none 0 0, .slice none 0 0, .slice none 0 0, .int .i64 (3), .int .i64 (-5), .string ⟨#[]⟩, .slice none 0 0, .slice none 0 0, .slice none 0 0, .int .i64 (4), .int .i64 (7), .string ⟨#[]⟩, .slice none 0 0, .slice none 0 0, .slice none 0 0, .int .i64 (5), .int .i64 (0), .string ⟨#[]⟩, .slice none 0 0, .slice none 0 0, .slice none 0 0, .int .i64 (5), .int .i64 (0), .string ⟨#[97]⟩, .slice none 0 0, .slice none 0 0, .slice none 0 0, .int .i64 (6), .int .i64 (0), .string ⟨#[]⟩, .slice none 0 0, .slice none 0 0, .slice none 0 0, .int .i64 (6), .int .i64 (0), .string ⟨#[]⟩, .slice none 0 0, .slice (some ⟨g1, 0, none⟩) 1 1, .slice none 0 0, .int .i64 (7), .int .i64 (0), .string ⟨#[]⟩, .slice none 0 0, .slice none 0 0, .slice none 0 0, .int .i64 (7), .int .i64 (0), .string ⟨#[]⟩, .slice none 0 0, .slice none 0 0, .slice (some ⟨g2, 0, none⟩) 1 1, .int .i64 (8), .int .i64 (0), .string ⟨#[]⟩, .slice (some ⟨g3, 0, none⟩) 1 1, .slice none 0 0, .slice none 0 0, .int .i64 (8), .int .i64 (0), .string ⟨#[]⟩, .slice (some ⟨g4, 0, none⟩) 2 2, .slice none 0 0, .slice none 0 0, .int .i64 (9), .int .i64 (0), .string ⟨#[]⟩, .slice (some ⟨g5, 0, none⟩) 12 12, .slice none 0 0, .slice none 0 0, .int .i64 (10), .int .i64 (0), .string ⟨#[]⟩, .slice none 0 0, .slice none 0 0, .slice none 0 0, .int .i64 (10), .int .i64 (1), .string ⟨#[]⟩, .slice none 0 0, .slice none 0 0, .slice none 0 0, .int .i64 (11), .int .i64 (-3), .string ⟨#[]⟩, .slice none 0 0, .slice none 0 0, .slice none 0 0, .int .i64 (12), .int .i64 (0), .string ⟨#[]⟩, .slice none 0 0, .slice none 0 0, .slice none 0 0] 27)) (g := w.heap.size) g1 g2 g3 g4 g5 (heap_alloc_new w _) ((hb.block g1 (Array.getElem?_eq_some_iff.1 hg1).1).trans hg1) ((hb.block g2 (Array.getElem?_eq_some_iff.1 hg2).1).trans hg2) (Row.same hg3 (hb.block g3 hg3.lt)) (Row.same hg4 (hb.block g4 hg4.lt)) (Row.same hg5 (hb.block g5 hg5.lt))
      go_simp
      exact put_is (by rw [h0, h1, h2, h4, h6, h7, h8, h9, h14, h15, h19, h21, h23, h25, h27, h29, h31, h32]; kernel_rfl) (hK.out (.slice (some ⟨w.heap.size, 0, none⟩) 18 18) _ hb ⟨w.heap.size, rfl, hI⟩)
    refine ⟨?_, ?_⟩
    · refine fact_free rfl (fun V w hB hF K hK => ?_)
      obtain ⟨g, h33, hI⟩ := hF.out 33 (by kernel_rfl)
      go_simp
      exact put_is (by rw [h33]; kernel_rfl) (hK.out _ _ (Below.refl _ _) ⟨g, rfl, hI⟩)
    trivial
  intro V w2 hb2 hf
  obtain ⟨g, hv, hI⟩ := hf 34 (by decide)
  have HB0 : Hid (Below w.heap.size w w2) := HB1.out.trans (hb2.mono HB1.out.size)
  have HI0 := Lib.hid hI
  have hv : V 34 = .slice (some ⟨g, 0, none⟩) 18 18 := hv
  clear hb2 hI hf HB1
  go_wp2_with fail
  go_loopw [3] (fun i wr => ∃ a : Nat, i = .int .i64 a ∧ a ≤ 18 ∧ Hid (Below w.heap.size w wr) ∧ Hid (ItemsIn wr (fun _ => True) (VIn wr (fun _ => True) 2) (some ⟨g, 0, none⟩) oknownL)) (fun i _ => 18 - (intOf i).toNat)
  case atStart => exact ⟨0, rfl, by decide, HB0, HI0⟩
  case round =>
    clear HB0 HI0
    obtain ⟨a, rfl, ha, HB1, HI1⟩ := hrel
    by_cases hlt : a < 18
    · have hd : decide ((a : Int) < 18) = true := decide_eq_true (by omega)
      have hwa : IntKind.i64.wrap ((a : Int) + 1) = (a : Int) + 1 := IntWalk.i64_in _ (by omega)
      go_wp2_with fail
      go_loopw [4] (fun i wr => ∃ b : Nat, i = .int .i64 b ∧ b ≤ 18 ∧ Hid (Below w.heap.size w wr) ∧ Hid (ItemsIn wr (fun _ => True) (VIn wr (fun _ => True) 2) (some ⟨g, 0, none⟩) oknownL)) (fun i _ => 18 - (intOf i).toNat)
      case atStart => exact ⟨0, rfl, by decide, HB1, HI1⟩
      case round =>
        clear HB1 HI1
        obtain ⟨b, rfl, hbb, HB2, HI2⟩ := hrel
        by_cases hlt2 : b < 18
        · have hd2 : decide ((b : Int) < 18) = true := decide_eq_true (by omega)
          have hwb : IntKind.i64.wrap ((b : Int) + 1) = (b : Int) + 1 := IntWalk.i64_in _ (by omega)
          obtain ⟨_, _, e0, _, hall⟩ := HI2.out.resolve_left (by intro e; exact absurd e (by simp [oknownL]))
          injection e0 with e0
          injection e0 with e1 e2 _
          subst e1
          subst e2
          obtain ⟨u1, hx1, hV1⟩ := hall a hlt
          obtain ⟨u2, hx2, hV2⟩ := hall b hlt2
          obtain ⟨p1, p2, p3, a1, a2, a3, n1, c1, n2, c2, n3, c3, rfl⟩ := VIn.shape (h := 2) hV1
          obtain ⟨q1, q2, q3, b1, b2, b3, m1, d1, m2, d2, m3, d3, rfl⟩ := VIn.shape (h := 2) hV2
          obtain ⟨s0, s1, s2, s3, s4, s5⟩ := hx1.cells
          obtain ⟨t0, t1, t2, t3, t4, t5⟩ := hx2.cells
          rw [Nat.zero_add] at s0 s1 s2 s3 s4 s5 t0 t1 t2 t3 t4 t5
          have hli : (a : Int) < 18 := by omega
          have hlj : (b : Int) < 18 := by omega
          have hb1 : Below wr.heap.size wr wr.drew := (Below.refl _ wr).drew
          have HC := Lib.hid (compare_any 2 _ _ _ _ _ _ wr.drew (VIn.keep (h := 2) hb1 hV1) (VIn.keep (h := 2) hb1 hV2))
          rw [oknown_order a b hlt hlt2] at HC
          clear hall hV1 hV2 hx1 hx2 hb1
          by_cases hab : a < b
          · have hd3 : decide ((a : Int) < (b : Int)) = true := decide_eq_true (by omega)
            have hd4 : decide ((a : Int) > (b : Int)) = false := decide_eq_false (by omega)
            have hd5 : decide ((b : Int) < (a : Int)) = false := decide_eq_false (by omega)
            rw [Order.sgn_lt (by omega)] at HC
            go_wp2_with fail
            refine wp_region_held_drew (S := fun _ => True) (by kernel_rfl) trivial (fun hHeld => ?_)
            refine wpAnyH_take (i := 0) (v := ?_) rfl (by kernel_rfl) (by kernel_rfl) (by kernel_rfl) (fun _ _ _ h => h) (Or.inl ⟨by kernel_rfl, ?_⟩) (by assumption) ?_
            rotate_left
            · intro wS hSw
              go_simp
              try (with_reducible rfl)
            try simp only [List.getElem_toArray, List.getElem_cons_succ, List.getElem_cons_zero, Act.put, List.setIfInBounds_toArray, List.set_cons_zero, List.set_cons_succ]
            refine wpAnyH_take (i := 1) (v := ?_) rfl (by kernel_rfl) (by kernel_rfl) (by kernel_rfl) (fun _ _ _ h => h) (Or.inl ⟨by kernel_rfl, ?_⟩) (by assumption) ?_
            rotate_left
            · intro wS hSw
              go_simp
              try (with_reducible rfl)
            try simp only [List.getElem_toArray, List.getElem_cons_succ, List.getElem_cons_zero, Act.put, List.setIfInBounds_toArray, List.set_cons_zero, List.set_cons_succ]
            refine wpAnyH_take (i := 2) (v := ?_) rfl (by kernel_rfl) (by kernel_rfl) (by kernel_rfl) (fun _ _ _ h => h) (Or.inl ⟨by kernel_rfl, ?_⟩) (by assumption) ?_
            rotate_left
            · intro wS hSw
              go_simp
              try (with_reducible rfl)
            try simp only [List.getElem_toArray, List.getElem_cons_succ, List.getElem_cons_zero, Act.put, List.setIfInBounds_toArray, List.set_cons_zero, List.set_cons_succ]
            refine wpAnyH_take (i := 4) (v := ?_) rfl (by kernel_rfl) (by kernel_rfl) (by kernel_rfl) (fun _ _ _ h => h) (Or.inl ⟨by kernel_rfl, ?_⟩) (by assumption) ?_
            rotate_left
            · intro wS hSw
              go_simp
              try (with_reducible rfl)
            try simp only [List.getElem_toArray, List.getElem_cons_succ, List.getElem_cons_zero, Act.put, List.setIfInBounds_toArray, List.set_cons_zero, List.set_cons_succ]
            refine wpAnyH_take (i := 5) (v := ?_) rfl (by kernel_rfl) (by kernel_rfl) (by kernel_rfl) (fun _ _ _ h => h) (Or.inl ⟨by kernel_rfl, ?_⟩) (by assumption) ?_
            rotate_left
            · intro wS hSw
              go_simp
              try (with_reducible rfl)
            try simp only [List.getElem_toArray, List.getElem_cons_succ, List.getElem_cons_zero, Act.put, List.setIfInBounds_toArray, List.set_cons_zero, List.set_cons_succ]
            refine wpAnyH_take (i := 6) (v := ?_) rfl (by kernel_rfl) (by kernel_rfl) (by kernel_rfl) (fun _ _ _ h => h) (Or.inl ⟨by kernel_rfl, ?_⟩) (by assumption) ?_
            rotate_left
            · intro wS hSw
              go_simp
              try (with_reducible rfl)
            try simp only [List.getElem_toArray, List.getElem_cons_succ, List.getElem_cons_zero, Act.put, List.setIfInBounds_toArray, List.set_cons_zero, List.set_cons_succ]
            refine wpAnyH_take (i := 9) (v := ?_) rfl (by kernel_rfl) (by kernel_rfl) (by kernel_rfl) (fun _ _ _ h => h) (Or.inl ⟨by kernel_rfl, ?_⟩) (by assumption) ?_
            rotate_left
            · intro wS hSw
              go_simp
              try (with_reducible rfl)
            try simp only [List.getElem_toArray, List.getElem_cons_succ, List.getElem_cons_zero, Act.put, List.setIfInBounds_toArray, List.set_cons_zero, List.set_cons_succ]
            refine wpAnyH_ready (rs := [3, 7]) (by kernel_rfl) (by simp) ?_
            refine AllReadyH.cons rfl (fun K hK => ?_) (AllReadyH.cons rfl (fun K hK => ?_) (AllReadyH.nil))
            · go_simp
              refine hK.out _ _ trivial (fun hHeld => ?_)
              clear hK K
              try simp only [List.getElem_toArray, List.getElem_cons_succ, List.getElem_cons_zero, Act.put, List.setIfInBounds_toArray, List.set_cons_zero, List.set_cons_succ]
              refine wpAnyH_ready (rs := [7]) (by kernel_rfl) (by simp) ?_
              refine AllReadyH.cons rfl (fun K hK => ?_) (AllReadyH.nil)
              go_simp
              refine hK.out _ _ trivial (fun hHeld => ?_)
              clear hK K
              try simp only [List.getElem_toArray, List.getElem_cons_succ, List.getElem_cons_zero, Act.put, List.setIfInBounds_toArray, List.set_cons_zero, List.set_cons_succ]
              refine wpAnyH_ready (rs := [8]) (by kernel_rfl) (by simp) ?_
              refine AllReadyH.cons rfl (fun K hK => ?_) (AllReadyH.nil)
              go_simp
              go_at_call 6
              refine HC.out.mono ?_
              rintro e w5 ⟨rfl, hb5⟩
              have HB5 : Hid (Below w.heap.size w w5) := HB2.out.trans ((((Below.refl _ wr).drew).trans (hb5.mono (Nat.le_refl _))).mono HB2.out.size)
              have HI5 : Hid (ItemsIn w5 (fun _ => True) (VIn w5 (fun _ => True) 2) (some ⟨g, 0, none⟩) oknownL) := HI2.out.kept (Kept.of_below (((Below.refl _ wr).drew).trans hb5)) (fun _ z => z) (fun _ _ z => VIn.keep (h := 2) (((Below.refl _ wr).drew).trans hb5) z)
              clear hb5
              refine hK.out _ _ trivial (fun hHeld => ?_)
              clear hK K
              try simp only [List.getElem_toArray, List.getElem_cons_succ, List.getElem_cons_zero, Act.put, List.setIfInBounds_toArray, List.set_cons_zero, List.set_cons_succ]
              refine wpAnyH_take (i := 10) (v := ?_) rfl (by kernel_rfl) (by kernel_rfl) (by kernel_rfl) (fun _ _ _ h => h) (Or.inl ⟨by kernel_rfl, ?_⟩) (by assumption) ?_
              rotate_left
              · intro wS hSw
                go_simp
                try (with_reducible rfl)
              try simp only [List.getElem_toArray, List.getElem_cons_succ, List.getElem_cons_zero, Act.put, List.setIfInBounds_toArray, List.set_cons_zero, List.set_cons_succ]
              refine wpAnyH_done (by kernel_rfl) ?_ _
              go_wp2_with fail
              go_roundw
              case rel => exact ⟨b + 1, by go_num, by omega, HB5, HI5⟩
              case measure => simp [intOf]; omega
            · go_simp
              refine hK.out _ _ trivial (fun hHeld => ?_)
              clear hK K
              try simp only [List.getElem_toArray, List.getElem_cons_succ, List.getElem_cons_zero, Act.put, List.setIfInBounds_toArray, List.set_cons_zero, List.set_cons_succ]
              refine wpAnyH_ready (rs := [3]) (by kernel_rfl) (by simp) ?_
              refine AllReadyH.cons rfl (fun K hK => ?_) (AllReadyH.nil)
              go_simp
              refine hK.out _ _ trivial (fun hHeld => ?_)
              clear hK K
              try simp only [List.getElem_toArray, List.getElem_cons_succ, List.getElem_cons_zero, Act.put, List.setIfInBounds_toArray, List.set_cons_zero, List.set_cons_succ]
              refine wpAnyH_ready (rs := [8]) (by kernel_rfl) (by simp) ?_
              refine AllReadyH.cons rfl (fun K hK => ?_) (AllReadyH.nil)
              go_simp
              go_at_call 6
              refine HC.out.mono ?_
              rintro e w5 ⟨rfl, hb5⟩
              have HB5 : Hid (Below w.heap.size w w5) := HB2.out.trans ((((Below.refl _ wr).drew).trans (hb5.mono (Nat.le_refl _))).mono HB2.out.size)
              have HI5 : Hid (ItemsIn w5 (fun _ => True) (VIn w5 (fun _ => True) 2) (some ⟨g, 0, none⟩) oknownL) := HI2.out.kept (Kept.of_below (((Below.refl _ wr).drew).trans hb5)) (fun _ z => z) (fun _ _ z => VIn.keep (h := 2) (((Below.refl _ wr).drew).trans hb5) z)
              clear hb5
              refine hK.out _ _ trivial (fun hHeld => ?_)
              clear hK K
              try simp only [List.getElem_toArray, List.getElem_cons_succ, List.getElem_cons_zero, Act.put, List.setIfInBounds_toArray, List.set_cons_zero, List.set_cons_succ]
              refine wpAnyH_take (i := 10) (v := ?_) rfl (by kernel_rfl) (by kernel_rfl) (by kernel_rfl) (fun _ _ _ h => h) (Or.inl ⟨by kernel_rfl, ?_⟩) (by assumption) ?_
              rotate_left
              · intro wS hSw
                go_simp
                try (with_reducible rfl)
              try simp only [List.getElem_toArray, List.getElem_cons_succ, List.getElem_cons_zero, Act.put, List.setIfInBounds_toArray, List.set_cons_zero, List.set_cons_succ]
              refine wpAnyH_done (by kernel_rfl) ?_ _
              go_wp2_with fail
              go_roundw
              case rel => exact ⟨b + 1, by go_num, by omega, HB5, HI5⟩
              case measure => simp [intOf]; omega
          · have hd3 : decide ((a : Int) < (b : Int)) = false := decide_eq_false (by omega)
            by_cases hba : b < a
            · have hd4 : decide ((a : Int) > (b : Int)) = true := decide_eq_true (by omega)
              have hd5 : decide ((b : Int) < (a : Int)) = true := decide_eq_true (by omega)
              rw [Order.sgn_gt (by omega)] at HC
              go_wp2_with fail
              refine wp_region_held_drew (S := fun _ => True) (by kernel_rfl) trivial (fun hHeld => ?_)
              refine wpAnyH_take (i := 0) (v := ?_) rfl (by kernel_rfl) (by kernel_rfl) (by kernel_rfl) (fun _ _ _ h => h) (Or.inl ⟨by kernel_rfl, ?_⟩) (by assumption) ?_
              rotate_left
              · intro wS hSw
                go_simp
                try (with_reducible rfl)
              try simp only [List.getElem_toArray, List.getElem_cons_succ, List.getElem_cons_zero, Act.put, List.setIfInBounds_toArray, List.set_cons_zero, List.set_cons_succ]
              refine wpAnyH_take (i := 1) (v := ?_) rfl (by kernel_rfl) (by kernel_rfl) (by kernel_rfl) (fun _ _ _ h => h) (Or.inl ⟨by kernel_rfl, ?_⟩) (by assumption) ?_
              rotate_left
              · intro wS hSw
                go_simp
                try (with_reducible rfl)
              try simp only [List.getElem_toArray, List.getElem_cons_succ, List.getElem_cons_zero, Act.put, List.setIfInBounds_toArray, List.set_cons_zero, List.set_cons_succ]
              refine wpAnyH_take (i := 2) (v := ?_) rfl (by kernel_rfl) (by kernel_rfl) (by kernel_rfl) (fun _ _ _ h => h) (Or.inl ⟨by kernel_rfl, ?_⟩) (by assumption) ?_
              rotate_left
              · intro wS hSw
                go_simp
                try (with_reducible rfl)
              try simp only [List.getElem_toArray, List.getElem_cons_succ, List.getElem_cons_zero, Act.put, List.setIfInBounds_toArray, List.set_cons_zero, List.set_cons_succ]
              refine wpAnyH_take (i := 4) (v := ?_) rfl (by kernel_rfl) (by kernel_rfl) (by kernel_rfl) (fun _ _ _ h => h) (Or.inl ⟨by kernel_rfl, ?_⟩) (by assumption) ?_
              rotate_left
              · intro wS hSw
                go_simp
                try (with_reducible rfl)
              try simp only [List.getElem_toArray, List.getElem_cons_succ, List.getElem_cons_zero, Act.put, List.setIfInBounds_toArray, List.set_cons_zero, List.set_cons_succ]
              refine wpAnyH_take (i := 5) (v := ?_) rfl (by kernel_rfl) (by kernel_rfl) (by kernel_rfl) (fun _ _ _ h => h) (Or.inl ⟨by kernel_rfl, ?_⟩) (by assumption) ?_
              rotate_left
              · intro wS hSw
                go_simp
                try (with_reducible rfl)
              try simp only [List.getElem_toArray, List.getElem_cons_succ, List.getElem_cons_zero, Act.put, List.setIfInBounds_toArray, List.set_cons_zero, List.set_cons_succ]
              refine wpAnyH_take (i := 6) (v := ?_) rfl (by kernel_rfl) (by kernel_rfl) (by kernel_rfl) (fun _ _ _ h => h) (Or.inl ⟨by kernel_rfl, ?_⟩) (by assumption) ?_
              rotate_left
              · intro wS hSw
                go_simp
                try (with_reducible rfl)
              try simp only [List.getElem_toArray, List.getElem_cons_succ, List.getElem_cons_zero, Act.put, List.setIfInBounds_toArray, List.set_cons_zero, List.set_cons_succ]
              refine wpAnyH_take (i := 9) (v := ?_) rfl (by kernel_rfl) (by kernel_rfl) (by kernel_rfl) (fun _ _ _ h => h) (Or.inl ⟨by kernel_rfl, ?_⟩) (by assumption) ?_
              rotate_left
              · intro wS hSw
                go_simp
                try (with_reducible rfl)
              try simp only [List.getElem_toArray, List.getElem_cons_succ, List.getElem_cons_zero, Act.put, List.setIfInBounds_toArray, List.set_cons_zero, List.set_cons_succ]
              refine wpAnyH_ready (rs := [3, 7]) (by kernel_rfl) (by simp) ?_
              refine AllReadyH.cons rfl (fun K hK => ?_) (AllReadyH.cons rfl (fun K hK => ?_) (AllReadyH.nil))
              · go_simp
                refine hK.out _ _ trivial (fun hHeld => ?_)
                clear hK K
                try simp only [List.getElem_toArray, List.getElem_cons_succ, List.getElem_cons_zero, Act.put, List.setIfInBounds_toArray, List.set_cons_zero, List.set_cons_succ]
                refine wpAnyH_ready (rs := [7]) (by kernel_rfl) (by simp) ?_
                refine AllReadyH.cons rfl (fun K hK => ?_) (AllReadyH.nil)
                go_simp
                refine hK.out _ _ trivial (fun hHeld => ?_)
                clear hK K
                try simp only [List.getElem_toArray, List.getElem_cons_succ, List.getElem_cons_zero, Act.put, List.setIfInBounds_toArray, List.set_cons_zero, List.set_cons_succ]
                refine wpAnyH_ready (rs := [8]) (by kernel_rfl) (by simp) ?_
                refine AllReadyH.cons rfl (fun K hK => ?_) (AllReadyH.nil)
                go_simp
                go_at_call 6
                refine HC.out.mono ?_
                rintro e w5 ⟨rfl, hb5⟩
                have HB5 : Hid (Below w.heap.size w w5) := HB2.out.trans ((((Below.refl _ wr).drew).trans (hb5.mono (Nat.le_refl _))).mono HB2.out.size)
                have HI5 : Hid (ItemsIn w5 (fun _ => True) (VIn w5 (fun _ => True) 2) (some ⟨g, 0, none⟩) oknownL) := HI2.out.kept (Kept.of_below (((Below.refl _ wr).drew).trans hb5)) (fun _ z => z) (fun _ _ z => VIn.keep (h := 2) (((Below.refl _ wr).drew).trans hb5) z)
                clear hb5
                refine hK.out _ _ trivial (fun hHeld => ?_)
                clear hK K
                try simp only [List.getElem_toArray, List.getElem_cons_succ, List.getElem_cons_zero, Act.put, List.setIfInBounds_toArray, List.set_cons_zero, List.set_cons_succ]
                refine wpAnyH_take (i := 10) (v := ?_) rfl (by kernel_rfl) (by kernel_rfl) (by kernel_rfl) (fun _ _ _ h => h) (Or.inl ⟨by kernel_rfl, ?_⟩) (by assumption) ?_
                rotate_left
                · intro wS hSw
                  go_simp
                  try (with_reducible rfl)
                try simp only [List.getElem_toArray, List.getElem_cons_succ, List.getElem_cons_zero, Act.put, List.setIfInBounds_toArray, List.set_cons_zero, List.set_cons_succ]
                refine wpAnyH_done (by kernel_rfl) ?_ _
                go_wp2_with fail
                go_roundw
                case rel => exact ⟨b + 1, by go_num, by omega, HB5, HI5⟩
                case measure => simp [intOf]; omega
              · go_simp
                refine hK.out _ _ trivial (fun hHeld => ?_)
                clear hK K
                try simp only [List.getElem_toArray, List.getElem_cons_succ, List.getElem_cons_zero, Act.put, List.setIfInBounds_toArray, List.set_cons_zero, List.set_cons_succ]
                refine wpAnyH_ready (rs := [3]) (by kernel_rfl) (by simp) ?_
                refine AllReadyH.cons rfl (fun K hK => ?_) (AllReadyH.nil)
                go_simp
                refine hK.out _ _ trivial (fun hHeld => ?_)
                clear hK K
                try simp only [List.getElem_toArray, List.getElem_cons_succ, List.getElem_cons_zero, Act.put, List.setIfInBounds_toArray, List.set_cons_zero, List.set_cons_succ]
                refine wpAnyH_ready (rs := [8]) (by kernel_rfl) (by simp) ?_
                refine AllReadyH.cons rfl (fun K hK => ?_) (AllReadyH.nil)
                go_simp
                go_at_call 6
                refine HC.out.mono ?_
                rintro e w5 ⟨rfl, hb5⟩
                have HB5 : Hid (Below w.heap.size w w5) := HB2.out.trans ((((Below.refl _ wr).drew).trans (hb5.mono (Nat.le_refl _))).mono HB2.out.size)
                have HI5 : Hid (ItemsIn w5 (fun _ => True) (VIn w5 (fun _ => True) 2) (some ⟨g, 0, none⟩) oknownL) := HI2.out.kept (Kept.of_below (((Below.refl _ wr).drew).trans hb5)) (fun _ z => z) (fun _ _ z => VIn.keep (h := 2) (((Below.refl _ wr).drew).trans hb5) z)
                clear hb5
                refine hK.out _ _ trivial (fun hHeld => ?_)
                clear hK K
                try simp only [List.getElem_toArray, List.getElem_cons_succ, List.getElem_cons_zero, Act.put, List.setIfInBounds_toArray, List.set_cons_zero, List.set_cons_succ]
                refine wpAnyH_take (i := 10) (v := ?_) rfl (by kernel_rfl) (by kernel_rfl) (by kernel_rfl) (fun _ _ _ h => h) (Or.inl ⟨by kernel_rfl, ?_⟩) (by assumption) ?_
                rotate_left
                · intro wS hSw
                  go_simp
                  try (with_reducible rfl)
                try simp only [List.getElem_toArray, List.getElem_cons_succ, List.getElem_cons_zero, Act.put, List.setIfInBounds_toArray, List.set_cons_zero, List.set_cons_succ]
                refine wpAnyH_done (by kernel_rfl) ?_ _
                go_wp2_with fail
                go_roundw
                case rel => exact ⟨b + 1, by go_num, by omega, HB5, HI5⟩
                case measure => simp [intOf]; omega
            · have hd4 : decide ((a : Int) > (b : Int)) = false := decide_eq_false (by omega)
              have hd5 : decide ((b : Int) < (a : Int)) = false := decide_eq_false (by omega)
              rw [show a = b by omega, Order.sgn_self] at HC
              go_wp2_with fail
              refine wp_region_held_drew (S := fun _ => True) (by kernel_rfl) trivial (fun hHeld => ?_)
              refine wpAnyH_take (i := 0) (v := ?_) rfl (by kernel_rfl) (by kernel_rfl) (by kernel_rfl) (fun _ _ _ h => h) (Or.inl ⟨by kernel_rfl, ?_⟩) (by assumption) ?_
              rotate_left
              · intro wS hSw
                go_simp
                try (with_reducible rfl)
              try simp only [List.getElem_toArray, List.getElem_cons_succ, List.getElem_cons_zero, Act.put, List.setIfInBounds_toArray, List.set_cons_zero, List.set_cons_succ]
              refine wpAnyH_take (i := 1) (v := ?_) rfl (by kernel_rfl) (by kernel_rfl) (by kernel_rfl) (fun _ _ _ h => h) (Or.inl ⟨by kernel_rfl, ?_⟩) (by assumption) ?_
              rotate_left
              · intro wS hSw
                go_simp
                try (with_reducible rfl)
              try simp only [List.getElem_toArray, List.getElem_cons_succ, List.getElem_cons_zero, Act.put, List.setIfInBounds_toArray, List.set_cons_zero, List.set_cons_succ]
              refine wpAnyH_take (i := 2) (v := ?_) rfl (by kernel_rfl) (by kernel_rfl) (by kernel_rfl) (fun _ _ _ h => h) (Or.inl ⟨by kernel_rfl, ?_⟩) (by assumption) ?_
              rotate_left
              · intro wS hSw
                go_simp
                try (with_reducible rfl)
              try simp only [List.getElem_toArray, List.getElem_cons_succ, List.getElem_cons_zero, Act.put, List.setIfInBounds_toArray, List.set_cons_zero, List.set_cons_succ]
              refine wpAnyH_take (i := 4) (v := ?_) rfl (by kernel_rfl) (by kernel_rfl) (by kernel_rfl) (fun _ _ _ h => h) (Or.inl ⟨by kernel_rfl, ?_⟩) (by assumption) ?_
              rotate_left
              · intro wS hSw
                go_simp
                try (with_reducible rfl)
              try simp only [List.getElem_toArray, List.getElem_cons_succ, List.getElem_cons_zero, Act.put, List.setIfInBounds_toArray, List.set_cons_zero, List.set_cons_succ]
              refine wpAnyH_take (i := 5) (v := ?_) rfl (by kernel_rfl) (by kernel_rfl) (by kernel_rfl) (fun _ _ _ h => h) (Or.inl ⟨by kernel_rfl, ?_⟩) (by assumption) ?_
              rotate_left
              · intro wS hSw
                go_simp
                try (with_reducible rfl)
              try simp only [List.getElem_toArray, List.getElem_cons_succ, List.getElem_cons_zero, Act.put, List.setIfInBounds_toArray, List.set_cons_zero, List.set_cons_succ]
              refine wpAnyH_take (i := 6) (v := ?_) rfl (by kernel_rfl) (by kernel_rfl) (by kernel_rfl) (fun _ _ _ h => h) (Or.inl ⟨by kernel_rfl, ?_⟩) (by assumption) ?_
              rotate_left
              · intro wS hSw
                go_simp
                try (with_reducible rfl)
              try simp only [List.getElem_toArray, List.getElem_cons_succ, List.getElem_cons_zero, Act.put, List.setIfInBounds_toArray, List.set_cons_zero, List.set_cons_succ]
              refine wpAnyH_take (i := 9) (v := ?_) rfl (by kernel_rfl) (by kernel_rfl) (by kernel_rfl) (fun _ _ _ h => h) (Or.inl ⟨by kernel_rfl, ?_⟩) (by assumption) ?_
              rotate_left
              · intro wS hSw
                go_simp
                try (with_reducible rfl)
              try simp only [List.getElem_toArray, List.getElem_cons_succ, List.getElem_cons_zero, Act.put, List.setIfInBounds_toArray, List.set_cons_zero, List.set_cons_succ]
              refine wpAnyH_ready (rs := [3, 7]) (by kernel_rfl) (by simp) ?_
              refine AllReadyH.cons rfl (fun K hK => ?_) (AllReadyH.cons rfl (fun K hK => ?_) (AllReadyH.nil))
              · go_simp
                refine hK.out _ _ trivial (fun hHeld => ?_)
                clear hK K
                try simp only [List.getElem_toArray, List.getElem_cons_succ, List.getElem_cons_zero, Act.put, List.setIfInBounds_toArray, List.set_cons_zero, List.set_cons_succ]
                refine wpAnyH_ready (rs := [7]) (by kernel_rfl) (by simp) ?_
                refine AllReadyH.cons rfl (fun K hK => ?_) (AllReadyH.nil)
                go_simp
                refine hK.out _ _ trivial (fun hHeld => ?_)
                clear hK K
                try simp only [List.getElem_toArray, List.getElem_cons_succ, List.getElem_cons_zero, Act.put, List.setIfInBounds_toArray, List.set_cons_zero, List.set_cons_succ]
                refine wpAnyH_ready (rs := [8]) (by kernel_rfl) (by simp) ?_
                refine AllReadyH.cons rfl (fun K hK => ?_) (AllReadyH.nil)
                go_simp
                go_at_call 6
                refine HC.out.mono ?_
                rintro e w5 ⟨rfl, hb5⟩
                have HB5 : Hid (Below w.heap.size w w5) := HB2.out.trans ((((Below.refl _ wr).drew).trans (hb5.mono (Nat.le_refl _))).mono HB2.out.size)
                have HI5 : Hid (ItemsIn w5 (fun _ => True) (VIn w5 (fun _ => True) 2) (some ⟨g, 0, none⟩) oknownL) := HI2.out.kept (Kept.of_below (((Below.refl _ wr).drew).trans hb5)) (fun _ z => z) (fun _ _ z => VIn.keep (h := 2) (((Below.refl _ wr).drew).trans hb5) z)
                clear hb5
                refine hK.out _ _ trivial (fun hHeld => ?_)
                clear hK K
                try simp only [List.getElem_toArray, List.getElem_cons_succ, List.getElem_cons_zero, Act.put, List.setIfInBounds_toArray, List.set_cons_zero, List.set_cons_succ]
                refine wpAnyH_take (i := 10) (v := ?_) rfl (by kernel_rfl) (by kernel_rfl) (by kernel_rfl) (fun _ _ _ h => h) (Or.inl ⟨by kernel_rfl, ?_⟩) (by assumption) ?_
                rotate_left
                · intro wS hSw
                  go_simp
                  try (with_reducible rfl)
                try simp only [List.getElem_toArray, List.getElem_cons_succ, List.getElem_cons_zero, Act.put, List.setIfInBounds_toArray, List.set_cons_zero, List.set_cons_succ]
                refine wpAnyH_done (by kernel_rfl) ?_ _
                go_wp2_with fail
                go_roundw
                case rel => exact ⟨b + 1, by go_num, by omega, HB5, HI5⟩
                case measure => simp [intOf]; omega
              · go_simp
                refine hK.out _ _ trivial (fun hHeld => ?_)
                clear hK K
                try simp only [List.getElem_toArray, List.getElem_cons_succ, List.getElem_cons_zero, Act.put, List.setIfInBounds_toArray, List.set_cons_zero, List.set_cons_succ]
                refine wpAnyH_ready (rs := [3]) (by kernel_rfl) (by simp) ?_
                refine AllReadyH.cons rfl (fun K hK => ?_) (AllReadyH.nil)
                go_simp
                refine hK.out _ _ trivial (fun hHeld => ?_)
                clear hK K
                try simp only [List.getElem_toArray, List.getElem_cons_succ, List.getElem_cons_zero, Act.put, List.setIfInBounds_toArray, List.set_cons_zero, List.set_cons_succ]
                refine wpAnyH_ready (rs := [8]) (by kernel_rfl) (by simp) ?_
                refine AllReadyH.cons rfl (fun K hK => ?_) (AllReadyH.nil)
                go_simp
                go_at_call 6
                refine HC.out.mono ?_
                rintro e w5 ⟨rfl, hb5⟩
                have HB5 : Hid (Below w.heap.size w w5) := HB2.out.trans ((((Below.refl _ wr).drew).trans (hb5.mono (Nat.le_refl _))).mono HB2.out.size)
                have HI5 : Hid (ItemsIn w5 (fun _ => True) (VIn w5 (fun _ => True) 2) (some ⟨g, 0, none⟩) oknownL) := HI2.out.kept (Kept.of_below (((Below.refl _ wr).drew).trans hb5)) (fun _ z => z) (fun _ _ z => VIn.keep (h := 2) (((Below.refl _ wr).drew).trans hb5) z)
                clear hb5
                refine hK.out _ _ trivial (fun hHeld => ?_)
                clear hK K
                try simp only [List.getElem_toArray, List.getElem_cons_succ, List.getElem_cons_zero, Act.put, List.setIfInBounds_toArray, List.set_cons_zero, List.set_cons_succ]
                refine wpAnyH_take (i := 10) (v := ?_) rfl (by kernel_rfl) (by kernel_rfl) (by kernel_rfl) (fun _ _ _ h => h) (Or.inl ⟨by kernel_rfl, ?_⟩) (by assumption) ?_
                rotate_left
                · intro wS hSw
                  go_simp
                  try (with_reducible rfl)
                try simp only [List.getElem_toArray, List.getElem_cons_succ, List.getElem_cons_zero, Act.put, List.setIfInBounds_toArray, List.set_cons_zero, List.set_cons_succ]
                refine wpAnyH_done (by kernel_rfl) ?_ _
                go_wp2_with fail
                go_roundw
                case rel => exact ⟨b + 1, by go_num, by omega, HB5, HI5⟩
                case measure => simp [intOf]; omega
        · have hd2 : decide ((b : Int) < 18) = false := decide_eq_false (by omega)
          go_wp2_with fail
          go_roundw
          case rel => exact ⟨a + 1, by go_num, by omega, HB2, HI2⟩
          case measure => simp [intOf]; omega
    · have hd : decide ((a : Int) < 18) = false := decide_eq_false (by omega)
      have HCT := Lib.hid (Cut_any 0 (fun _ => True) true (.mk 7 0 ⟨#[]⟩ [] [] []) _ wr (leaf_in wr (fun _ => True) 7 0 (by decide) (by decide) 0))
      go_wp2_with fail
      go_at_call 7
      refine HCT.out.mono ?_
      rintro e w3 ⟨v3, y, rfl, hc, hv3, hb3⟩
      have hy : y = Bson.zero := by
        rcases hc with ⟨h1, _⟩ | ⟨_, _, h3⟩ | ⟨_, k, h2, _⟩
        · exact absurd rfl h1
        · exact h3
        · exact absurd h2.lt (Nat.not_lt_zero _)
      subst hy
      obtain ⟨xk, xn, xs, ba, fa, la, bn, bc, fn, fc, ln, lc, rfl, hxk, -⟩ := hv3.letters
      obtain rfl : xk = 0 := hxk
      have HBF : Hid (Below w.heap.size w w3) := HB1.out.trans (hb3.mono HB1.out.size)
      have hfd : (Instr.field 27 (.agg #[.int .i64 0, .int .i64 xn, .string xs, .slice ba bn bc, .slice fa fn fc, .slice la ln lc]) 0).run Try.prog w3 = .ok (.int .i64 0) w3 := by kernel_rfl
      clear hc hv3 hb3
      go_wp2_with fail
      try rw [hfd]
      try go_wp2_with fail
      go_ret
      exact ⟨rfl, HBF.out⟩
end Go.Proofs.Ytkpbfocbombpjaa
