/- aqueductlaw8.KeyKnown. -/
import Derived.Test.YtdcfddiicclpeaaDoorKeyAwake
import Derived.Test.YtdcfddiicclpeaaDoorKeyFine
import Derived.Test.YtdcfddiicclpeaaDoorKeyRows
import Derived.Test.YtdcfddiicclpeaaDoorRegFacts
import Derived.Test.YtdcfddiicclpeaaDoorItemsOf
import Derived.Test.YtdcfddiicclpeaaDoorBoxed2
import Derived.Laws.MakeOwn
import Derived.Lib.SlBytesConst
namespace Go.Proofs.YtdcfddiicclpeaaDoor
open Go.RowKit
open Seal
open Bson (Val)
def nullC : Array Value := #[.int .i64 (2), .int .i64 (0), .string ⟨#[]⟩, .slice none 0 0, .slice none 0 0, .slice none 0 0]
def nullRow : Fact := ⟨fun v w => ∃ g, v = .slice (some ⟨g, 0, none⟩) 1 1 ∧ w.heap[g]? = some (.cells nullC 26 (0, 0)), fun _ _ _ ⟨g, h1, h2⟩ hb => ⟨g, h1, (hb.block g (Array.getElem?_eq_some_iff.1 h2).1).trans h2⟩⟩
def nullList : Fact := ⟨fun v w => ∃ g, v = .agg #[.int .i64 (7), .int .i64 (0), .string ⟨#[]⟩, .slice none 0 0, .slice none 0 0, .slice (some ⟨g, 0, none⟩) 1 1] ∧ w.heap[g]? = some (.cells nullC 26 (0, 0)), fun _ _ _ ⟨g, h1, h2⟩ hb => ⟨g, h1, (hb.block g (Array.getElem?_eq_some_iff.1 h2).1).trans h2⟩⟩
def noughts12 : Fact := ⟨fun v w => ∃ g, v = .slice (some ⟨g, 0, none⟩) 12 12 ∧ Row w g (List.replicate 12 0), fun _ _ _ ⟨g, h1, h2⟩ hb => ⟨g, h1, (hb.block g h2.lt).trans h2⟩⟩
def idVal : Fact := ⟨fun v w => ∃ g, v = .agg #[.int .i64 (9), .int .i64 (0), .string ⟨#[]⟩, .slice (some ⟨g, 0, none⟩) 12 12, .slice none 0 0, .slice none 0 0] ∧ Row w g (List.replicate 12 0), fun _ _ _ ⟨g, h1, h2⟩ hb => ⟨g, h1, (hb.block g h2.lt).trans h2⟩⟩
def nv (k n : Int) (s : ByteArray) : Val := .mk k n s [] [] []
def knownL : List Val := [nv (0) (0) ⟨#[]⟩, nv (1) (0) ⟨#[]⟩, nv (2) (0) ⟨#[]⟩, nv (3) (-2147483648) ⟨#[]⟩, nv (4) (-1) ⟨#[]⟩, nv (3) (0) ⟨#[]⟩, nv (4) (4611686018427387904) ⟨#[]⟩, nv (5) (0) ⟨#[]⟩, nv (5) (0) ⟨#[0]⟩, nv (5) (0) ⟨#[0, 0]⟩, nv (5) (0) ⟨#[1]⟩, nv (6) (0) ⟨#[]⟩, nv (7) (0) ⟨#[]⟩, .mk 7 0 ⟨#[]⟩ [] [] [nv 2 0 ⟨#[]⟩], nv (8) (0) ⟨#[]⟩, .mk 9 0 ⟨#[]⟩ (List.replicate 12 0) [] [], nv (10) (0) ⟨#[]⟩, nv (11) (-9223372036854775808) ⟨#[]⟩, nv (12) (0) ⟨#[]⟩]
def knownRow : Fact := ⟨fun v w => ∃ g, v = .slice (some ⟨g, 0, none⟩) 19 19 ∧ ItemsIn w (fun _ => True) (VIn w (fun _ => True) 2) (some ⟨g, 0, none⟩) knownL, fun _ _ _ ⟨g, h1, h2⟩ hb => ⟨g, h1, h2.kept (Kept.of_below hb) (fun _ z => z) (fun _ _ z => VIn.keep hb z)⟩⟩
theorem run_make12 (u : World) : (Instr.makeSlice 22 (.int .i64 12) (.int .i64 12)).run Tryd.prog u = .ok (.slice (some ⟨u.heap.size, 0, none⟩) 12 12) (u.alloc (.cells (madeCells #[.int .u8 0] 12) 5)) := by
  obtain ⟨i0, hi, hz0, hz1, hz2⟩ := info_parts infoByte
  have h := run_make (P := Tryd.prog) u 22 5 i0 (.int .u8 0) Tryd.underlying22 hi hz0 .i64 .i64 12 12 (by omega) (Int.le_refl _) (by rw [hz2]; omega) (by omega)
  simpa [hz1, Value.cells] using h
set_option maxRecDepth 100000 in
theorem known_items {w : World} {g : Nat} (g1 g2 : Nat) (hr : w.heap[g]? = some (.cells #[.int .i64 (0), .int .i64 (0), .string ⟨#[]⟩, .slice none 0 0, .slice none 0 0, .slice none 0 0, .int .i64 (1), .int .i64 (0), .string ⟨#[]⟩, .slice none 0 0, .slice none 0 0, .slice none 0 0, .int .i64 (2), .int .i64 (0), .string ⟨#[]⟩, .slice none 0 0, .slice none 0 0, .slice none 0 0, .int .i64 (3), .int .i64 (-2147483648), .string ⟨#[]⟩, .slice none 0 0, .slice none 0 0, .slice none 0 0, .int .i64 (4), .int .i64 (-1), .string ⟨#[]⟩, .slice none 0 0, .slice none 0 0, .slice none 0 0, .int .i64 (3), .int .i64 (0), .string ⟨#[]⟩, .slice none 0 0, .slice none 0 0, .slice none 0 0, .int .i64 (4), .int .i64 (4611686018427387904), .string ⟨#[]⟩, .slice none 0 0, .slice none 0 0, .slice none 0 0, .int .i64 (5), .int .i64 (0), .string ⟨#[]⟩, .slice none 0 0, .slice none 0 0, .slice none 0 0, .int .i64 (5), .int .i64 (0), .string ⟨#[0]⟩, .slice none 0 0, .slice none 0 0, .slice none 0 0, .int .i64 (5), .int .i64 (0), .string ⟨#[0, 0]⟩, .slice none 0 0, .slice none 0 0, .slice none 0 0, .int .i64 (5), .int .i64 (0), .string ⟨#[1]⟩, .slice none 0 0, .slice none 0 0, .slice none 0 0, .int .i64 (6), .int .i64 (0), .string ⟨#[]⟩, .slice none 0 0, .slice none 0 0, .slice none 0 0, .int .i64 (7), .int .i64 (0), .string ⟨#[]⟩, .slice none 0 0, .slice none 0 0, .slice none 0 0, .int .i64 (7), .int .i64 (0), .string ⟨#[]⟩, .slice none 0 0, .slice none 0 0, .slice (some ⟨g1, 0, none⟩) 1 1, .int .i64 (8), .int .i64 (0), .string ⟨#[]⟩, .slice none 0 0, .slice none 0 0, .slice none 0 0, .int .i64 (9), .int .i64 (0), .string ⟨#[]⟩, .slice (some ⟨g2, 0, none⟩) 12 12, .slice none 0 0, .slice none 0 0, .int .i64 (10), .int .i64 (0), .string ⟨#[]⟩, .slice none 0 0, .slice none 0 0, .slice none 0 0, .int .i64 (11), .int .i64 (-9223372036854775808), .string ⟨#[]⟩, .slice none 0 0, .slice none 0 0, .slice none 0 0, .int .i64 (12), .int .i64 (0), .string ⟨#[]⟩, .slice none 0 0, .slice none 0 0, .slice none 0 0] 26 (0, 0))) (h1 : w.heap[g1]? = some (.cells nullC 26 (0, 0))) (h2 : Row w g2 (List.replicate 12 0)) :
    ItemsIn w (fun _ => True) (VIn w (fun _ => True) 2) (some ⟨g, 0, none⟩) knownL := by
  have hN : ItemsIn w (fun _ => True) (VIn w (fun _ => True) 1) (some ⟨g1, 0, none⟩) [nv 2 0 ⟨#[]⟩] := one_items h1 trivial (text_in w _ 2 0 ⟨#[]⟩ (by decide) (by decide) (by decide) 0)
  refine items_of [(nv (0) (0) ⟨#[]⟩, [.int .i64 (0), .int .i64 (0), .string ⟨#[]⟩, .slice none 0 0, .slice none 0 0, .slice none 0 0]), (nv (1) (0) ⟨#[]⟩, [.int .i64 (1), .int .i64 (0), .string ⟨#[]⟩, .slice none 0 0, .slice none 0 0, .slice none 0 0]), (nv (2) (0) ⟨#[]⟩, [.int .i64 (2), .int .i64 (0), .string ⟨#[]⟩, .slice none 0 0, .slice none 0 0, .slice none 0 0]), (nv (3) (-2147483648) ⟨#[]⟩, [.int .i64 (3), .int .i64 (-2147483648), .string ⟨#[]⟩, .slice none 0 0, .slice none 0 0, .slice none 0 0]), (nv (4) (-1) ⟨#[]⟩, [.int .i64 (4), .int .i64 (-1), .string ⟨#[]⟩, .slice none 0 0, .slice none 0 0, .slice none 0 0]), (nv (3) (0) ⟨#[]⟩, [.int .i64 (3), .int .i64 (0), .string ⟨#[]⟩, .slice none 0 0, .slice none 0 0, .slice none 0 0]), (nv (4) (4611686018427387904) ⟨#[]⟩, [.int .i64 (4), .int .i64 (4611686018427387904), .string ⟨#[]⟩, .slice none 0 0, .slice none 0 0, .slice none 0 0]), (nv (5) (0) ⟨#[]⟩, [.int .i64 (5), .int .i64 (0), .string ⟨#[]⟩, .slice none 0 0, .slice none 0 0, .slice none 0 0]), (nv (5) (0) ⟨#[0]⟩, [.int .i64 (5), .int .i64 (0), .string ⟨#[0]⟩, .slice none 0 0, .slice none 0 0, .slice none 0 0]), (nv (5) (0) ⟨#[0, 0]⟩, [.int .i64 (5), .int .i64 (0), .string ⟨#[0, 0]⟩, .slice none 0 0, .slice none 0 0, .slice none 0 0]), (nv (5) (0) ⟨#[1]⟩, [.int .i64 (5), .int .i64 (0), .string ⟨#[1]⟩, .slice none 0 0, .slice none 0 0, .slice none 0 0]), (nv (6) (0) ⟨#[]⟩, [.int .i64 (6), .int .i64 (0), .string ⟨#[]⟩, .slice none 0 0, .slice none 0 0, .slice none 0 0]), (nv (7) (0) ⟨#[]⟩, [.int .i64 (7), .int .i64 (0), .string ⟨#[]⟩, .slice none 0 0, .slice none 0 0, .slice none 0 0]), (.mk 7 0 ⟨#[]⟩ [] [] [nv 2 0 ⟨#[]⟩], [.int .i64 (7), .int .i64 (0), .string ⟨#[]⟩, .slice none 0 0, .slice none 0 0, .slice (some ⟨g1, 0, none⟩) 1 1]), (nv (8) (0) ⟨#[]⟩, [.int .i64 (8), .int .i64 (0), .string ⟨#[]⟩, .slice none 0 0, .slice none 0 0, .slice none 0 0]), (.mk 9 0 ⟨#[]⟩ (List.replicate 12 0) [] [], [.int .i64 (9), .int .i64 (0), .string ⟨#[]⟩, .slice (some ⟨g2, 0, none⟩) 12 12, .slice none 0 0, .slice none 0 0]), (nv (10) (0) ⟨#[]⟩, [.int .i64 (10), .int .i64 (0), .string ⟨#[]⟩, .slice none 0 0, .slice none 0 0, .slice none 0 0]), (nv (11) (-9223372036854775808) ⟨#[]⟩, [.int .i64 (11), .int .i64 (-9223372036854775808), .string ⟨#[]⟩, .slice none 0 0, .slice none 0 0, .slice none 0 0]), (nv (12) (0) ⟨#[]⟩, [.int .i64 (12), .int .i64 (0), .string ⟨#[]⟩, .slice none 0 0, .slice none 0 0, .slice none 0 0])] ?_ hr trivial ?_
  · simp
  · have hL := list_in (h := 1) hN (by decide)
    have hB := blob_in (Q := fun _ => True) (g := g2) (l := List.replicate 12 0) 9 h2 trivial (fun c hc => by have := List.eq_of_mem_replicate hc; omega) (by decide) (by decide) 1
    simp only [List.mem_cons, List.not_mem_nil, or_false, forall_eq_or_imp, forall_eq]
    refine ⟨text_in w _ _ _ _ (by decide) (by decide) (by decide) 1, text_in w _ _ _ _ (by decide) (by decide) (by decide) 1, text_in w _ _ _ _ (by decide) (by decide) (by decide) 1, text_in w _ _ _ _ (by decide) (by decide) (by decide) 1, text_in w _ _ _ _ (by decide) (by decide) (by decide) 1, text_in w _ _ _ _ (by decide) (by decide) (by decide) 1, text_in w _ _ _ _ (by decide) (by decide) (by decide) 1, text_in w _ _ _ _ (by decide) (by decide) (by decide) 1, text_in w _ _ _ _ (by decide) (by decide) (by decide) 1, text_in w _ _ _ _ (by decide) (by decide) (by decide) 1, text_in w _ _ _ _ (by decide) (by decide) (by decide) 1, text_in w _ _ _ _ (by decide) (by decide) (by decide) 1, text_in w _ _ _ _ (by decide) (by decide) (by decide) 1, hL, text_in w _ _ _ _ (by decide) (by decide) (by decide) 1, hB, text_in w _ _ _ _ (by decide) (by decide) (by decide) 1, text_in w _ _ _ _ (by decide) (by decide) (by decide) 1, text_in w _ _ _ _ (by decide) (by decide) (by decide) 1⟩
def boolRow : Fact := ⟨fun v w => ∃ g, v = .slice (some ⟨g, 0, none⟩) 1 1 ∧ w.cell? ⟨g, 0, none⟩ = some (.bool true), fun _ _ _ ⟨g, h1, h2⟩ hb => ⟨g, h1, cell_keep hb h2⟩⟩
theorem bools_one {W : World} {g : Nat} (h : W.cell? ⟨g, 0, none⟩ = some (.bool true)) : BoolsIn W (fun g => g < W.heap.size) (some ⟨g, 0, none⟩) [true] :=
  .inr ⟨g, 0, rfl, World.block_lt_of_cell? W _ h, fun i hi => by obtain rfl : i = 0 := by simp at hi; omega
                                                                 exact h⟩
def encFact (x : Val) : Fact := ⟨fun v w => ∃ (a : Option Addr) (c m : Nat), v = .slice a m c ∧ SliceIs w a (Key.encB 34 [true] [x] 0) ∧ m = (Key.encB 34 [true] [x] 0).length ∧ m ≤ 990000, fun _ _ _ ⟨a, c, m, h1, h2, h3, h4⟩ hb => ⟨a, c, m, h1, h2.keep hb, h3, h4⟩⟩
theorem known_fits : ∀ x ∈ knownL, Key.fits 34 x := by
  simp only [knownL, List.mem_cons, List.not_mem_nil, or_false, forall_eq_or_imp, forall_eq]
  refine ⟨fits_leaf' (by decide) (by decide) 34, fits_leaf' (by decide) (by decide) 34, fits_leaf' (by decide) (by decide) 34, fits_leaf' (by decide) (by decide) 34, fits_leaf' (by decide) (by decide) 34, fits_leaf' (by decide) (by decide) 34, fits_leaf' (by decide) (by decide) 34, fits_leaf' (by decide) (by decide) 34, fits_leaf' (by decide) (by decide) 34, fits_leaf' (by decide) (by decide) 34, fits_leaf' (by decide) (by decide) 34, ⟨fun _ p hp => (by cases hp), fun e => absurd e (by decide)⟩, ⟨fun e => absurd e (by decide), fun _ v hv => (by cases hv)⟩, ⟨fun e => absurd e (by decide), fun _ v hv => by rw [List.mem_singleton.1 hv]; exact fits_leaf' (x := nv 2 0 ⟨#[]⟩) (show (2 : Int) ≠ 6 by decide) (show (2 : Int) ≠ 7 by decide) 33⟩, fits_leaf' (by decide) (by decide) 34, fits_leaf' (by decide) (by decide) 34, fits_leaf' (by decide) (by decide) 34, fits_leaf' (by decide) (by decide) 34, fits_leaf' (by decide) (by decide) 34⟩
theorem known_wt : ∀ x ∈ knownL, wt 2 x ≤ 3000 := by decide +kernel
theorem known_orders : (List.range 18).all (fun k => decide (Order.octs (Key.encB 34 [] [knownL.getD k Bson.zero] 0) (Key.encB 34 [] [knownL.getD (k + 1) Bson.zero] 0) = -1 ∧ Order.octs (Key.encB 34 [true] [knownL.getD k Bson.zero] 0) (Key.encB 34 [true] [knownL.getD (k + 1) Bson.zero] 0) = 1)) = true := by decide +kernel
theorem known_order (k : Nat) (h1 : k < knownL.length) (h2 : k + 1 < knownL.length) : Order.octs (Key.encB 34 [] [knownL[k]] 0) (Key.encB 34 [] [knownL[k + 1]] 0) = -1 ∧ Order.octs (Key.encB 34 [true] [knownL[k]] 0) (Key.encB 34 [true] [knownL[k + 1]] 0) = 1 := by
  have h2' : k + 1 < 19 := h2
  have h := of_decide_eq_true (List.all_eq_true.1 known_orders k (List.mem_range.2 (by omega)))
  rw [List.getD_eq_getElem?_getD, List.getD_eq_getElem?_getD, List.getElem?_eq_getElem h1, List.getElem?_eq_getElem h2] at h
  exact h
theorem known_enc {g o c : Nat} {x : Val} {s : Option Addr} {nd cd : Nat} {bl : List Bool} {W : World} (hI : ItemsIn W (fun _ => True) (VIn W (fun _ => True) 2) (some ⟨g, o, none⟩) [x]) (hx : x ∈ knownL) (hd : bl.length = nd) (hD : BoolsIn W (fun g => g < W.heap.size) s bl) (hnd : nd ≤ 100) (hX : Maxl W W.heap.size) :
    Calls Tryd.prog 26 #[.slice (some ⟨g, o, none⟩) 1 c, .slice s nd cd] W fun e w' => ∃ (a' : Option Addr) (c' m : Nat), e = .returned (.slice a' m c') ∧ SliceIs w' a' (Key.encB 34 bl [x] 0) ∧ m = (Key.encB 34 bl [x] 0).length ∧ m ≤ 990000 ∧ Below W.heap.size W w' := by
  have hI2 : ItemsIn W (fun g => g < W.heap.size) (VIn W (fun g => g < W.heap.size) 2) (some ⟨g, o, none⟩) [x] := (ItemsIn.lt hI VIn.lt).kept (Kept.of_below (Below.refl _ _)) (fun _ z => z.2) (fun _ _ z => VIn.kept (Kept.of_below (Below.refl _ _)) (fun _ z => z.2) z)
  refine (encode_fine 2 (fun g => g < W.heap.size) (some ⟨g, o, none⟩) 1 c [x] s nd cd bl W W (Below.refl _ _) rfl (by decide) hI2 hd hD (by omega) (fun _ z => z) hX (fun y hy => by rw [List.mem_singleton.1 hy]; exact known_wt x hx) (fun y hy => by rw [List.mem_singleton.1 hy]; exact known_fits x hx)).mono ?_
  rintro e w' ⟨a', c', m, h1, h2, h3, h4, _, h5⟩
  exact ⟨a', c', m, h1, h2, h3, h4, h5⟩
set_option maxRecDepth 100000 in
set_option maxHeartbeats 2000000 in
theorem known_f (k n : Int) (w : World) : Calls Tryd.prog 33 #[.int .i64 k, .int .i64 n] w fun e w' => e = .returned (.agg #[.int .i64 (k), .int .i64 (n), .string ⟨#[]⟩, .slice none 0 0, .slice none 0 0, .slice none 0 0]) ∧ Below w.heap.size w w' := by
  have HB : Hid (Below w.heap.size w (w.alloc (.cells #[.int .i64 (k), .int .i64 (n), .string ⟨#[]⟩, .slice none 0 0, .slice none 0 0, .slice none 0 0] 26))) := (Below.refl _ w).alloc (Nat.le_refl _) _
  go_enter Tryd.func33, Tryd.ntmps33
  go_wp2_with fail
  exact bodyPost_ret (v := .agg #[.int .i64 (k), .int .i64 (n), .string ⟨#[]⟩, .slice none 0 0, .slice none 0 0, .slice none 0 0]) (by simp [results, Tryd.results33, go_sem]) rfl ⟨rfl, HB.out⟩
set_option maxRecDepth 100000 in
set_option maxHeartbeats 8000000 in
theorem known_any (w : World) (hX : Maxl w w.heap.size) : Calls Tryd.prog 10 #[] w fun e w' => e = .returned (.bool true) ∧ Below w.heap.size w w' := by
  have HA := Lib.hid (key_awake w hX)
  have HX := Lib.hid hX
  clear hX
  go_enter Tryd.func10, Tryd.ntmps10
  go_wp2_with fail
  go_at_call 24
  refine HA.out.mono ?_
  rintro e w1 ⟨rfl, hb1⟩
  have HB1 := Lib.hid hb1
  clear hb1 HA
  go_wp2_with fail
  refine wp_region_facts (fun V => { tmps := #[.bool false, .func (.func 33) #[] #[], V 29, undef, undef, undef, undef, undef, .bool true, .bool false, V 0, V 1, V 2, V 3, V 4, V 5, V 6, V 7, V 8, V 9, V 10, V 11, V 12, V 13, V 14, V 15, V 16, V 17, V 18, V 19, V 20, V 21, V 22, V 23, V 24, V 25, V 26, V 27, V 28, undef, undef, undef, undef, undef, undef, undef, undef, undef, undef, undef, undef, undef, undef, undef, undef, undef, undef, undef, undef, undef, undef, undef, undef, undef, undef, undef, undef, undef, undef, undef, undef, undef, undef, undef, undef, undef, undef, undef, undef, undef, undef, undef, undef, undef, undef, undef, undef, undef, undef, undef, undef, undef, undef, undef, undef], defers := [] }) [Fact.is (.agg #[.int .i64 (0), .int .i64 (0), .string ⟨#[]⟩, .slice none 0 0, .slice none 0 0, .slice none 0 0]), Fact.is (.agg #[.int .i64 (1), .int .i64 (0), .string ⟨#[]⟩, .slice none 0 0, .slice none 0 0, .slice none 0 0]), Fact.is (.agg #[.int .i64 (2), .int .i64 (0), .string ⟨#[]⟩, .slice none 0 0, .slice none 0 0, .slice none 0 0]), Fact.is (.func (.func 33) #[] #[]), Fact.is (.agg #[.int .i64 (3), .int .i64 (-2147483648), .string ⟨#[]⟩, .slice none 0 0, .slice none 0 0, .slice none 0 0]), Fact.is (.func (.func 33) #[] #[]), Fact.is (.agg #[.int .i64 (4), .int .i64 (-1), .string ⟨#[]⟩, .slice none 0 0, .slice none 0 0, .slice none 0 0]), Fact.is (.func (.func 33) #[] #[]), Fact.is (.agg #[.int .i64 (3), .int .i64 (0), .string ⟨#[]⟩, .slice none 0 0, .slice none 0 0, .slice none 0 0]), Fact.is (.func (.func 33) #[] #[]), Fact.is (.agg #[.int .i64 (4), .int .i64 (4611686018427387904), .string ⟨#[]⟩, .slice none 0 0, .slice none 0 0, .slice none 0 0]), Fact.is (.agg #[.int .i64 (5), .int .i64 (0), .string ⟨#[]⟩, .slice none 0 0, .slice none 0 0, .slice none 0 0]), Fact.is (.agg #[.int .i64 (5), .int .i64 (0), .string ⟨#[0]⟩, .slice none 0 0, .slice none 0 0, .slice none 0 0]), Fact.is (.agg #[.int .i64 (5), .int .i64 (0), .string ⟨#[0, 0]⟩, .slice none 0 0, .slice none 0 0, .slice none 0 0]), Fact.is (.agg #[.int .i64 (5), .int .i64 (0), .string ⟨#[1]⟩, .slice none 0 0, .slice none 0 0, .slice none 0 0]), Fact.is (.agg #[.int .i64 (6), .int .i64 (0), .string ⟨#[]⟩, .slice none 0 0, .slice none 0 0, .slice none 0 0]), Fact.is (.agg #[.int .i64 (7), .int .i64 (0), .string ⟨#[]⟩, .slice none 0 0, .slice none 0 0, .slice none 0 0]), Fact.is (.agg #[.int .i64 (2), .int .i64 (0), .string ⟨#[]⟩, .slice none 0 0, .slice none 0 0, .slice none 0 0]), nullRow, nullList, Fact.is (.agg #[.int .i64 (8), .int .i64 (0), .string ⟨#[]⟩, .slice none 0 0, .slice none 0 0, .slice none 0 0]), noughts12, idVal, Fact.is (.func (.func 33) #[] #[]), Fact.is (.agg #[.int .i64 (10), .int .i64 (0), .string ⟨#[]⟩, .slice none 0 0, .slice none 0 0, .slice none 0 0]), Fact.is (.func (.func 33) #[] #[]), Fact.is (.agg #[.int .i64 (11), .int .i64 (-9223372036854775808), .string ⟨#[]⟩, .slice none 0 0, .slice none 0 0, .slice none 0 0]), Fact.is (.agg #[.int .i64 (12), .int .i64 (0), .string ⟨#[]⟩, .slice none 0 0, .slice none 0 0, .slice none 0 0]), knownRow, knownRow] (by kernel_rfl) (by kernel_rfl) (by kernel_rfl) (fun V => by kernel_rfl) ?_ ?_
  · refine ⟨?_, ?_⟩
    · refine fact_free rfl (fun V w hB hF K hK => ?_)
      go_simp
      exact put_is (by kernel_rfl) (hK.out (.agg #[.int .i64 (0), .int .i64 (0), .string ⟨#[]⟩, .slice none 0 0, .slice none 0 0, .slice none 0 0]) _ (Below.refl _ _) rfl)
    refine ⟨?_, ?_⟩
    · refine fact_free rfl (fun V w hB hF K hK => ?_)
      go_simp
      exact put_is (by kernel_rfl) (hK.out (.agg #[.int .i64 (1), .int .i64 (0), .string ⟨#[]⟩, .slice none 0 0, .slice none 0 0, .slice none 0 0]) _ (Below.refl _ _) rfl)
    refine ⟨?_, ?_⟩
    · refine fact_free rfl (fun V w hB hF K hK => ?_)
      go_simp
      exact put_is (by kernel_rfl) (hK.out (.agg #[.int .i64 (2), .int .i64 (0), .string ⟨#[]⟩, .slice none 0 0, .slice none 0 0, .slice none 0 0]) _ (Below.refl _ _) rfl)
    refine ⟨?_, ?_⟩
    · refine fact_free rfl (fun V w hB hF K hK => ?_)
      go_simp
      exact put_is (by kernel_rfl) (hK.out (.func (.func 33) #[] #[]) _ (Below.refl _ _) rfl)
    refine ⟨?_, ?_⟩
    · refine fact_free rfl (fun V w hB hF K hK => ?_)
      have h3 : V 3 = .func (.func 33) #[] #[] := hF.out 3 (by kernel_rfl)
      go_simp
      go_at_call 33
      refine (known_f (3) (-2147483648) w).mono ?_
      rintro e w2 ⟨rfl, hb⟩
      exact put_is (by rw [h3]; kernel_rfl) (hK.out (.agg #[.int .i64 (3), .int .i64 (-2147483648), .string ⟨#[]⟩, .slice none 0 0, .slice none 0 0, .slice none 0 0]) _ hb rfl)
    refine ⟨?_, ?_⟩
    · refine fact_free rfl (fun V w hB hF K hK => ?_)
      go_simp
      exact put_is (by kernel_rfl) (hK.out (.func (.func 33) #[] #[]) _ (Below.refl _ _) rfl)
    refine ⟨?_, ?_⟩
    · refine fact_free rfl (fun V w hB hF K hK => ?_)
      have h5 : V 5 = .func (.func 33) #[] #[] := hF.out 5 (by kernel_rfl)
      go_simp
      go_at_call 33
      refine (known_f (4) (-1) w).mono ?_
      rintro e w2 ⟨rfl, hb⟩
      exact put_is (by rw [h5]; kernel_rfl) (hK.out (.agg #[.int .i64 (4), .int .i64 (-1), .string ⟨#[]⟩, .slice none 0 0, .slice none 0 0, .slice none 0 0]) _ hb rfl)
    refine ⟨?_, ?_⟩
    · refine fact_free rfl (fun V w hB hF K hK => ?_)
      go_simp
      exact put_is (by kernel_rfl) (hK.out (.func (.func 33) #[] #[]) _ (Below.refl _ _) rfl)
    refine ⟨?_, ?_⟩
    · refine fact_free rfl (fun V w hB hF K hK => ?_)
      have h7 : V 7 = .func (.func 33) #[] #[] := hF.out 7 (by kernel_rfl)
      go_simp
      go_at_call 33
      refine (known_f (3) (0) w).mono ?_
      rintro e w2 ⟨rfl, hb⟩
      exact put_is (by rw [h7]; kernel_rfl) (hK.out (.agg #[.int .i64 (3), .int .i64 (0), .string ⟨#[]⟩, .slice none 0 0, .slice none 0 0, .slice none 0 0]) _ hb rfl)
    refine ⟨?_, ?_⟩
    · refine fact_free rfl (fun V w hB hF K hK => ?_)
      go_simp
      exact put_is (by kernel_rfl) (hK.out (.func (.func 33) #[] #[]) _ (Below.refl _ _) rfl)
    refine ⟨?_, ?_⟩
    · refine fact_free rfl (fun V w hB hF K hK => ?_)
      have h9 : V 9 = .func (.func 33) #[] #[] := hF.out 9 (by kernel_rfl)
      go_simp
      go_at_call 33
      refine (known_f (4) (4611686018427387904) w).mono ?_
      rintro e w2 ⟨rfl, hb⟩
      exact put_is (by rw [h9]; kernel_rfl) (hK.out (.agg #[.int .i64 (4), .int .i64 (4611686018427387904), .string ⟨#[]⟩, .slice none 0 0, .slice none 0 0, .slice none 0 0]) _ hb rfl)
    refine ⟨?_, ?_⟩
    · refine fact_free rfl (fun V w hB hF K hK => ?_)
      go_simp
      exact put_is (by kernel_rfl) (hK.out (.agg #[.int .i64 (5), .int .i64 (0), .string ⟨#[]⟩, .slice none 0 0, .slice none 0 0, .slice none 0 0]) _ (Below.refl _ _) rfl)
    refine ⟨?_, ?_⟩
    · refine fact_free rfl (fun V w hB hF K hK => ?_)
      go_simp
      exact put_is (by kernel_rfl) (hK.out (.agg #[.int .i64 (5), .int .i64 (0), .string ⟨#[0]⟩, .slice none 0 0, .slice none 0 0, .slice none 0 0]) _ (Below.refl _ _) rfl)
    refine ⟨?_, ?_⟩
    · refine fact_free rfl (fun V w hB hF K hK => ?_)
      go_simp
      exact put_is (by kernel_rfl) (hK.out (.agg #[.int .i64 (5), .int .i64 (0), .string ⟨#[0, 0]⟩, .slice none 0 0, .slice none 0 0, .slice none 0 0]) _ (Below.refl _ _) rfl)
    refine ⟨?_, ?_⟩
    · refine fact_free rfl (fun V w hB hF K hK => ?_)
      go_simp
      exact put_is (by kernel_rfl) (hK.out (.agg #[.int .i64 (5), .int .i64 (0), .string ⟨#[1]⟩, .slice none 0 0, .slice none 0 0, .slice none 0 0]) _ (Below.refl _ _) rfl)
    refine ⟨?_, ?_⟩
    · refine fact_free rfl (fun V w hB hF K hK => ?_)
      go_simp
      exact put_is (by kernel_rfl) (hK.out (.agg #[.int .i64 (6), .int .i64 (0), .string ⟨#[]⟩, .slice none 0 0, .slice none 0 0, .slice none 0 0]) _ (Below.refl _ _) rfl)
    refine ⟨?_, ?_⟩
    · refine fact_free rfl (fun V w hB hF K hK => ?_)
      go_simp
      exact put_is (by kernel_rfl) (hK.out (.agg #[.int .i64 (7), .int .i64 (0), .string ⟨#[]⟩, .slice none 0 0, .slice none 0 0, .slice none 0 0]) _ (Below.refl _ _) rfl)
    refine ⟨?_, ?_⟩
    · refine fact_free rfl (fun V w hB hF K hK => ?_)
      go_simp
      exact put_is (by kernel_rfl) (hK.out (.agg #[.int .i64 (2), .int .i64 (0), .string ⟨#[]⟩, .slice none 0 0, .slice none 0 0, .slice none 0 0]) _ (Below.refl _ _) rfl)
    refine ⟨?_, ?_⟩
    · refine fact_free rfl (fun V w hB hF K hK => ?_)
      have h17 : V 17 = .agg #[.int .i64 (2), .int .i64 (0), .string ⟨#[]⟩, .slice none 0 0, .slice none 0 0, .slice none 0 0] := hF.out 17 (by kernel_rfl)
      go_simp
      exact put_is (by rw [h17]; kernel_rfl) (hK.out _ _ ((Below.refl _ w).alloc (Nat.le_refl _) _) ⟨w.heap.size, rfl, heap_alloc_new w _⟩)
    refine ⟨?_, ?_⟩
    · refine fact_free rfl (fun V w hB hF K hK => ?_)
      obtain ⟨g1, h18, hr1⟩ := hF.out 18 (by kernel_rfl)
      go_simp
      exact put_is (by rw [h18]; kernel_rfl) (hK.out _ _ (Below.refl _ _) ⟨g1, rfl, hr1⟩)
    refine ⟨?_, ?_⟩
    · refine fact_free rfl (fun V w hB hF K hK => ?_)
      go_simp
      exact put_is (by kernel_rfl) (hK.out (.agg #[.int .i64 (8), .int .i64 (0), .string ⟨#[]⟩, .slice none 0 0, .slice none 0 0, .slice none 0 0]) _ (Below.refl _ _) rfl)
    refine ⟨?_, ?_⟩
    · refine fact_free rfl (fun V w hB hF K hK => ?_)
      have hmk := run_make12 w
      have hb : Below w.heap.size w (w.alloc (.cells (madeCells #[.int .u8 0] 12) 5)) := (Below.refl _ w).alloc (Nat.le_refl _) _
      have hrow := Row.made (w := w) 12
      generalize w.alloc (.cells (madeCells #[.int .u8 0] 12) 5) = w2 at *
      go_simp
      exact put_is (by kernel_rfl) (hK.out _ _ hb ⟨w.heap.size, rfl, hrow⟩)
    refine ⟨?_, ?_⟩
    · refine fact_free rfl (fun V w hB hF K hK => ?_)
      obtain ⟨g2, h21, hr2⟩ := hF.out 21 (by kernel_rfl)
      go_simp
      exact put_is (by rw [h21]; kernel_rfl) (hK.out _ _ (Below.refl _ _) ⟨g2, rfl, hr2⟩)
    refine ⟨?_, ?_⟩
    · refine fact_free rfl (fun V w hB hF K hK => ?_)
      go_simp
      exact put_is (by kernel_rfl) (hK.out (.func (.func 33) #[] #[]) _ (Below.refl _ _) rfl)
    refine ⟨?_, ?_⟩
    · refine fact_free rfl (fun V w hB hF K hK => ?_)
      have h23 : V 23 = .func (.func 33) #[] #[] := hF.out 23 (by kernel_rfl)
      go_simp
      go_at_call 33
      refine (known_f (10) (0) w).mono ?_
      rintro e w2 ⟨rfl, hb⟩
      exact put_is (by rw [h23]; kernel_rfl) (hK.out (.agg #[.int .i64 (10), .int .i64 (0), .string ⟨#[]⟩, .slice none 0 0, .slice none 0 0, .slice none 0 0]) _ hb rfl)
    refine ⟨?_, ?_⟩
    · refine fact_free rfl (fun V w hB hF K hK => ?_)
      go_simp
      exact put_is (by kernel_rfl) (hK.out (.func (.func 33) #[] #[]) _ (Below.refl _ _) rfl)
    refine ⟨?_, ?_⟩
    · refine fact_free rfl (fun V w hB hF K hK => ?_)
      have h25 : V 25 = .func (.func 33) #[] #[] := hF.out 25 (by kernel_rfl)
      go_simp
      go_at_call 33
      refine (known_f (11) (-9223372036854775808) w).mono ?_
      rintro e w2 ⟨rfl, hb⟩
      exact put_is (by rw [h25]; kernel_rfl) (hK.out (.agg #[.int .i64 (11), .int .i64 (-9223372036854775808), .string ⟨#[]⟩, .slice none 0 0, .slice none 0 0, .slice none 0 0]) _ hb rfl)
    refine ⟨?_, ?_⟩
    · refine fact_free rfl (fun V w hB hF K hK => ?_)
      go_simp
      exact put_is (by kernel_rfl) (hK.out (.agg #[.int .i64 (12), .int .i64 (0), .string ⟨#[]⟩, .slice none 0 0, .slice none 0 0, .slice none 0 0]) _ (Below.refl _ _) rfl)
    refine ⟨?_, ?_⟩
    · refine fact_free rfl (fun V w hB hF K hK => ?_)
      have h0 : V 0 = .agg #[.int .i64 (0), .int .i64 (0), .string ⟨#[]⟩, .slice none 0 0, .slice none 0 0, .slice none 0 0] := hF.out 0 (by kernel_rfl)
      have h1 : V 1 = .agg #[.int .i64 (1), .int .i64 (0), .string ⟨#[]⟩, .slice none 0 0, .slice none 0 0, .slice none 0 0] := hF.out 1 (by kernel_rfl)
      have h2 : V 2 = .agg #[.int .i64 (2), .int .i64 (0), .string ⟨#[]⟩, .slice none 0 0, .slice none 0 0, .slice none 0 0] := hF.out 2 (by kernel_rfl)
      have h4 : V 4 = .agg #[.int .i64 (3), .int .i64 (-2147483648), .string ⟨#[]⟩, .slice none 0 0, .slice none 0 0, .slice none 0 0] := hF.out 4 (by kernel_rfl)
      have h6 : V 6 = .agg #[.int .i64 (4), .int .i64 (-1), .string ⟨#[]⟩, .slice none 0 0, .slice none 0 0, .slice none 0 0] := hF.out 6 (by kernel_rfl)
      have h8 : V 8 = .agg #[.int .i64 (3), .int .i64 (0), .string ⟨#[]⟩, .slice none 0 0, .slice none 0 0, .slice none 0 0] := hF.out 8 (by kernel_rfl)
      have h10 : V 10 = .agg #[.int .i64 (4), .int .i64 (4611686018427387904), .string ⟨#[]⟩, .slice none 0 0, .slice none 0 0, .slice none 0 0] := hF.out 10 (by kernel_rfl)
      have h11 : V 11 = .agg #[.int .i64 (5), .int .i64 (0), .string ⟨#[]⟩, .slice none 0 0, .slice none 0 0, .slice none 0 0] := hF.out 11 (by kernel_rfl)
      have h12 : V 12 = .agg #[.int .i64 (5), .int .i64 (0), .string ⟨#[0]⟩, .slice none 0 0, .slice none 0 0, .slice none 0 0] := hF.out 12 (by kernel_rfl)
      have h13 : V 13 = .agg #[.int .i64 (5), .int .i64 (0), .string ⟨#[0, 0]⟩, .slice none 0 0, .slice none 0 0, .slice none 0 0] := hF.out 13 (by kernel_rfl)
      have h14 : V 14 = .agg #[.int .i64 (5), .int .i64 (0), .string ⟨#[1]⟩, .slice none 0 0, .slice none 0 0, .slice none 0 0] := hF.out 14 (by kernel_rfl)
      have h15 : V 15 = .agg #[.int .i64 (6), .int .i64 (0), .string ⟨#[]⟩, .slice none 0 0, .slice none 0 0, .slice none 0 0] := hF.out 15 (by kernel_rfl)
      have h16 : V 16 = .agg #[.int .i64 (7), .int .i64 (0), .string ⟨#[]⟩, .slice none 0 0, .slice none 0 0, .slice none 0 0] := hF.out 16 (by kernel_rfl)
      obtain ⟨g1, h19, hr1⟩ := hF.out 19 (by kernel_rfl)
      have h20 : V 20 = .agg #[.int .i64 (8), .int .i64 (0), .string ⟨#[]⟩, .slice none 0 0, .slice none 0 0, .slice none 0 0] := hF.out 20 (by kernel_rfl)
      obtain ⟨g2, h22, hr2⟩ := hF.out 22 (by kernel_rfl)
      have h24 : V 24 = .agg #[.int .i64 (10), .int .i64 (0), .string ⟨#[]⟩, .slice none 0 0, .slice none 0 0, .slice none 0 0] := hF.out 24 (by kernel_rfl)
      have h26 : V 26 = .agg #[.int .i64 (11), .int .i64 (-9223372036854775808), .string ⟨#[]⟩, .slice none 0 0, .slice none 0 0, .slice none 0 0] := hF.out 26 (by kernel_rfl)
      have h27 : V 27 = .agg #[.int .i64 (12), .int .i64 (0), .string ⟨#[]⟩, .slice none 0 0, .slice none 0 0, .slice none 0 0] := hF.out 27 (by kernel_rfl)
      have hb : Below w.heap.size w (w.alloc (.cells #[.int .i64 (0), .int .i64 (0), .string ⟨#[]⟩, .slice none 0 0, .slice none 0 0, .slice none 0 0, .int .i64 (1), .int .i64 (0), .string ⟨#[]⟩, .slice none 0 0, .slice none 0 0, .slice none 0 0, .int .i64 (2), .int .i64 (0), .string ⟨#[]⟩, .slice none 0 0, .slice none 0 0, .slice none 0 0, .int .i64 (3), .int .i64 (-2147483648), .string ⟨#[]⟩, .slice none 0 0, .slice none 0 0, .slice none 0 0, .int .i64 (4), .int .i64 (-1), .string ⟨#[]⟩, .slice none 0 0, .slice none 0 0, .slice none 0 0, .int .i64 (3), .int .i64 (0), .string ⟨#[]⟩, .slice none 0 0, .slice none 0 0, .slice none 0 0, .int .i64 (4), .int .i64 (4611686018427387904), .string ⟨#[]⟩, .slice none 0 0, .slice none 0 0, .slice none 0 0, .int .i64 (5), .int .i64 (0), .string ⟨#[]⟩, .slice none 0 0, .slice none 0 0, .slice none 0 0, .int .i64 (5), .int .i64 (0), .string ⟨#[0]⟩, .slice none 0 0, .slice none 0 0, .slice none 0 0, .int .i64 (5), .int .i64 (0), .string ⟨#[0, 0]⟩, .slice none 0 0, .slice none 0 0, .slice none 0 0, .int .i64 (5), .int .i64 (0), .string ⟨#[1]⟩, .slice none 0 0, .slice none 0 0, .slice none 0 0, .int .i64 (6), .int .i64 (0), .string ⟨#[]⟩, .slice none 0 0, .slice none 0 0, .slice none 0 0, .int .i64 (7), .int .i64 (0), .string ⟨#[]⟩, .slice none 0 0, .slice none 0 0, .slice none 0 0, .int .i64 (7), .int .i64 (0), .string ⟨#[]⟩, .slice none 0 0, .slice none 0 0, .slice (some ⟨g1, 0, none⟩) 1 1, .int .i64 (8), .int .i64 (0), .string ⟨#[]⟩, .slice none 0 0, .slice none 0 0, .slice none 0 0, .int .i64 (9), .int .i64 (0), .string ⟨#[]⟩, .slice (some ⟨g2, 0, none⟩) 12 12, .slice none 0 0, .slice none 0 0, .int .i64 (10), .int .i64 (0), .string ⟨#[]⟩, .slice none 0 0, .slice none 0 0, .slice none 0 0, .int .i64 (11), .int .i64 (-9223372036854775808), .string ⟨#[]⟩, .slice none 0 0, .slice none 0 0, .slice none 0 0, .int .i64 (12), .int .i64 (0), .string ⟨#[]⟩, .slice none 0 0, .slice none 0 0, .slice none 0 0] 26)) := (Below.refl _ w).alloc (Nat.le_refl _) _
      have hI := known_items (w := w.alloc (.cells #[.int .i64 (0), .int .i64 (0), .string ⟨#[]⟩, .slice none 0 0, .slice none 0 0, .slice none 0 0, .int .i64 (1), .int .i64 (0), .string ⟨#[]⟩, .slice none 0 0, .slice none 0 0, .slice none 0 0, .int .i64 (2), .int .i64 (0), .string ⟨#[]⟩, .slice none 0 0, .slice none 0 0, .slice none 0 0, .int .i64 (3), .int .i64 (-2147483648), .string ⟨#[]⟩, .slice none 0 0, .slice none 0 0, .slice none 0 0, .int .i64 (4), .int .i64 (-1), .string ⟨#[]⟩, .slice none 0 0, .slice none 0 0, .slice none 0 0, .int .i64 (3), .int .i64 (0), .string ⟨#[]⟩, .slice none 0 0, .slice none 0 0, .slice none 0 0, .int .i64 (4), .int .i64 (4611686018427387904), .string ⟨#[]⟩, .slice none 0 0, .slice none 0 0, .slice none 0 0, .int .i64 (5), .int .i64 (0), .string ⟨#[]⟩, .slice none 0 0, .slice none 0 0, .slice none 0 0, .int .i64 (5), .int .i64 (0), .string ⟨#[0]⟩, .slice none 0 0, .slice none 0 0, .slice none 0 0, .int .i64 (5), .int .i64 (0), .string ⟨#[0, 0]⟩, .slice none 0 0, .slice none 0 0, .slice none 0 0, .int .i64 (5), .int .i64 (0), .string ⟨#[1]⟩, .slice none 0 0, .slice none 0 0, .slice none 0 0, .int .i64 (6), .int .i64 (0), .string ⟨#[]⟩, .slice none 0 0, .slice none 0 0, .slice none 0 0, .int .i64 (7), .int .i64 (0), .string ⟨#[]⟩, .slice none 0 0, .slice none 0 0, .slice none 0 0, .int .i64 (7), .int .i64 (0), .string ⟨#[]⟩, .slice none 0 0, .slice none 0 0, .slice (some ⟨g1, 0, none⟩) 1 1, .int .i64 (8), .int .i64 (0), .string ⟨#[]⟩, .slice none 0 0, .slice none 0 0, .slice none 0 0, .int .i64 (9), .int .i64 (0), .string ⟨#[]⟩, .slice (some ⟨g2, 0, none⟩) 12 12, .slice none 0 0, .slice none 0 0, .int .i64 (10), .int .i64 (0), .string ⟨#[]⟩, .slice none 0 0, .slice none 0 0, .slice none 0 0, .int .i64 (11), .int .i64 (-9223372036854775808), .string ⟨#[]⟩, .slice none 0 0, .slice none 0 0, .slice none 0 0, .int .i64 (12), .int .i64 (0), .string ⟨#[]⟩, .slice none 0 0, .slice none 0 0, .slice none 0 0] 26)) (g := w.heap.size) g1 g2 (heap_alloc_new w _) ((hb.block g1 (Array.getElem?_eq_some_iff.1 hr1).1).trans hr1) (Row.same hr2 (hb.block g2 hr2.lt))
      go_simp
      exact put_is (by rw [h0, h1, h2, h4, h6, h8, h10, h11, h12, h13, h14, h15, h16, h19, h20, h22, h24, h26, h27]; kernel_rfl) (hK.out (.slice (some ⟨w.heap.size, 0, none⟩) 19 19) _ hb ⟨w.heap.size, rfl, hI⟩)
    refine ⟨?_, ?_⟩
    · refine fact_free rfl (fun V w hB hF K hK => ?_)
      obtain ⟨g, h28, hI⟩ := hF.out 28 (by kernel_rfl)
      go_simp
      exact put_is (by rw [h28]; kernel_rfl) (hK.out _ _ (Below.refl _ _) ⟨g, rfl, hI⟩)
    trivial
  intro V w2 hb2 hf
  obtain ⟨g, hv, hI⟩ := hf 29 (by decide)
  have HB2 : Hid (Below w.heap.size w w2) := HB1.out.trans (hb2.mono HB1.out.size)
  have HI := Lib.hid hI
  have hv : V 29 = .slice (some ⟨g, 0, none⟩) 19 19 := hv
  clear hb2 hI hf HB1
  go_wp2_with fail
  go_loopw [3] (fun i wr => ∃ k : Nat, i = .int .i64 ((k + 1 : Nat) : Int) ∧ k ≤ 18 ∧ Hid (Below w.heap.size w wr) ∧ Hid (ItemsIn wr (fun _ => True) (VIn wr (fun _ => True) 2) (some ⟨g, 0, none⟩) knownL)) (fun i _ => 20 - (intOf i).toNat)
  case atStart => exact ⟨0, rfl, by decide, HB2, HI⟩
  case round =>
    clear HI HB2
    obtain ⟨k, rfl, hk, HB, HI⟩ := hrel
    by_cases hlt : k < 18
    · obtain ⟨k1, hk1⟩ : ∃ z, z = k + 1 := ⟨_, rfl⟩
      obtain ⟨k2, hk2⟩ : ∃ z, z = k + 2 := ⟨_, rfl⟩
      rw [← hk1]
      have hw1 : IntKind.i64.wrap ((k1 : Int) - 1) = (k : Int) := by rw [IntWalk.i64_in _ (by omega)]; omega
      have hw2 : IntKind.i64.wrap ((k1 : Int) + 1) = (k2 : Int) := by rw [IntWalk.i64_in _ (by omega)]; omega
      have hkl : k < knownL.length := by show k < 19; omega
      have hkl1 : k + 1 < knownL.length := by show k + 1 < 19; omega
      have HE1 : Hid (∀ (s : Option Addr) (nd cd : Nat) (bl : List Bool) W, Below wr.heap.size wr W → bl.length = nd → BoolsIn W (fun g => g < W.heap.size) s bl → nd ≤ 100 → Calls Tryd.prog 26 #[.slice (some ⟨g, k * 6, none⟩) 1 (19 - k), .slice s nd cd] W fun e w' => ∃ (a' : Option Addr) (c' m : Nat), e = .returned (.slice a' m c') ∧ SliceIs w' a' (Key.encB 34 bl [knownL[k]] 0) ∧ m = (Key.encB 34 bl [knownL[k]] 0).length ∧ m ≤ 990000 ∧ Below W.heap.size W w') := fun s nd cd bl W hb hd hD hnd => by
        have hI := ItemsIn.one (HI.out.kept (Kept.of_below hb) (fun _ z => z) (fun _ _ z => VIn.keep (h := 2) hb z)) k hkl
        rw [Nat.zero_add] at hI
        exact known_enc hI (List.getElem_mem _) hd hD hnd (HX.out.keep (HB.out.trans (hb.mono HB.out.size)) |>.mono (Nat.le_trans HB.out.size hb.size))
      have HE2 : Hid (∀ (s : Option Addr) (nd cd : Nat) (bl : List Bool) W, Below wr.heap.size wr W → bl.length = nd → BoolsIn W (fun g => g < W.heap.size) s bl → nd ≤ 100 → Calls Tryd.prog 26 #[.slice (some ⟨g, k1 * 6, none⟩) 1 (19 - k1), .slice s nd cd] W fun e w' => ∃ (a' : Option Addr) (c' m : Nat), e = .returned (.slice a' m c') ∧ SliceIs w' a' (Key.encB 34 bl [knownL[k + 1]] 0) ∧ m = (Key.encB 34 bl [knownL[k + 1]] 0).length ∧ m ≤ 990000 ∧ Below W.heap.size W w') := fun s nd cd bl W hb hd hD hnd => by
        have hI := ItemsIn.one (HI.out.kept (Kept.of_below hb) (fun _ z => z) (fun _ _ z => VIn.keep (h := 2) hb z)) (k + 1) hkl1
        rw [Nat.zero_add] at hI
        rw [hk1]
        exact known_enc hI (List.getElem_mem _) hd hD hnd (HX.out.keep (HB.out.trans (hb.mono HB.out.size)) |>.mono (Nat.le_trans HB.out.size hb.size))
      have HO := Lib.hid (known_order k hkl hkl1)
      generalize knownL[k] = x at *
      generalize knownL[k + 1] = y at *
      have hle1 : k ≤ k1 := by omega
      have hle2 : k1 ≤ 19 := by omega
      have hle3 : k1 ≤ k2 := by omega
      have hle4 : k2 ≤ 19 := by omega
      have hle5 : (k1 : Int) ≤ 19 := by omega
      have hle6 : (k2 : Int) ≤ 19 := by omega
      have hs1 : k1 - k = 1 := by omega
      have hs2 : k2 - k1 = 1 := by omega
      have hne1 : ¬ 19 = k := by omega
      have hne2 : ¬ 19 = k1 := by omega
      have hd : decide ((k1 : Int) < 19) = true := decide_eq_true (by omega)
      have HK1 := Lib.hid hk1
      have HK2 := Lib.hid hk2
      clear hk1 hk2 hkl hkl1
      go_wp2_with fail
      refine wp_region_held_drew (S := fun _ => True) (by kernel_rfl) trivial (fun hHeld => ?_)
      have HD : Hid (Below wr.heap.size wr wr.drew) := (Below.refl _ wr).drew
      generalize wr.drew = w4 at *
      refine wpAnyH_take (i := 0) (v := ?_) rfl (by kernel_rfl) (by kernel_rfl) (by kernel_rfl) (fun _ _ _ h => h) (Or.inl ⟨by kernel_rfl, ?_⟩) (by assumption) ?_
      rotate_left
      · intro wS hSw
        go_simp
        try (with_reducible rfl)
      try simp only [List.getElem_toArray, List.getElem_cons_succ, List.getElem_cons_zero, Act.put, List.setIfInBounds_toArray, List.set_cons_zero, List.set_cons_succ]
      refine wpAnyH_take (i := 1) (v := ?_) rfl (by kernel_rfl) (by kernel_rfl) (by kernel_rfl) (fun _ _ _ h => h) (Or.inl ⟨by kernel_rfl, ?_⟩) (by assumption) ?_
      rotate_left
      · intro wS hSw
        go_simp
        try (with_reducible rfl)
      try simp only [List.getElem_toArray, List.getElem_cons_succ, List.getElem_cons_zero, Act.put, List.setIfInBounds_toArray, List.set_cons_zero, List.set_cons_succ]
      refine wpAnyH_take (i := 2) (v := ?_) rfl (by kernel_rfl) (by kernel_rfl) (by kernel_rfl) (fun _ _ _ h => h) (Or.inl ⟨by kernel_rfl, ?_⟩) (by assumption) ?_
      rotate_left
      · intro wS hSw
        go_simp
        try (with_reducible rfl)
      try simp only [List.getElem_toArray, List.getElem_cons_succ, List.getElem_cons_zero, Act.put, List.setIfInBounds_toArray, List.set_cons_zero, List.set_cons_succ]
      refine wpAnyH_take (i := 3) (v := ?_) rfl (by kernel_rfl) (by kernel_rfl) (by kernel_rfl) (fun _ _ _ h => h) (Or.inl ⟨by kernel_rfl, ?_⟩) (by assumption) ?_
      rotate_left
      · intro wS hSw
        go_simp
        try (with_reducible rfl)
      try simp only [List.getElem_toArray, List.getElem_cons_succ, List.getElem_cons_zero, Act.put, List.setIfInBounds_toArray, List.set_cons_zero, List.set_cons_succ]
      refine wpAnyH_take (i := 4) (v := ?_) rfl (by kernel_rfl) (by kernel_rfl) (by kernel_rfl) (fun _ _ _ h => h) (Or.inl ⟨by kernel_rfl, ?_⟩) (by assumption) ?_
      rotate_left
      · intro wS hSw
        go_simp
        try (with_reducible rfl)
      try simp only [List.getElem_toArray, List.getElem_cons_succ, List.getElem_cons_zero, Act.put, List.setIfInBounds_toArray, List.set_cons_zero, List.set_cons_succ]
      refine wpAnyH_take (i := 6) (v := ?_) rfl (by kernel_rfl) (by kernel_rfl) (by kernel_rfl) (fun _ _ _ h => h) (Or.inl ⟨by kernel_rfl, ?_⟩) (by assumption) ?_
      rotate_left
      · intro wS hSw
        go_simp
        try (with_reducible rfl)
      try simp only [List.getElem_toArray, List.getElem_cons_succ, List.getElem_cons_zero, Act.put, List.setIfInBounds_toArray, List.set_cons_zero, List.set_cons_succ]
      refine wpAnyH_take (i := 7) (v := ?_) rfl (by kernel_rfl) (by kernel_rfl) (by kernel_rfl) (fun _ _ _ h => h) (Or.inl ⟨by kernel_rfl, ?_⟩) (by assumption) ?_
      rotate_left
      · intro wS hSw
        go_simp
        try (with_reducible rfl)
      try simp only [List.getElem_toArray, List.getElem_cons_succ, List.getElem_cons_zero, Act.put, List.setIfInBounds_toArray, List.set_cons_zero, List.set_cons_succ]
      refine wpAnyH_take (i := 8) (v := ?_) rfl (by kernel_rfl) (by kernel_rfl) (by kernel_rfl) (fun _ _ _ h => h) (Or.inl ⟨by kernel_rfl, ?_⟩) (by assumption) ?_
      rotate_left
      · intro wS hSw
        go_simp
        try (with_reducible rfl)
      try simp only [List.getElem_toArray, List.getElem_cons_succ, List.getElem_cons_zero, Act.put, List.setIfInBounds_toArray, List.set_cons_zero, List.set_cons_succ]
      refine wpAnyH_take (i := 9) (v := ?_) rfl (by kernel_rfl) (by kernel_rfl) (by kernel_rfl) (fun _ _ _ h => h) (Or.inl ⟨by kernel_rfl, ?_⟩) (by assumption) ?_
      rotate_left
      · intro wS hSw
        go_simp
        try (with_reducible rfl)
      try simp only [List.getElem_toArray, List.getElem_cons_succ, List.getElem_cons_zero, Act.put, List.setIfInBounds_toArray, List.set_cons_zero, List.set_cons_succ]
      refine wpAnyH_take (i := 10) (v := ?_) rfl (by kernel_rfl) (by kernel_rfl) (by kernel_rfl) (fun _ _ _ h => h) (Or.inl ⟨by kernel_rfl, ?_⟩) (by assumption) ?_
      rotate_left
      · intro wS hSw
        go_simp
        try (with_reducible rfl)
      try simp only [List.getElem_toArray, List.getElem_cons_succ, List.getElem_cons_zero, Act.put, List.setIfInBounds_toArray, List.set_cons_zero, List.set_cons_succ]
      refine wpAnyH_ready (rs := [5]) (by kernel_rfl) (by simp) ?_
      refine AllReadyH.cons rfl (fun K hK => ?_) AllReadyH.nil
      go_simp
      go_at_call 26
      refine (HE1.out none 0 0 [] w4 HD.out rfl (.inl rfl) (by decide)).mono ?_
      rintro e w5 ⟨a5, c5, m5, rfl, hs5, hm5, hl5, hb5⟩
      have HD5 : Hid (Below wr.heap.size wr w5) := HD.out.trans (hb5.mono HD.out.size)
      have HS5 := Lib.hid hs5
      have HM5 := Lib.hid hm5
      clear hb5 hs5 hm5 HD
      refine hK.out _ _ trivial (fun hHeld => ?_)
      clear hK K
      try simp only [List.getElem_toArray, List.getElem_cons_succ, List.getElem_cons_zero, Act.put, List.setIfInBounds_toArray, List.set_cons_zero, List.set_cons_succ]
      refine wpAnyH_ready (rs := [11]) (by kernel_rfl) (by simp) ?_
      refine AllReadyH.cons rfl (fun K hK => ?_) AllReadyH.nil
      go_simp
      go_at_call 26
      refine (HE2.out none 0 0 [] w5 HD5.out rfl (.inl rfl) (by decide)).mono ?_
      rintro e w6 ⟨a6, c6, m6, rfl, hs6, hm6, hl6, hb6⟩
      have HD6 : Hid (Below wr.heap.size wr w6) := HD5.out.trans (hb6.mono HD5.out.size)
      have HS5b := Lib.hid (HS5.out.keep hb6)
      have HS6 := Lib.hid hs6
      have HM6 := Lib.hid hm6
      clear hb6 hs6 hm6 HD5 HS5
      refine hK.out _ _ trivial (fun hHeld => ?_)
      clear hK K
      try simp only [List.getElem_toArray, List.getElem_cons_succ, List.getElem_cons_zero, Act.put, List.setIfInBounds_toArray, List.set_cons_zero, List.set_cons_succ]
      refine wpAnyH_take (i := 12) (v := ?_) rfl (by kernel_rfl) (by kernel_rfl) (by kernel_rfl) (fun _ _ _ h => h) (Or.inl ⟨by kernel_rfl, ?_⟩) (by assumption) ?_
      rotate_left
      · intro wS hSw
        go_simp
        try (with_reducible rfl)
      try simp only [List.getElem_toArray, List.getElem_cons_succ, List.getElem_cons_zero, Act.put, List.setIfInBounds_toArray, List.set_cons_zero, List.set_cons_succ]
      refine wpAnyH_take (i := 13) (v := ?_) rfl (by kernel_rfl) (by kernel_rfl) (by kernel_rfl) (fun _ _ _ h => h) (Or.inl ⟨by kernel_rfl, ?_⟩) (by assumption) ?_
      rotate_left
      · intro wS hSw
        go_simp
        try (with_reducible rfl)
      try simp only [List.getElem_toArray, List.getElem_cons_succ, List.getElem_cons_zero, Act.put, List.setIfInBounds_toArray, List.set_cons_zero, List.set_cons_succ]
      refine wpAnyH_done (by kernel_rfl) ?_ _
      go_wp2_with fail
      refine wp_region_held_drew (S := fun _ => True) (by kernel_rfl) trivial (fun hHeld => ?_)
      have HDD : Hid (Below wr.heap.size wr w6.drew) := HD6.out.drew
      have T5 : Hid (SliceIs w6.drew a5 (Key.encB 34 [] [x] 0)) := HS5b.out
      have T6 : Hid (SliceIs w6.drew a6 (Key.encB 34 [] [y] 0)) := HS6.out
      clear HS5b HS6 HD6
      generalize w6.drew = wd at *
      refine wpAnyH_take (i := 0) (v := ?_) rfl (by kernel_rfl) (by kernel_rfl) (by kernel_rfl) (fun _ _ _ h => h) (Or.inl ⟨by kernel_rfl, ?_⟩) (by assumption) ?_
      rotate_left
      · intro wS hSw
        go_simp
        try (with_reducible rfl)
      try simp only [List.getElem_toArray, List.getElem_cons_succ, List.getElem_cons_zero, Act.put, List.setIfInBounds_toArray, List.set_cons_zero, List.set_cons_succ]
      refine wpAnyH_take (i := 1) (v := ?_) rfl (by kernel_rfl) (by kernel_rfl) (by kernel_rfl) (fun _ _ _ h => h) (Or.inl ⟨by kernel_rfl, ?_⟩) (by assumption) ?_
      rotate_left
      · intro wS hSw
        go_simp
        try (with_reducible rfl)
      try simp only [List.getElem_toArray, List.getElem_cons_succ, List.getElem_cons_zero, Act.put, List.setIfInBounds_toArray, List.set_cons_zero, List.set_cons_succ]
      refine wpAnyH_take (i := 2) (v := ?_) rfl (by kernel_rfl) (by kernel_rfl) (by kernel_rfl) (fun _ _ _ h => h) (Or.inl ⟨by kernel_rfl, ?_⟩) (by assumption) ?_
      rotate_left
      · intro wS hSw
        go_simp
        try (with_reducible rfl)
      try simp only [List.getElem_toArray, List.getElem_cons_succ, List.getElem_cons_zero, Act.put, List.setIfInBounds_toArray, List.set_cons_zero, List.set_cons_succ]
      refine wpAnyH_take (i := 3) (v := ?_) rfl (by kernel_rfl) (by kernel_rfl) (by kernel_rfl) (fun _ _ _ h => h) (Or.inl ⟨by kernel_rfl, ?_⟩) (by assumption) ?_
      rotate_left
      · intro wS hSw
        go_simp
        try (with_reducible rfl)
      try simp only [List.getElem_toArray, List.getElem_cons_succ, List.getElem_cons_zero, Act.put, List.setIfInBounds_toArray, List.set_cons_zero, List.set_cons_succ]
      refine wpAnyH_take (i := 4) (v := ?_) rfl (by kernel_rfl) (by kernel_rfl) (by kernel_rfl) (fun _ _ _ h => h) (Or.inl ⟨by kernel_rfl, ?_⟩) (by assumption) ?_
      rotate_left
      · intro wS hSw
        go_simp
        try (with_reducible rfl)
      try simp only [List.getElem_toArray, List.getElem_cons_succ, List.getElem_cons_zero, Act.put, List.setIfInBounds_toArray, List.set_cons_zero, List.set_cons_succ]
      refine wpAnyH_take (i := 7) (v := ?_) rfl (by kernel_rfl) (by kernel_rfl) (by kernel_rfl) (fun _ _ _ h => h) (Or.inl ⟨by kernel_rfl, ?_⟩) (by assumption) ?_
      rotate_left
      · intro wS hSw
        go_simp
        try (with_reducible rfl)
      try simp only [List.getElem_toArray, List.getElem_cons_succ, List.getElem_cons_zero, Act.put, List.setIfInBounds_toArray, List.set_cons_zero, List.set_cons_succ]
      refine wpAnyH_take (i := 8) (v := ?_) rfl (by kernel_rfl) (by kernel_rfl) (by kernel_rfl) (fun _ _ _ h => h) (Or.inl ⟨by kernel_rfl, ?_⟩) (by assumption) ?_
      rotate_left
      · intro wS hSw
        go_simp
        try (with_reducible rfl)
      try simp only [List.getElem_toArray, List.getElem_cons_succ, List.getElem_cons_zero, Act.put, List.setIfInBounds_toArray, List.set_cons_zero, List.set_cons_succ]
      refine wpAnyH_take (i := 9) (v := ?_) rfl (by kernel_rfl) (by kernel_rfl) (by kernel_rfl) (fun _ _ _ h => h) (Or.inl ⟨by kernel_rfl, ?_⟩) (by assumption) ?_
      rotate_left
      · intro wS hSw
        go_simp
        try (with_reducible rfl)
      try simp only [List.getElem_toArray, List.getElem_cons_succ, List.getElem_cons_zero, Act.put, List.setIfInBounds_toArray, List.set_cons_zero, List.set_cons_succ]
      refine wpAnyH_take (i := 10) (v := ?_) rfl (by kernel_rfl) (by kernel_rfl) (by kernel_rfl) (fun _ _ _ h => h) (Or.inl ⟨by kernel_rfl, ?_⟩) (by assumption) ?_
      rotate_left
      · intro wS hSw
        go_simp
        try (with_reducible rfl)
      try simp only [List.getElem_toArray, List.getElem_cons_succ, List.getElem_cons_zero, Act.put, List.setIfInBounds_toArray, List.set_cons_zero, List.set_cons_succ]
      refine wpAnyH_take (i := 11) (v := ?_) rfl (by kernel_rfl) (by kernel_rfl) (by kernel_rfl) (fun _ _ _ h => h) (Or.inl ⟨by kernel_rfl, ?_⟩) (by assumption) ?_
      rotate_left
      · intro wS hSw
        go_simp
        try (with_reducible rfl)
      try simp only [List.getElem_toArray, List.getElem_cons_succ, List.getElem_cons_zero, Act.put, List.setIfInBounds_toArray, List.set_cons_zero, List.set_cons_succ]
      refine wpAnyH_ready (rs := [5, 12]) (by kernel_rfl) (by simp) ?_
      refine AllReadyH.cons rfl (fun K hK => ?_) (AllReadyH.cons rfl (fun K hK => ?_) (AllReadyH.nil))
      · go_simp
        have hb1 : Below wd.heap.size wd (wd.alloc (.cells #[.bool true] 4)) := (Below.refl _ _).alloc (Nat.le_refl _) _
        have Z1 : Hid ((wd.alloc (.cells #[.bool true] 4)).cell? ⟨wd.heap.size, 0, none⟩ = some (.bool true)) := (cell_of_row _ _ 0 _ _ _ (heap_alloc_new wd _)).trans rfl
        have T5x1 := Lib.hid (T5.out.keep hb1)
        have T6x1 := Lib.hid (T6.out.keep hb1)
        have D1 : Hid (Below wr.heap.size wr (wd.alloc (.cells #[.bool true] 4))) := HDD.out.trans (hb1.mono HDD.out.size)
        clear hb1
        obtain ⟨g1, hg1⟩ : ∃ z, z = wd.heap.size := ⟨_, rfl⟩
        rw [← hg1] at Z1 ⊢
        clear hg1
        generalize wd.alloc (.cells #[.bool true] 4) = v1 at *
        refine hK.out _ _ trivial (fun hHeld => ?_)
        clear hK K
        try simp only [List.getElem_toArray, List.getElem_cons_succ, List.getElem_cons_zero, Act.put, List.setIfInBounds_toArray, List.set_cons_zero, List.set_cons_succ]
        refine wpAnyH_ready (rs := [6, 12]) (by kernel_rfl) (by simp) ?_
        refine AllReadyH.cons rfl (fun K hK => ?_) (AllReadyH.cons rfl (fun K hK => ?_) (AllReadyH.nil))
        · go_simp
          go_at_call 26
          refine (HE1.out (some ⟨g1, 0, none⟩) 1 1 [true] v1 D1.out rfl (bools_one Z1.out) (by decide)).mono ?_
          rintro e v2 ⟨a7, c7, m7, rfl, hs7, hm7, hl7, hb2⟩
          have B5x2 := Lib.hid (cell_keep hb2 Z1.out)
          have T5x2 := Lib.hid (T5x1.out.keep hb2)
          have T6x2 := Lib.hid (T6x1.out.keep hb2)
          have D2 : Hid (Below wr.heap.size wr v2) := D1.out.trans (hb2.mono D1.out.size)
          have HS7 := Lib.hid hs7
          have HM7 := Lib.hid hm7
          clear hb2 hs7 hm7
          refine hK.out _ _ trivial (fun hHeld => ?_)
          clear hK K
          try simp only [List.getElem_toArray, List.getElem_cons_succ, List.getElem_cons_zero, Act.put, List.setIfInBounds_toArray, List.set_cons_zero, List.set_cons_succ]
          refine wpAnyH_ready (rs := [12]) (by kernel_rfl) (by simp) ?_
          refine AllReadyH.cons rfl (fun K hK => ?_) (AllReadyH.nil)
          go_simp
          have hb3 : Below v2.heap.size v2 (v2.alloc (.cells #[.bool true] 4)) := (Below.refl _ _).alloc (Nat.le_refl _) _
          have Z3 : Hid ((v2.alloc (.cells #[.bool true] 4)).cell? ⟨v2.heap.size, 0, none⟩ = some (.bool true)) := (cell_of_row _ _ 0 _ _ _ (heap_alloc_new v2 _)).trans rfl
          have B5x3 := Lib.hid (cell_keep hb3 B5x2.out)
          have T5x3 := Lib.hid (T5x2.out.keep hb3)
          have T6x3 := Lib.hid (T6x2.out.keep hb3)
          have T7x3 := Lib.hid (HS7.out.keep hb3)
          have D3 : Hid (Below wr.heap.size wr (v2.alloc (.cells #[.bool true] 4))) := D2.out.trans (hb3.mono D2.out.size)
          clear hb3
          obtain ⟨g3, hg3⟩ : ∃ z, z = v2.heap.size := ⟨_, rfl⟩
          rw [← hg3] at Z3 ⊢
          clear hg3
          generalize v2.alloc (.cells #[.bool true] 4) = v3 at *
          refine hK.out _ _ trivial (fun hHeld => ?_)
          clear hK K
          try simp only [List.getElem_toArray, List.getElem_cons_succ, List.getElem_cons_zero, Act.put, List.setIfInBounds_toArray, List.set_cons_zero, List.set_cons_succ]
          refine wpAnyH_ready (rs := [13]) (by kernel_rfl) (by simp) ?_
          refine AllReadyH.cons rfl (fun K hK => ?_) (AllReadyH.nil)
          go_simp
          go_at_call 26
          refine (HE2.out (some ⟨g3, 0, none⟩) 1 1 [true] v3 D3.out rfl (bools_one Z3.out) (by decide)).mono ?_
          rintro e v4 ⟨a8, c8, m8, rfl, hs8, hm8, hl8, hb4⟩
          have B5x4 := Lib.hid (cell_keep hb4 B5x3.out)
          have B12x4 := Lib.hid (cell_keep hb4 Z3.out)
          have T5x4 := Lib.hid (T5x3.out.keep hb4)
          have T6x4 := Lib.hid (T6x3.out.keep hb4)
          have T7x4 := Lib.hid (T7x3.out.keep hb4)
          have D4 : Hid (Below wr.heap.size wr v4) := D3.out.trans (hb4.mono D3.out.size)
          have HS8 := Lib.hid hs8
          have HM8 := Lib.hid hm8
          clear hb4 hs8 hm8
          refine hK.out _ _ trivial (fun hHeld => ?_)
          clear hK K
          try simp only [List.getElem_toArray, List.getElem_cons_succ, List.getElem_cons_zero, Act.put, List.setIfInBounds_toArray, List.set_cons_zero, List.set_cons_succ]
          refine wpAnyH_take (i := 14) (v := ?_) rfl (by kernel_rfl) (by kernel_rfl) (by kernel_rfl) (fun _ _ _ h => h) (Or.inl ⟨by kernel_rfl, ?_⟩) (by assumption) ?_
          rotate_left
          · intro wS hSw
            go_simp
            try (with_reducible rfl)
          try simp only [List.getElem_toArray, List.getElem_cons_succ, List.getElem_cons_zero, Act.put, List.setIfInBounds_toArray, List.set_cons_zero, List.set_cons_succ]
          refine wpAnyH_take (i := 15) (v := ?_) rfl (by kernel_rfl) (by kernel_rfl) (by kernel_rfl) (fun _ _ _ h => h) (Or.inl ⟨by kernel_rfl, ?_⟩) (by assumption) ?_
          rotate_left
          · intro wS hSw
            go_simp
            try (with_reducible rfl)
          try simp only [List.getElem_toArray, List.getElem_cons_succ, List.getElem_cons_zero, Act.put, List.setIfInBounds_toArray, List.set_cons_zero, List.set_cons_succ]
          refine wpAnyH_done (by kernel_rfl) ?_ _
          have HI7 : Hid (ItemsIn v4 (fun _ => True) (VIn v4 (fun _ => True) 2) (some ⟨g, 0, none⟩) knownL) := HI.out.kept (Kept.of_below D4.out) (fun _ z => z) (fun _ _ z => VIn.keep (h := 2) D4.out z)
          have HBW : Hid (Below w.heap.size w v4) := HB.out.trans (D4.out.mono HB.out.size)
          have HS5c := Lib.hid T5x4.out
          have HS6c := Lib.hid T6x4.out
          have HS7d := Lib.hid T7x4.out
          have HS8d := Lib.hid HS8.out
          go_wp2_with fail
          go_at_call 27
          refine (sign_key v4 a5 a6 m5 c5 m6 c6 _ _ HM5.out.symm HM6.out.symm HS5c.out HS6c.out (by omega) (by omega)).mono ?_
          rw [HO.out.1]
          rintro e w8 ⟨rfl, q8, hw8⟩
          have hb8 : Below v4.heap.size v4 w8 := by rw [hw8]; exact below_dr (Below.refl _ _) _
          have HS7b := Lib.hid (HS7d.out.keep hb8)
          have HS8b := Lib.hid (HS8d.out.keep hb8)
          have HB8 : Hid (Below w.heap.size w w8) := HBW.out.trans (hb8.mono HBW.out.size)
          have HI8 : Hid (ItemsIn w8 (fun _ => True) (VIn w8 (fun _ => True) 2) (some ⟨g, 0, none⟩) knownL) := HI7.out.kept (Kept.of_below hb8) (fun _ z => z) (fun _ _ z => VIn.keep (h := 2) hb8 z)
          clear hw8 hb8 HS7d HS8d HS5c HS6c HBW HI7
          go_wp2_with fail
          go_at_call 27
          refine (sign_key w8 a7 a8 m7 c7 m8 c8 _ _ HM7.out.symm HM8.out.symm HS7b.out HS8b.out (by omega) (by omega)).mono ?_
          rw [HO.out.2]
          rintro e w9 ⟨rfl, q9, hw9⟩
          have hb9 : Below w8.heap.size w8 w9 := by rw [hw9]; exact below_dr (Below.refl _ _) _
          have HB9 : Hid (Below w.heap.size w w9) := HB8.out.trans (hb9.mono HB8.out.size)
          have HI9 : Hid (ItemsIn w9 (fun _ => True) (VIn w9 (fun _ => True) 2) (some ⟨g, 0, none⟩) knownL) := HI8.out.kept (Kept.of_below hb9) (fun _ z => z) (fun _ _ z => VIn.keep (h := 2) hb9 z)
          clear hw9 hb9 HS7b HS8b HB8 HI8
          go_wp2_with fail
          go_roundw
          case rel => exact ⟨k1, by rw [HK2.out, HK1.out], by omega, HB9, HI9⟩
          case measure => simp [intOf]; have := HK1.out; have := HK2.out; omega
        · go_simp
          have hb5 : Below v1.heap.size v1 (v1.alloc (.cells #[.bool true] 4)) := (Below.refl _ _).alloc (Nat.le_refl _) _
          have Z5 : Hid ((v1.alloc (.cells #[.bool true] 4)).cell? ⟨v1.heap.size, 0, none⟩ = some (.bool true)) := (cell_of_row _ _ 0 _ _ _ (heap_alloc_new v1 _)).trans rfl
          have B5x5 := Lib.hid (cell_keep hb5 Z1.out)
          have T5x5 := Lib.hid (T5x1.out.keep hb5)
          have T6x5 := Lib.hid (T6x1.out.keep hb5)
          have D5 : Hid (Below wr.heap.size wr (v1.alloc (.cells #[.bool true] 4))) := D1.out.trans (hb5.mono D1.out.size)
          clear hb5
          obtain ⟨g5, hg5⟩ : ∃ z, z = v1.heap.size := ⟨_, rfl⟩
          rw [← hg5] at Z5 ⊢
          clear hg5
          generalize v1.alloc (.cells #[.bool true] 4) = v5 at *
          refine hK.out _ _ trivial (fun hHeld => ?_)
          clear hK K
          try simp only [List.getElem_toArray, List.getElem_cons_succ, List.getElem_cons_zero, Act.put, List.setIfInBounds_toArray, List.set_cons_zero, List.set_cons_succ]
          refine wpAnyH_ready (rs := [6]) (by kernel_rfl) (by simp) ?_
          refine AllReadyH.cons rfl (fun K hK => ?_) (AllReadyH.nil)
          go_simp
          go_at_call 26
          refine (HE1.out (some ⟨g1, 0, none⟩) 1 1 [true] v5 D5.out rfl (bools_one B5x5.out) (by decide)).mono ?_
          rintro e v6 ⟨a7, c7, m7, rfl, hs7, hm7, hl7, hb6⟩
          have B5x6 := Lib.hid (cell_keep hb6 B5x5.out)
          have B12x6 := Lib.hid (cell_keep hb6 Z5.out)
          have T5x6 := Lib.hid (T5x5.out.keep hb6)
          have T6x6 := Lib.hid (T6x5.out.keep hb6)
          have D6 : Hid (Below wr.heap.size wr v6) := D5.out.trans (hb6.mono D5.out.size)
          have HS7 := Lib.hid hs7
          have HM7 := Lib.hid hm7
          clear hb6 hs7 hm7
          refine hK.out _ _ trivial (fun hHeld => ?_)
          clear hK K
          try simp only [List.getElem_toArray, List.getElem_cons_succ, List.getElem_cons_zero, Act.put, List.setIfInBounds_toArray, List.set_cons_zero, List.set_cons_succ]
          refine wpAnyH_ready (rs := [13]) (by kernel_rfl) (by simp) ?_
          refine AllReadyH.cons rfl (fun K hK => ?_) (AllReadyH.nil)
          go_simp
          go_at_call 26
          refine (HE2.out (some ⟨g5, 0, none⟩) 1 1 [true] v6 D6.out rfl (bools_one B12x6.out) (by decide)).mono ?_
          rintro e v7 ⟨a8, c8, m8, rfl, hs8, hm8, hl8, hb7⟩
          have B5x7 := Lib.hid (cell_keep hb7 B5x6.out)
          have B12x7 := Lib.hid (cell_keep hb7 B12x6.out)
          have T5x7 := Lib.hid (T5x6.out.keep hb7)
          have T6x7 := Lib.hid (T6x6.out.keep hb7)
          have T7x7 := Lib.hid (HS7.out.keep hb7)
          have D7 : Hid (Below wr.heap.size wr v7) := D6.out.trans (hb7.mono D6.out.size)
          have HS8 := Lib.hid hs8
          have HM8 := Lib.hid hm8
          clear hb7 hs8 hm8
          refine hK.out _ _ trivial (fun hHeld => ?_)
          clear hK K
          try simp only [List.getElem_toArray, List.getElem_cons_succ, List.getElem_cons_zero, Act.put, List.setIfInBounds_toArray, List.set_cons_zero, List.set_cons_succ]
          refine wpAnyH_take (i := 14) (v := ?_) rfl (by kernel_rfl) (by kernel_rfl) (by kernel_rfl) (fun _ _ _ h => h) (Or.inl ⟨by kernel_rfl, ?_⟩) (by assumption) ?_
          rotate_left
          · intro wS hSw
            go_simp
            try (with_reducible rfl)
          try simp only [List.getElem_toArray, List.getElem_cons_succ, List.getElem_cons_zero, Act.put, List.setIfInBounds_toArray, List.set_cons_zero, List.set_cons_succ]
          refine wpAnyH_take (i := 15) (v := ?_) rfl (by kernel_rfl) (by kernel_rfl) (by kernel_rfl) (fun _ _ _ h => h) (Or.inl ⟨by kernel_rfl, ?_⟩) (by assumption) ?_
          rotate_left
          · intro wS hSw
            go_simp
            try (with_reducible rfl)
          try simp only [List.getElem_toArray, List.getElem_cons_succ, List.getElem_cons_zero, Act.put, List.setIfInBounds_toArray, List.set_cons_zero, List.set_cons_succ]
          refine wpAnyH_done (by kernel_rfl) ?_ _
          have HI7 : Hid (ItemsIn v7 (fun _ => True) (VIn v7 (fun _ => True) 2) (some ⟨g, 0, none⟩) knownL) := HI.out.kept (Kept.of_below D7.out) (fun _ z => z) (fun _ _ z => VIn.keep (h := 2) D7.out z)
          have HBW : Hid (Below w.heap.size w v7) := HB.out.trans (D7.out.mono HB.out.size)
          have HS5c := Lib.hid T5x7.out
          have HS6c := Lib.hid T6x7.out
          have HS7d := Lib.hid T7x7.out
          have HS8d := Lib.hid HS8.out
          go_wp2_with fail
          go_at_call 27
          refine (sign_key v7 a5 a6 m5 c5 m6 c6 _ _ HM5.out.symm HM6.out.symm HS5c.out HS6c.out (by omega) (by omega)).mono ?_
          rw [HO.out.1]
          rintro e w8 ⟨rfl, q8, hw8⟩
          have hb8 : Below v7.heap.size v7 w8 := by rw [hw8]; exact below_dr (Below.refl _ _) _
          have HS7b := Lib.hid (HS7d.out.keep hb8)
          have HS8b := Lib.hid (HS8d.out.keep hb8)
          have HB8 : Hid (Below w.heap.size w w8) := HBW.out.trans (hb8.mono HBW.out.size)
          have HI8 : Hid (ItemsIn w8 (fun _ => True) (VIn w8 (fun _ => True) 2) (some ⟨g, 0, none⟩) knownL) := HI7.out.kept (Kept.of_below hb8) (fun _ z => z) (fun _ _ z => VIn.keep (h := 2) hb8 z)
          clear hw8 hb8 HS7d HS8d HS5c HS6c HBW HI7
          go_wp2_with fail
          go_at_call 27
          refine (sign_key w8 a7 a8 m7 c7 m8 c8 _ _ HM7.out.symm HM8.out.symm HS7b.out HS8b.out (by omega) (by omega)).mono ?_
          rw [HO.out.2]
          rintro e w9 ⟨rfl, q9, hw9⟩
          have hb9 : Below w8.heap.size w8 w9 := by rw [hw9]; exact below_dr (Below.refl _ _) _
          have HB9 : Hid (Below w.heap.size w w9) := HB8.out.trans (hb9.mono HB8.out.size)
          have HI9 : Hid (ItemsIn w9 (fun _ => True) (VIn w9 (fun _ => True) 2) (some ⟨g, 0, none⟩) knownL) := HI8.out.kept (Kept.of_below hb9) (fun _ z => z) (fun _ _ z => VIn.keep (h := 2) hb9 z)
          clear hw9 hb9 HS7b HS8b HB8 HI8
          go_wp2_with fail
          go_roundw
          case rel => exact ⟨k1, by rw [HK2.out, HK1.out], by omega, HB9, HI9⟩
          case measure => simp [intOf]; have := HK1.out; have := HK2.out; omega
      · go_simp
        have hb8 : Below wd.heap.size wd (wd.alloc (.cells #[.bool true] 4)) := (Below.refl _ _).alloc (Nat.le_refl _) _
        have Z8 : Hid ((wd.alloc (.cells #[.bool true] 4)).cell? ⟨wd.heap.size, 0, none⟩ = some (.bool true)) := (cell_of_row _ _ 0 _ _ _ (heap_alloc_new wd _)).trans rfl
        have T5x8 := Lib.hid (T5.out.keep hb8)
        have T6x8 := Lib.hid (T6.out.keep hb8)
        have D8 : Hid (Below wr.heap.size wr (wd.alloc (.cells #[.bool true] 4))) := HDD.out.trans (hb8.mono HDD.out.size)
        clear hb8
        obtain ⟨g8, hg8⟩ : ∃ z, z = wd.heap.size := ⟨_, rfl⟩
        rw [← hg8] at Z8 ⊢
        clear hg8
        generalize wd.alloc (.cells #[.bool true] 4) = v8 at *
        refine hK.out _ _ trivial (fun hHeld => ?_)
        clear hK K
        try simp only [List.getElem_toArray, List.getElem_cons_succ, List.getElem_cons_zero, Act.put, List.setIfInBounds_toArray, List.set_cons_zero, List.set_cons_succ]
        refine wpAnyH_ready (rs := [5]) (by kernel_rfl) (by simp) ?_
        refine AllReadyH.cons rfl (fun K hK => ?_) (AllReadyH.nil)
        go_simp
        have hb9 : Below v8.heap.size v8 (v8.alloc (.cells #[.bool true] 4)) := (Below.refl _ _).alloc (Nat.le_refl _) _
        have Z9 : Hid ((v8.alloc (.cells #[.bool true] 4)).cell? ⟨v8.heap.size, 0, none⟩ = some (.bool true)) := (cell_of_row _ _ 0 _ _ _ (heap_alloc_new v8 _)).trans rfl
        have B12x9 := Lib.hid (cell_keep hb9 Z8.out)
        have T5x9 := Lib.hid (T5x8.out.keep hb9)
        have T6x9 := Lib.hid (T6x8.out.keep hb9)
        have D9 : Hid (Below wr.heap.size wr (v8.alloc (.cells #[.bool true] 4))) := D8.out.trans (hb9.mono D8.out.size)
        clear hb9
        obtain ⟨g9, hg9⟩ : ∃ z, z = v8.heap.size := ⟨_, rfl⟩
        rw [← hg9] at Z9 ⊢
        clear hg9
        generalize v8.alloc (.cells #[.bool true] 4) = v9 at *
        refine hK.out _ _ trivial (fun hHeld => ?_)
        clear hK K
        try simp only [List.getElem_toArray, List.getElem_cons_succ, List.getElem_cons_zero, Act.put, List.setIfInBounds_toArray, List.set_cons_zero, List.set_cons_succ]
        refine wpAnyH_ready (rs := [6]) (by kernel_rfl) (by simp) ?_
        refine AllReadyH.cons rfl (fun K hK => ?_) (AllReadyH.nil)
        go_simp
        go_at_call 26
        refine (HE1.out (some ⟨g9, 0, none⟩) 1 1 [true] v9 D9.out rfl (bools_one Z9.out) (by decide)).mono ?_
        rintro e v10 ⟨a7, c7, m7, rfl, hs7, hm7, hl7, hb10⟩
        have B5x10 := Lib.hid (cell_keep hb10 Z9.out)
        have B12x10 := Lib.hid (cell_keep hb10 B12x9.out)
        have T5x10 := Lib.hid (T5x9.out.keep hb10)
        have T6x10 := Lib.hid (T6x9.out.keep hb10)
        have D10 : Hid (Below wr.heap.size wr v10) := D9.out.trans (hb10.mono D9.out.size)
        have HS7 := Lib.hid hs7
        have HM7 := Lib.hid hm7
        clear hb10 hs7 hm7
        refine hK.out _ _ trivial (fun hHeld => ?_)
        clear hK K
        try simp only [List.getElem_toArray, List.getElem_cons_succ, List.getElem_cons_zero, Act.put, List.setIfInBounds_toArray, List.set_cons_zero, List.set_cons_succ]
        refine wpAnyH_ready (rs := [13]) (by kernel_rfl) (by simp) ?_
        refine AllReadyH.cons rfl (fun K hK => ?_) (AllReadyH.nil)
        go_simp
        go_at_call 26
        refine (HE2.out (some ⟨g8, 0, none⟩) 1 1 [true] v10 D10.out rfl (bools_one B12x10.out) (by decide)).mono ?_
        rintro e v11 ⟨a8, c8, m8, rfl, hs8, hm8, hl8, hb11⟩
        have B5x11 := Lib.hid (cell_keep hb11 B5x10.out)
        have B12x11 := Lib.hid (cell_keep hb11 B12x10.out)
        have T5x11 := Lib.hid (T5x10.out.keep hb11)
        have T6x11 := Lib.hid (T6x10.out.keep hb11)
        have T7x11 := Lib.hid (HS7.out.keep hb11)
        have D11 : Hid (Below wr.heap.size wr v11) := D10.out.trans (hb11.mono D10.out.size)
        have HS8 := Lib.hid hs8
        have HM8 := Lib.hid hm8
        clear hb11 hs8 hm8
        refine hK.out _ _ trivial (fun hHeld => ?_)
        clear hK K
        try simp only [List.getElem_toArray, List.getElem_cons_succ, List.getElem_cons_zero, Act.put, List.setIfInBounds_toArray, List.set_cons_zero, List.set_cons_succ]
        refine wpAnyH_take (i := 14) (v := ?_) rfl (by kernel_rfl) (by kernel_rfl) (by kernel_rfl) (fun _ _ _ h => h) (Or.inl ⟨by kernel_rfl, ?_⟩) (by assumption) ?_
        rotate_left
        · intro wS hSw
          go_simp
          try (with_reducible rfl)
        try simp only [List.getElem_toArray, List.getElem_cons_succ, List.getElem_cons_zero, Act.put, List.setIfInBounds_toArray, List.set_cons_zero, List.set_cons_succ]
        refine wpAnyH_take (i := 15) (v := ?_) rfl (by kernel_rfl) (by kernel_rfl) (by kernel_rfl) (fun _ _ _ h => h) (Or.inl ⟨by kernel_rfl, ?_⟩) (by assumption) ?_
        rotate_left
        · intro wS hSw
          go_simp
          try (with_reducible rfl)
        try simp only [List.getElem_toArray, List.getElem_cons_succ, List.getElem_cons_zero, Act.put, List.setIfInBounds_toArray, List.set_cons_zero, List.set_cons_succ]
        refine wpAnyH_done (by kernel_rfl) ?_ _
        have HI7 : Hid (ItemsIn v11 (fun _ => True) (VIn v11 (fun _ => True) 2) (some ⟨g, 0, none⟩) knownL) := HI.out.kept (Kept.of_below D11.out) (fun _ z => z) (fun _ _ z => VIn.keep (h := 2) D11.out z)
        have HBW : Hid (Below w.heap.size w v11) := HB.out.trans (D11.out.mono HB.out.size)
        have HS5c := Lib.hid T5x11.out
        have HS6c := Lib.hid T6x11.out
        have HS7d := Lib.hid T7x11.out
        have HS8d := Lib.hid HS8.out
        go_wp2_with fail
        go_at_call 27
        refine (sign_key v11 a5 a6 m5 c5 m6 c6 _ _ HM5.out.symm HM6.out.symm HS5c.out HS6c.out (by omega) (by omega)).mono ?_
        rw [HO.out.1]
        rintro e w8 ⟨rfl, q8, hw8⟩
        have hb8 : Below v11.heap.size v11 w8 := by rw [hw8]; exact below_dr (Below.refl _ _) _
        have HS7b := Lib.hid (HS7d.out.keep hb8)
        have HS8b := Lib.hid (HS8d.out.keep hb8)
        have HB8 : Hid (Below w.heap.size w w8) := HBW.out.trans (hb8.mono HBW.out.size)
        have HI8 : Hid (ItemsIn w8 (fun _ => True) (VIn w8 (fun _ => True) 2) (some ⟨g, 0, none⟩) knownL) := HI7.out.kept (Kept.of_below hb8) (fun _ z => z) (fun _ _ z => VIn.keep (h := 2) hb8 z)
        clear hw8 hb8 HS7d HS8d HS5c HS6c HBW HI7
        go_wp2_with fail
        go_at_call 27
        refine (sign_key w8 a7 a8 m7 c7 m8 c8 _ _ HM7.out.symm HM8.out.symm HS7b.out HS8b.out (by omega) (by omega)).mono ?_
        rw [HO.out.2]
        rintro e w9 ⟨rfl, q9, hw9⟩
        have hb9 : Below w8.heap.size w8 w9 := by rw [hw9]; exact below_dr (Below.refl _ _) _
        have HB9 : Hid (Below w.heap.size w w9) := HB8.out.trans (hb9.mono HB8.out.size)
        have HI9 : Hid (ItemsIn w9 (fun _ => True) (VIn w9 (fun _ => True) 2) (some ⟨g, 0, none⟩) knownL) := HI8.out.kept (Kept.of_below hb9) (fun _ z => z) (fun _ _ z => VIn.keep (h := 2) hb9 z)
        clear hw9 hb9 HS7b HS8b HB8 HI8
        go_wp2_with fail
        go_roundw
        case rel => exact ⟨k1, by rw [HK2.out, HK1.out], by omega, HB9, HI9⟩
        case measure => simp [intOf]; have := HK1.out; have := HK2.out; omega
    · have hk18 : ¬ ((k + 1 : Nat) : Int) < 19 := by omega
      have hd : decide ((((k + 1 : Nat) : Int)) < 19) = false := decide_eq_false (by omega)
      obtain rfl : k = 18 := by omega
      have hne : (hash [] 1 != hash [] 0) = true := by decide +kernel
      have kc := fun (w : World) (C : Array Value) (n c : Nat) => Lib.run_convert_bytes_const (P := Tryd.prog) w 22 5 C n c Tryd.underlying22 Tryd.underlying5
      go_wp2_with fail
      go_at_call 30
      refine (hash_any wr none 0 0 [] 0 rfl (.inl rfl) nofun (by decide)).mono ?_
      rintro e w3 ⟨rfl, hw3⟩
      obtain rfl := hw3
      go_wp2_with fail
      go_at_call 29
      refine (refHash_any w3 none 0 0 [] 0 rfl (.inl rfl) nofun (by decide)).mono ?_
      rintro e w4 ⟨rfl, hw4⟩
      obtain rfl := hw4
      go_wp2_with fail
      go_at_call 30
      refine (hash_any w4 none 0 0 [] 1 rfl (.inl rfl) nofun (by decide)).mono ?_
      rintro e w5 ⟨rfl, hw5⟩
      obtain rfl := hw5
      go_wp2_with fail
      go_at_call 30
      refine (hash_any w5 none 0 0 [] 0 rfl (.inl rfl) nofun (by decide)).mono ?_
      rintro e w6 ⟨rfl, hw6⟩
      obtain rfl := hw6
      go_wp2_with fail
      have hrd : Reads (w6.alloc (.cells #[.int .u8 120] 5 (1, 2))) w6.heap.size 0 [120] := reads_new w6 [120] _ _
      have HBF : Hid (Below w.heap.size w (w6.alloc (.cells #[.int .u8 120] 5 (1, 2)))) := HB.out.alloc HB.out.size _
      generalize w6.alloc (.cells #[.int .u8 120] 5 (1, 2)) = w7 at *
      refine (part_any w7 (some ⟨w6.heap.size, 0, none⟩) 1 1 [120] 3 0 rfl (.inr ⟨_, 0, rfl, hrd⟩) (fun c hc => by rw [List.mem_singleton.1 hc]; decide) (by decide) (by decide)).mono ?_
      rw [show hpart (hash [120] 3) 0 = 0 from if_pos (by decide)]
      rintro e w8 ⟨rfl, hw8⟩
      obtain rfl := hw8
      go_wp2_with fail
      go_ret
      exact ⟨rfl, HBF.out⟩
end Go.Proofs.YtdcfddiicclpeaaDoor
