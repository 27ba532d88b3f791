/- BsonKnownWalk. -/
import Derived.Lib.ConvBytes
import Derived.Lib.SlBytesConst
import Derived.Laws.OwnMore
import Derived.Test.YtemckkindbpepaaDoorMg32
set_option maxRecDepth 100000
section
namespace Go.Proofs.YtemckkindbpepaaDoor
open Go.RowKit
open Seal
open Bson (Val)
def helloB : List Nat := [22, 0, 0, 0, 2, 104, 101, 108, 108, 111, 0, 6, 0, 0, 0, 119, 111, 114, 108, 100, 0, 0]
def helloV : Val := .mk 6 0 ⟨#[]⟩ [] [(⟨#[104, 101, 108, 108, 111]⟩, .mk 5 0 ⟨#[119, 111, 114, 108, 100]⟩ [] [] [])] []
theorem hello_dec : Bson.decode helloB = (0, helloV) := by rfl
def badL : List ByteArray := [⟨#[]⟩, ⟨#[5, 0, 0]⟩, ⟨#[5, 0, 0, 0, 1]⟩, ⟨#[6, 0, 0, 0, 0]⟩, ⟨#[4, 0, 0, 0]⟩, ⟨#[8, 0, 0, 0, 153, 97, 0, 0]⟩, ⟨#[16, 0, 0, 0, 1, 97, 0, 0, 0, 0, 0, 0, 0, 0, 0, 0]⟩, ⟨#[8, 0, 0, 0, 10, 255, 0, 0]⟩, ⟨#[11, 0, 0, 0, 10, 97, 0, 10, 97, 0, 0]⟩, ⟨#[9, 0, 0, 0, 8, 97, 0, 2, 0]⟩]
def wantL : List Nat := [2, 2, 2, 4, 4, 9, 8, 5, 6, 4]
theorem bad_dec : ∀ i, i < 10 → (Bson.decode (Bson.bytes (badL.getD i ⟨#[]⟩))).1 = wantL.getD i 0 := by
  intro i hi
  match i, hi with
  | 0, _ => rfl
  | 1, _ => rfl
  | 2, _ => rfl
  | 3, _ => rfl
  | 4, _ => rfl
  | 5, _ => rfl
  | 6, _ => rfl
  | 7, _ => rfl
  | 8, _ => rfl
  | 9, _ => rfl
theorem bad_short : ∀ i, i < 10 → (badL.getD i ⟨#[]⟩).size ≤ 100 := by
  intro i hi
  match i, hi with
  | 0, _ => decide
  | 1, _ => decide
  | 2, _ => decide
  | 3, _ => decide
  | 4, _ => decide
  | 5, _ => decide
  | 6, _ => decide
  | 7, _ => decide
  | 8, _ => decide
  | 9, _ => decide
theorem below_bytes (w : World) (e : TypeId) (s : ByteArray) : Below w.heap.size w (Lib.bytesWorld w e s) := by
  refine ⟨?_, ?_, ?_, by rw [Lib.bytesWorld_size]; omega, fun j hj => Lib.bytesWorld_at_old w e s j hj⟩ <;> rfl
theorem bytes_slice (w : World) (s : ByteArray) : SliceIs (Lib.bytesWorld w 5 s) (some ⟨w.heap.size, 0, none⟩) (Bson.bytes s) := by
  refine .inr ⟨_, 0, rfl, fun j hj => ?_⟩
  have hj2 : j < s.size := by rw [Bson.bytes_length] at hj; exact hj
  rw [Nat.zero_add, Lib.bytesWorld_cell w _ s j hj2]
  unfold Bson.bytes
  have hl : j < s.data.toList.length := by rw [Array.length_toList]; exact hj2
  have e : (s.data.toList.map UInt8.toNat).getD j 0 = (s.data.toList.getD j 0).toNat := by rw [List.getD_eq_getElem?_getD, List.getElem?_map, List.getD_eq_getElem?_getD, List.getElem?_eq_getElem hl]; rfl
  rw [e]
set_option maxRecDepth 100000 in
set_option maxHeartbeats 4000000 in
theorem known5_any (w : World) (hT : Tabs w) : Calls Tryd.prog 7 #[] w fun e w' => e = .returned (.bool true) ∧ Below w.heap.size w w' := by
  obtain ⟨i0, hi, hz0, hz1, hz2⟩ := info_parts infoU8
  have HT := Lib.hid hT
  have CA := Lib.hid (awake5_any w hT)
  clear hT
  go_enter Tryd.func7, Tryd.ntmps7
  go_wp2_with fail
  refine CA.out.mono ?_
  rintro e w1 ⟨rfl, hb1⟩
  have HB1 := Lib.hid hb1
  have HT1 := Lib.hid (HT.out.below hb1)
  have HBL : Hid (Below w1.heap.size w1 (w1.alloc (.cells #[Value.int .u8 22, .int .u8 0, .int .u8 0, .int .u8 0, .int .u8 2, .int .u8 104, .int .u8 101, .int .u8 108, .int .u8 108, .int .u8 111, .int .u8 0, .int .u8 6, .int .u8 0, .int .u8 0, .int .u8 0, .int .u8 119, .int .u8 111, .int .u8 114, .int .u8 108, .int .u8 100, .int .u8 0, .int .u8 0] 5 (22, 23)))) := (Below.refl _ w1).alloc (Nat.le_refl _) _
  have hsl : SliceIs (w1.alloc (.cells #[Value.int .u8 22, .int .u8 0, .int .u8 0, .int .u8 0, .int .u8 2, .int .u8 104, .int .u8 101, .int .u8 108, .int .u8 108, .int .u8 111, .int .u8 0, .int .u8 6, .int .u8 0, .int .u8 0, .int .u8 0, .int .u8 119, .int .u8 111, .int .u8 114, .int .u8 108, .int .u8 100, .int .u8 0, .int .u8 0] 5 (22, 23))) (some ⟨w1.heap.size, 0, none⟩) helloB := .inr ⟨_, 0, rfl, fun j hj => by
    rw [Nat.zero_add, cell_of_row _ _ j _ _ _ (heap_alloc_new w1 _)]
    have e : (#[Value.int .u8 22, .int .u8 0, .int .u8 0, .int .u8 0, .int .u8 2, .int .u8 104, .int .u8 101, .int .u8 108, .int .u8 108, .int .u8 111, .int .u8 0, .int .u8 6, .int .u8 0, .int .u8 0, .int .u8 0, .int .u8 119, .int .u8 111, .int .u8 114, .int .u8 108, .int .u8 100, .int .u8 0, .int .u8 0] : Array Value) = (u8s helloB).toArray := rfl
    rw [e]
    have hj2 : j < helloB.length := hj
    simp [u8s, u8, hj2]⟩
  have kc := fun (w : World) (C : Array Value) (n c : Nat) => Lib.run_convert_bytes_const (P := Tryd.prog) w 22 5 C n c Tryd.underlying22 Tryd.underlying5
  have CD := Lib.hid (decode_any _ (some ⟨w1.heap.size, 0, none⟩) 22 helloB (Nat.le_refl _) (by decide) hsl (by unfold helloB Oct; decide) (HT1.out.below HBL.out))
  rw [hello_dec] at CD
  have hhl : helloB.length = 22 := rfl
  rw [hhl] at CD
  clear hb1 hsl hhl CA
  go_wp2_with fail
  refine CD.out.mono ?_
  rintro e w3 ⟨v3, rfl, ⟨h3, hv3⟩, hb3⟩
  cases h3 with
  | zero => exact hv3.elim
  | succ h3 =>
  obtain ⟨ba, fa, la, bc, fc, lc, rfl, -⟩ := id hv3
  obtain ⟨-, -, -, -, -, hF3, -⟩ := VIn.parts hv3
  obtain ⟨g3, o3, rfl, -, hall3⟩ := hF3.resolve_left (by show ¬ [_] = []; simp)
  obtain ⟨hn4, -, v4, hsix4, hv4⟩ := hall3 0 (by decide)
  have z0 : w3.cell? ⟨g3, o3, none⟩ = some (.string ⟨#[104, 101, 108, 108, 111]⟩) := by rw [Nat.zero_mul, Nat.add_zero] at hn4; exact hn4
  have z2 : w3.cell? ⟨g3, o3 + 1 + 2, none⟩ = some (.string ⟨#[119, 111, 114, 108, 100]⟩) := by
    cases h3 with
    | zero => exact hv4.elim
    | succ h3 =>
    obtain ⟨_, _, _, _, _, _, rfl, _⟩ := hv4
    obtain ⟨d0, d1, d2, d3, d4, d5, he6, s0, s1, s2, s3, s4, s5⟩ := hsix4
    unfold agg at he6
    simp only [Value.agg.injEq, Array.mk.injEq, List.cons.injEq, and_true] at he6
    obtain ⟨-, -, rfl, -⟩ := he6
    rw [Nat.zero_mul, Nat.add_zero] at s2
    exact s2
  have e5 : agg helloV ba (some ⟨g3, o3, none⟩) la bc fc lc = .agg #[.int .i64 6, .int .i64 0, .string ⟨#[]⟩, .slice ba 0 bc, .slice (some ⟨g3, o3, none⟩) 1 fc, .slice la 0 lc] := rfl
  rw [e5]
  have HB3 := Lib.hid (HB1.out.trans ((HBL.out.trans (hb3.mono HBL.out.size)).mono HB1.out.size))
  have HBX : Hid (Below w3.heap.size w3 (w3.alloc (.cells #[.int .i64 6, .int .i64 0, .string ⟨#[]⟩, .slice ba 0 bc, .slice (some ⟨g3, o3, none⟩) 1 fc, .slice la 0 lc] 27))) := (Below.refl _ w3).alloc (Nat.le_refl _) _
  have zx0 := cell_keep HBX.out z0
  have zx2 := cell_keep HBX.out z2
  clear hv3 hb3 hF3 hall3 hn4 hsix4 hv4 e5 CD
  go_upto_region 8 with fail
  have HB6 : Hid (Below w3.heap.size w3 (((w3.alloc (.cells #[.int .i64 6, .int .i64 0, .string ⟨#[]⟩, .slice ba 0 bc, .slice (some ⟨g3, o3, none⟩) 1 fc, .slice la 0 lc] 27)).alloc (.cells #[Value.string ⟨#[]⟩, .string ⟨#[5, 0, 0]⟩, .string ⟨#[5, 0, 0, 0, 1]⟩, .string ⟨#[6, 0, 0, 0, 0]⟩, .string ⟨#[4, 0, 0, 0]⟩, .string ⟨#[8, 0, 0, 0, 153, 97, 0, 0]⟩, .string ⟨#[16, 0, 0, 0, 1, 97, 0, 0, 0, 0, 0, 0, 0, 0, 0, 0]⟩, .string ⟨#[8, 0, 0, 0, 10, 255, 0, 0]⟩, .string ⟨#[11, 0, 0, 0, 10, 97, 0, 10, 97, 0, 0]⟩, .string ⟨#[9, 0, 0, 0, 8, 97, 0, 2, 0]⟩] 9)).alloc (.cells #[Value.int .i64 2, .int .i64 2, .int .i64 2, .int .i64 4, .int .i64 4, .int .i64 9, .int .i64 8, .int .i64 5, .int .i64 6, .int .i64 4] 28))) := (((Below.refl _ w3).alloc (Nat.le_refl _) _).alloc (by simp) _).alloc (by simp; omega) _
  have HSL : Hid ((((w3.alloc (.cells #[.int .i64 6, .int .i64 0, .string ⟨#[]⟩, .slice ba 0 bc, .slice (some ⟨g3, o3, none⟩) 1 fc, .slice la 0 lc] 27)).alloc (.cells #[Value.string ⟨#[]⟩, .string ⟨#[5, 0, 0]⟩, .string ⟨#[5, 0, 0, 0, 1]⟩, .string ⟨#[6, 0, 0, 0, 0]⟩, .string ⟨#[4, 0, 0, 0]⟩, .string ⟨#[8, 0, 0, 0, 153, 97, 0, 0]⟩, .string ⟨#[16, 0, 0, 0, 1, 97, 0, 0, 0, 0, 0, 0, 0, 0, 0, 0]⟩, .string ⟨#[8, 0, 0, 0, 10, 255, 0, 0]⟩, .string ⟨#[11, 0, 0, 0, 10, 97, 0, 10, 97, 0, 0]⟩, .string ⟨#[9, 0, 0, 0, 8, 97, 0, 2, 0]⟩] 9)).alloc (.cells #[Value.int .i64 2, .int .i64 2, .int .i64 2, .int .i64 4, .int .i64 4, .int .i64 9, .int .i64 8, .int .i64 5, .int .i64 6, .int .i64 4] 28)).heap[w3.heap.size + 1]? = some (.cells #[Value.string ⟨#[]⟩, .string ⟨#[5, 0, 0]⟩, .string ⟨#[5, 0, 0, 0, 1]⟩, .string ⟨#[6, 0, 0, 0, 0]⟩, .string ⟨#[4, 0, 0, 0]⟩, .string ⟨#[8, 0, 0, 0, 153, 97, 0, 0]⟩, .string ⟨#[16, 0, 0, 0, 1, 97, 0, 0, 0, 0, 0, 0, 0, 0, 0, 0]⟩, .string ⟨#[8, 0, 0, 0, 10, 255, 0, 0]⟩, .string ⟨#[11, 0, 0, 0, 10, 97, 0, 10, 97, 0, 0]⟩, .string ⟨#[9, 0, 0, 0, 8, 97, 0, 2, 0]⟩] 9 (0, 0))) := by
    have h1 := heap_alloc_new (w3.alloc (.cells #[.int .i64 6, .int .i64 0, .string ⟨#[]⟩, .slice ba 0 bc, .slice (some ⟨g3, o3, none⟩) 1 fc, .slice la 0 lc] 27)) (.cells #[Value.string ⟨#[]⟩, .string ⟨#[5, 0, 0]⟩, .string ⟨#[5, 0, 0, 0, 1]⟩, .string ⟨#[6, 0, 0, 0, 0]⟩, .string ⟨#[4, 0, 0, 0]⟩, .string ⟨#[8, 0, 0, 0, 153, 97, 0, 0]⟩, .string ⟨#[16, 0, 0, 0, 1, 97, 0, 0, 0, 0, 0, 0, 0, 0, 0, 0]⟩, .string ⟨#[8, 0, 0, 0, 10, 255, 0, 0]⟩, .string ⟨#[11, 0, 0, 0, 10, 97, 0, 10, 97, 0, 0]⟩, .string ⟨#[9, 0, 0, 0, 8, 97, 0, 2, 0]⟩] 9)
    have h2 : ((w3.alloc (.cells #[.int .i64 6, .int .i64 0, .string ⟨#[]⟩, .slice ba 0 bc, .slice (some ⟨g3, o3, none⟩) 1 fc, .slice la 0 lc] 27)).alloc (.cells #[Value.string ⟨#[]⟩, .string ⟨#[5, 0, 0]⟩, .string ⟨#[5, 0, 0, 0, 1]⟩, .string ⟨#[6, 0, 0, 0, 0]⟩, .string ⟨#[4, 0, 0, 0]⟩, .string ⟨#[8, 0, 0, 0, 153, 97, 0, 0]⟩, .string ⟨#[16, 0, 0, 0, 1, 97, 0, 0, 0, 0, 0, 0, 0, 0, 0, 0]⟩, .string ⟨#[8, 0, 0, 0, 10, 255, 0, 0]⟩, .string ⟨#[11, 0, 0, 0, 10, 97, 0, 10, 97, 0, 0]⟩, .string ⟨#[9, 0, 0, 0, 8, 97, 0, 2, 0]⟩] 9)).heap[w3.heap.size + 1]? = some (.cells #[Value.string ⟨#[]⟩, .string ⟨#[5, 0, 0]⟩, .string ⟨#[5, 0, 0, 0, 1]⟩, .string ⟨#[6, 0, 0, 0, 0]⟩, .string ⟨#[4, 0, 0, 0]⟩, .string ⟨#[8, 0, 0, 0, 153, 97, 0, 0]⟩, .string ⟨#[16, 0, 0, 0, 1, 97, 0, 0, 0, 0, 0, 0, 0, 0, 0, 0]⟩, .string ⟨#[8, 0, 0, 0, 10, 255, 0, 0]⟩, .string ⟨#[11, 0, 0, 0, 10, 97, 0, 10, 97, 0, 0]⟩, .string ⟨#[9, 0, 0, 0, 8, 97, 0, 2, 0]⟩] 9 (0, 0)) := by simpa using h1
    exact (Below.heap_alloc _ _ _ (by simp)).trans h2
  have HIL : Hid ((((w3.alloc (.cells #[.int .i64 6, .int .i64 0, .string ⟨#[]⟩, .slice ba 0 bc, .slice (some ⟨g3, o3, none⟩) 1 fc, .slice la 0 lc] 27)).alloc (.cells #[Value.string ⟨#[]⟩, .string ⟨#[5, 0, 0]⟩, .string ⟨#[5, 0, 0, 0, 1]⟩, .string ⟨#[6, 0, 0, 0, 0]⟩, .string ⟨#[4, 0, 0, 0]⟩, .string ⟨#[8, 0, 0, 0, 153, 97, 0, 0]⟩, .string ⟨#[16, 0, 0, 0, 1, 97, 0, 0, 0, 0, 0, 0, 0, 0, 0, 0]⟩, .string ⟨#[8, 0, 0, 0, 10, 255, 0, 0]⟩, .string ⟨#[11, 0, 0, 0, 10, 97, 0, 10, 97, 0, 0]⟩, .string ⟨#[9, 0, 0, 0, 8, 97, 0, 2, 0]⟩] 9)).alloc (.cells #[Value.int .i64 2, .int .i64 2, .int .i64 2, .int .i64 4, .int .i64 4, .int .i64 9, .int .i64 8, .int .i64 5, .int .i64 6, .int .i64 4] 28)).heap[w3.heap.size + 2]? = some (.cells #[Value.int .i64 2, .int .i64 2, .int .i64 2, .int .i64 4, .int .i64 4, .int .i64 9, .int .i64 8, .int .i64 5, .int .i64 6, .int .i64 4] 28 (0, 0))) := by
    have h1 := heap_alloc_new ((w3.alloc (.cells #[.int .i64 6, .int .i64 0, .string ⟨#[]⟩, .slice ba 0 bc, .slice (some ⟨g3, o3, none⟩) 1 fc, .slice la 0 lc] 27)).alloc (.cells #[Value.string ⟨#[]⟩, .string ⟨#[5, 0, 0]⟩, .string ⟨#[5, 0, 0, 0, 1]⟩, .string ⟨#[6, 0, 0, 0, 0]⟩, .string ⟨#[4, 0, 0, 0]⟩, .string ⟨#[8, 0, 0, 0, 153, 97, 0, 0]⟩, .string ⟨#[16, 0, 0, 0, 1, 97, 0, 0, 0, 0, 0, 0, 0, 0, 0, 0]⟩, .string ⟨#[8, 0, 0, 0, 10, 255, 0, 0]⟩, .string ⟨#[11, 0, 0, 0, 10, 97, 0, 10, 97, 0, 0]⟩, .string ⟨#[9, 0, 0, 0, 8, 97, 0, 2, 0]⟩] 9)) (.cells #[Value.int .i64 2, .int .i64 2, .int .i64 2, .int .i64 4, .int .i64 4, .int .i64 9, .int .i64 8, .int .i64 5, .int .i64 6, .int .i64 4] 28)
    show _ = _
    simpa using h1
  have HBW6 := Lib.hid (HB3.out.trans (HB6.out.mono HB3.out.size))
  generalize (((w3.alloc (.cells #[.int .i64 6, .int .i64 0, .string ⟨#[]⟩, .slice ba 0 bc, .slice (some ⟨g3, o3, none⟩) 1 fc, .slice la 0 lc] 27)).alloc (.cells #[Value.string ⟨#[]⟩, .string ⟨#[5, 0, 0]⟩, .string ⟨#[5, 0, 0, 0, 1]⟩, .string ⟨#[6, 0, 0, 0, 0]⟩, .string ⟨#[4, 0, 0, 0]⟩, .string ⟨#[8, 0, 0, 0, 153, 97, 0, 0]⟩, .string ⟨#[16, 0, 0, 0, 1, 97, 0, 0, 0, 0, 0, 0, 0, 0, 0, 0]⟩, .string ⟨#[8, 0, 0, 0, 10, 255, 0, 0]⟩, .string ⟨#[11, 0, 0, 0, 10, 97, 0, 10, 97, 0, 0]⟩, .string ⟨#[9, 0, 0, 0, 8, 97, 0, 2, 0]⟩] 9)).alloc (.cells #[Value.int .i64 2, .int .i64 2, .int .i64 2, .int .i64 4, .int .i64 4, .int .i64 9, .int .i64 8, .int .i64 5, .int .i64 6, .int .i64 4] 28)) = W6 at *
  have HBAD : Hid (∀ i, i < 10 → W6.cell? ⟨w3.heap.size + 1, i, none⟩ = some (.string (badL.getD i ⟨#[]⟩)) ∧ W6.cell? ⟨w3.heap.size + 2, i, none⟩ = some (.int .i64 (wantL.getD i 0 : Nat))) := fun i hi => by
    match i, hi with
    | 0, _ => exact ⟨(cell_of_row _ _ 0 _ _ _ HSL.out).trans rfl, (cell_of_row _ _ 0 _ _ _ HIL.out).trans rfl⟩
    | 1, _ => exact ⟨(cell_of_row _ _ 1 _ _ _ HSL.out).trans rfl, (cell_of_row _ _ 1 _ _ _ HIL.out).trans rfl⟩
    | 2, _ => exact ⟨(cell_of_row _ _ 2 _ _ _ HSL.out).trans rfl, (cell_of_row _ _ 2 _ _ _ HIL.out).trans rfl⟩
    | 3, _ => exact ⟨(cell_of_row _ _ 3 _ _ _ HSL.out).trans rfl, (cell_of_row _ _ 3 _ _ _ HIL.out).trans rfl⟩
    | 4, _ => exact ⟨(cell_of_row _ _ 4 _ _ _ HSL.out).trans rfl, (cell_of_row _ _ 4 _ _ _ HIL.out).trans rfl⟩
    | 5, _ => exact ⟨(cell_of_row _ _ 5 _ _ _ HSL.out).trans rfl, (cell_of_row _ _ 5 _ _ _ HIL.out).trans rfl⟩
    | 6, _ => exact ⟨(cell_of_row _ _ 6 _ _ _ HSL.out).trans rfl, (cell_of_row _ _ 6 _ _ _ HIL.out).trans rfl⟩
    | 7, _ => exact ⟨(cell_of_row _ _ 7 _ _ _ HSL.out).trans rfl, (cell_of_row _ _ 7 _ _ _ HIL.out).trans rfl⟩
    | 8, _ => exact ⟨(cell_of_row _ _ 8 _ _ _ HSL.out).trans rfl, (cell_of_row _ _ 8 _ _ _ HIL.out).trans rfl⟩
    | 9, _ => exact ⟨(cell_of_row _ _ 9 _ _ _ HSL.out).trans rfl, (cell_of_row _ _ 9 _ _ _ HIL.out).trans rfl⟩
  clear z0 z2 zx0 zx2
  go_wp2_with fail
  go_loopw [5] (fun i wr => ∃ k : Nat, i = .int .i64 k ∧ k ≤ 10 ∧ Hid (Below W6.heap.size W6 wr)) (fun i _ => 10 - (intOf i).toNat)
  case atStart => exact ⟨0, rfl, by omega, Below.refl _ _⟩
  case round =>
    obtain ⟨k, rfl, hk, HB⟩ := hrel
    have HBR := Lib.hid (HBW6.out.trans (HB.out.mono HBW6.out.size))
    by_cases hlt : k < 10
    · skip
      obtain ⟨hs0, hw0⟩ := HBAD.out k hlt
      have y0 := cell_keep HB.out hs0
      have y1 := cell_keep HB.out hw0
      have hdec := bad_dec k hlt
      have hsh := bad_short k hlt
      generalize badL.getD k ⟨#[]⟩ = s at *
      generalize wantL.getD k 0 = n at *
      clear hs0 hw0
      have hconv := Lib.run_convert_string_bytes (P := Tryd.prog) wr 9 22 5 s Tryd.underlying9 Tryd.underlying22 Tryd.underlying5
      have HBC := Lib.hid (below_bytes wr 5 s)
      have HSC := Lib.hid (bytes_slice wr s)
      have hcap : s.size ≤ grownCap wr s.size 0 5 := grownCap_ge wr s.size 0 _
      have hcm : grownCap wr s.size 0 5 ≤ maxLen := grownCap_le_maxLen wr s.size 0 _ (by unfold maxLen; omega)
      obtain ⟨cc, hcc⟩ : ∃ c, c = grownCap wr s.size 0 5 := ⟨_, rfl⟩
      rw [← hcc] at hconv hcap hcm
      have CD := Lib.hid (decode_any _ (some ⟨wr.heap.size, 0, none⟩) cc (Bson.bytes s) (by rw [Bson.bytes_length]; exact hcap) (by unfold maxLen at hcm; omega) HSC.out (Bson.bytes_lt s) ((HT.out.below HBR.out).below HBC.out))
      rw [Bson.bytes_length, hdec] at CD
      obtain ⟨WC, hWC⟩ : ∃ W, W = Lib.bytesWorld wr 5 s := ⟨_, rfl⟩
      rw [← hWC] at hconv CD HBC
      clear hcc hWC HSC hdec hcap hcm
      go_wp2_with fail
      refine CD.out.mono ?_
      rintro e w7 ⟨v7, rfl, ⟨h7, hv7⟩, hb7⟩
      obtain ⟨q1, q2, q3, a1, n1, c1, a2, n2, c2, a3, n3, c3, rfl⟩ := VIn.form hv7
      have HB7 := Lib.hid (HBC.out.trans (hb7.mono HBC.out.size))
      have HB8 : Hid (Below wr.heap.size wr (w7.alloc (.cells #[.int .i64 q1, .int .i64 q2, .string q3, .slice a1 n1 c1, .slice a2 n2 c2, .slice a3 n3 c3] 27))) := HB7.out.alloc HB7.out.size _
      have y1x := cell_keep HB8.out y1
      have HBN := Lib.hid (HB.out.trans (HB8.out.mono HB.out.size))
      clear hv7 hb7 hconv y0 y1 CD
      go_wp2_with fail
      go_roundw
      case rel => exact ⟨k + 1, by go_num, by omega, HBN⟩
      case measure => simp [intOf]; omega
    · obtain rfl : k = 10 := by omega
      obtain ⟨w8, hmk, hown, hgr⟩ := run_makeSlice_full (P := Tryd.prog) (w := wr) wr.heap.size 22 5 i0 (.int .u8 0) 1 Tryd.underlying22 hi hz0 hz1 .i64 .i64 65537 (by decide) (by rw [hz2]; decide) (by unfold maxLen; decide) (Nat.le_refl _)
      have HB8 : Hid (Below wr.heap.size wr w8) := ⟨hgr.os, hgr.tape, hgr.output, hgr.size, fun j hj => hgr.block j hj nofun⟩
      obtain ⟨b, hbl, hob, hsb⟩ : ∃ b : List Nat, b.length = 65537 ∧ Oct b ∧ SliceIs w8 (some ⟨wr.heap.size, 0, none⟩) b := by
        refine ⟨List.replicate 65537 0, List.length_replicate, fun c hc => by rw [List.eq_of_mem_replicate hc]; decide, .inr ⟨_, 0, rfl, fun j hj => ?_⟩⟩
        rw [List.length_replicate] at hj
        rw [Nat.zero_add, World.ownsRow.cellAt hown j (by omega)]
        have e : (madeCells (Value.int .u8 0).cells (65537 * 1)).toList = List.replicate 65537 (Value.int .u8 0) := toList_madeCells_one _ _
        rw [e, List.getElem?_replicate, if_pos hj, List.getD_eq_getElem?_getD, List.getElem?_replicate, if_pos hj]; rfl
      have hdl : (Bson.decode b).1 = 3 := by unfold Bson.decode; rw [if_pos (by omega)]
      have CD := Lib.hid (decode_any w8 (some ⟨wr.heap.size, 0, none⟩) 65537 b (by omega) (by decide) hsb hob ((HT.out.below HBR.out).below HB8.out))
      rw [hbl, hdl] at CD
      have hmk2 : (Instr.makeSlice 22 (.int .i64 65537) (.int .i64 65537)).run Tryd.prog wr = .ok (.slice (some ⟨wr.heap.size, 0, none⟩) 65537 65537) w8 := hmk
      clear hown hgr hsb hdl hmk
      go_wp2_with fail
      refine CD.out.mono ?_
      rintro e w9 ⟨v9, rfl, ⟨h9, hv9⟩, hb9⟩
      obtain ⟨q1, q2, q3, a1, n1, c1, a2, n2, c2, a3, n3, c3, rfl⟩ := VIn.form hv9
      have HB9 := Lib.hid (HB8.out.trans (hb9.mono HB8.out.size))
      have HBE : Hid (Below wr.heap.size wr (w9.alloc (.cells #[.int .i64 q1, .int .i64 q2, .string q3, .slice a1 n1 c1, .slice a2 n2 c2, .slice a3 n3 c3] 27))) := HB9.out.alloc HB9.out.size _
      have HBF := Lib.hid (HBR.out.trans (HBE.out.mono HBR.out.size))
      clear hv9 hb9 hmk2 CD
      go_wp2_with fail
      go_ret
      exact ⟨rfl, HBF.out⟩
end Go.Proofs.YtemckkindbpepaaDoor
end
