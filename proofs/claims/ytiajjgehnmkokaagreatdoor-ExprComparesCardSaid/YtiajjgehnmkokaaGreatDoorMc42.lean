/- RefOwnAll, ExprComparesWalk. -/
import Derived.BigQuiet
import Derived.Lib.QuietBelow
import Derived.RegionTactic
import Derived.Test.YtiajjgehnmkokaaGreatDoorMc41
import Derived.Test.YtiajjgehnmkokaaGreatDoorMc40
import Derived.Test.YtiajjgehnmkokaaGreatDoorMc38
import Derived.Test.YtiajjgehnmkokaaGreatDoorMc31
import Derived.Test.YtiajjgehnmkokaaGreatDoorMc16
import Derived.Test.YtiajjgehnmkokaaGreatDoorMc0
set_option maxRecDepth 100000
set_option maxHeartbeats 20000000
section
namespace Go.Proofs.YtiajjgehnmkokaaGreatDoor
open Go.RowKit
open Seal
open Bson (Val)
theorem own_any (h : Nat) : OwnDo h := own_all (fun h HO d h0 h1 f => fields_do h HO d h0 h1 f) h
theorem valid_does (Q : Nat → Prop) (h : Nat) (x : Val) (v : Value) (w : World) (hv : VIn w Q (h + 1) x v) :
  Calls Tryz.prog 8 #[v] w (SmallPost w (h + 1) x) := valid_any Q h (own_any (h + 2)) x v w hv
end Go.Proofs.YtiajjgehnmkokaaGreatDoor
end
section
namespace Go.Proofs.YtiajjgehnmkokaaGreatDoor
open Go.RowKit
open Seal
open Bson (Val)
def Fact.row2 (cs : Array Value) : Fact := ⟨fun v W => ∃ g, v = .slice (some ⟨g, 0, none⟩) 2 2 ∧ W.heap[g]? = some (.cells cs 26 (0, 0)), fun _ _ _ ⟨g, e, h⟩ hb => ⟨g, e, (hb.block g (Array.getElem?_eq_some_iff.1 h).1).trans h⟩⟩
def Fact.doc (x : Val) : Fact := ⟨fun v W => ∃ g, v = .agg #[.int .i64 6, .int .i64 0, .string ⟨#[]⟩, .slice none 0 0, .slice (some ⟨g, 0, none⟩) 1 1, .slice none 0 0] ∧ VIn W (fun _ => True) 3 x (.agg #[.int .i64 6, .int .i64 0, .string ⟨#[]⟩, .slice none 0 0, .slice (some ⟨g, 0, none⟩) 1 1, .slice none 0 0]), fun _ _ _ ⟨g, e, h⟩ hb => ⟨g, e, VIn.keep hb h⟩⟩
def Fact.read (x : Val) : Fact := ⟨fun v W => ∃ ge, v = .tuple #[.pointer (some ⟨ge, 0, none⟩), .int .i64 0] ∧ ExprAt W 0 ge 16 9 3 x, fun _ _ _ ⟨g, e, h⟩ hb => ⟨g, e, h.keep hb⟩⟩
def Fact.exp (x : Val) : Fact := ⟨fun v W => ∃ ge, v = .pointer (some ⟨ge, 0, none⟩) ∧ ExprAt W 0 ge 16 9 3 x, fun _ _ _ ⟨g, e, h⟩ hb => ⟨g, e, h.keep hb⟩⟩
theorem compares10_any (h : Nat) (Q : Nat → Prop) (A B : Val) (va vb : Value) (w : World) (hG : Ground w) (hva : VIn w Q (h + 1) A va) (hvb : VIn w Q (h + 1) B vb) :
  Calls Tryz.prog 4 #[va, vb] w fun e w' => e = .returned (.bool true) ∧ Below w.heap.size w w' := by
 obtain ⟨ak, am, as_, a1, a4, a7, a2, a3, a5, a6, a8, a9, rfl⟩ := hva.shape
 obtain ⟨bk, bm, bs, b1, b4, b7, b2, b3, b5, b6, b8, b9, rfl⟩ := hvb.shape
 obtain ⟨W1, hW1⟩ : ∃ W, W = w.alloc (.cells #[.int .i64 ak, .int .i64 am, .string as_, .slice a1 a2 a3, .slice a4 a5 a6, .slice a7 a8 a9] 26) := ⟨_, rfl⟩
 obtain ⟨P1, hP1⟩ : ∃ P, P = w.heap.size := ⟨_, rfl⟩
 have hb1 : Below w.heap.size w W1 := by rw [hW1]; exact (Below.refl _ _).alloc (Nat.le_refl _) _
 have hx1 : IsBox W1 P1 (.int .i64 ak) (.int .i64 am) (.string as_) (.slice a1 a2 a3) (.slice a4 a5 a6) (.slice a7 a8 a9) := by rw [hW1, hP1]; exact IsBox.new w (.int .i64 ak) (.int .i64 am) (.string as_) (.slice a1 a2 a3) (.slice a4 a5 a6) (.slice a7 a8 a9)
 obtain ⟨W2, hW2⟩ : ∃ W, W = W1.alloc (.cells #[.int .i64 bk, .int .i64 bm, .string bs, .slice b1 b2 b3, .slice b4 b5 b6, .slice b7 b8 b9] 26) := ⟨_, rfl⟩
 obtain ⟨P2, hP2⟩ : ∃ P, P = W1.heap.size := ⟨_, rfl⟩
 have hb2 : Below W1.heap.size W1 W2 := by rw [hW2]; exact (Below.refl _ _).alloc (Nat.le_refl _) _
 have hx2 : IsBox W2 P2 (.int .i64 bk) (.int .i64 bm) (.string bs) (.slice b1 b2 b3) (.slice b4 b5 b6) (.slice b7 b8 b9) := by rw [hW2, hP2]; exact IsBox.new W1 (.int .i64 bk) (.int .i64 bm) (.string bs) (.slice b1 b2 b3) (.slice b4 b5 b6) (.slice b7 b8 b9)
 have HQP2 : Hid (P2 = P1 + 1) := by show _ = _; rw [hP2, hW1, hP1]; simp
 have hb02 : Below w.heap.size w W2 := hb1.trans (hb2.mono hb1.size)
 have HW1 := Lib.hid hW1
 have HP1 := Lib.hid hP1
 have HW2 := Lib.hid hW2
 have HP2 := Lib.hid hP2
 have HB2 := Lib.hid hb02
 have HVA := Lib.hid hva
 have HVB := Lib.hid hvb
 have HG := Lib.hid hG
 have HX1 := Lib.hid (hx1.keep hb2)
 have HX2 := Lib.hid hx2
 have CA := Lib.hid (awake10_any W2 (hG.keep hb02))
 clear hva hvb hG hW1 hP1 hb1 hx1 hW2 hP2 hb2 hx2 hb02
 go_enter Tryz.func4, Tryz.ntmps4
 go_upto_region 1 with fail
 rw [← HW1.out, ← HP1.out, ← HW2.out, ← HQP2.out]
 go_wp2_with fail
 refine CA.out.mono ?_
 rintro e w3 ⟨rfl, hb3⟩
 have HB3 : Hid (Below w.heap.size w w3) := HB2.out.trans (hb3.mono HB2.out.size)
 have HX13 := Lib.hid (HX1.out.keep hb3)
 have HX23 := Lib.hid (HX2.out.keep hb3)
 have CV := Lib.hid (valid_does Q h A _ w3 (VIn.keep HB3.out HVA.out))
 clear hb3 CA HX1 HX2
 obtain ⟨x0, x1, x2, x3, x4, x5⟩ := HX13.out.cells
 go_wp2_with fail
 refine CV.out.mono ?_
 rintro e w4 ⟨va, rfl, -, hb4⟩
 have HB4 : Hid (Below w.heap.size w w4) := HB3.out.trans (hb4.mono HB3.out.size)
 have HX14 := Lib.hid (HX13.out.keep hb4)
 have HX24 := Lib.hid (HX23.out.keep hb4)
 clear hb4 CV HX13 HX23 x0 x1 x2 x3 x4 x5
 cases va with
 | false =>
  go_wp2_with fail
  refine bodyPost_ret (v := .bool true) ?_ rfl ?_
  ·simp [results, Tryz.results4, go_sem, *]
  ·exact ⟨rfl, HB4.out⟩
 | true =>
  have CV := Lib.hid (valid_does Q h B _ w4 (VIn.keep HB4.out HVB.out))
  obtain ⟨y0, y1, y2, y3, y4, y5⟩ := HX24.out.cells
  go_wp2_with fail
  refine CV.out.mono ?_
  rintro e w5 ⟨vb, rfl, -, hb5⟩
  have HB5 : Hid (Below w.heap.size w w5) := HB4.out.trans (hb5.mono HB4.out.size)
  have HX15 := Lib.hid (HX14.out.keep hb5)
  have HX25 := Lib.hid (HX24.out.keep hb5)
  clear hb5 CV HX14 HX24 y0 y1 y2 y3 y4 y5
  cases vb with
  | false =>
   go_wp2_with fail
   refine bodyPost_ret (v := .bool true) ?_ rfl ?_
   ·simp [results, Tryz.results4, go_sem, *]
   ·exact ⟨rfl, HB5.out⟩
  | true =>
   obtain ⟨W6, hW6⟩ : ∃ W, W = w5.alloc (.cells #[.string ⟨#[97]⟩, .int .i64 ak, .int .i64 am, .string as_, .slice a1 a2 a3, .slice a4 a5 a6, .slice a7 a8 a9, .string ⟨#[98]⟩, .int .i64 bk, .int .i64 bm, .string bs, .slice b1 b2 b3, .slice b4 b5 b6, .slice b7 b8 b9] 40) := ⟨_, rfl⟩
   obtain ⟨PD, hPD⟩ : ∃ P, P = w5.heap.size := ⟨_, rfl⟩
   have hb6 : Below w5.heap.size w5 W6 := by rw [hW6]; exact (Below.refl _ _).alloc (Nat.le_refl _) _
   have hx6 : W6.heap[PD]? = some (.cells #[.string ⟨#[97]⟩, .int .i64 ak, .int .i64 am, .string as_, .slice a1 a2 a3, .slice a4 a5 a6, .slice a7 a8 a9, .string ⟨#[98]⟩, .int .i64 bk, .int .i64 bm, .string bs, .slice b1 b2 b3, .slice b4 b5 b6, .slice b7 b8 b9] 40 (0, 0)) := by rw [hW6, hPD]; exact heap_alloc_new w5 _
   obtain ⟨W7, hW7⟩ : ∃ W, W = W6.alloc (.cells #[.int .i64 6, .int .i64 0, .string ⟨#[]⟩, .slice none 0 0, .slice (some ⟨PD, 0, none⟩) 2 2, .slice none 0 0] 26) := ⟨_, rfl⟩
   obtain ⟨P7, hP7⟩ : ∃ P, P = W6.heap.size := ⟨_, rfl⟩
   have hb7 : Below W6.heap.size W6 W7 := by rw [hW7]; exact (Below.refl _ _).alloc (Nat.le_refl _) _
   have hx7 : IsBox W7 P7 (.int .i64 6) (.int .i64 0) (.string ⟨#[]⟩) (.slice none 0 0) (.slice (some ⟨PD, 0, none⟩) 2 2) (.slice none 0 0) := by rw [hW7, hP7]; exact IsBox.new W6 (.int .i64 6) (.int .i64 0) (.string ⟨#[]⟩) (.slice none 0 0) (.slice (some ⟨PD, 0, none⟩) 2 2) (.slice none 0 0)
   have HQP7 : Hid (P7 = PD + 1) := by show _ = _; rw [hP7, hW6, hPD]; simp
   have HB7 : Hid (Below w.heap.size w W7) := HB5.out.trans ((hb6.trans (hb7.mono hb6.size)).mono HB5.out.size)
   have hvd6 : VIn W6 (fun _ => True) (h + 2) (cmpD A B) (.agg #[.int .i64 6, .int .i64 0, .string ⟨#[]⟩, .slice none 0 0, .slice (some ⟨PD, 0, none⟩) 2 2, .slice none 0 0]) := two_fields hx6 trivial (by decide) (by decide) (VIn.keep hb6 (VIn.keep HB5.out HVA.out)).any (VIn.keep hb6 (VIn.keep HB5.out HVB.out)).any
   have HVD7 := Lib.hid (VIn.keep hb7 hvd6)
   have HX17 := Lib.hid ((HX15.out.keep hb6).keep hb7)
   have HX27 := Lib.hid ((HX25.out.keep hb6).keep hb7)
   have HXD7 := Lib.hid hx7
   have HW6 := Lib.hid hW6
   have HPD := Lib.hid hPD
   have HW7 := Lib.hid hW7
   have HP7 := Lib.hid hP7
   obtain ⟨W8, hW8⟩ : ∃ W, W = W7.alloc (.cells #[.int .i64 5, .int .i64 0, .string ⟨#[36, 97]⟩, .slice none 0 0, .slice none 0 0, .slice none 0 0] 26) := ⟨_, rfl⟩
   obtain ⟨P8, hP8⟩ : ∃ P, P = W7.heap.size := ⟨_, rfl⟩
   have hb8 : Below W7.heap.size W7 W8 := by rw [hW8]; exact (Below.refl _ _).alloc (Nat.le_refl _) _
   have hx8 : IsBox W8 P8 (.int .i64 5) (.int .i64 0) (.string ⟨#[36, 97]⟩) (.slice none 0 0) (.slice none 0 0) (.slice none 0 0) := by rw [hW8, hP8]; exact IsBox.new W7 (.int .i64 5) (.int .i64 0) (.string ⟨#[36, 97]⟩) (.slice none 0 0) (.slice none 0 0) (.slice none 0 0)
   obtain ⟨W9, hW9⟩ : ∃ W, W = W8.alloc (.cells #[.int .i64 5, .int .i64 0, .string ⟨#[36, 98]⟩, .slice none 0 0, .slice none 0 0, .slice none 0 0] 26) := ⟨_, rfl⟩
   obtain ⟨P9, hP9⟩ : ∃ P, P = W8.heap.size := ⟨_, rfl⟩
   have hb9 : Below W8.heap.size W8 W9 := by rw [hW9]; exact (Below.refl _ _).alloc (Nat.le_refl _) _
   have hx9 : IsBox W9 P9 (.int .i64 5) (.int .i64 0) (.string ⟨#[36, 98]⟩) (.slice none 0 0) (.slice none 0 0) (.slice none 0 0) := by rw [hW9, hP9]; exact IsBox.new W8 (.int .i64 5) (.int .i64 0) (.string ⟨#[36, 98]⟩) (.slice none 0 0) (.slice none 0 0) (.slice none 0 0)
   have HQP9 : Hid (P9 = P8 + 1) := by show _ = _; rw [hP9, hW8, hP8]; simp
   have hb79 : Below W7.heap.size W7 W9 := hb8.trans (hb9.mono hb8.size)
   have HB9 : Hid (Below w.heap.size w W9) := HB7.out.trans (hb79.mono HB7.out.size)
   have HVD9 := Lib.hid (VIn.keep hb79 HVD7.out)
   have HX19 := Lib.hid (HX17.out.keep hb79)
   have HX29 := Lib.hid (HX27.out.keep hb79)
   have HXD9 := Lib.hid (HXD7.out.keep hb79)
   have HXX9 := Lib.hid (hx8.keep hb9)
   have HXY9 := Lib.hid hx9
   have HW8 := Lib.hid hW8
   have HP8 := Lib.hid hP8
   have HW9 := Lib.hid hW9
   have HP9 := Lib.hid hP9
   have CC := Lib.hid (refCompare_any (9 + (h + 1)) (fun _ => True) (fun _ => True) A B _ _ W9 ((VIn.keep HB9.out HVA.out).any.up (by omega)) ((VIn.keep HB9.out HVB.out).any.up (by omega)))
   obtain ⟨cv, hcv⟩ : ∃ z, z = Order.cmp (9 + (h + 1)) A B := ⟨_, rfl⟩
   rw [← hcv] at CC
   have HCV := Lib.hid hcv
   clear hb6 hx6 hW6 hPD hb7 hx7 hW7 hP7 hvd6 hb8 hx8 hW8 hP8 hb9 hx9 hW9 hP9 hb79 hcv HX17 HX27 HXD7 HVD7
   obtain ⟨x0, x1, x2, x3, x4, x5⟩ := HX15.out.cells
   obtain ⟨y0, y1, y2, y3, y4, y5⟩ := HX25.out.cells
   go_upto_region 6 with fail
   rw [← HW6.out, ← HPD.out, ← HW7.out, ← HQP7.out]
   clear x0 x1 x2 x3 x4 x5 y0 y1 y2 y3 y4 y5 HX15 HX25
   go_upto_region 7 with fail
   rw [← HW8.out, ← HP8.out, ← HW9.out, ← HQP9.out]
   obtain ⟨x0, x1, x2, x3, x4, x5⟩ := HX19.out.cells
   obtain ⟨y0, y1, y2, y3, y4, y5⟩ := HX29.out.cells
   go_wp2_with fail
   refine CC.out.mono ?_
   rintro e w10 ⟨rfl, hb10⟩
   have HB10 : Hid (Below w.heap.size w w10) := HB9.out.trans (hb10.mono HB9.out.size)
   have HVD10 := Lib.hid (VIn.keep hb10 HVD9.out)
   have HXD10 := Lib.hid (HXD9.out.keep hb10)
   have HXX10 := Lib.hid (HXX9.out.keep hb10)
   have HXY10 := Lib.hid (HXY9.out.keep hb10)
   clear hb10 CC HX19 HX29 HXD9 HXX9 HXY9 HVD9 x0 x1 x2 x3 x4 x5 y0 y1 y2 y3 y4 y5
   obtain ⟨W11, hW11⟩ : ∃ W, W = w10.alloc (.cells #[.string ⟨#[36, 101, 113]⟩, .string ⟨#[36, 110, 101]⟩, .string ⟨#[36, 103, 116]⟩, .string ⟨#[36, 103, 116, 101]⟩, .string ⟨#[36, 108, 116]⟩, .string ⟨#[36, 108, 116, 101]⟩] 9) := ⟨_, rfl⟩
   obtain ⟨PO, hPO⟩ : ∃ P, P = w10.heap.size := ⟨_, rfl⟩
   have hb11 : Below w10.heap.size w10 W11 := by rw [hW11]; exact (Below.refl _ _).alloc (Nat.le_refl _) _
   have hx11 : W11.heap[PO]? = some (.cells #[.string ⟨#[36, 101, 113]⟩, .string ⟨#[36, 110, 101]⟩, .string ⟨#[36, 103, 116]⟩, .string ⟨#[36, 103, 116, 101]⟩, .string ⟨#[36, 108, 116]⟩, .string ⟨#[36, 108, 116, 101]⟩] 9 (0, 0)) := by rw [hW11, hPO]; exact heap_alloc_new w10 _
   go_upto_region 9 with fail
   have HW11 := Lib.hid hW11
   have HPO := Lib.hid hPO
   have HO11 := Lib.hid hx11
   have HB11 : Hid (Below w10.heap.size w10 W11) := hb11
   clear hW11 hPO hx11 hb11
   rw [← HW11.out, ← HPO.out]
   obtain ⟨W12, hW12⟩ : ∃ W, W = W11.alloc (.cells #[.bool (cmpB 0 cv), .bool (cmpB 1 cv), .bool (decide (0 < cv)), .bool (decide (0 ≤ cv)), .bool (decide (cv < 0)), .bool (decide (cv ≤ 0))] 4) := ⟨_, rfl⟩
   obtain ⟨PW, hPW⟩ : ∃ P, P = W11.heap.size := ⟨_, rfl⟩
   have hb12 : Below W11.heap.size W11 W12 := by rw [hW12]; exact (Below.refl _ _).alloc (Nat.le_refl _) _
   have hx12 : W12.heap[PW]? = some (.cells #[.bool (cmpB 0 cv), .bool (cmpB 1 cv), .bool (decide (0 < cv)), .bool (decide (0 ≤ cv)), .bool (decide (cv < 0)), .bool (decide (cv ≤ 0))] 4 (0, 0)) := by rw [hW12, hPW]; exact heap_alloc_new W11 _
   have hb1012 : Below w10.heap.size w10 W12 := HB11.out.trans (hb12.mono HB11.out.size)
   have HB12 : Hid (Below w.heap.size w W12) := HB10.out.trans (hb1012.mono HB10.out.size)
   have HO12 := Lib.hid ((hb12.block PO (Array.getElem?_eq_some_iff.1 HO11.out).1).trans HO11.out)
   have HWT12 := Lib.hid hx12
   have HVD12 := Lib.hid (VIn.keep hb1012 HVD10.out)
   have HXD12 := Lib.hid (HXD10.out.keep hb1012)
   have HXX12 := Lib.hid (HXX10.out.keep hb1012)
   have HXY12 := Lib.hid (HXY10.out.keep hb1012)
   have HW12 := Lib.hid hW12
   have HPW := Lib.hid hPW
   have w0 : (cv == 0) = cmpB 0 cv := by unfold cmpB; by_cases e : cv = 0 <;> simp [e]
   have w1 : (cv != 0) = cmpB 1 cv := by unfold cmpB; by_cases e : cv = 0 <;> simp [e]
   clear hW12 hPW hx12 hb12 hb1012 HVD10 HXD10 HXX10 HXY10 HO11
   go_upto_region 10 with fail
   rw [← HW12.out, ← HPW.out]
   have HCN : Hid (∀ k, k < 6 → W12.cell? ⟨PO, k, none⟩ = some (.string (cmpNm k))) := fun k hk => by
    have e : ∀ j c, (#[.string ⟨#[36, 101, 113]⟩, .string ⟨#[36, 110, 101]⟩, .string ⟨#[36, 103, 116]⟩, .string ⟨#[36, 103, 116, 101]⟩, .string ⟨#[36, 108, 116]⟩, .string ⟨#[36, 108, 116, 101]⟩] : Array Value)[j]? = some c → W12.cell? ⟨PO, j, none⟩ = some c := fun j c hc => (cell_of_row _ _ j _ _ _ HO12.out).trans hc
    match k, hk with
    | 0, _ => exact e _ _ rfl
    | 1, _ => exact e _ _ rfl
    | 2, _ => exact e _ _ rfl
    | 3, _ => exact e _ _ rfl
    | 4, _ => exact e _ _ rfl
    | 5, _ => exact e _ _ rfl
   have HCW : Hid (∀ k, k < 6 → W12.cell? ⟨PW, k, none⟩ = some (.bool (cmpB k cv))) := fun k hk => by
    have e : ∀ j c, (#[.bool (cmpB 0 cv), .bool (cmpB 1 cv), .bool (decide (0 < cv)), .bool (decide (0 ≤ cv)), .bool (decide (cv < 0)), .bool (decide (cv ≤ 0))] : Array Value)[j]? = some c → W12.cell? ⟨PW, j, none⟩ = some c := fun j c hc => (cell_of_row _ _ j _ _ _ HWT12.out).trans hc
    match k, hk with
    | 0, _ => exact e _ _ rfl
    | 1, _ => exact e _ _ rfl
    | 2, _ => exact e _ _ rfl
    | 3, _ => exact e _ _ rfl
    | 4, _ => exact e _ _ rfl
    | 5, _ => exact e _ _ rfl
   clear HO12 HWT12
   go_wp2_with fail
   go_loopw [11] (fun i wr => ∃ (k : Nat), i = .int .i64 k ∧ k ≤ 6 ∧ Hid (Below W12.heap.size W12 wr)) (fun i _ => 6 - (intOf i).toNat)
   case atStart => exact ⟨0, rfl, Nat.zero_le _, Below.refl _ _⟩
   case round =>
    obtain ⟨k, rfl, hk, HBr⟩ := hrel
    by_cases hlt : k < 6
    ·skip
     have cn := cell_keep HBr.out (HCN.out k hlt)
     have HXDr := Lib.hid (HXD12.out.keep HBr.out)
     have HXXr := Lib.hid (HXX12.out.keep HBr.out)
     have HXYr := Lib.hid (HXY12.out.keep HBr.out)
     have HBW : Hid (Below w.heap.size w wr) := HB12.out.trans (HBr.out.mono HB12.out.size)
     have HVDr := Lib.hid (VIn.keep HBr.out HVD12.out)
     obtain ⟨nm, hnm⟩ : ∃ z, z = cmpNm k := ⟨_, rfl⟩
     rw [← hnm] at cn
     have HNM := Lib.hid hnm
     obtain ⟨cb, hcb⟩ : ∃ z, z = cmpB k cv := ⟨_, rfl⟩
     have HCB := Lib.hid hcb
     clear hcb
     have HCNR := Lib.hid cn
     have HNMS : Hid (nm.size ≤ 140737488355328) := by show _ ≤ _; rw [hnm]; exact cmpNm_size k (by omega)
     have HSHX : Hid (ShortV (cmpX nm)) := by show ShortV _; rw [hnm]; exact cmpX_short k (by omega)
     have HCOX : Hid (exprCode 3 (cmpX nm) = 0) := by show _ = _; rw [hnm]; exact cmpX_code k (by omega)
     clear hnm cn
     go_upto_region 13 with fail
     have hkn : (k : Int) < 6 := by omega
     rw [decide_eq_true hkn]
     have hkn0 : ¬ (k : Int) < 0 := by omega
     refine wp_region_facts (fun V => { tmps := #[Value.agg #[Value.int IntKind.i64 ak, Value.int IntKind.i64 am, Value.string as_, Value.slice a1 a2 a3, Value.slice a4 a5 a6, Value.slice a7 a8 a9], Value.agg #[Value.int IntKind.i64 bk, Value.int IntKind.i64 bm, Value.string bs, Value.slice b1 b2 b3, Value.slice b4 b5 b6, Value.slice b7 b8 b9], Value.pointer (some { block := P1, off := 0 }), Value.pointer (some { block := P2, off := 0 }), u4, Value.pointer (some { block := P7, off := 0 }), Value.pointer (some { block := P8, off := 0 }), Value.pointer (some { block := P9, off := 0 }), Value.int IntKind.i64 cv, Value.slice (some { block := PO, off := 0 }) 6 6, Value.slice (some { block := PW, off := 0 }) 6 6, Value.int IntKind.i64 (k : Int), V 12, V 13, u14, u15, undef, undef, undef, undef, Value.bool true, Value.bool false, Value.agg #[Value.int IntKind.i64 ak, Value.int IntKind.i64 am, Value.string as_, Value.slice a1 a2 a3, Value.slice a4 a5 a6, Value.slice a7 a8 a9], Value.bool true, Value.bool false, Value.bool false, Value.agg #[Value.int IntKind.i64 bk, Value.int IntKind.i64 bm, Value.string bs, Value.slice b1 b2 b3, Value.slice b4 b5 b6, Value.slice b7 b8 b9], Value.bool true, Value.bool false, Value.bool false, Value.agg #[Value.int IntKind.i64 ak, Value.int IntKind.i64 am, Value.string as_, Value.slice a1 a2 a3, Value.slice a4 a5 a6, Value.slice a7 a8 a9], Value.agg #[Value.string { data := #[97] }, Value.int IntKind.i64 ak, Value.int IntKind.i64 am, Value.string as_, Value.slice a1 a2 a3, Value.slice a4 a5 a6, Value.slice a7 a8 a9], Value.agg #[Value.int IntKind.i64 bk, Value.int IntKind.i64 bm, Value.string bs, Value.slice b1 b2 b3, Value.slice b4 b5 b6, Value.slice b7 b8 b9], Value.agg #[Value.string { data := #[98] }, Value.int IntKind.i64 bk, Value.int IntKind.i64 bm, Value.string bs, Value.slice b1 b2 b3, Value.slice b4 b5 b6, Value.slice b7 b8 b9], Value.slice (some { block := PD, off := 0 }) 2 2, Value.agg #[Value.int IntKind.i64 6, Value.int IntKind.i64 0, Value.string { data := #[] }, Value.slice none 0 0, Value.slice (some { block := PD, off := 0 }) 2 2, Value.slice none 0 0], Value.agg #[Value.int IntKind.i64 5, Value.int IntKind.i64 0, Value.string { data := #[36, 97] }, Value.slice none 0 0, Value.slice none 0 0, Value.slice none 0 0], Value.agg #[Value.int IntKind.i64 5, Value.int IntKind.i64 0, Value.string { data := #[36, 98] }, Value.slice none 0 0, Value.slice none 0 0, Value.slice none 0 0], Value.agg #[Value.int IntKind.i64 ak, Value.int IntKind.i64 am, Value.string as_, Value.slice a1 a2 a3, Value.slice a4 a5 a6, Value.slice a7 a8 a9], Value.agg #[Value.int IntKind.i64 bk, Value.int IntKind.i64 bm, Value.string bs, Value.slice b1 b2 b3, Value.slice b4 b5 b6, Value.slice b7 b8 b9], Value.int IntKind.i64 cv, Value.slice (some { block := PO, off := 0 }) 6 6, Value.int IntKind.i64 cv, Value.bool (cmpB 0 cv), Value.int IntKind.i64 cv, Value.bool (cmpB 1 cv), Value.int IntKind.i64 cv, Value.bool (decide (0 < cv)), Value.int IntKind.i64 cv, Value.bool (decide (0 ≤ cv)), Value.int IntKind.i64 cv, Value.bool (decide (cv < 0)), Value.int IntKind.i64 cv, Value.bool (decide (cv ≤ 0)), Value.slice (some { block := PW, off := 0 }) 6 6, Value.int IntKind.i64 (k : Int), Value.slice (some { block := PO, off := 0 }) 6 6, Value.int IntKind.i64 6, .bool true, u59, u60, V 9, V 0, V 1, V 2, V 3, V 4, V 5, V 6, V 7, V 8, V 10, V 11, u73, u74, u75, u76, u77, u78, u79, u80, u81, u82, u83, u84, u85, u86, u87, u88, u89, u90, u91, u92, u93, u94, u95, u96, u97, u98, u99, u100, u101, undef, undef, undef, undef, undef, undef, undef, undef, undef, undef, undef, undef, undef, undef, undef, undef, undef, undef, undef, undef, undef, undef, undef, undef, undef, undef, undef, undef, undef, undef, undef, undef, undef], defers := [] }) [Fact.is (.slice (some ⟨PO, 0, none⟩) 6 6), Fact.is (.int .i64 (k : Int)), Fact.is (.pointer (some ⟨PO, k, none⟩)), Fact.is (.string nm), Fact.is (.agg #[.int .i64 5, .int .i64 0, .string ⟨#[36, 97]⟩, .slice none 0 0, .slice none 0 0, .slice none 0 0]), Fact.is (.agg #[.int .i64 5, .int .i64 0, .string ⟨#[36, 98]⟩, .slice none 0 0, .slice none 0 0, .slice none 0 0]), Fact.row2 #[.int .i64 5, .int .i64 0, .string ⟨#[36, 97]⟩, .slice none 0 0, .slice none 0 0, .slice none 0 0, .int .i64 5, .int .i64 0, .string ⟨#[36, 98]⟩, .slice none 0 0, .slice none 0 0, .slice none 0 0], Fact.doc (cmpX nm), Fact.read (cmpX nm), Fact.read (cmpX nm), Fact.exp (cmpX nm), Fact.is (.int .i64 0), Fact.exp (cmpX nm), Fact.is (.int .i64 0)] (by kernel_rfl) (by kernel_rfl) (by kernel_rfl) (fun V => by kernel_rfl) ?_ ?_
     ·refine ⟨?_, ?_⟩
      ·refine fact_free rfl (fun V w7 hB hF K hK => ?_)
       go_simp
       exact put_is (by kernel_rfl) (hK.out (.slice (some ⟨PO, 0, none⟩) 6 6) _ (Below.refl _ _) rfl)
      refine ⟨?_, ?_⟩
      ·refine fact_free rfl (fun V w7 hB hF K hK => ?_)
       go_simp
       exact put_is (by kernel_rfl) (hK.out (.int .i64 (k : Int)) _ (Below.refl _ _) rfl)
      refine ⟨?_, ?_⟩
      ·refine fact_free rfl (fun V w7 hB hF K hK => ?_)
       have h0 : V 0 = .slice (some ⟨PO, 0, none⟩) 6 6 := hF.out 0 (by kernel_rfl)
       have h1 : V 1 = .int .i64 (k : Int) := hF.out 1 (by kernel_rfl)
       go_simp
       exact put_is (by rw [h0, h1]; kernel_rfl) (hK.out (.pointer (some ⟨PO, k, none⟩)) _ (Below.refl _ _) rfl)
      refine ⟨?_, ?_⟩
      ·refine fact_free rfl (fun V w7 hB hF K hK => ?_)
       have h2 : V 2 = .pointer (some ⟨PO, k, none⟩) := hF.out 2 (by kernel_rfl)
       have cn := cell_keep hB HCNR.out
       go_simp
       exact put_is (by rw [h2]; kernel_rfl) (hK.out (.string nm) _ (Below.refl _ _) rfl)
      refine ⟨?_, ?_⟩
      ·refine fact_free rfl (fun V w7 hB hF K hK => ?_)
       obtain ⟨x0, x1, x2, x3, x4, x5⟩ := (HXXr.out.keep hB).cells
       go_simp
       exact put_is (by kernel_rfl) (hK.out (.agg #[.int .i64 5, .int .i64 0, .string ⟨#[36, 97]⟩, .slice none 0 0, .slice none 0 0, .slice none 0 0]) _ (Below.refl _ _) rfl)
      refine ⟨?_, ?_⟩
      ·refine fact_free rfl (fun V w7 hB hF K hK => ?_)
       obtain ⟨x0, x1, x2, x3, x4, x5⟩ := (HXYr.out.keep hB).cells
       go_simp
       exact put_is (by kernel_rfl) (hK.out (.agg #[.int .i64 5, .int .i64 0, .string ⟨#[36, 98]⟩, .slice none 0 0, .slice none 0 0, .slice none 0 0]) _ (Below.refl _ _) rfl)
      refine ⟨?_, ?_⟩
      ·refine fact_free rfl (fun V w7 hB hF K hK => ?_)
       have h4 : V 4 = .agg #[.int .i64 5, .int .i64 0, .string ⟨#[36, 97]⟩, .slice none 0 0, .slice none 0 0, .slice none 0 0] := hF.out 4 (by kernel_rfl)
       have h5 : V 5 = .agg #[.int .i64 5, .int .i64 0, .string ⟨#[36, 98]⟩, .slice none 0 0, .slice none 0 0, .slice none 0 0] := hF.out 5 (by kernel_rfl)
       go_simp
       exact put_is (by rw [h4, h5]; kernel_rfl) (hK.out (.slice (some ⟨w7.heap.size, 0, none⟩) 2 2) _ ((Below.refl _ _).alloc (Nat.le_refl _) _) ⟨_, rfl, heap_alloc_new w7 _⟩)
      refine ⟨?_, ?_⟩
      ·refine fact_free rfl (fun V w7 hB hF K hK => ?_)
       have h3 : V 3 = .string nm := hF.out 3 (by kernel_rfl)
       obtain ⟨g6, h6, hr6⟩ := hF.out 6 (by kernel_rfl)
       have CK := op10_any nm HNMS.out (fun _ => True) 1 _ 2 2 _ w7 rfl (by omega) ⟨by omega, by omega⟩ (two_items (Q := fun _ => True) hr6 trivial (textL_in w7 (fun _ => True) ⟨#[36, 97]⟩ (by decide) 0) (textL_in w7 (fun _ => True) ⟨#[36, 98]⟩ (by decide) 0))
       go_simp
       refine CK.mono ?_
       rintro e w8 ⟨g8, rfl, hv8, hb8⟩
       exact put_is (by rw [h3, h6]; kernel_rfl) (hK.out (.agg #[.int .i64 6, .int .i64 0, .string ⟨#[]⟩, .slice none 0 0, .slice (some ⟨g8, 0, none⟩) 1 1, .slice none 0 0]) w8 hb8 ⟨_, rfl, hv8.any⟩)
      refine ⟨?_, ?_⟩
      ·refine fact_free rfl (fun V w7 hB hF K hK => ?_)
       obtain ⟨g7, h7, hv7⟩ := hF.out 7 (by kernel_rfl)
       have CK := parse_ok 16 9 3 (by omega) (by omega) _ (cmpX nm) _ w7 (HG.out.keep (HBW.out.trans (hB.mono HBW.out.size))) hv7 HSHX.out HCOX.out
       go_simp
       refine CK.mono ?_
       rintro e w8 ⟨ge, rfl, hx8, hb8⟩
       exact put_is (by rw [h7]; kernel_rfl) (hK.out (.tuple #[.pointer (some ⟨ge, 0, none⟩), .int .i64 0]) w8 hb8 ⟨ge, rfl, hx8.low⟩)
      refine ⟨?_, ?_⟩
      ·refine fact_free rfl (fun V w7 hB hF K hK => ?_)
       obtain ⟨ge, h8, hx8⟩ := hF.out 8 (by kernel_rfl)
       go_simp
       exact put_is (by rw [h8]; kernel_rfl) (hK.out (.tuple #[.pointer (some ⟨ge, 0, none⟩), .int .i64 0]) _ (Below.refl _ _) ⟨ge, rfl, hx8⟩)
      refine ⟨?_, ?_⟩
      ·refine fact_free rfl (fun V w7 hB hF K hK => ?_)
       obtain ⟨ge, h9, hx9⟩ := hF.out 9 (by kernel_rfl)
       go_simp
       exact put_is (by rw [h9]; kernel_rfl) (hK.out (.pointer (some ⟨ge, 0, none⟩)) _ (Below.refl _ _) ⟨ge, rfl, hx9⟩)
      refine ⟨?_, ?_⟩
      ·refine fact_free rfl (fun V w7 hB hF K hK => ?_)
       obtain ⟨ge, h9, hx9⟩ := hF.out 9 (by kernel_rfl)
       go_simp
       exact put_is (by rw [h9]; kernel_rfl) (hK.out (.int .i64 0) _ (Below.refl _ _) rfl)
      refine ⟨?_, ?_⟩
      ·refine fact_free rfl (fun V w7 hB hF K hK => ?_)
       obtain ⟨ge, h10, hx10⟩ := hF.out 10 (by kernel_rfl)
       go_simp
       exact put_is (by rw [h10]; kernel_rfl) (hK.out (.pointer (some ⟨ge, 0, none⟩)) _ (Below.refl _ _) ⟨ge, rfl, hx10⟩)
      refine ⟨?_, ?_⟩
      ·refine fact_free rfl (fun V w7 hB hF K hK => ?_)
       have h11 : V 11 = .int .i64 0 := hF.out 11 (by kernel_rfl)
       go_simp
       exact put_is (by rw [h11]; kernel_rfl) (hK.out (.int .i64 0) _ (Below.refl _ _) rfl)
      trivial
     intro V w13 hb13 hF13
     obtain ⟨ge, h12, hx13⟩ := hF13 12 (by decide)
     have h13 : V 13 = .int .i64 0 := hF13 13 (by decide)
     rw [h12, h13]
     have HB13 : Hid (Below W12.heap.size W12 w13) := HBr.out.trans (hb13.mono HBr.out.size)
     have HXD13 := Lib.hid (HXDr.out.keep hb13)
     have HVD13 := Lib.hid (VIn.keep hb13 HVDr.out)
     have CE0 := eval_any 16 9 3 (h + 1) 0 ge (cmpX nm) (cmpD A B) _ (fun _ => True) w13 hx13 HVD13.out
     rw [HNM.out, cmpX_eval (h + 1) A B k hlt, ← HCV.out, ← HCB.out] at CE0
     have CE := Lib.hid CE0
     clear hx13 h12 h13 hF13 hb13 CE0
     obtain ⟨x0, x1, x2, x3, x4, x5⟩ := HXD13.out.cells
     go_wp2_with fail
     refine CE.out.mono ?_
     rintro e w14 ⟨v14, rfl, hv14, hb14⟩
     obtain ⟨rk, rn, rs, ra, rf, rl, rab, rac, rfb, rfc, rlb, rlc, rfl⟩ := hv14.shape
     obtain ⟨rfl, hrn, -⟩ := VIn.leaf hv14
     have hq : (rn == 1) = cb := by rw [hrn]; cases cb <;> rfl
     have hne : (cb != cb) = false := by cases cb <;> rfl
     clear hrn
     obtain ⟨W15, hW15⟩ : ∃ W, W = w14.alloc (.cells #[.int .i64 10, .int .i64 rn, .string rs, .slice ra rab rac, .slice rf rfb rfc, .slice rl rlb rlc] 26) := ⟨_, rfl⟩
     obtain ⟨P15, hP15⟩ : ∃ P, P = w14.heap.size := ⟨_, rfl⟩
     have hb15 : Below w14.heap.size w14 W15 := by rw [hW15]; exact (Below.refl _ _).alloc (Nat.le_refl _) _
     have hx15 : IsBox W15 P15 (.int .i64 10) (.int .i64 rn) (.string rs) (.slice ra rab rac) (.slice rf rfb rfc) (.slice rl rlb rlc) := by rw [hW15, hP15]; exact IsBox.new w14 (.int .i64 10) (.int .i64 rn) (.string rs) (.slice ra rab rac) (.slice rf rfb rfc) (.slice rl rlb rlc)
     have HB15 : Hid (Below W12.heap.size W12 W15) := HB13.out.trans ((hb14.trans (hb15.mono hb14.size)).mono HB13.out.size)
     have HW15 := Lib.hid hW15
     have HP15 := Lib.hid hP15
     have HX15 := Lib.hid hx15
     have cw := cell_keep HB15.out (HCW.out k hlt)
     rw [← HCB.out] at cw
     have HCWR := Lib.hid cw
     clear cw
     clear hv14 hb14 hW15 hP15 hb15 hx15 CE HB13 HXD13 HVD13 x0 x1 x2 x3 x4 x5
     go_upto_region 17 with fail
     rw [← HW15.out, ← HP15.out]
     have cw := HCWR.out
     obtain ⟨x0, x1, x2, x3, x4, x5⟩ := HX15.out.cells
     go_quiet (fail)
     have HBQ : Hid (Below W12.heap.size W12 (W15.drewN nq)) := Go.below_drewN HB15.out nq
     generalize W15.drewN nq = w16 at *
     clear cw x0 x1 x2 x3 x4 x5
     go_wp2_with fail
     go_roundw
     case rel => exact ⟨k + 1, by go_num, by omega, HBQ.out⟩
     case measure => simp [intOf]; omega
    ·skip
     obtain rfl : k = 6 := by omega
     have HXDr := Lib.hid (HXD12.out.keep HBr.out)
     have HXXr := Lib.hid (HXX12.out.keep HBr.out)
     have HXYr := Lib.hid (HXY12.out.keep HBr.out)
     have HBW : Hid (Below w.heap.size w wr) := HB12.out.trans (HBr.out.mono HB12.out.size)
     have HVDr := Lib.hid (VIn.keep HBr.out HVD12.out)
     obtain ⟨W20, hW20⟩ : ∃ W, W = wr.alloc (.cells #[.int .i64 5, .int .i64 0, .string ⟨#[36, 97]⟩, .slice none 0 0, .slice none 0 0, .slice none 0 0, .int .i64 5, .int .i64 0, .string ⟨#[36, 98]⟩, .slice none 0 0, .slice none 0 0, .slice none 0 0] 26) := ⟨_, rfl⟩
     obtain ⟨P20, hP20⟩ : ∃ P, P = wr.heap.size := ⟨_, rfl⟩
     have hb20 : Below wr.heap.size wr W20 := by rw [hW20]; exact (Below.refl _ _).alloc (Nat.le_refl _) _
     have hx20 : W20.heap[P20]? = some (.cells #[.int .i64 5, .int .i64 0, .string ⟨#[36, 97]⟩, .slice none 0 0, .slice none 0 0, .slice none 0 0, .int .i64 5, .int .i64 0, .string ⟨#[36, 98]⟩, .slice none 0 0, .slice none 0 0, .slice none 0 0] 26 (0, 0)) := by rw [hW20, hP20]; exact heap_alloc_new wr _
     have hb20w : Below w.heap.size w W20 := HBW.out.trans (hb20.mono HBW.out.size)
     have hit := two_items (Q := fun _ => True) hx20 trivial (textL_in W20 (fun _ => True) ⟨#[36, 97]⟩ (by decide) 0) (textL_in W20 (fun _ => True) ⟨#[36, 98]⟩ (by decide) 0)
     have CO := Lib.hid (op10_any ⟨#[36, 99, 109, 112]⟩ (by decide) (fun _ => True) 1 _ 2 2 _ W20 rfl (by omega) ⟨by omega, by omega⟩ hit)
     have HB20 : Hid (Below wr.heap.size wr W20) := hb20
     have HB20W := Lib.hid hb20w
     have HW20 := Lib.hid hW20
     have HP20 := Lib.hid hP20
     clear hb20w hit hb20 hx20 hW20 hP20
     obtain ⟨x0, x1, x2, x3, x4, x5⟩ := HXXr.out.cells
     obtain ⟨y0, y1, y2, y3, y4, y5⟩ := HXYr.out.cells
     go_wp2_with fail
     rw [← HW20.out, ← HP20.out]
     refine CO.out.mono ?_
     rintro e w21 ⟨g21, rfl, hv21, hb21⟩
     have HB21 : Hid (Below wr.heap.size wr w21) := HB20.out.trans (hb21.mono HB20.out.size)
     have HB21W : Hid (Below w.heap.size w w21) := HB20W.out.trans (hb21.mono HB20W.out.size)
     have CP := Lib.hid (parse_ok 16 9 3 (by omega) (by omega) _ (cmpX (cmpNm 6)) _ w21 (HG.out.keep HB21W.out) hv21 (cmpX_short 6 (by omega)) (cmpX_code 6 (by omega)))
     clear hv21 hb21 CO x0 x1 x2 x3 x4 x5 y0 y1 y2 y3 y4 y5
     go_wp2_with fail
     refine CP.out.mono ?_
     rintro e w22 ⟨ge, rfl, hx22, hb22⟩
     have hb22r := HB21.out.trans (hb22.mono HB21.out.size)
     have HB22W : Hid (Below w.heap.size w w22) := HB21W.out.trans (hb22.mono HB21W.out.size)
     have HXD22 := Lib.hid (HXDr.out.keep hb22r)
     have CE0 := eval_any 16 9 3 (h + 1) _ ge (cmpX (cmpNm 6)) (cmpD A B) _ (fun _ => True) w22 hx22 (VIn.keep hb22r HVDr.out)
     rw [cmpX_cmp (h + 1) A B, ← HCV.out] at CE0
     have CE := Lib.hid CE0
     clear hx22 hb22 hb22r CE0 CP
     obtain ⟨x0, x1, x2, x3, x4, x5⟩ := HXD22.out.cells
     go_wp2_with fail
     refine CE.out.mono ?_
     rintro e w23 ⟨v23, rfl, hv23, hb23⟩
     obtain ⟨rk, rn, rs, ra, rf, rl, rab, rac, rfb, rfc, rlb, rlc, rfl⟩ := hv23.shape
     obtain ⟨rfl, hrn, -⟩ := VIn.leaf hv23
     rw [hrn]
     clear hrn
     obtain ⟨W24, hW24⟩ : ∃ W, W = w23.alloc (.cells #[.int .i64 3, .int .i64 cv, .string rs, .slice ra rab rac, .slice rf rfb rfc, .slice rl rlb rlc] 26) := ⟨_, rfl⟩
     obtain ⟨P24, hP24⟩ : ∃ P, P = w23.heap.size := ⟨_, rfl⟩
     have hb24 : Below w23.heap.size w23 W24 := by rw [hW24]; exact (Below.refl _ _).alloc (Nat.le_refl _) _
     have hx24 : IsBox W24 P24 (.int .i64 3) (.int .i64 cv) (.string rs) (.slice ra rab rac) (.slice rf rfb rfc) (.slice rl rlb rlc) := by rw [hW24, hP24]; exact IsBox.new w23 (.int .i64 3) (.int .i64 cv) (.string rs) (.slice ra rab rac) (.slice rf rfb rfc) (.slice rl rlb rlc)
     have HB24W : Hid (Below w.heap.size w W24) := HB22W.out.trans ((hb23.trans (hb24.mono hb23.size)).mono HB22W.out.size)
     have HW24 := Lib.hid hW24
     have HP24 := Lib.hid hP24
     have HX24 := Lib.hid hx24
     clear hv23 hb23 hW24 hP24 hb24 hx24 CE x0 x1 x2 x3 x4 x5
     go_upto_region 23 with fail
     rw [← HW24.out, ← HP24.out]
     obtain ⟨x0, x1, x2, x3, x4, x5⟩ := HX24.out.cells
     go_wp2_with fail
     refine bodyPost_ret (v := .bool true) ?_ rfl ?_
     ·simp [results, Tryz.results4, go_sem, *]
     ·exact ⟨rfl, HB24W.out⟩
end Go.Proofs.YtiajjgehnmkokaaGreatDoor
end
