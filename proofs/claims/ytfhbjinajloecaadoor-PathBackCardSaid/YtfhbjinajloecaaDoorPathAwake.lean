/- aqueductlaw6.awake. -/
import Derived.Test.YtfhbjinajloecaaDoorPathRefParse
import Derived.Test.YtfhbjinajloecaaDoorPathReachTop
namespace Go.Proofs.YtfhbjinajloecaaDoor
open Go.RowKit
open Seal
open Path
open Bson (Val)
theorem five_rows (w : World) (c0 c1 c2 c3 c4 : Array Value) (t0 t1 t2 t3 t4 : TypeId) (W : World) (hW : ((((w.alloc (.cells c0 t0)).alloc (.cells c1 t1)).alloc (.cells c2 t2)).alloc (.cells c3 t3)).alloc (.cells c4 t4) = W) :
    W.heap[w.heap.size]? = some (.cells c0 t0 (0, 0)) ∧ W.heap[w.heap.size + 1]? = some (.cells c1 t1 (0, 0)) ∧ W.heap[w.heap.size + 1 + 1]? = some (.cells c2 t2 (0, 0)) ∧ W.heap[w.heap.size + 1 + 1 + 1]? = some (.cells c3 t3 (0, 0)) ∧ W.heap[w.heap.size + 1 + 1 + 1 + 1]? = some (.cells c4 t4 (0, 0)) ∧ Below w.heap.size w W ∧ W.heap.size = w.heap.size + 5 := by
  subst hW
  refine ⟨?_, ?_, ?_, ?_, ?_, ?_, by simp⟩
  · rw [Below.heap_alloc _ _ _ (by simp <;> omega), Below.heap_alloc _ _ _ (by simp <;> omega), Below.heap_alloc _ _ _ (by simp <;> omega), Below.heap_alloc _ _ _ (by simp), heap_alloc_new]
  · have h := heap_alloc_new (w.alloc (.cells c0 t0)) (.cells c1 t1)
    rw [Below.heap_alloc _ _ _ (by simp <;> omega), Below.heap_alloc _ _ _ (by simp <;> omega), Below.heap_alloc _ _ _ (by simp)]
    simpa using h
  · have h := heap_alloc_new ((w.alloc (.cells c0 t0)).alloc (.cells c1 t1)) (.cells c2 t2)
    rw [Below.heap_alloc _ _ _ (by simp <;> omega), Below.heap_alloc _ _ _ (by simp)]
    simpa using h
  · have h := heap_alloc_new (((w.alloc (.cells c0 t0)).alloc (.cells c1 t1)).alloc (.cells c2 t2)) (.cells c3 t3)
    rw [Below.heap_alloc _ _ _ (by simp)]
    simpa using h
  · have h := heap_alloc_new ((((w.alloc (.cells c0 t0)).alloc (.cells c1 t1)).alloc (.cells c2 t2)).alloc (.cells c3 t3)) (.cells c4 t4)
    simpa using h
  · exact (((((Below.refl _ w).alloc (Nat.le_refl _) _).alloc (by simp) _).alloc (by simp; omega) _).alloc (by simp; omega) _).alloc (by simp; omega) _
theorem plain_lim (k n : Int) (f : List (ByteArray × Val)) (l : List Val) (hk : -9223372036854775808 ≤ k ∧ k ≤ 9223372036854775807) (hn : -9223372036854775808 ≤ n ∧ n ≤ 9223372036854775807) (hf : f.length ≤ 1172812402961) (hl : l.length ≤ 1353245080339) : Lim (.mk k n ⟨#[]⟩ [] f l) :=
  ⟨hk.1, hk.2, hn.1, hn.2, by show (0 : Nat) ≤ _; omega, by show (0 : Nat) ≤ _; omega, hf, hl, fun c hc => by cases hc⟩
theorem leaf_in (w : World) (Q : Nat → Prop) (k n : Int) (hk : -9223372036854775808 ≤ k ∧ k ≤ 9223372036854775807) (hn : -9223372036854775808 ≤ n ∧ n ≤ 9223372036854775807) (h : Nat) :
    VIn w Q (h + 1) (.mk k n ⟨#[]⟩ [] [] []) (.agg #[.int .i64 k, .int .i64 n, .string ⟨#[]⟩, .slice none 0 0, .slice none 0 0, .slice none 0 0]) :=
  ⟨none, none, none, 0, 0, 0, rfl, plain_lim k n [] [] hk hn (by simp) (by simp), ⟨Nat.le_refl _, by omega⟩, ⟨Nat.le_refl _, by omega⟩, ⟨Nat.le_refl _, by omega⟩, .inl rfl, .inl rfl, .inl rfl⟩
theorem doc_in {w : World} {Q : Nat → Prop} {h g : Nat} {nm : ByteArray} {x : Val} {c0 c1 c2 c3 c4 c5 : Value} {t : TypeId} (hr : w.heap[g]? = some (.cells #[.string nm, c0, c1, c2, c3, c4, c5] t (0, 0))) (hq : Q g) (hnm : nm.size ≤ 140737488355328) (hx : VIn w Q h x (.agg #[c0, c1, c2, c3, c4, c5])) :
    VIn w Q (h + 1) (.mk 6 0 ⟨#[]⟩ [] [(nm, x)] []) (.agg #[.int .i64 6, .int .i64 0, .string ⟨#[]⟩, .slice none 0 0, .slice (some ⟨g, 0, none⟩) 1 1, .slice none 0 0]) := by
  refine ⟨none, some ⟨g, 0, none⟩, none, 0, 1, 0, rfl, plain_lim 6 0 _ [] (by omega) (by omega) (by simp) (by simp), ⟨Nat.le_refl _, by omega⟩, ⟨Nat.le_refl _, by omega⟩, ⟨Nat.le_refl _, by omega⟩, .inl rfl, .inr ⟨g, 0, rfl, hq, fun i hi => ?_⟩, .inl rfl⟩
  obtain rfl : i = 0 := by simp [Val.f] at hi; omega
  refine ⟨(cell_of_row _ _ 0 _ _ _ hr).trans rfl, hnm, _, ⟨c0, c1, c2, c3, c4, c5, rfl, ?_, ?_, ?_, ?_, ?_, ?_⟩, hx⟩
  · exact (cell_of_row _ _ 1 _ _ _ hr).trans rfl
  · exact (cell_of_row _ _ 2 _ _ _ hr).trans rfl
  · exact (cell_of_row _ _ 3 _ _ _ hr).trans rfl
  · exact (cell_of_row _ _ 4 _ _ _ hr).trans rfl
  · exact (cell_of_row _ _ 5 _ _ _ hr).trans rfl
  · exact (cell_of_row _ _ 6 _ _ _ hr).trans rfl
theorem three_in {w : World} {Q : Nat → Prop} {h g : Nat} {x y z : Val} {a0 a1 a2 a3 a4 a5 b0 b1 b2 b3 b4 b5 c0 c1 c2 c3 c4 c5 : Value} {t : TypeId}
    (hr : w.heap[g]? = some (.cells #[a0, a1, a2, a3, a4, a5, b0, b1, b2, b3, b4, b5, c0, c1, c2, c3, c4, c5] t (0, 0))) (hq : Q g) (hx : VIn w Q h x (.agg #[a0, a1, a2, a3, a4, a5])) (hy : VIn w Q h y (.agg #[b0, b1, b2, b3, b4, b5])) (hz : VIn w Q h z (.agg #[c0, c1, c2, c3, c4, c5])) :
    VIn w Q (h + 1) (.mk 7 0 ⟨#[]⟩ [] [] [x, y, z]) (.agg #[.int .i64 7, .int .i64 0, .string ⟨#[]⟩, .slice none 0 0, .slice none 0 0, .slice (some ⟨g, 0, none⟩) 3 3]) := by
  have e : ∀ j c, (#[a0, a1, a2, a3, a4, a5, b0, b1, b2, b3, b4, b5, c0, c1, c2, c3, c4, c5] : Array Value)[j]? = some c → w.cell? ⟨g, j, none⟩ = some c := fun j c hc => (cell_of_row _ _ j _ _ _ hr).trans hc
  refine ⟨none, none, some ⟨g, 0, none⟩, 0, 0, 3, rfl, plain_lim 7 0 [] _ (by omega) (by omega) (by simp) (by simp), ⟨Nat.le_refl _, by omega⟩, ⟨Nat.le_refl _, by omega⟩, ⟨Nat.le_refl _, by omega⟩, .inl rfl, .inl rfl, .inr ⟨g, 0, rfl, hq, fun i hi => ?_⟩⟩
  match i, hi with
  | 0, _ => exact ⟨_, ⟨a0, a1, a2, a3, a4, a5, rfl, e _ _ rfl, e _ _ rfl, e _ _ rfl, e _ _ rfl, e _ _ rfl, e _ _ rfl⟩, hx⟩
  | 1, _ => exact ⟨_, ⟨b0, b1, b2, b3, b4, b5, rfl, e _ _ rfl, e _ _ rfl, e _ _ rfl, e _ _ rfl, e _ _ rfl, e _ _ rfl⟩, hy⟩
  | 2, _ => exact ⟨_, ⟨c0, c1, c2, c3, c4, c5, rfl, e _ _ rfl, e _ _ rfl, e _ _ rfl, e _ _ rfl, e _ _ rfl, e _ _ rfl⟩, hz⟩
namespace Path
def one_ : Val := .mk 6 0 ⟨#[]⟩ [] [(⟨#[98]⟩, .mk 3 1 ⟨#[]⟩ [] [] [])] []
def wake : Val := .mk 6 0 ⟨#[]⟩ [] [(⟨#[97]⟩, .mk 7 0 ⟨#[]⟩ [] [] [one_, .mk 3 5 ⟨#[]⟩ [] [] [], one_])] []
theorem wake_reach : (Bson.reach 5 wake (names [[97], [98]])).kind = 7 ∧ (Bson.reach 5 wake (names [[97], [98]])).l.length = 2 := by
  constructor <;> rfl
theorem wake_all : (Bson.all 5 wake (names [[97], [98]])).length = 2 := by rfl
end Path
set_option maxRecDepth 100000 in
set_option maxHeartbeats 1000000 in
theorem awake_any (w : World) (hG : Ground w) : Calls Tryd.prog 9 #[] w fun e w' => e = .returned (.bool true) ∧ Below w.heap.size w w' := by
  have hp : parse (⟨#[97, 46, 98]⟩ : ByteArray).data.toList = some [[97], [98]] := by decide +kernel
  have CP := Lib.hid (Parse_any ⟨#[97, 46, 98]⟩ w (by decide) hG)
  have HP := Lib.hid hp
  clear hp
  go_enter Tryd.func9, Tryd.ntmps9
  go_wp2_with fail
  refine CP.out.mono ?_
  rintro e w1 ⟨v1, b1, rfl, hb1, hy, hn⟩
  obtain ⟨rfl, a1, c1, rfl, hc1, hc2, hs1⟩ := hy _ HP.out
  have HB1 := Lib.hid hb1
  have HS1 := Lib.hid hs1
  have hln : (names [[97], [98]]).length = 2 := rfl
  rw [hln] at hc1 ⊢
  clear hy hn hb1 hs1 CP HP hln
  go_wp2_with fail
  generalize hW : ((((w1.alloc _).alloc _).alloc _).alloc _).alloc _ = W at *
  obtain ⟨r0, r1, r2, r3, r4, hbW, hsW⟩ := five_rows _ _ _ _ _ _ _ _ _ _ _ _ hW
  have HV : Hid (VIn W (fun g => w.heap.size ≤ g) 4 wake (.agg #[.int .i64 6, .int .i64 0, .string ⟨#[]⟩, .slice none 0 0, .slice (some ⟨w1.heap.size + 1 + 1 + 1, 0, none⟩) 1 1, .slice none 0 0])) := by
    have hs := HB1.out.size
    have h1 : VIn W (fun g => w.heap.size ≤ g) 2 one_ (.agg #[.int .i64 6, .int .i64 0, .string ⟨#[]⟩, .slice none 0 0, .slice (some ⟨w1.heap.size, 0, none⟩) 1 1, .slice none 0 0]) := doc_in r0 (by omega) (by decide) (leaf_in _ _ 3 1 (by omega) (by omega) 0)
    exact doc_in r3 (by omega) (by decide) (three_in r2 (by omega) h1 (leaf_in _ _ 3 5 (by omega) (by omega) 1) h1)
  have HSW : Hid (StrsIn W a1 (names [[97], [98]])) := HS1.out.keep hbW
  have HBW : Hid (Below w.heap.size w W) := HB1.out.trans (hbW.mono HB1.out.size)
  have CR := Lib.hid (Reach_any 5 3 (names [[97], [98]]) a1 2 c1 (by decide) rfl hc1 _ wake _ W HV.out HSW.out)
  have e0 : W.cell? ⟨w1.heap.size + 1 + 1 + 1 + 1, 0, none⟩ = some (.int .i64 6) := (cell_of_row _ _ 0 _ _ _ r4).trans rfl
  have e1 : W.cell? ⟨w1.heap.size + 1 + 1 + 1 + 1, 1, none⟩ = some (.int .i64 0) := (cell_of_row _ _ 1 _ _ _ r4).trans rfl
  have e2 : W.cell? ⟨w1.heap.size + 1 + 1 + 1 + 1, 2, none⟩ = some (.string ⟨#[]⟩) := (cell_of_row _ _ 2 _ _ _ r4).trans rfl
  have e3 : W.cell? ⟨w1.heap.size + 1 + 1 + 1 + 1, 3, none⟩ = some (.slice none 0 0) := (cell_of_row _ _ 3 _ _ _ r4).trans rfl
  have e4 : W.cell? ⟨w1.heap.size + 1 + 1 + 1 + 1, 4, none⟩ = some (.slice (some ⟨w1.heap.size + 1 + 1 + 1, 0, none⟩) 1 1) := (cell_of_row _ _ 4 _ _ _ r4).trans rfl
  have e5 : W.cell? ⟨w1.heap.size + 1 + 1 + 1 + 1, 5, none⟩ = some (.slice none 0 0) := (cell_of_row _ _ 5 _ _ _ r4).trans rfl
  clear hW r0 r1 r2 r3 r4 hbW
  refine CR.out.mono ?_
  rintro e w2 ⟨v2, rfl, hv2, hb2⟩
  obtain ⟨xk, xn, xs, ba, fa, la, bn, bc, fn, fc, ln, lc, rfl, hk, hxn, hxs, hbn, hfn, hl, hrest⟩ := hv2.letters
  clear hxn hxs hbn hfn hrest
  rw [wake_reach.1] at hk
  rw [wake_reach.2] at hl
  subst hk hl
  have f0 := cell_keep ((Below.refl _ w2).alloc (Nat.le_refl _) (.cells #[.int .i64 7, .int .i64 xn, .string xs, .slice ba bn bc, .slice fa fn fc, .slice la 2 lc] 32)) (cell_keep hb2 e0)
  have f1 := cell_keep ((Below.refl _ w2).alloc (Nat.le_refl _) (.cells #[.int .i64 7, .int .i64 xn, .string xs, .slice ba bn bc, .slice fa fn fc, .slice la 2 lc] 32)) (cell_keep hb2 e1)
  have f2 := cell_keep ((Below.refl _ w2).alloc (Nat.le_refl _) (.cells #[.int .i64 7, .int .i64 xn, .string xs, .slice ba bn bc, .slice fa fn fc, .slice la 2 lc] 32)) (cell_keep hb2 e2)
  have f3 := cell_keep ((Below.refl _ w2).alloc (Nat.le_refl _) (.cells #[.int .i64 7, .int .i64 xn, .string xs, .slice ba bn bc, .slice fa fn fc, .slice la 2 lc] 32)) (cell_keep hb2 e3)
  have f4 := cell_keep ((Below.refl _ w2).alloc (Nat.le_refl _) (.cells #[.int .i64 7, .int .i64 xn, .string xs, .slice ba bn bc, .slice fa fn fc, .slice la 2 lc] 32)) (cell_keep hb2 e4)
  have f5 := cell_keep ((Below.refl _ w2).alloc (Nat.le_refl _) (.cells #[.int .i64 7, .int .i64 xn, .string xs, .slice ba bn bc, .slice fa fn fc, .slice la 2 lc] 32)) (cell_keep hb2 e5)
  have HB2 : Hid (Below w.heap.size w w2) := HBW.out.trans (hb2.mono HBW.out.size)
  have HV2 : Hid (VIn w2 (fun g => w.heap.size ≤ g) 4 wake (.agg #[.int .i64 6, .int .i64 0, .string ⟨#[]⟩, .slice none 0 0, .slice (some ⟨w1.heap.size + 1 + 1 + 1, 0, none⟩) 1 1, .slice none 0 0])) := VIn.keep hb2 HV.out
  have HS2 : Hid (StrsIn w2 a1 (names [[97], [98]])) := HSW.out.keep hb2
  have CA := Lib.hid (fun wx (hb : Below w2.heap.size w2 wx) => All_any 5 3 (names [[97], [98]]) a1 2 c1 (by decide) rfl hc1 _ wake _ wx (VIn.keep hb HV2.out) (HS2.out.keep hb) (by rw [wake_all]; decide))
  rw [wake_all] at CA
  clear hv2 e0 e1 e2 e3 e4 e5 CR HV HSW hb2 HBW HS1 HB1 hsW
  generalize w1.heap.size + 1 + 1 + 1 + 1 = G at *
  go_wp2_with fail
  refine (CA.out _ ((Below.refl _ w2).alloc (Nat.le_refl _) _)).mono ?_
  rintro e w3 ⟨a3, c3, rfl, _, _, hb3⟩
  have HB3 : Hid (Below w.heap.size w w3) := (HB2.out.alloc HB2.out.size _).trans (hb3.mono (by have := HB2.out.size; simp; omega))
  clear hb3
  go_wp2_with fail
  go_ret
  exact ⟨rfl, HB3.out⟩
end Go.Proofs.YtfhbjinajloecaaDoor
