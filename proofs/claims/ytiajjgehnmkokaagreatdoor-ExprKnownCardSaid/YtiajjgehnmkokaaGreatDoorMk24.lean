/- ExprKnownWalk. -/
import Derived.BigQuiet
import Derived.Lib.QuietBelow
import Derived.RegionTactic
import Derived.Test.YtiajjgehnmkokaaGreatDoorMk23
set_option maxRecDepth 100000
set_option maxHeartbeats 20000000
section
namespace Go.Proofs.YtiajjgehnmkokaaGreatDoor
open Go.RowKit
open Seal
open Bson (Val)
theorem parse_bad (N C h : Nat) (hN : 16 ≤ N) (hC : 3 * h ≤ C) (Q : Nat → Prop) (x : Val) (v : Value) (w : World) (hG : Ground w) (hv : VIn w Q h x v) (hs : ShortV x) (hz : exprCode h x ≠ 0) :
  Calls Tryz.prog 9 #[v] w fun e w' => e = .returned (.tuple #[.pointer none, .int .i64 (exprCode h x)]) ∧ Below w.heap.size w w' :=
 (parse_any N C h hN hC Q x v w hG hv hs).mono fun e w' hp => by
  obtain ⟨hb, ⟨h0, -⟩ | ⟨-, he⟩⟩ := hp
  ·exact absurd h0 hz
  ·exact ⟨he, hb⟩
theorem three_its {w : World} {Q : Nat → Prop} {h g : Nat} {x y z : Val} {a0 a1 a2 a3 a4 a5 b0 b1 b2 b3 b4 b5 c0 c1 c2 c3 c4 c5 : Value} {t : TypeId}
  (hr : w.heap[g]? = some (.cells #[a0, a1, a2, a3, a4, a5, b0, b1, b2, b3, b4, b5, c0, c1, c2, c3, c4, c5] t (0, 0))) (hq : Q g) (hx : VIn w Q h x (.agg #[a0, a1, a2, a3, a4, a5])) (hy : VIn w Q h y (.agg #[b0, b1, b2, b3, b4, b5])) (hz : VIn w Q h z (.agg #[c0, c1, c2, c3, c4, c5])) :
  ItemsIn w Q (VIn w Q h) (some ⟨g, 0, none⟩) [x, y, z] := by
 have e : ∀ j c, (#[a0, a1, a2, a3, a4, a5, b0, b1, b2, b3, b4, b5, c0, c1, c2, c3, c4, c5] : Array Value)[j]? = some c → w.cell? ⟨g, j, none⟩ = some c := fun j c hc => (cell_of_row _ _ j _ _ _ hr).trans hc
 refine .inr ⟨g, 0, rfl, hq, fun i hi => ?_⟩
 match i, hi with
 | 0, _ => exact ⟨_, ⟨a0, a1, a2, a3, a4, a5, rfl, e _ _ rfl, e _ _ rfl, e _ _ rfl, e _ _ rfl, e _ _ rfl, e _ _ rfl⟩, hx⟩
 | 1, _ => exact ⟨_, ⟨b0, b1, b2, b3, b4, b5, rfl, e _ _ rfl, e _ _ rfl, e _ _ rfl, e _ _ rfl, e _ _ rfl, e _ _ rfl⟩, hy⟩
 | 2, _ => exact ⟨_, ⟨c0, c1, c2, c3, c4, c5, rfl, e _ _ rfl, e _ _ rfl, e _ _ rfl, e _ _ rfl, e _ _ rfl, e _ _ rfl⟩, hz⟩
theorem five_fields {w : World} {Q : Nat → Prop} {h g : Nat} {na nb nc nd ne : ByteArray} {xa xb xc xd xe : Val} {a0 a1 a2 a3 a4 a5 b0 b1 b2 b3 b4 b5 c0 c1 c2 c3 c4 c5 d0 d1 d2 d3 d4 d5 e0 e1 e2 e3 e4 e5 : Value} {t : TypeId} (hr : w.heap[g]? = some (.cells #[.string na, a0, a1, a2, a3, a4, a5, .string nb, b0, b1, b2, b3, b4, b5, .string nc, c0, c1, c2, c3, c4, c5, .string nd, d0, d1, d2, d3, d4, d5, .string ne, e0, e1, e2, e3, e4, e5] t (0, 0))) (hq : Q g) (hna : na.size ≤ 140737488355328) (hnb : nb.size ≤ 140737488355328) (hnc : nc.size ≤ 140737488355328) (hnd : nd.size ≤ 140737488355328) (hne : ne.size ≤ 140737488355328) (hxa : VIn w Q h xa (.agg #[a0, a1, a2, a3, a4, a5])) (hxb : VIn w Q h xb (.agg #[b0, b1, b2, b3, b4, b5])) (hxc : VIn w Q h xc (.agg #[c0, c1, c2, c3, c4, c5])) (hxd : VIn w Q h xd (.agg #[d0, d1, d2, d3, d4, d5])) (hxe : VIn w Q h xe (.agg #[e0, e1, e2, e3, e4, e5])) :
  VIn w Q (h + 1) (.mk 6 0 ⟨#[]⟩ [] [(na, xa), (nb, xb), (nc, xc), (nd, xd), (ne, xe)] []) (.agg #[.int .i64 6, .int .i64 0, .string ⟨#[]⟩, .slice none 0 0, .slice (some ⟨g, 0, none⟩) 5 5, .slice none 0 0]) := by
 have e : ∀ j c, (#[.string na, a0, a1, a2, a3, a4, a5, .string nb, b0, b1, b2, b3, b4, b5, .string nc, c0, c1, c2, c3, c4, c5, .string nd, d0, d1, d2, d3, d4, d5, .string ne, e0, e1, e2, e3, e4, e5] : Array Value)[j]? = some c → w.cell? ⟨g, j, none⟩ = some c := fun j c hc => (cell_of_row _ _ j _ _ _ hr).trans hc
 refine ⟨none, some ⟨g, 0, none⟩, none, 0, 5, 0, rfl, plain_lim 6 0 _ [] (by omega) (by omega) (by simp) (by simp), ⟨Nat.le_refl _, by omega⟩, ⟨Nat.le_refl _, by omega⟩, ⟨Nat.le_refl _, by omega⟩, .inl rfl, .inr ⟨g, 0, rfl, hq, fun i hi => ?_⟩, .inl rfl⟩
 match i, hi with
 | 0, _ => exact ⟨e _ _ rfl, hna, _, ⟨a0, a1, a2, a3, a4, a5, rfl, e _ _ rfl, e _ _ rfl, e _ _ rfl, e _ _ rfl, e _ _ rfl, e _ _ rfl⟩, hxa⟩
 | 1, _ => exact ⟨e _ _ rfl, hnb, _, ⟨b0, b1, b2, b3, b4, b5, rfl, e _ _ rfl, e _ _ rfl, e _ _ rfl, e _ _ rfl, e _ _ rfl, e _ _ rfl⟩, hxb⟩
 | 2, _ => exact ⟨e _ _ rfl, hnc, _, ⟨c0, c1, c2, c3, c4, c5, rfl, e _ _ rfl, e _ _ rfl, e _ _ rfl, e _ _ rfl, e _ _ rfl, e _ _ rfl⟩, hxc⟩
 | 3, _ => exact ⟨e _ _ rfl, hnd, _, ⟨d0, d1, d2, d3, d4, d5, rfl, e _ _ rfl, e _ _ rfl, e _ _ rfl, e _ _ rfl, e _ _ rfl, e _ _ rfl⟩, hxd⟩
 | 4, _ => exact ⟨e _ _ rfl, hne, _, ⟨e0, e1, e2, e3, e4, e5, rfl, e _ _ rfl, e _ _ rfl, e _ _ rfl, e _ _ rfl, e _ _ rfl, e _ _ rfl⟩, hxe⟩
theorem known10_any (w : World) (hG : Ground w) : Calls Tryz.prog 6 #[] w fun e w' => e = .returned (.bool true) ∧ Below w.heap.size w w' := by
 have CC := Lib.hid (awake10_any w hG)
 have HG := Lib.hid hG
 clear hG
 go_enter Tryz.func6, Tryz.ntmps6
 go_wp2_with fail
 refine CC.out.mono ?_
 rintro e w1 ⟨rfl, hb⟩
 have HB : Hid (Below w.heap.size w w1) := hb
 have HA : Hid (AllIn w1 []) := fun p hp => (by cases hp)
 clear hb CC
 have CC := Lib.hid (num10_any (6) w1)
 go_wp2_with fail
 refine CC.out.mono ?_
 rintro e w2 ⟨rfl, hb⟩
 have HB2 : Hid (Below w.heap.size w w2) := HB.out.trans (hb.mono HB.out.size)
 have HA2 := Lib.hid (HA.out.keep hb)
 clear HB HA hb CC
 have HB := HB2
 have HA := HA2
 clear HB2 HA2
 have CC := Lib.hid (num10_any (-4) w2)
 go_wp2_with fail
 refine CC.out.mono ?_
 rintro e w3 ⟨rfl, hb⟩
 have HB3 : Hid (Below w.heap.size w w3) := HB.out.trans (hb.mono HB.out.size)
 have HA3 := Lib.hid (HA.out.keep hb)
 clear HB HA hb CC
 have HB := HB3
 have HA := HA3
 clear HB3 HA3
 have CC := Lib.hid (known_text ⟨#[120]⟩ w3)
 go_wp2_with fail
 refine CC.out.mono ?_
 rintro e w4 ⟨rfl, hb⟩
 have HB4 : Hid (Below w.heap.size w w4) := HB.out.trans (hb.mono HB.out.size)
 have HA4 := Lib.hid (HA.out.keep hb)
 clear HB HA hb CC
 have HB := HB4
 have HA := HA4
 clear HB4 HA4
 have CC := Lib.hid (num10_any (1) w4)
 go_wp2_with fail
 refine CC.out.mono ?_
 rintro e w5 ⟨rfl, hb⟩
 have HB5 : Hid (Below w.heap.size w w5) := HB.out.trans (hb.mono HB.out.size)
 have HA5 := Lib.hid (HA.out.keep hb)
 clear HB HA hb CC
 have HB := HB5
 have HA := HA5
 clear HB5 HA5
 have CC := Lib.hid (num10_any (2) w5)
 go_wp2_with fail
 refine CC.out.mono ?_
 rintro e w6 ⟨rfl, hb⟩
 have HB6 : Hid (Below w.heap.size w w6) := HB.out.trans (hb.mono HB.out.size)
 have HA6 := Lib.hid (HA.out.keep hb)
 clear HB HA hb CC
 have HB := HB6
 have HA := HA6
 clear HB6 HA6
 obtain ⟨w7, hW⟩ : ∃ W, W = w6.alloc (.cells #[.int .i64 3, .int .i64 (1), .string ⟨#[]⟩, .slice none 0 0, .slice none 0 0, .slice none 0 0, .int .i64 3, .int .i64 (2), .string ⟨#[]⟩, .slice none 0 0, .slice none 0 0, .slice none 0 0] 26) := ⟨_, rfl⟩
 obtain ⟨P7, hP⟩ : ∃ P, P = w6.heap.size := ⟨_, rfl⟩
 have hb : Below w6.heap.size w6 w7 := by rw [hW]; exact (Below.refl _ _).alloc (Nat.le_refl _) _
 have hx : w7.heap[P7]? = some (.cells #[.int .i64 3, .int .i64 (1), .string ⟨#[]⟩, .slice none 0 0, .slice none 0 0, .slice none 0 0, .int .i64 3, .int .i64 (2), .string ⟨#[]⟩, .slice none 0 0, .slice none 0 0, .slice none 0 0] 26 (0, 0)) := by rw [hW, hP]; exact heap_alloc_new w6 _
 have HB7 : Hid (Below w.heap.size w w7) := HB.out.trans (hb.mono HB.out.size)
 have HA7 := Lib.hid (HA.out.keep hb)
 have hit := two_items (Q := fun _ => True) hx trivial (leaf_in w7 (fun _ => True) 3 (1) (by omega) (by omega) 0) (leaf_in w7 (fun _ => True) 3 (2) (by omega) (by omega) 0)
 have hlv := listL_in (c := 2) (n := 2) rfl (by omega) ⟨by omega, by omega⟩ hit
 have HW7 := Lib.hid hW
 have HP7 := Lib.hid hP
 clear HB HA hb hW hP hx
 have HB := HB7
 have HA := HA7
 clear HB7 HA7
 obtain ⟨w8, hW⟩ : ∃ W, W = w7.alloc (.cells #[.string ⟨#[97]⟩, .int .i64 3, .int .i64 (6), .string ⟨#[]⟩, .slice none 0 0, .slice none 0 0, .slice none 0 0, .string ⟨#[98]⟩, .int .i64 3, .int .i64 (-4), .string ⟨#[]⟩, .slice none 0 0, .slice none 0 0, .slice none 0 0, .string ⟨#[115]⟩, .int .i64 5, .int .i64 0, .string ⟨#[120]⟩, .slice none 0 0, .slice none 0 0, .slice none 0 0, .string ⟨#[108]⟩, .int .i64 7, .int .i64 0, .string ⟨#[]⟩, .slice none 0 0, .slice none 0 0, .slice (some ⟨P7, 0, none⟩) 2 2, .string ⟨#[110]⟩, .int .i64 2, .int .i64 0, .string ⟨#[]⟩, .slice none 0 0, .slice none 0 0, .slice none 0 0] 40) := ⟨_, rfl⟩
 obtain ⟨P8, hP⟩ : ∃ P, P = w7.heap.size := ⟨_, rfl⟩
 have hb : Below w7.heap.size w7 w8 := by rw [hW]; exact (Below.refl _ _).alloc (Nat.le_refl _) _
 have hx : w8.heap[P8]? = some (.cells #[.string ⟨#[97]⟩, .int .i64 3, .int .i64 (6), .string ⟨#[]⟩, .slice none 0 0, .slice none 0 0, .slice none 0 0, .string ⟨#[98]⟩, .int .i64 3, .int .i64 (-4), .string ⟨#[]⟩, .slice none 0 0, .slice none 0 0, .slice none 0 0, .string ⟨#[115]⟩, .int .i64 5, .int .i64 0, .string ⟨#[120]⟩, .slice none 0 0, .slice none 0 0, .slice none 0 0, .string ⟨#[108]⟩, .int .i64 7, .int .i64 0, .string ⟨#[]⟩, .slice none 0 0, .slice none 0 0, .slice (some ⟨P7, 0, none⟩) 2 2, .string ⟨#[110]⟩, .int .i64 2, .int .i64 0, .string ⟨#[]⟩, .slice none 0 0, .slice none 0 0, .slice none 0 0] 40 (0, 0)) := by rw [hW, hP]; exact heap_alloc_new w7 _
 have HB8 : Hid (Below w.heap.size w w8) := HB.out.trans (hb.mono HB.out.size)
 have HA8 := Lib.hid (HA.out.keep hb)
 have hdv := five_fields (Q := fun _ => True) (h := 2) hx trivial (by decide) (by decide) (by decide) (by decide) (by decide) (leaf_in w8 (fun _ => True) 3 (6) (by omega) (by omega) 1) (leaf_in w8 (fun _ => True) 3 (-4) (by omega) (by omega) 1) (textL_in w8 (fun _ => True) ⟨#[120]⟩ (by decide) 1) (VIn.keep hb hlv) (leaf_in w8 (fun _ => True) 2 0 (by omega) (by omega) 1)
 have HW8 := Lib.hid hW
 have HP8 := Lib.hid hP
 clear HB HA hb hW hP hx
 have HB := HB8
 have HA := HA8
 clear HB8 HA8
 have HQ8 : Hid (P8 = P7 + 1) := by show _ = _; rw [HP8.out, HW7.out, HP7.out]; simp
 obtain ⟨w9, hW⟩ : ∃ W, W = w8.alloc (.cells #[.int .i64 6, .int .i64 0, .string ⟨#[]⟩, .slice none 0 0, .slice (some ⟨P8, 0, none⟩) 5 5, .slice none 0 0] 26) := ⟨_, rfl⟩
 obtain ⟨P9, hP⟩ : ∃ P, P = w8.heap.size := ⟨_, rfl⟩
 have hb : Below w8.heap.size w8 w9 := by rw [hW]; exact (Below.refl _ _).alloc (Nat.le_refl _) _
 have hx : w9.heap[P9]? = some (.cells #[.int .i64 6, .int .i64 0, .string ⟨#[]⟩, .slice none 0 0, .slice (some ⟨P8, 0, none⟩) 5 5, .slice none 0 0] 26 (0, 0)) := by rw [hW, hP]; exact heap_alloc_new w8 _
 have HB9 : Hid (Below w.heap.size w w9) := HB.out.trans (hb.mono HB.out.size)
 have HA9 := Lib.hid (HA.out.keep hb)
 have HX : Hid (IsBox w9 P9 (.int .i64 6) (.int .i64 0) (.string ⟨#[]⟩) (.slice none 0 0) (.slice (some ⟨P8, 0, none⟩) 5 5) (.slice none 0 0)) := hx
 have hdk := VIn.keep hb hdv
 have HW9 := Lib.hid hW
 have HP9 := Lib.hid hP
 clear HB HA hb hW hP hx
 have HB := HB9
 have HA := HA9
 clear HB9 HA9
 have HQ9 : Hid (P9 = P8 + 1) := by show _ = _; rw [HP9.out, HW8.out, HP8.out]; simp
 have HA0 : Hid (AllIn w9 [(knD, .agg #[.int .i64 6, .int .i64 0, .string ⟨#[]⟩, .slice none 0 0, .slice (some ⟨P8, 0, none⟩) 5 5, .slice none 0 0])]) := AllIn.add (fun p hp => (by cases hp)) hdk
 clear HA
 have HA := HA0
 clear HA0
 clear hit hlv hdv hdk
 go_upto_region 5 with fail
 rw [← HW7.out, ← HP7.out, ← HQ8.out, ← HW8.out, ← HW9.out, ← HQ9.out]
 have CC := Lib.hid (known_text ⟨#[36, 97]⟩ w9)
 go_wp2_with fail
 refine CC.out.mono ?_
 rintro e w10 ⟨rfl, hb⟩
 have HB10 : Hid (Below w.heap.size w w10) := HB.out.trans (hb.mono HB.out.size)
 have HA10 := Lib.hid (HA.out.keep hb)
 have HX10 := Lib.hid (HX.out.keep hb)
 clear HX
 have HX := HX10
 clear HX10
 clear HB HA hb CC
 have HB := HB10
 have HA := HA10
 clear HB10 HA10
 have CC := Lib.hid (known_text ⟨#[36, 98]⟩ w10)
 go_wp2_with fail
 refine CC.out.mono ?_
 rintro e w11 ⟨rfl, hb⟩
 have HB11 : Hid (Below w.heap.size w w11) := HB.out.trans (hb.mono HB.out.size)
 have HA11 := Lib.hid (HA.out.keep hb)
 have HX11 := Lib.hid (HX.out.keep hb)
 clear HX
 have HX := HX11
 clear HX11
 clear HB HA hb CC
 have HB := HB11
 have HA := HA11
 clear HB11 HA11
 obtain ⟨w12, hW⟩ : ∃ W, W = w11.alloc (.cells #[.int .i64 5, .int .i64 0, .string ⟨#[36, 97]⟩, .slice none 0 0, .slice none 0 0, .slice none 0 0, .int .i64 5, .int .i64 0, .string ⟨#[36, 98]⟩, .slice none 0 0, .slice none 0 0, .slice none 0 0] 26) := ⟨_, rfl⟩
 obtain ⟨P12, hP⟩ : ∃ P, P = w11.heap.size := ⟨_, rfl⟩
 have hb : Below w11.heap.size w11 w12 := by rw [hW]; exact (Below.refl _ _).alloc (Nat.le_refl _) _
 have hx : w12.heap[P12]? = some (.cells #[.int .i64 5, .int .i64 0, .string ⟨#[36, 97]⟩, .slice none 0 0, .slice none 0 0, .slice none 0 0, .int .i64 5, .int .i64 0, .string ⟨#[36, 98]⟩, .slice none 0 0, .slice none 0 0, .slice none 0 0] 26 (0, 0)) := by rw [hW, hP]; exact heap_alloc_new w11 _
 have HB12 : Hid (Below w.heap.size w w12) := HB.out.trans (hb.mono HB.out.size)
 have HA12 := Lib.hid (HA.out.keep hb)
 have HX12 := Lib.hid (HX.out.keep hb)
 clear HX
 have HX := HX12
 clear HX12
 have hit := two_items (Q := fun _ => True) hx trivial (textL_in w12 (fun _ => True) ⟨#[36, 97]⟩ (by decide) 0) (textL_in w12 (fun _ => True) ⟨#[36, 98]⟩ (by decide) 0)
 have HW12 := Lib.hid hW
 have HP12 := Lib.hid hP
 clear HB HA hb hW hP hx
 have HB := HB12
 have HA := HA12
 clear HB12 HA12
 have CO := Lib.hid (op10_any ⟨#[36, 97, 100, 100]⟩ (by decide) (fun _ => True) 1 _ 2 2 _ w12 rfl (by omega) ⟨by omega, by omega⟩ hit)
 clear hit
 go_wp2_with fail
 rw [← HW12.out, ← HP12.out]
 refine CO.out.mono ?_
 rintro e w13 ⟨g13, rfl, hv, hb⟩
 have HB13 : Hid (Below w.heap.size w w13) := HB.out.trans (hb.mono HB.out.size)
 have HA13 := Lib.hid ((HA.out.keep hb).add hv.any)
 have HX13 := Lib.hid (HX.out.keep hb)
 clear HX
 have HX := HX13
 clear HX13
 clear HB HA hb hv CO
 have HB := HB13
 have HA := HA13
 clear HB13 HA13
 have CC := Lib.hid (known_text ⟨#[36, 97]⟩ w13)
 go_wp2_with fail
 refine CC.out.mono ?_
 rintro e w14 ⟨rfl, hb⟩
 have HB14 : Hid (Below w.heap.size w w14) := HB.out.trans (hb.mono HB.out.size)
 have HA14 := Lib.hid (HA.out.keep hb)
 have HX14 := Lib.hid (HX.out.keep hb)
 clear HX
 have HX := HX14
 clear HX14
 clear HB HA hb CC
 have HB := HB14
 have HA := HA14
 clear HB14 HA14
 have CC := Lib.hid (num10_any (2) w14)
 go_wp2_with fail
 refine CC.out.mono ?_
 rintro e w15 ⟨rfl, hb⟩
 have HB15 : Hid (Below w.heap.size w w15) := HB.out.trans (hb.mono HB.out.size)
 have HA15 := Lib.hid (HA.out.keep hb)
 have HX15 := Lib.hid (HX.out.keep hb)
 clear HX
 have HX := HX15
 clear HX15
 clear HB HA hb CC
 have HB := HB15
 have HA := HA15
 clear HB15 HA15
 obtain ⟨w16, hW⟩ : ∃ W, W = w15.alloc (.cells #[.int .i64 5, .int .i64 0, .string ⟨#[36, 97]⟩, .slice none 0 0, .slice none 0 0, .slice none 0 0, .int .i64 3, .int .i64 (2), .string ⟨#[]⟩, .slice none 0 0, .slice none 0 0, .slice none 0 0] 26) := ⟨_, rfl⟩
 obtain ⟨P16, hP⟩ : ∃ P, P = w15.heap.size := ⟨_, rfl⟩
 have hb : Below w15.heap.size w15 w16 := by rw [hW]; exact (Below.refl _ _).alloc (Nat.le_refl _) _
 have hx : w16.heap[P16]? = some (.cells #[.int .i64 5, .int .i64 0, .string ⟨#[36, 97]⟩, .slice none 0 0, .slice none 0 0, .slice none 0 0, .int .i64 3, .int .i64 (2), .string ⟨#[]⟩, .slice none 0 0, .slice none 0 0, .slice none 0 0] 26 (0, 0)) := by rw [hW, hP]; exact heap_alloc_new w15 _
 have HB16 : Hid (Below w.heap.size w w16) := HB.out.trans (hb.mono HB.out.size)
 have HA16 := Lib.hid (HA.out.keep hb)
 have HX16 := Lib.hid (HX.out.keep hb)
 clear HX
 have HX := HX16
 clear HX16
 have hit := two_items (Q := fun _ => True) hx trivial (textL_in w16 (fun _ => True) ⟨#[36, 97]⟩ (by decide) 0) (leaf_in w16 (fun _ => True) 3 (2) (by omega) (by omega) 0)
 have HW16 := Lib.hid hW
 have HP16 := Lib.hid hP
 clear HB HA hb hW hP hx
 have HB := HB16
 have HA := HA16
 clear HB16 HA16
 have CO := Lib.hid (op10_any ⟨#[36, 109, 117, 108, 116, 105, 112, 108, 121]⟩ (by decide) (fun _ => True) 1 _ 2 2 _ w16 rfl (by omega) ⟨by omega, by omega⟩ hit)
 clear hit
 go_wp2_with fail
 rw [← HW16.out, ← HP16.out]
 refine CO.out.mono ?_
 rintro e w17 ⟨g17, rfl, hv, hb⟩
 have HB17 : Hid (Below w.heap.size w w17) := HB.out.trans (hb.mono HB.out.size)
 have HA17 := Lib.hid ((HA.out.keep hb).add hv.any)
 have HX17 := Lib.hid (HX.out.keep hb)
 clear HX
 have HX := HX17
 clear HX17
 clear HB HA hb hv CO
 have HB := HB17
 have HA := HA17
 clear HB17 HA17
 have CC := Lib.hid (known_text ⟨#[36, 97]⟩ w17)
 go_wp2_with fail
 refine CC.out.mono ?_
 rintro e w18 ⟨rfl, hb⟩
 have HB18 : Hid (Below w.heap.size w w18) := HB.out.trans (hb.mono HB.out.size)
 have HA18 := Lib.hid (HA.out.keep hb)
 have HX18 := Lib.hid (HX.out.keep hb)
 clear HX
 have HX := HX18
 clear HX18
 clear HB HA hb CC
 have HB := HB18
 have HA := HA18
 clear HB18 HA18
 have CC := Lib.hid (known_text ⟨#[36, 98]⟩ w18)
 go_wp2_with fail
 refine CC.out.mono ?_
 rintro e w19 ⟨rfl, hb⟩
 have HB19 : Hid (Below w.heap.size w w19) := HB.out.trans (hb.mono HB.out.size)
 have HA19 := Lib.hid (HA.out.keep hb)
 have HX19 := Lib.hid (HX.out.keep hb)
 clear HX
 have HX := HX19
 clear HX19
 clear HB HA hb CC
 have HB := HB19
 have HA := HA19
 clear HB19 HA19
 obtain ⟨w20, hW⟩ : ∃ W, W = w19.alloc (.cells #[.int .i64 5, .int .i64 0, .string ⟨#[36, 97]⟩, .slice none 0 0, .slice none 0 0, .slice none 0 0, .int .i64 5, .int .i64 0, .string ⟨#[36, 98]⟩, .slice none 0 0, .slice none 0 0, .slice none 0 0] 26) := ⟨_, rfl⟩
 obtain ⟨P20, hP⟩ : ∃ P, P = w19.heap.size := ⟨_, rfl⟩
 have hb : Below w19.heap.size w19 w20 := by rw [hW]; exact (Below.refl _ _).alloc (Nat.le_refl _) _
 have hx : w20.heap[P20]? = some (.cells #[.int .i64 5, .int .i64 0, .string ⟨#[36, 97]⟩, .slice none 0 0, .slice none 0 0, .slice none 0 0, .int .i64 5, .int .i64 0, .string ⟨#[36, 98]⟩, .slice none 0 0, .slice none 0 0, .slice none 0 0] 26 (0, 0)) := by rw [hW, hP]; exact heap_alloc_new w19 _
 have HB20 : Hid (Below w.heap.size w w20) := HB.out.trans (hb.mono HB.out.size)
 have HA20 := Lib.hid (HA.out.keep hb)
 have HX20 := Lib.hid (HX.out.keep hb)
 clear HX
 have HX := HX20
 clear HX20
 have hit := two_items (Q := fun _ => True) hx trivial (textL_in w20 (fun _ => True) ⟨#[36, 97]⟩ (by decide) 0) (textL_in w20 (fun _ => True) ⟨#[36, 98]⟩ (by decide) 0)
 have HW20 := Lib.hid hW
 have HP20 := Lib.hid hP
 clear HB HA hb hW hP hx
 have HB := HB20
 have HA := HA20
 clear HB20 HA20
 have CO := Lib.hid (op10_any ⟨#[36, 115, 117, 98, 116, 114, 97, 99, 116]⟩ (by decide) (fun _ => True) 1 _ 2 2 _ w20 rfl (by omega) ⟨by omega, by omega⟩ hit)
 clear hit
 go_wp2_with fail
 rw [← HW20.out, ← HP20.out]
 refine CO.out.mono ?_
 rintro e w21 ⟨g21, rfl, hv, hb⟩
 have HB21 : Hid (Below w.heap.size w w21) := HB.out.trans (hb.mono HB.out.size)
 have HA21 := Lib.hid ((HA.out.keep hb).add hv.any)
 have HX21 := Lib.hid (HX.out.keep hb)
 clear HX
 have HX := HX21
 clear HX21
 clear HB HA hb hv CO
 have HB := HB21
 have HA := HA21
 clear HB21 HA21
 have CC := Lib.hid (known_text ⟨#[36, 97]⟩ w21)
 go_wp2_with fail
 refine CC.out.mono ?_
 rintro e w22 ⟨rfl, hb⟩
 have HB22 : Hid (Below w.heap.size w w22) := HB.out.trans (hb.mono HB.out.size)
 have HA22 := Lib.hid (HA.out.keep hb)
 have HX22 := Lib.hid (HX.out.keep hb)
 clear HX
 have HX := HX22
 clear HX22
 clear HB HA hb CC
 have HB := HB22
 have HA := HA22
 clear HB22 HA22
 have CC := Lib.hid (known_text ⟨#[36, 98]⟩ w22)
 go_wp2_with fail
 refine CC.out.mono ?_
 rintro e w23 ⟨rfl, hb⟩
 have HB23 : Hid (Below w.heap.size w w23) := HB.out.trans (hb.mono HB.out.size)
 have HA23 := Lib.hid (HA.out.keep hb)
 have HX23 := Lib.hid (HX.out.keep hb)
 clear HX
 have HX := HX23
 clear HX23
 clear HB HA hb CC
 have HB := HB23
 have HA := HA23
 clear HB23 HA23
 obtain ⟨w24, hW⟩ : ∃ W, W = w23.alloc (.cells #[.int .i64 5, .int .i64 0, .string ⟨#[36, 97]⟩, .slice none 0 0, .slice none 0 0, .slice none 0 0, .int .i64 5, .int .i64 0, .string ⟨#[36, 98]⟩, .slice none 0 0, .slice none 0 0, .slice none 0 0] 26) := ⟨_, rfl⟩
 obtain ⟨P24, hP⟩ : ∃ P, P = w23.heap.size := ⟨_, rfl⟩
 have hb : Below w23.heap.size w23 w24 := by rw [hW]; exact (Below.refl _ _).alloc (Nat.le_refl _) _
 have hx : w24.heap[P24]? = some (.cells #[.int .i64 5, .int .i64 0, .string ⟨#[36, 97]⟩, .slice none 0 0, .slice none 0 0, .slice none 0 0, .int .i64 5, .int .i64 0, .string ⟨#[36, 98]⟩, .slice none 0 0, .slice none 0 0, .slice none 0 0] 26 (0, 0)) := by rw [hW, hP]; exact heap_alloc_new w23 _
 have HB24 : Hid (Below w.heap.size w w24) := HB.out.trans (hb.mono HB.out.size)
 have HA24 := Lib.hid (HA.out.keep hb)
 have HX24 := Lib.hid (HX.out.keep hb)
 clear HX
 have HX := HX24
 clear HX24
 have hit := two_items (Q := fun _ => True) hx trivial (textL_in w24 (fun _ => True) ⟨#[36, 97]⟩ (by decide) 0) (textL_in w24 (fun _ => True) ⟨#[36, 98]⟩ (by decide) 0)
 have HW24 := Lib.hid hW
 have HP24 := Lib.hid hP
 clear HB HA hb hW hP hx
 have HB := HB24
 have HA := HA24
 clear HB24 HA24
 have CO := Lib.hid (op10_any ⟨#[36, 100, 105, 118, 105, 100, 101]⟩ (by decide) (fun _ => True) 1 _ 2 2 _ w24 rfl (by omega) ⟨by omega, by omega⟩ hit)
 clear hit
 go_wp2_with fail
 rw [← HW24.out, ← HP24.out]
 refine CO.out.mono ?_
 rintro e w25 ⟨g25, rfl, hv, hb⟩
 have HB25 : Hid (Below w.heap.size w w25) := HB.out.trans (hb.mono HB.out.size)
 have HA25 := Lib.hid ((HA.out.keep hb).add hv.any)
 have HX25 := Lib.hid (HX.out.keep hb)
 clear HX
 have HX := HX25
 clear HX25
 clear HB HA hb hv CO
 have HB := HB25
 have HA := HA25
 clear HB25 HA25
 have CC := Lib.hid (known_text ⟨#[36, 97]⟩ w25)
 go_wp2_with fail
 refine CC.out.mono ?_
 rintro e w26 ⟨rfl, hb⟩
 have HB26 : Hid (Below w.heap.size w w26) := HB.out.trans (hb.mono HB.out.size)
 have HA26 := Lib.hid (HA.out.keep hb)
 have HX26 := Lib.hid (HX.out.keep hb)
 clear HX
 have HX := HX26
 clear HX26
 clear HB HA hb CC
 have HB := HB26
 have HA := HA26
 clear HB26 HA26
 have CC := Lib.hid (known_text ⟨#[36, 98]⟩ w26)
 go_wp2_with fail
 refine CC.out.mono ?_
 rintro e w27 ⟨rfl, hb⟩
 have HB27 : Hid (Below w.heap.size w w27) := HB.out.trans (hb.mono HB.out.size)
 have HA27 := Lib.hid (HA.out.keep hb)
 have HX27 := Lib.hid (HX.out.keep hb)
 clear HX
 have HX := HX27
 clear HX27
 clear HB HA hb CC
 have HB := HB27
 have HA := HA27
 clear HB27 HA27
 obtain ⟨w28, hW⟩ : ∃ W, W = w27.alloc (.cells #[.int .i64 5, .int .i64 0, .string ⟨#[36, 97]⟩, .slice none 0 0, .slice none 0 0, .slice none 0 0, .int .i64 5, .int .i64 0, .string ⟨#[36, 98]⟩, .slice none 0 0, .slice none 0 0, .slice none 0 0] 26) := ⟨_, rfl⟩
 obtain ⟨P28, hP⟩ : ∃ P, P = w27.heap.size := ⟨_, rfl⟩
 have hb : Below w27.heap.size w27 w28 := by rw [hW]; exact (Below.refl _ _).alloc (Nat.le_refl _) _
 have hx : w28.heap[P28]? = some (.cells #[.int .i64 5, .int .i64 0, .string ⟨#[36, 97]⟩, .slice none 0 0, .slice none 0 0, .slice none 0 0, .int .i64 5, .int .i64 0, .string ⟨#[36, 98]⟩, .slice none 0 0, .slice none 0 0, .slice none 0 0] 26 (0, 0)) := by rw [hW, hP]; exact heap_alloc_new w27 _
 have HB28 : Hid (Below w.heap.size w w28) := HB.out.trans (hb.mono HB.out.size)
 have HA28 := Lib.hid (HA.out.keep hb)
 have HX28 := Lib.hid (HX.out.keep hb)
 clear HX
 have HX := HX28
 clear HX28
 have hit := two_items (Q := fun _ => True) hx trivial (textL_in w28 (fun _ => True) ⟨#[36, 97]⟩ (by decide) 0) (textL_in w28 (fun _ => True) ⟨#[36, 98]⟩ (by decide) 0)
 have HW28 := Lib.hid hW
 have HP28 := Lib.hid hP
 clear HB HA hb hW hP hx
 have HB := HB28
 have HA := HA28
 clear HB28 HA28
 have CO := Lib.hid (op10_any ⟨#[36, 109, 111, 100]⟩ (by decide) (fun _ => True) 1 _ 2 2 _ w28 rfl (by omega) ⟨by omega, by omega⟩ hit)
 clear hit
 go_wp2_with fail
 rw [← HW28.out, ← HP28.out]
 refine CO.out.mono ?_
 rintro e w29 ⟨g29, rfl, hv, hb⟩
 have HB29 : Hid (Below w.heap.size w w29) := HB.out.trans (hb.mono HB.out.size)
 have HA29 := Lib.hid ((HA.out.keep hb).add hv.any)
 have HX29 := Lib.hid (HX.out.keep hb)
 clear HX
 have HX := HX29
 clear HX29
 clear HB HA hb hv CO
 have HB := HB29
 have HA := HA29
 clear HB29 HA29
 have CC := Lib.hid (known_text ⟨#[36, 98]⟩ w29)
 go_wp2_with fail
 refine CC.out.mono ?_
 rintro e w30 ⟨rfl, hb⟩
 have HB30 : Hid (Below w.heap.size w w30) := HB.out.trans (hb.mono HB.out.size)
 have HA30 := Lib.hid (HA.out.keep hb)
 have HX30 := Lib.hid (HX.out.keep hb)
 clear HX
 have HX := HX30
 clear HX30
 clear HB HA hb CC
 have HB := HB30
 have HA := HA30
 clear HB30 HA30
 obtain ⟨w31, hW⟩ : ∃ W, W = w30.alloc (.cells #[.int .i64 5, .int .i64 0, .string ⟨#[36, 98]⟩, .slice none 0 0, .slice none 0 0, .slice none 0 0] 26) := ⟨_, rfl⟩
 obtain ⟨P31, hP⟩ : ∃ P, P = w30.heap.size := ⟨_, rfl⟩
 have hb : Below w30.heap.size w30 w31 := by rw [hW]; exact (Below.refl _ _).alloc (Nat.le_refl _) _
 have hx : w31.heap[P31]? = some (.cells #[.int .i64 5, .int .i64 0, .string ⟨#[36, 98]⟩, .slice none 0 0, .slice none 0 0, .slice none 0 0] 26 (0, 0)) := by rw [hW, hP]; exact heap_alloc_new w30 _
 have HB31 : Hid (Below w.heap.size w w31) := HB.out.trans (hb.mono HB.out.size)
 have HA31 := Lib.hid (HA.out.keep hb)
 have HX31 := Lib.hid (HX.out.keep hb)
 clear HX
 have HX := HX31
 clear HX31
 have hit := one_items (Q := fun _ => True) hx trivial (textL_in w31 (fun _ => True) ⟨#[36, 98]⟩ (by decide) 0)
 have HW31 := Lib.hid hW
 have HP31 := Lib.hid hP
 clear HB HA hb hW hP hx
 have HB := HB31
 have HA := HA31
 clear HB31 HA31
 have CO := Lib.hid (op10_any ⟨#[36, 97, 98, 115]⟩ (by decide) (fun _ => True) 1 _ 1 1 _ w31 rfl (by omega) ⟨by omega, by omega⟩ hit)
 clear hit
 go_wp2_with fail
 rw [← HW31.out, ← HP31.out]
 refine CO.out.mono ?_
 rintro e w32 ⟨g32, rfl, hv, hb⟩
 have HB32 : Hid (Below w.heap.size w w32) := HB.out.trans (hb.mono HB.out.size)
 have HA32 := Lib.hid ((HA.out.keep hb).add hv.any)
 have HX32 := Lib.hid (HX.out.keep hb)
 clear HX
 have HX := HX32
 clear HX32
 clear HB HA hb hv CO
 have HB := HB32
 have HA := HA32
 clear HB32 HA32
 have CC := Lib.hid (known_text ⟨#[36, 97]⟩ w32)
 go_wp2_with fail
 refine CC.out.mono ?_
 rintro e w33 ⟨rfl, hb⟩
 have HB33 : Hid (Below w.heap.size w w33) := HB.out.trans (hb.mono HB.out.size)
 have HA33 := Lib.hid (HA.out.keep hb)
 have HX33 := Lib.hid (HX.out.keep hb)
 clear HX
 have HX := HX33
 clear HX33
 clear HB HA hb CC
 have HB := HB33
 have HA := HA33
 clear HB33 HA33
 have CC := Lib.hid (known_text ⟨#[36, 98]⟩ w33)
 go_wp2_with fail
 refine CC.out.mono ?_
 rintro e w34 ⟨rfl, hb⟩
 have HB34 : Hid (Below w.heap.size w w34) := HB.out.trans (hb.mono HB.out.size)
 have HA34 := Lib.hid (HA.out.keep hb)
 have HX34 := Lib.hid (HX.out.keep hb)
 clear HX
 have HX := HX34
 clear HX34
 clear HB HA hb CC
 have HB := HB34
 have HA := HA34
 clear HB34 HA34
 obtain ⟨w35, hW⟩ : ∃ W, W = w34.alloc (.cells #[.int .i64 5, .int .i64 0, .string ⟨#[36, 97]⟩, .slice none 0 0, .slice none 0 0, .slice none 0 0, .int .i64 5, .int .i64 0, .string ⟨#[36, 98]⟩, .slice none 0 0, .slice none 0 0, .slice none 0 0] 26) := ⟨_, rfl⟩
 obtain ⟨P35, hP⟩ : ∃ P, P = w34.heap.size := ⟨_, rfl⟩
 have hb : Below w34.heap.size w34 w35 := by rw [hW]; exact (Below.refl _ _).alloc (Nat.le_refl _) _
 have hx : w35.heap[P35]? = some (.cells #[.int .i64 5, .int .i64 0, .string ⟨#[36, 97]⟩, .slice none 0 0, .slice none 0 0, .slice none 0 0, .int .i64 5, .int .i64 0, .string ⟨#[36, 98]⟩, .slice none 0 0, .slice none 0 0, .slice none 0 0] 26 (0, 0)) := by rw [hW, hP]; exact heap_alloc_new w34 _
 have HB35 : Hid (Below w.heap.size w w35) := HB.out.trans (hb.mono HB.out.size)
 have HA35 := Lib.hid (HA.out.keep hb)
 have HX35 := Lib.hid (HX.out.keep hb)
 clear HX
 have HX := HX35
 clear HX35
 have hit := two_items (Q := fun _ => True) hx trivial (textL_in w35 (fun _ => True) ⟨#[36, 97]⟩ (by decide) 0) (textL_in w35 (fun _ => True) ⟨#[36, 98]⟩ (by decide) 0)
 have HW35 := Lib.hid hW
 have HP35 := Lib.hid hP
 clear HB HA hb hW hP hx
 have HB := HB35
 have HA := HA35
 clear HB35 HA35
 have CO := Lib.hid (op10_any ⟨#[36, 99, 109, 112]⟩ (by decide) (fun _ => True) 1 _ 2 2 _ w35 rfl (by omega) ⟨by omega, by omega⟩ hit)
 clear hit
 go_wp2_with fail
 rw [← HW35.out, ← HP35.out]
 refine CO.out.mono ?_
 rintro e w36 ⟨g36, rfl, hv, hb⟩
 have HB36 : Hid (Below w.heap.size w w36) := HB.out.trans (hb.mono HB.out.size)
 have HA36 := Lib.hid ((HA.out.keep hb).add hv.any)
 have HX36 := Lib.hid (HX.out.keep hb)
 clear HX
 have HX := HX36
 clear HX36
 clear HB HA hb hv CO
 have HB := HB36
 have HA := HA36
 clear HB36 HA36
 have CC := Lib.hid (known_text ⟨#[36, 108]⟩ w36)
 go_wp2_with fail
 refine CC.out.mono ?_
 rintro e w37 ⟨rfl, hb⟩
 have HB37 : Hid (Below w.heap.size w w37) := HB.out.trans (hb.mono HB.out.size)
 have HA37 := Lib.hid (HA.out.keep hb)
 have HX37 := Lib.hid (HX.out.keep hb)
 clear HX
 have HX := HX37
 clear HX37
 clear HB HA hb CC
 have HB := HB37
 have HA := HA37
 clear HB37 HA37
 obtain ⟨w38, hW⟩ : ∃ W, W = w37.alloc (.cells #[.int .i64 5, .int .i64 0, .string ⟨#[36, 108]⟩, .slice none 0 0, .slice none 0 0, .slice none 0 0] 26) := ⟨_, rfl⟩
 obtain ⟨P38, hP⟩ : ∃ P, P = w37.heap.size := ⟨_, rfl⟩
 have hb : Below w37.heap.size w37 w38 := by rw [hW]; exact (Below.refl _ _).alloc (Nat.le_refl _) _
 have hx : w38.heap[P38]? = some (.cells #[.int .i64 5, .int .i64 0, .string ⟨#[36, 108]⟩, .slice none 0 0, .slice none 0 0, .slice none 0 0] 26 (0, 0)) := by rw [hW, hP]; exact heap_alloc_new w37 _
 have HB38 : Hid (Below w.heap.size w w38) := HB.out.trans (hb.mono HB.out.size)
 have HA38 := Lib.hid (HA.out.keep hb)
 have HX38 := Lib.hid (HX.out.keep hb)
 clear HX
 have HX := HX38
 clear HX38
 have hit := one_items (Q := fun _ => True) hx trivial (textL_in w38 (fun _ => True) ⟨#[36, 108]⟩ (by decide) 0)
 have HW38 := Lib.hid hW
 have HP38 := Lib.hid hP
 clear HB HA hb hW hP hx
 have HB := HB38
 have HA := HA38
 clear HB38 HA38
 have CO := Lib.hid (op10_any ⟨#[36, 115, 105, 122, 101]⟩ (by decide) (fun _ => True) 1 _ 1 1 _ w38 rfl (by omega) ⟨by omega, by omega⟩ hit)
 clear hit
 go_wp2_with fail
 rw [← HW38.out, ← HP38.out]
 refine CO.out.mono ?_
 rintro e w39 ⟨g39, rfl, hv, hb⟩
 have HB39 : Hid (Below w.heap.size w w39) := HB.out.trans (hb.mono HB.out.size)
 have HA39 := Lib.hid ((HA.out.keep hb).add hv.any)
 have HX39 := Lib.hid (HX.out.keep hb)
 clear HX
 have HX := HX39
 clear HX39
 clear HB HA hb hv CO
 have HB := HB39
 have HA := HA39
 clear HB39 HA39
 have CC := Lib.hid (known_text ⟨#[36, 108]⟩ w39)
 go_wp2_with fail
 refine CC.out.mono ?_
 rintro e w40 ⟨rfl, hb⟩
 have HB40 : Hid (Below w.heap.size w w40) := HB.out.trans (hb.mono HB.out.size)
 have HA40 := Lib.hid (HA.out.keep hb)
 have HX40 := Lib.hid (HX.out.keep hb)
 clear HX
 have HX := HX40
 clear HX40
 clear HB HA hb CC
 have HB := HB40
 have HA := HA40
 clear HB40 HA40
 have CC := Lib.hid (num10_any (-1) w40)
 go_wp2_with fail
 refine CC.out.mono ?_
 rintro e w41 ⟨rfl, hb⟩
 have HB41 : Hid (Below w.heap.size w w41) := HB.out.trans (hb.mono HB.out.size)
 have HA41 := Lib.hid (HA.out.keep hb)
 have HX41 := Lib.hid (HX.out.keep hb)
 clear HX
 have HX := HX41
 clear HX41
 clear HB HA hb CC
 have HB := HB41
 have HA := HA41
 clear HB41 HA41
 obtain ⟨w42, hW⟩ : ∃ W, W = w41.alloc (.cells #[.int .i64 5, .int .i64 0, .string ⟨#[36, 108]⟩, .slice none 0 0, .slice none 0 0, .slice none 0 0, .int .i64 3, .int .i64 (-1), .string ⟨#[]⟩, .slice none 0 0, .slice none 0 0, .slice none 0 0] 26) := ⟨_, rfl⟩
 obtain ⟨P42, hP⟩ : ∃ P, P = w41.heap.size := ⟨_, rfl⟩
 have hb : Below w41.heap.size w41 w42 := by rw [hW]; exact (Below.refl _ _).alloc (Nat.le_refl _) _
 have hx : w42.heap[P42]? = some (.cells #[.int .i64 5, .int .i64 0, .string ⟨#[36, 108]⟩, .slice none 0 0, .slice none 0 0, .slice none 0 0, .int .i64 3, .int .i64 (-1), .string ⟨#[]⟩, .slice none 0 0, .slice none 0 0, .slice none 0 0] 26 (0, 0)) := by rw [hW, hP]; exact heap_alloc_new w41 _
 have HB42 : Hid (Below w.heap.size w w42) := HB.out.trans (hb.mono HB.out.size)
 have HA42 := Lib.hid (HA.out.keep hb)
 have HX42 := Lib.hid (HX.out.keep hb)
 clear HX
 have HX := HX42
 clear HX42
 have hit := two_items (Q := fun _ => True) hx trivial (textL_in w42 (fun _ => True) ⟨#[36, 108]⟩ (by decide) 0) (leaf_in w42 (fun _ => True) 3 (-1) (by omega) (by omega) 0)
 have HW42 := Lib.hid hW
 have HP42 := Lib.hid hP
 clear HB HA hb hW hP hx
 have HB := HB42
 have HA := HA42
 clear HB42 HA42
 have CO := Lib.hid (op10_any ⟨#[36, 97, 114, 114, 97, 121, 69, 108, 101, 109, 65, 116]⟩ (by decide) (fun _ => True) 1 _ 2 2 _ w42 rfl (by omega) ⟨by omega, by omega⟩ hit)
 clear hit
 go_wp2_with fail
 rw [← HW42.out, ← HP42.out]
 refine CO.out.mono ?_
 rintro e w43 ⟨g43, rfl, hv, hb⟩
 have HB43 : Hid (Below w.heap.size w w43) := HB.out.trans (hb.mono HB.out.size)
 have HA43 := Lib.hid ((HA.out.keep hb).add hv.any)
 have HX43 := Lib.hid (HX.out.keep hb)
 clear HX
 have HX := HX43
 clear HX43
 clear HB HA hb hv CO
 have HB := HB43
 have HA := HA43
 clear HB43 HA43
 have CC := Lib.hid (known_text ⟨#[36, 110]⟩ w43)
 go_wp2_with fail
 refine CC.out.mono ?_
 rintro e w44 ⟨rfl, hb⟩
 have HB44 : Hid (Below w.heap.size w w44) := HB.out.trans (hb.mono HB.out.size)
 have HA44 := Lib.hid (HA.out.keep hb)
 have HX44 := Lib.hid (HX.out.keep hb)
 clear HX
 have HX := HX44
 clear HX44
 clear HB HA hb CC
 have HB := HB44
 have HA := HA44
 clear HB44 HA44
 have CC := Lib.hid (num10_any (1) w44)
 go_wp2_with fail
 refine CC.out.mono ?_
 rintro e w45 ⟨rfl, hb⟩
 have HB45 : Hid (Below w.heap.size w w45) := HB.out.trans (hb.mono HB.out.size)
 have HA45 := Lib.hid (HA.out.keep hb)
 have HX45 := Lib.hid (HX.out.keep hb)
 clear HX
 have HX := HX45
 clear HX45
 clear HB HA hb CC
 have HB := HB45
 have HA := HA45
 clear HB45 HA45
 have CC := Lib.hid (num10_any (2) w45)
 go_wp2_with fail
 refine CC.out.mono ?_
 rintro e w46 ⟨rfl, hb⟩
 have HB46 : Hid (Below w.heap.size w w46) := HB.out.trans (hb.mono HB.out.size)
 have HA46 := Lib.hid (HA.out.keep hb)
 have HX46 := Lib.hid (HX.out.keep hb)
 clear HX
 have HX := HX46
 clear HX46
 clear HB HA hb CC
 have HB := HB46
 have HA := HA46
 clear HB46 HA46
 obtain ⟨w47, hW⟩ : ∃ W, W = w46.alloc (.cells #[.int .i64 5, .int .i64 0, .string ⟨#[36, 110]⟩, .slice none 0 0, .slice none 0 0, .slice none 0 0, .int .i64 3, .int .i64 (1), .string ⟨#[]⟩, .slice none 0 0, .slice none 0 0, .slice none 0 0, .int .i64 3, .int .i64 (2), .string ⟨#[]⟩, .slice none 0 0, .slice none 0 0, .slice none 0 0] 26) := ⟨_, rfl⟩
 obtain ⟨P47, hP⟩ : ∃ P, P = w46.heap.size := ⟨_, rfl⟩
 have hb : Below w46.heap.size w46 w47 := by rw [hW]; exact (Below.refl _ _).alloc (Nat.le_refl _) _
 have hx : w47.heap[P47]? = some (.cells #[.int .i64 5, .int .i64 0, .string ⟨#[36, 110]⟩, .slice none 0 0, .slice none 0 0, .slice none 0 0, .int .i64 3, .int .i64 (1), .string ⟨#[]⟩, .slice none 0 0, .slice none 0 0, .slice none 0 0, .int .i64 3, .int .i64 (2), .string ⟨#[]⟩, .slice none 0 0, .slice none 0 0, .slice none 0 0] 26 (0, 0)) := by rw [hW, hP]; exact heap_alloc_new w46 _
 have HB47 : Hid (Below w.heap.size w w47) := HB.out.trans (hb.mono HB.out.size)
 have HA47 := Lib.hid (HA.out.keep hb)
 have HX47 := Lib.hid (HX.out.keep hb)
 clear HX
 have HX := HX47
 clear HX47
 have hit := three_its (Q := fun _ => True) hx trivial (textL_in w47 (fun _ => True) ⟨#[36, 110]⟩ (by decide) 0) (leaf_in w47 (fun _ => True) 3 (1) (by omega) (by omega) 0) (leaf_in w47 (fun _ => True) 3 (2) (by omega) (by omega) 0)
 have HW47 := Lib.hid hW
 have HP47 := Lib.hid hP
 clear HB HA hb hW hP hx
 have HB := HB47
 have HA := HA47
 clear HB47 HA47
 have CO := Lib.hid (op10_any ⟨#[36, 99, 111, 110, 100]⟩ (by decide) (fun _ => True) 1 _ 3 3 _ w47 rfl (by omega) ⟨by omega, by omega⟩ hit)
 clear hit
 go_wp2_with fail
 rw [← HW47.out, ← HP47.out]
 refine CO.out.mono ?_
 rintro e w48 ⟨g48, rfl, hv, hb⟩
 have HB48 : Hid (Below w.heap.size w w48) := HB.out.trans (hb.mono HB.out.size)
 have HA48 := Lib.hid ((HA.out.keep hb).add hv.any)
 have HX48 := Lib.hid (HX.out.keep hb)
 clear HX
 have HX := HX48
 clear HX48
 clear HB HA hb hv CO
 have HB := HB48
 have HA := HA48
 clear HB48 HA48
 have CC := Lib.hid (known_text ⟨#[36, 110]⟩ w48)
 go_wp2_with fail
 refine CC.out.mono ?_
 rintro e w49 ⟨rfl, hb⟩
 have HB49 : Hid (Below w.heap.size w w49) := HB.out.trans (hb.mono HB.out.size)
 have HA49 := Lib.hid (HA.out.keep hb)
 have HX49 := Lib.hid (HX.out.keep hb)
 clear HX
 have HX := HX49
 clear HX49
 clear HB HA hb CC
 have HB := HB49
 have HA := HA49
 clear HB49 HA49
 have CC := Lib.hid (num10_any (3) w49)
 go_wp2_with fail
 refine CC.out.mono ?_
 rintro e w50 ⟨rfl, hb⟩
 have HB50 : Hid (Below w.heap.size w w50) := HB.out.trans (hb.mono HB.out.size)
 have HA50 := Lib.hid (HA.out.keep hb)
 have HX50 := Lib.hid (HX.out.keep hb)
 clear HX
 have HX := HX50
 clear HX50
 clear HB HA hb CC
 have HB := HB50
 have HA := HA50
 clear HB50 HA50
 obtain ⟨w51, hW⟩ : ∃ W, W = w50.alloc (.cells #[.int .i64 5, .int .i64 0, .string ⟨#[36, 110]⟩, .slice none 0 0, .slice none 0 0, .slice none 0 0, .int .i64 3, .int .i64 (3), .string ⟨#[]⟩, .slice none 0 0, .slice none 0 0, .slice none 0 0] 26) := ⟨_, rfl⟩
 obtain ⟨P51, hP⟩ : ∃ P, P = w50.heap.size := ⟨_, rfl⟩
 have hb : Below w50.heap.size w50 w51 := by rw [hW]; exact (Below.refl _ _).alloc (Nat.le_refl _) _
 have hx : w51.heap[P51]? = some (.cells #[.int .i64 5, .int .i64 0, .string ⟨#[36, 110]⟩, .slice none 0 0, .slice none 0 0, .slice none 0 0, .int .i64 3, .int .i64 (3), .string ⟨#[]⟩, .slice none 0 0, .slice none 0 0, .slice none 0 0] 26 (0, 0)) := by rw [hW, hP]; exact heap_alloc_new w50 _
 have HB51 : Hid (Below w.heap.size w w51) := HB.out.trans (hb.mono HB.out.size)
 have HA51 := Lib.hid (HA.out.keep hb)
 have HX51 := Lib.hid (HX.out.keep hb)
 clear HX
 have HX := HX51
 clear HX51
 have hit := two_items (Q := fun _ => True) hx trivial (textL_in w51 (fun _ => True) ⟨#[36, 110]⟩ (by decide) 0) (leaf_in w51 (fun _ => True) 3 (3) (by omega) (by omega) 0)
 have HW51 := Lib.hid hW
 have HP51 := Lib.hid hP
 clear HB HA hb hW hP hx
 have HB := HB51
 have HA := HA51
 clear HB51 HA51
 have CO := Lib.hid (op10_any ⟨#[36, 105, 102, 78, 117, 108, 108]⟩ (by decide) (fun _ => True) 1 _ 2 2 _ w51 rfl (by omega) ⟨by omega, by omega⟩ hit)
 clear hit
 go_wp2_with fail
 rw [← HW51.out, ← HP51.out]
 refine CO.out.mono ?_
 rintro e w52 ⟨g52, rfl, hv, hb⟩
 have HB52 : Hid (Below w.heap.size w w52) := HB.out.trans (hb.mono HB.out.size)
 have HA52 := Lib.hid ((HA.out.keep hb).add hv.any)
 have HX52 := Lib.hid (HX.out.keep hb)
 clear HX
 have HX := HX52
 clear HX52
 clear HB HA hb hv CO
 have HB := HB52
 have HA := HA52
 clear HB52 HA52
 have CO := Lib.hid (op10_any ⟨#[36, 97, 100, 100]⟩ (by decide) (fun _ => True) 1 none 0 0 [] w52 rfl (by omega) ⟨by omega, by omega⟩ (.inl rfl : ItemsIn w52 (fun _ => True) (VIn w52 (fun _ => True) 1) none []))
 go_wp2_with fail
 refine CO.out.mono ?_
 rintro e w53 ⟨g53, rfl, hv, hb⟩
 have HB53 : Hid (Below w.heap.size w w53) := HB.out.trans (hb.mono HB.out.size)
 have HA53 := Lib.hid ((HA.out.keep hb).add hv.any)
 have HX53 := Lib.hid (HX.out.keep hb)
 clear HX
 have HX := HX53
 clear HX53
 clear HB HA hb hv CO
 have HB := HB53
 have HA := HA53
 clear HB53 HA53
 have CO := Lib.hid (op10_any ⟨#[36, 109, 117, 108, 116, 105, 112, 108, 121]⟩ (by decide) (fun _ => True) 1 none 0 0 [] w53 rfl (by omega) ⟨by omega, by omega⟩ (.inl rfl : ItemsIn w53 (fun _ => True) (VIn w53 (fun _ => True) 1) none []))
 go_wp2_with fail
 refine CO.out.mono ?_
 rintro e w54 ⟨g54, rfl, hv, hb⟩
 have HB54 : Hid (Below w.heap.size w w54) := HB.out.trans (hb.mono HB.out.size)
 have HA54 := Lib.hid ((HA.out.keep hb).add hv.any)
 have HX54 := Lib.hid (HX.out.keep hb)
 clear HX
 have HX := HX54
 clear HX54
 clear HB HA hb hv CO
 have HB := HB54
 have HA := HA54
 clear HB54 HA54
 obtain ⟨w55, hW⟩ : ∃ W, W = w54.alloc (.cells #[.int .i64 6, .int .i64 0, .string ⟨#[]⟩, .slice none 0 0, .slice (some ⟨g13, 0, none⟩) 1 1, .slice none 0 0, .int .i64 6, .int .i64 0, .string ⟨#[]⟩, .slice none 0 0, .slice (some ⟨g17, 0, none⟩) 1 1, .slice none 0 0, .int .i64 6, .int .i64 0, .string ⟨#[]⟩, .slice none 0 0, .slice (some ⟨g21, 0, none⟩) 1 1, .slice none 0 0, .int .i64 6, .int .i64 0, .string ⟨#[]⟩, .slice none 0 0, .slice (some ⟨g25, 0, none⟩) 1 1, .slice none 0 0, .int .i64 6, .int .i64 0, .string ⟨#[]⟩, .slice none 0 0, .slice (some ⟨g29, 0, none⟩) 1 1, .slice none 0 0, .int .i64 6, .int .i64 0, .string ⟨#[]⟩, .slice none 0 0, .slice (some ⟨g32, 0, none⟩) 1 1, .slice none 0 0, .int .i64 6, .int .i64 0, .string ⟨#[]⟩, .slice none 0 0, .slice (some ⟨g36, 0, none⟩) 1 1, .slice none 0 0, .int .i64 6, .int .i64 0, .string ⟨#[]⟩, .slice none 0 0, .slice (some ⟨g39, 0, none⟩) 1 1, .slice none 0 0, .int .i64 6, .int .i64 0, .string ⟨#[]⟩, .slice none 0 0, .slice (some ⟨g43, 0, none⟩) 1 1, .slice none 0 0, .int .i64 6, .int .i64 0, .string ⟨#[]⟩, .slice none 0 0, .slice (some ⟨g48, 0, none⟩) 1 1, .slice none 0 0, .int .i64 6, .int .i64 0, .string ⟨#[]⟩, .slice none 0 0, .slice (some ⟨g52, 0, none⟩) 1 1, .slice none 0 0, .int .i64 6, .int .i64 0, .string ⟨#[]⟩, .slice none 0 0, .slice (some ⟨g53, 0, none⟩) 1 1, .slice none 0 0, .int .i64 6, .int .i64 0, .string ⟨#[]⟩, .slice none 0 0, .slice (some ⟨g54, 0, none⟩) 1 1, .slice none 0 0] 26) := ⟨_, rfl⟩
 obtain ⟨P55, hP⟩ : ∃ P, P = w54.heap.size := ⟨_, rfl⟩
 have hb : Below w54.heap.size w54 w55 := by rw [hW]; exact (Below.refl _ _).alloc (Nat.le_refl _) _
 have hx : w55.heap[P55]? = some (.cells #[.int .i64 6, .int .i64 0, .string ⟨#[]⟩, .slice none 0 0, .slice (some ⟨g13, 0, none⟩) 1 1, .slice none 0 0, .int .i64 6, .int .i64 0, .string ⟨#[]⟩, .slice none 0 0, .slice (some ⟨g17, 0, none⟩) 1 1, .slice none 0 0, .int .i64 6, .int .i64 0, .string ⟨#[]⟩, .slice none 0 0, .slice (some ⟨g21, 0, none⟩) 1 1, .slice none 0 0, .int .i64 6, .int .i64 0, .string ⟨#[]⟩, .slice none 0 0, .slice (some ⟨g25, 0, none⟩) 1 1, .slice none 0 0, .int .i64 6, .int .i64 0, .string ⟨#[]⟩, .slice none 0 0, .slice (some ⟨g29, 0, none⟩) 1 1, .slice none 0 0, .int .i64 6, .int .i64 0, .string ⟨#[]⟩, .slice none 0 0, .slice (some ⟨g32, 0, none⟩) 1 1, .slice none 0 0, .int .i64 6, .int .i64 0, .string ⟨#[]⟩, .slice none 0 0, .slice (some ⟨g36, 0, none⟩) 1 1, .slice none 0 0, .int .i64 6, .int .i64 0, .string ⟨#[]⟩, .slice none 0 0, .slice (some ⟨g39, 0, none⟩) 1 1, .slice none 0 0, .int .i64 6, .int .i64 0, .string ⟨#[]⟩, .slice none 0 0, .slice (some ⟨g43, 0, none⟩) 1 1, .slice none 0 0, .int .i64 6, .int .i64 0, .string ⟨#[]⟩, .slice none 0 0, .slice (some ⟨g48, 0, none⟩) 1 1, .slice none 0 0, .int .i64 6, .int .i64 0, .string ⟨#[]⟩, .slice none 0 0, .slice (some ⟨g52, 0, none⟩) 1 1, .slice none 0 0, .int .i64 6, .int .i64 0, .string ⟨#[]⟩, .slice none 0 0, .slice (some ⟨g53, 0, none⟩) 1 1, .slice none 0 0, .int .i64 6, .int .i64 0, .string ⟨#[]⟩, .slice none 0 0, .slice (some ⟨g54, 0, none⟩) 1 1, .slice none 0 0] 26 (0, 0)) := by rw [hW, hP]; exact heap_alloc_new w54 _
 have HB55 : Hid (Below w.heap.size w w55) := HB.out.trans (hb.mono HB.out.size)
 have HA55 := Lib.hid (HA.out.keep hb)
 have HX55 := Lib.hid (HX.out.keep hb)
 clear HX
 have HX := HX55
 clear HX55
 have hit : ItemsIn w55 (fun _ => True) (VIn w55 (fun _ => True) 3) (some ⟨P55, 0, none⟩) knX := row_items hx (fun i hi => by
  have ha := HA.out.keep hb
  match i, hi with
  | 0, _ => exact ⟨_, _, _, _, _, _, rfl, rfl, rfl, rfl, rfl, rfl, ha ((opVl ⟨#[36, 97, 100, 100]⟩ [(.mk 5 0 ⟨#[36, 97]⟩ [] [] []), (.mk 5 0 ⟨#[36, 98]⟩ [] [] [])]), _) (by repeat (first | exact List.mem_cons_self | apply List.mem_cons_of_mem))⟩
  | 1, _ => exact ⟨_, _, _, _, _, _, rfl, rfl, rfl, rfl, rfl, rfl, ha ((opVl ⟨#[36, 109, 117, 108, 116, 105, 112, 108, 121]⟩ [(.mk 5 0 ⟨#[36, 97]⟩ [] [] []), (.mk 3 (2) ⟨#[]⟩ [] [] [])]), _) (by repeat (first | exact List.mem_cons_self | apply List.mem_cons_of_mem))⟩
  | 2, _ => exact ⟨_, _, _, _, _, _, rfl, rfl, rfl, rfl, rfl, rfl, ha ((opVl ⟨#[36, 115, 117, 98, 116, 114, 97, 99, 116]⟩ [(.mk 5 0 ⟨#[36, 97]⟩ [] [] []), (.mk 5 0 ⟨#[36, 98]⟩ [] [] [])]), _) (by repeat (first | exact List.mem_cons_self | apply List.mem_cons_of_mem))⟩
  | 3, _ => exact ⟨_, _, _, _, _, _, rfl, rfl, rfl, rfl, rfl, rfl, ha ((opVl ⟨#[36, 100, 105, 118, 105, 100, 101]⟩ [(.mk 5 0 ⟨#[36, 97]⟩ [] [] []), (.mk 5 0 ⟨#[36, 98]⟩ [] [] [])]), _) (by repeat (first | exact List.mem_cons_self | apply List.mem_cons_of_mem))⟩
  | 4, _ => exact ⟨_, _, _, _, _, _, rfl, rfl, rfl, rfl, rfl, rfl, ha ((opVl ⟨#[36, 109, 111, 100]⟩ [(.mk 5 0 ⟨#[36, 97]⟩ [] [] []), (.mk 5 0 ⟨#[36, 98]⟩ [] [] [])]), _) (by repeat (first | exact List.mem_cons_self | apply List.mem_cons_of_mem))⟩
  | 5, _ => exact ⟨_, _, _, _, _, _, rfl, rfl, rfl, rfl, rfl, rfl, ha ((opVl ⟨#[36, 97, 98, 115]⟩ [(.mk 5 0 ⟨#[36, 98]⟩ [] [] [])]), _) (by repeat (first | exact List.mem_cons_self | apply List.mem_cons_of_mem))⟩
  | 6, _ => exact ⟨_, _, _, _, _, _, rfl, rfl, rfl, rfl, rfl, rfl, ha ((opVl ⟨#[36, 99, 109, 112]⟩ [(.mk 5 0 ⟨#[36, 97]⟩ [] [] []), (.mk 5 0 ⟨#[36, 98]⟩ [] [] [])]), _) (by repeat (first | exact List.mem_cons_self | apply List.mem_cons_of_mem))⟩
  | 7, _ => exact ⟨_, _, _, _, _, _, rfl, rfl, rfl, rfl, rfl, rfl, ha ((opVl ⟨#[36, 115, 105, 122, 101]⟩ [(.mk 5 0 ⟨#[36, 108]⟩ [] [] [])]), _) (by repeat (first | exact List.mem_cons_self | apply List.mem_cons_of_mem))⟩
  | 8, _ => exact ⟨_, _, _, _, _, _, rfl, rfl, rfl, rfl, rfl, rfl, ha ((opVl ⟨#[36, 97, 114, 114, 97, 121, 69, 108, 101, 109, 65, 116]⟩ [(.mk 5 0 ⟨#[36, 108]⟩ [] [] []), (.mk 3 (-1) ⟨#[]⟩ [] [] [])]), _) (by repeat (first | exact List.mem_cons_self | apply List.mem_cons_of_mem))⟩
  | 9, _ => exact ⟨_, _, _, _, _, _, rfl, rfl, rfl, rfl, rfl, rfl, ha ((opVl ⟨#[36, 99, 111, 110, 100]⟩ [(.mk 5 0 ⟨#[36, 110]⟩ [] [] []), (.mk 3 (1) ⟨#[]⟩ [] [] []), (.mk 3 (2) ⟨#[]⟩ [] [] [])]), _) (by repeat (first | exact List.mem_cons_self | apply List.mem_cons_of_mem))⟩
  | 10, _ => exact ⟨_, _, _, _, _, _, rfl, rfl, rfl, rfl, rfl, rfl, ha ((opVl ⟨#[36, 105, 102, 78, 117, 108, 108]⟩ [(.mk 5 0 ⟨#[36, 110]⟩ [] [] []), (.mk 3 (3) ⟨#[]⟩ [] [] [])]), _) (by repeat (first | exact List.mem_cons_self | apply List.mem_cons_of_mem))⟩
  | 11, _ => exact ⟨_, _, _, _, _, _, rfl, rfl, rfl, rfl, rfl, rfl, ha ((opVl ⟨#[36, 97, 100, 100]⟩ []), _) (by repeat (first | exact List.mem_cons_self | apply List.mem_cons_of_mem))⟩
  | 12, _ => exact ⟨_, _, _, _, _, _, rfl, rfl, rfl, rfl, rfl, rfl, ha ((opVl ⟨#[36, 109, 117, 108, 116, 105, 112, 108, 121]⟩ []), _) (by repeat (first | exact List.mem_cons_self | apply List.mem_cons_of_mem))⟩
 )
 have HIT := Lib.hid hit
 have HW55 := Lib.hid hW
 have HP55 := Lib.hid hP
 clear HB HA hb hW hP hx
 have HB := HB55
 have HA := HA55
 clear HB55 HA55
 clear hit
 go_upto_region 6 with fail
 rw [← HW55.out, ← HP55.out]
 obtain ⟨w56, hW⟩ : ∃ W, W = w55.alloc (.cells #[.int .i64 (2), .int .i64 (12), .int .i64 (10), .int .i64 (-1), .int .i64 (2), .int .i64 (4), .int .i64 (1), .int .i64 (2), .int .i64 (2), .int .i64 (2), .int .i64 (3), .int .i64 (0), .int .i64 (1)] 2) := ⟨_, rfl⟩
 obtain ⟨P56, hP⟩ : ∃ P, P = w55.heap.size := ⟨_, rfl⟩
 have hb : Below w55.heap.size w55 w56 := by rw [hW]; exact (Below.refl _ _).alloc (Nat.le_refl _) _
 have hx : w56.heap[P56]? = some (.cells #[.int .i64 (2), .int .i64 (12), .int .i64 (10), .int .i64 (-1), .int .i64 (2), .int .i64 (4), .int .i64 (1), .int .i64 (2), .int .i64 (2), .int .i64 (2), .int .i64 (3), .int .i64 (0), .int .i64 (1)] 2 (0, 0)) := by rw [hW, hP]; exact heap_alloc_new w55 _
 have HB56 : Hid (Below w.heap.size w w56) := HB.out.trans (hb.mono HB.out.size)
 have HA56 := Lib.hid (HA.out.keep hb)
 have HX56 := Lib.hid (HX.out.keep hb)
 clear HX
 have HX := HX56
 clear HX56
 have HWT := Lib.hid hx
 have HW56 := Lib.hid hW
 have HP56 := Lib.hid hP
 clear HB HA hb hW hP hx
 have HB := HB56
 have HA := HA56
 clear HB56 HA56
 go_upto_region 7 with fail
 rw [← HW56.out, ← HP56.out]
 have HIT0 := Lib.hid (HIT.out.kept (Kept.of_below (show Below w55.heap.size w55 w56 from by rw [HW56.out]; exact (Below.refl _ _).alloc (Nat.le_refl _) _)) (fun _ h => h) (fun _ _ h => VIn.keep (show Below w55.heap.size w55 w56 from by rw [HW56.out]; exact (Below.refl _ _).alloc (Nat.le_refl _) _) h))
 have HCW : Hid (∀ k, k < 13 → w56.cell? ⟨P56, k, none⟩ = some (.int .i64 (knW.getD k 0))) := fun k hk => by
  have e : ∀ j c, (#[.int .i64 (2), .int .i64 (12), .int .i64 (10), .int .i64 (-1), .int .i64 (2), .int .i64 (4), .int .i64 (1), .int .i64 (2), .int .i64 (2), .int .i64 (2), .int .i64 (3), .int .i64 (0), .int .i64 (1)] : Array Value)[j]? = some c → w56.cell? ⟨P56, j, none⟩ = some c := fun j c hc => (cell_of_row _ _ j _ _ _ HWT.out).trans hc
  match k, hk with
  | 0, _ => exact e _ _ rfl
  | 1, _ => exact e _ _ rfl
  | 2, _ => exact e _ _ rfl
  | 3, _ => exact e _ _ rfl
  | 4, _ => exact e _ _ rfl
  | 5, _ => exact e _ _ rfl
  | 6, _ => exact e _ _ rfl
  | 7, _ => exact e _ _ rfl
  | 8, _ => exact e _ _ rfl
  | 9, _ => exact e _ _ rfl
  | 10, _ => exact e _ _ rfl
  | 11, _ => exact e _ _ rfl
  | 12, _ => exact e _ _ rfl
 have HVD : Hid (VIn w56 (fun _ => True) 3 knD (.agg #[.int .i64 6, .int .i64 0, .string ⟨#[]⟩, .slice none 0 0, .slice (some ⟨P8, 0, none⟩) 5 5, .slice none 0 0])) := HA.out (knD, _) (by repeat (first | exact List.mem_cons_self | apply List.mem_cons_of_mem))
 clear HA HIT HWT
 go_wp2_with fail
 go_loopw [5] (fun i wr => ∃ (k : Nat), i = .int .i64 k ∧ k ≤ 13 ∧ Hid (Below w56.heap.size w56 wr)) (fun i _ => 13 - (intOf i).toNat)
 case atStart => exact ⟨0, rfl, Nat.zero_le _, Below.refl _ _⟩
 case round =>
  obtain ⟨k, rfl, hk, HBr⟩ := hrel
  by_cases hlt : k < 13
  ·skip
   have hkl : k < knX.length := hlt
   obtain ⟨g0, o0, e0, -, hall⟩ := HIT0.out.resolve_left (fun e => by rw [e] at hkl; cases hkl)
   injection e0 with e0
   injection e0 with e1 e2
   subst e1
   subst e2
   obtain ⟨v1, hsix, hV⟩ := hall k hkl
   obtain ⟨ik, im, is_, b0, f0, l0, bb0, bc0, fb0, fc0, lb0, lc0, rfl⟩ := hV.shape
   obtain ⟨s0, s1, s2, s3, s4, s5⟩ := (hsix.keep HBr.out).cells
   have HBW : Hid (Below w.heap.size w wr) := HB.out.trans (HBr.out.mono HB.out.size)
   have hxe : knX[k] = knX.getD k Bson.zero := by rw [List.getD_eq_getElem?_getD, List.getElem?_eq_getElem hkl]; rfl
   rw [hxe] at hV
   simp only [Nat.zero_add] at s0 s1 s2 s3 s4 s5
   have CP := Lib.hid (parse_ok 16 9 3 (by omega) (by omega) _ _ _ wr (HG.out.keep HBW.out) (VIn.keep HBr.out hV) (knX_short k hlt) (knX_code k hlt))
   have hkn : (k : Int) < 13 := by omega
   have hkn0 : ¬ (k : Int) < 0 := by omega
   clear hall hsix hV hxe hkl
   go_wp2_with fail
   refine CP.out.mono ?_
   rintro e w13 ⟨ge, rfl, hx13, hb13⟩
   have HB13 : Hid (Below w56.heap.size w56 w13) := HBr.out.trans (hb13.mono HBr.out.size)
   have CE0 := eval_any 16 9 3 2 _ ge (knX.getD k Bson.zero) knD _ (fun _ => True) w13 hx13 (VIn.keep HB13.out HVD.out)
   rw [knX_eval k hlt] at CE0
   have CE := Lib.hid CE0
   obtain ⟨x0, x1, x2, x3, x4, x5⟩ := (HX.out.keep HB13.out).cells
   clear hx13 hb13 CE0 CP s0 s1 s2 s3 s4 s5
   go_wp2_with fail
   refine CE.out.mono ?_
   rintro e w14 ⟨v14, rfl, hv14, hb14⟩
   obtain ⟨rk, rn, rs, ra, rf, rl, rab, rac, rfb, rfc, rlb, rlc, rfl⟩ := hv14.shape
   obtain ⟨rfl, hrn, -⟩ := VIn.leaf hv14
   obtain ⟨W15, hW15⟩ : ∃ W, W = w14.alloc (.cells #[.int .i64 3, .int .i64 rn, .string rs, .slice ra rab rac, .slice rf rfb rfc, .slice rl rlb rlc] 26) := ⟨_, rfl⟩
   obtain ⟨P15, hP15⟩ : ∃ P, P = w14.heap.size := ⟨_, rfl⟩
   have hb15 : Below w14.heap.size w14 W15 := by rw [hW15]; exact (Below.refl _ _).alloc (Nat.le_refl _) _
   have hx15 : IsBox W15 P15 (.int .i64 3) (.int .i64 rn) (.string rs) (.slice ra rab rac) (.slice rf rfb rfc) (.slice rl rlb rlc) := by rw [hW15, hP15]; exact IsBox.new w14 (.int .i64 3) (.int .i64 rn) (.string rs) (.slice ra rab rac) (.slice rf rfb rfc) (.slice rl rlb rlc)
   have HB15 : Hid (Below w56.heap.size w56 W15) := HB13.out.trans ((hb14.trans (hb15.mono hb14.size)).mono HB13.out.size)
   have HX15 := Lib.hid hx15
   have HW15 := Lib.hid hW15
   have HP15 := Lib.hid hP15
   have cw0 := cell_keep HB15.out (HCW.out k hlt)
   rw [← hrn] at cw0
   have HCWR := Lib.hid cw0
   clear cw0 hrn hv14 hb14 hW15 hP15 hb15 hx15 CE x0 x1 x2 x3 x4 x5 HB13
   go_upto_region 14 with fail
   rw [← HW15.out, ← HP15.out]
   have cw := HCWR.out
   have hne : (rn != rn) = false := by simp
   obtain ⟨x0, x1, x2, x3, x4, x5⟩ := HX15.out.cells
   go_quiet (fail)
   have HBQ : Hid (Below w56.heap.size w56 (W15.drewN nq)) := Go.below_drewN HB15.out nq
   generalize W15.drewN nq = w16 at *
   clear cw x0 x1 x2 x3 x4 x5
   go_wp2_with fail
   go_roundw
   case rel => exact ⟨k + 1, by go_num, by omega, HBQ.out⟩
   case measure => simp [intOf]; omega
  ·skip
   obtain rfl : k = 13 := by omega
   have HBW : Hid (Below w.heap.size w wr) := HB.out.trans (HBr.out.mono HB.out.size)
   clear HB
   have HB := HBW
   clear HBW
   have HA : Hid (AllIn wr []) := fun p hp => (by cases hp)
   clear HX HVD HCW HIT0
   have CC := Lib.hid (num10_any (1) wr)
   go_wp2_with fail
   refine CC.out.mono ?_
   rintro e w201 ⟨rfl, hb⟩
   have HB201 : Hid (Below w.heap.size w w201) := HB.out.trans (hb.mono HB.out.size)
   have HA201 := Lib.hid (HA.out.keep hb)
   clear HB HA hb CC
   have HB := HB201
   have HA := HA201
   clear HB201 HA201
   obtain ⟨w202, hW⟩ : ∃ W, W = w201.alloc (.cells #[.int .i64 3, .int .i64 (1), .string ⟨#[]⟩, .slice none 0 0, .slice none 0 0, .slice none 0 0] 26) := ⟨_, rfl⟩
   obtain ⟨P202, hP⟩ : ∃ P, P = w201.heap.size := ⟨_, rfl⟩
   have hb : Below w201.heap.size w201 w202 := by rw [hW]; exact (Below.refl _ _).alloc (Nat.le_refl _) _
   have hx : w202.heap[P202]? = some (.cells #[.int .i64 3, .int .i64 (1), .string ⟨#[]⟩, .slice none 0 0, .slice none 0 0, .slice none 0 0] 26 (0, 0)) := by rw [hW, hP]; exact heap_alloc_new w201 _
   have HB202 : Hid (Below w.heap.size w w202) := HB.out.trans (hb.mono HB.out.size)
   have HA202 := Lib.hid (HA.out.keep hb)
   have hit := one_items (Q := fun _ => True) hx trivial (leaf_in w202 (fun _ => True) 3 (1) (by omega) (by omega) 0)
   have HW202 := Lib.hid hW
   have HP202 := Lib.hid hP
   clear HB HA hb hW hP hx
   have HB := HB202
   have HA := HA202
   clear HB202 HA202
   have CO := Lib.hid (op10_any ⟨#[36, 110, 111, 112, 101]⟩ (by decide) (fun _ => True) 1 _ 1 1 _ w202 rfl (by omega) ⟨by omega, by omega⟩ hit)
   clear hit
   go_wp2_with fail
   rw [← HW202.out, ← HP202.out]
   refine CO.out.mono ?_
   rintro e w203 ⟨g203, rfl, hv, hb⟩
   have HB203 : Hid (Below w.heap.size w w203) := HB.out.trans (hb.mono HB.out.size)
   have HA203 := Lib.hid ((HA.out.keep hb).add hv.any)
   clear HB HA hb hv CO
   have HB := HB203
   have HA := HA203
   clear HB203 HA203
   have CC := Lib.hid (num10_any (1) w203)
   go_wp2_with fail
   refine CC.out.mono ?_
   rintro e w204 ⟨rfl, hb⟩
   have HB204 : Hid (Below w.heap.size w w204) := HB.out.trans (hb.mono HB.out.size)
   have HA204 := Lib.hid (HA.out.keep hb)
   clear HB HA hb CC
   have HB := HB204
   have HA := HA204
   clear HB204 HA204
   obtain ⟨w205, hW⟩ : ∃ W, W = w204.alloc (.cells #[.int .i64 3, .int .i64 (1), .string ⟨#[]⟩, .slice none 0 0, .slice none 0 0, .slice none 0 0] 26) := ⟨_, rfl⟩
   obtain ⟨P205, hP⟩ : ∃ P, P = w204.heap.size := ⟨_, rfl⟩
   have hb : Below w204.heap.size w204 w205 := by rw [hW]; exact (Below.refl _ _).alloc (Nat.le_refl _) _
   have hx : w205.heap[P205]? = some (.cells #[.int .i64 3, .int .i64 (1), .string ⟨#[]⟩, .slice none 0 0, .slice none 0 0, .slice none 0 0] 26 (0, 0)) := by rw [hW, hP]; exact heap_alloc_new w204 _
   have HB205 : Hid (Below w.heap.size w w205) := HB.out.trans (hb.mono HB.out.size)
   have HA205 := Lib.hid (HA.out.keep hb)
   have hit := one_items (Q := fun _ => True) hx trivial (leaf_in w205 (fun _ => True) 3 (1) (by omega) (by omega) 0)
   have HW205 := Lib.hid hW
   have HP205 := Lib.hid hP
   clear HB HA hb hW hP hx
   have HB := HB205
   have HA := HA205
   clear HB205 HA205
   have CO := Lib.hid (op10_any ⟨#[36, 115, 117, 98, 116, 114, 97, 99, 116]⟩ (by decide) (fun _ => True) 1 _ 1 1 _ w205 rfl (by omega) ⟨by omega, by omega⟩ hit)
   clear hit
   go_wp2_with fail
   rw [← HW205.out, ← HP205.out]
   refine CO.out.mono ?_
   rintro e w206 ⟨g206, rfl, hv, hb⟩
   have HB206 : Hid (Below w.heap.size w w206) := HB.out.trans (hb.mono HB.out.size)
   have HA206 := Lib.hid ((HA.out.keep hb).add hv.any)
   clear HB HA hb hv CO
   have HB := HB206
   have HA := HA206
   clear HB206 HA206
   have CC := Lib.hid (num10_any (1) w206)
   go_wp2_with fail
   refine CC.out.mono ?_
   rintro e w207 ⟨rfl, hb⟩
   have HB207 : Hid (Below w.heap.size w w207) := HB.out.trans (hb.mono HB.out.size)
   have HA207 := Lib.hid (HA.out.keep hb)
   clear HB HA hb CC
   have HB := HB207
   have HA := HA207
   clear HB207 HA207
   have CC := Lib.hid (num10_any (2) w207)
   go_wp2_with fail
   refine CC.out.mono ?_
   rintro e w208 ⟨rfl, hb⟩
   have HB208 : Hid (Below w.heap.size w w208) := HB.out.trans (hb.mono HB.out.size)
   have HA208 := Lib.hid (HA.out.keep hb)
   clear HB HA hb CC
   have HB := HB208
   have HA := HA208
   clear HB208 HA208
   obtain ⟨w209, hW⟩ : ∃ W, W = w208.alloc (.cells #[.int .i64 3, .int .i64 (1), .string ⟨#[]⟩, .slice none 0 0, .slice none 0 0, .slice none 0 0, .int .i64 3, .int .i64 (2), .string ⟨#[]⟩, .slice none 0 0, .slice none 0 0, .slice none 0 0] 26) := ⟨_, rfl⟩
   obtain ⟨P209, hP⟩ : ∃ P, P = w208.heap.size := ⟨_, rfl⟩
   have hb : Below w208.heap.size w208 w209 := by rw [hW]; exact (Below.refl _ _).alloc (Nat.le_refl _) _
   have hx : w209.heap[P209]? = some (.cells #[.int .i64 3, .int .i64 (1), .string ⟨#[]⟩, .slice none 0 0, .slice none 0 0, .slice none 0 0, .int .i64 3, .int .i64 (2), .string ⟨#[]⟩, .slice none 0 0, .slice none 0 0, .slice none 0 0] 26 (0, 0)) := by rw [hW, hP]; exact heap_alloc_new w208 _
   have HB209 : Hid (Below w.heap.size w w209) := HB.out.trans (hb.mono HB.out.size)
   have HA209 := Lib.hid (HA.out.keep hb)
   have hit := two_items (Q := fun _ => True) hx trivial (leaf_in w209 (fun _ => True) 3 (1) (by omega) (by omega) 0) (leaf_in w209 (fun _ => True) 3 (2) (by omega) (by omega) 0)
   have HW209 := Lib.hid hW
   have HP209 := Lib.hid hP
   clear HB HA hb hW hP hx
   have HB := HB209
   have HA := HA209
   clear HB209 HA209
   have CO := Lib.hid (op10_any ⟨#[36, 99, 111, 110, 100]⟩ (by decide) (fun _ => True) 1 _ 2 2 _ w209 rfl (by omega) ⟨by omega, by omega⟩ hit)
   clear hit
   go_wp2_with fail
   rw [← HW209.out, ← HP209.out]
   refine CO.out.mono ?_
   rintro e w210 ⟨g210, rfl, hv, hb⟩
   have HB210 : Hid (Below w.heap.size w w210) := HB.out.trans (hb.mono HB.out.size)
   have HA210 := Lib.hid ((HA.out.keep hb).add hv.any)
   clear HB HA hb hv CO
   have HB := HB210
   have HA := HA210
   clear HB210 HA210
   have CC := Lib.hid (known_text ⟨#[36]⟩ w210)
   go_wp2_with fail
   refine CC.out.mono ?_
   rintro e w211 ⟨rfl, hb⟩
   have HB211 : Hid (Below w.heap.size w w211) := HB.out.trans (hb.mono HB.out.size)
   have HA211 := Lib.hid (HA.out.keep hb)
   clear HB HA hb CC
   have HB := HB211
   have HA := HA211
   clear HB211 HA211
   have CC := Lib.hid (known_text ⟨#[36, 97, 46, 46, 98]⟩ w211)
   go_wp2_with fail
   refine CC.out.mono ?_
   rintro e w212 ⟨rfl, hb⟩
   have HB212 : Hid (Below w.heap.size w w212) := HB.out.trans (hb.mono HB.out.size)
   have HA212 := Lib.hid (HA.out.keep hb)
   clear HB HA hb CC
   have HB := HB212
   have HA := HA212
   clear HB212 HA212
   have CC := Lib.hid (known_text ⟨#[36, 36, 97]⟩ w212)
   go_wp2_with fail
   refine CC.out.mono ?_
   rintro e w213 ⟨rfl, hb⟩
   have HB213 : Hid (Below w.heap.size w w213) := HB.out.trans (hb.mono HB.out.size)
   have HA213 := Lib.hid (HA.out.keep hb)
   clear HB HA hb CC
   have HB := HB213
   have HA := HA213
   clear HB213 HA213
   have CC := Lib.hid (num10_any (1) w213)
   go_wp2_with fail
   refine CC.out.mono ?_
   rintro e w214 ⟨rfl, hb⟩
   have HB214 : Hid (Below w.heap.size w w214) := HB.out.trans (hb.mono HB.out.size)
   have HA214 := Lib.hid (HA.out.keep hb)
   clear HB HA hb CC
   have HB := HB214
   have HA := HA214
   clear HB214 HA214
   have CC := Lib.hid (num10_any (1) w214)
   go_wp2_with fail
   refine CC.out.mono ?_
   rintro e w215 ⟨rfl, hb⟩
   have HB215 : Hid (Below w.heap.size w w215) := HB.out.trans (hb.mono HB.out.size)
   have HA215 := Lib.hid (HA.out.keep hb)
   clear HB HA hb CC
   have HB := HB215
   have HA := HA215
   clear HB215 HA215
   obtain ⟨w216, hW⟩ : ∃ W, W = w215.alloc (.cells #[.string ⟨#[36, 97, 100, 100]⟩, .int .i64 3, .int .i64 (1), .string ⟨#[]⟩, .slice none 0 0, .slice none 0 0, .slice none 0 0, .string ⟨#[120]⟩, .int .i64 3, .int .i64 (1), .string ⟨#[]⟩, .slice none 0 0, .slice none 0 0, .slice none 0 0] 40) := ⟨_, rfl⟩
   obtain ⟨P216, hP⟩ : ∃ P, P = w215.heap.size := ⟨_, rfl⟩
   have hb : Below w215.heap.size w215 w216 := by rw [hW]; exact (Below.refl _ _).alloc (Nat.le_refl _) _
   have hx : w216.heap[P216]? = some (.cells #[.string ⟨#[36, 97, 100, 100]⟩, .int .i64 3, .int .i64 (1), .string ⟨#[]⟩, .slice none 0 0, .slice none 0 0, .slice none 0 0, .string ⟨#[120]⟩, .int .i64 3, .int .i64 (1), .string ⟨#[]⟩, .slice none 0 0, .slice none 0 0, .slice none 0 0] 40 (0, 0)) := by rw [hW, hP]; exact heap_alloc_new w215 _
   have HB216 : Hid (Below w.heap.size w w216) := HB.out.trans (hb.mono HB.out.size)
   have HA216 := Lib.hid (HA.out.keep hb)
   have hd2 := two_fields (Q := fun _ => True) (h := 1) hx trivial (by decide) (by decide) (leaf_in w216 (fun _ => True) 3 (1) (by omega) (by omega) 0) (leaf_in w216 (fun _ => True) 3 (1) (by omega) (by omega) 0)
   have HW216 := Lib.hid hW
   have HP216 := Lib.hid hP
   clear HB HA hb hW hP hx
   have HB := HB216
   have HA := HA216
   clear HB216 HA216
   obtain ⟨w217, hW⟩ : ∃ W, W = w216.alloc (.cells #[.int .i64 6, .int .i64 0, .string ⟨#[]⟩, .slice none 0 0, .slice (some ⟨g203, 0, none⟩) 1 1, .slice none 0 0, .int .i64 6, .int .i64 0, .string ⟨#[]⟩, .slice none 0 0, .slice (some ⟨g206, 0, none⟩) 1 1, .slice none 0 0, .int .i64 6, .int .i64 0, .string ⟨#[]⟩, .slice none 0 0, .slice (some ⟨g210, 0, none⟩) 1 1, .slice none 0 0, .int .i64 5, .int .i64 0, .string ⟨#[36]⟩, .slice none 0 0, .slice none 0 0, .slice none 0 0, .int .i64 5, .int .i64 0, .string ⟨#[36, 97, 46, 46, 98]⟩, .slice none 0 0, .slice none 0 0, .slice none 0 0, .int .i64 5, .int .i64 0, .string ⟨#[36, 36, 97]⟩, .slice none 0 0, .slice none 0 0, .slice none 0 0, .int .i64 6, .int .i64 0, .string ⟨#[]⟩, .slice none 0 0, .slice (some ⟨P216, 0, none⟩) 2 2, .slice none 0 0] 26) := ⟨_, rfl⟩
   obtain ⟨P217, hP⟩ : ∃ P, P = w216.heap.size := ⟨_, rfl⟩
   have hb : Below w216.heap.size w216 w217 := by rw [hW]; exact (Below.refl _ _).alloc (Nat.le_refl _) _
   have hx : w217.heap[P217]? = some (.cells #[.int .i64 6, .int .i64 0, .string ⟨#[]⟩, .slice none 0 0, .slice (some ⟨g203, 0, none⟩) 1 1, .slice none 0 0, .int .i64 6, .int .i64 0, .string ⟨#[]⟩, .slice none 0 0, .slice (some ⟨g206, 0, none⟩) 1 1, .slice none 0 0, .int .i64 6, .int .i64 0, .string ⟨#[]⟩, .slice none 0 0, .slice (some ⟨g210, 0, none⟩) 1 1, .slice none 0 0, .int .i64 5, .int .i64 0, .string ⟨#[36]⟩, .slice none 0 0, .slice none 0 0, .slice none 0 0, .int .i64 5, .int .i64 0, .string ⟨#[36, 97, 46, 46, 98]⟩, .slice none 0 0, .slice none 0 0, .slice none 0 0, .int .i64 5, .int .i64 0, .string ⟨#[36, 36, 97]⟩, .slice none 0 0, .slice none 0 0, .slice none 0 0, .int .i64 6, .int .i64 0, .string ⟨#[]⟩, .slice none 0 0, .slice (some ⟨P216, 0, none⟩) 2 2, .slice none 0 0] 26 (0, 0)) := by rw [hW, hP]; exact heap_alloc_new w216 _
   have HB217 : Hid (Below w.heap.size w w217) := HB.out.trans (hb.mono HB.out.size)
   have HA217 := Lib.hid (HA.out.keep hb)
   have hit : ItemsIn w217 (fun _ => True) (VIn w217 (fun _ => True) 3) (some ⟨P217, 0, none⟩) knB := row_items hx (fun i hi => by
    have ha := HA.out.keep hb
    match i, hi with
    | 0, _ => exact ⟨_, _, _, _, _, _, rfl, rfl, rfl, rfl, rfl, rfl, ha ((opVl ⟨#[36, 110, 111, 112, 101]⟩ [(.mk 3 (1) ⟨#[]⟩ [] [] [])]), _) (by repeat (first | exact List.mem_cons_self | apply List.mem_cons_of_mem))⟩
    | 1, _ => exact ⟨_, _, _, _, _, _, rfl, rfl, rfl, rfl, rfl, rfl, ha ((opVl ⟨#[36, 115, 117, 98, 116, 114, 97, 99, 116]⟩ [(.mk 3 (1) ⟨#[]⟩ [] [] [])]), _) (by repeat (first | exact List.mem_cons_self | apply List.mem_cons_of_mem))⟩
    | 2, _ => exact ⟨_, _, _, _, _, _, rfl, rfl, rfl, rfl, rfl, rfl, ha ((opVl ⟨#[36, 99, 111, 110, 100]⟩ [(.mk 3 (1) ⟨#[]⟩ [] [] []), (.mk 3 (2) ⟨#[]⟩ [] [] [])]), _) (by repeat (first | exact List.mem_cons_self | apply List.mem_cons_of_mem))⟩
    | 3, _ => exact ⟨_, _, _, _, _, _, rfl, rfl, rfl, rfl, rfl, rfl, textL_in w217 (fun _ => True) ⟨#[36]⟩ (by decide) 2⟩
    | 4, _ => exact ⟨_, _, _, _, _, _, rfl, rfl, rfl, rfl, rfl, rfl, textL_in w217 (fun _ => True) ⟨#[36, 97, 46, 46, 98]⟩ (by decide) 2⟩
    | 5, _ => exact ⟨_, _, _, _, _, _, rfl, rfl, rfl, rfl, rfl, rfl, textL_in w217 (fun _ => True) ⟨#[36, 36, 97]⟩ (by decide) 2⟩
    | 6, _ => exact ⟨_, _, _, _, _, _, rfl, rfl, rfl, rfl, rfl, rfl, (VIn.keep hb hd2).up (by omega)⟩
   )
   have HIT := Lib.hid hit
   have HW217 := Lib.hid hW
   have HP217 := Lib.hid hP
   clear HB HA hb hW hP hx
   have HB := HB217
   have HA := HA217
   clear HB217 HA217
   have HQ217 : Hid (P217 = P216 + 1) := by show _ = _; rw [HP217.out, HW216.out, HP216.out]; simp
   clear hit hd2
   go_upto_region 17 with fail
   rw [← HW216.out, ← HP216.out, ← HQ217.out, ← HW217.out]
   obtain ⟨w218, hW⟩ : ∃ W, W = w217.alloc (.cells #[.int .i64 (13), .int .i64 (13), .int .i64 (13), .int .i64 (15), .int .i64 (15), .int .i64 (15), .int .i64 (13)] 30) := ⟨_, rfl⟩
   obtain ⟨P218, hP⟩ : ∃ P, P = w217.heap.size := ⟨_, rfl⟩
   have hb : Below w217.heap.size w217 w218 := by rw [hW]; exact (Below.refl _ _).alloc (Nat.le_refl _) _
   have hx : w218.heap[P218]? = some (.cells #[.int .i64 (13), .int .i64 (13), .int .i64 (13), .int .i64 (15), .int .i64 (15), .int .i64 (15), .int .i64 (13)] 30 (0, 0)) := by rw [hW, hP]; exact heap_alloc_new w217 _
   have HB218 : Hid (Below w.heap.size w w218) := HB.out.trans (hb.mono HB.out.size)
   have HA218 := Lib.hid (HA.out.keep hb)
   have HWT := Lib.hid hx
   have HW218 := Lib.hid hW
   have HP218 := Lib.hid hP
   clear HB HA hb hW hP hx
   have HB := HB218
   have HA := HA218
   clear HB218 HA218
   go_upto_region 18 with fail
   rw [← HW218.out, ← HP218.out]
   have HIT0 := Lib.hid (HIT.out.kept (Kept.of_below (show Below w217.heap.size w217 w218 from by rw [HW218.out]; exact (Below.refl _ _).alloc (Nat.le_refl _) _)) (fun _ h => h) (fun _ _ h => VIn.keep (show Below w217.heap.size w217 w218 from by rw [HW218.out]; exact (Below.refl _ _).alloc (Nat.le_refl _) _) h))
   have HCC : Hid (∀ k, k < 7 → w218.cell? ⟨P218, k, none⟩ = some (.int .i64 (knC.getD k 0))) := fun k hk => by
    have e : ∀ j c, (#[.int .i64 (13), .int .i64 (13), .int .i64 (13), .int .i64 (15), .int .i64 (15), .int .i64 (15), .int .i64 (13)] : Array Value)[j]? = some c → w218.cell? ⟨P218, j, none⟩ = some c := fun j c hc => (cell_of_row _ _ j _ _ _ HWT.out).trans hc
    match k, hk with
    | 0, _ => exact e _ _ rfl
    | 1, _ => exact e _ _ rfl
    | 2, _ => exact e _ _ rfl
    | 3, _ => exact e _ _ rfl
    | 4, _ => exact e _ _ rfl
    | 5, _ => exact e _ _ rfl
    | 6, _ => exact e _ _ rfl
   clear HA HIT HWT
   go_wp2_with fail
   clear HBr hk
   go_loopw [12] (fun i wr => ∃ (k : Nat), i = .int .i64 k ∧ k ≤ 7 ∧ Hid (Below w218.heap.size w218 wr)) (fun i _ => 7 - (intOf i).toNat)
   case atStart => exact ⟨0, rfl, Nat.zero_le _, Below.refl _ _⟩
   case round =>
    obtain ⟨k, rfl, hk, HBr⟩ := hrel
    by_cases hlt : k < 7
    ·skip
     have hkl : k < knB.length := hlt
     obtain ⟨g0, o0, e0, -, hall⟩ := HIT0.out.resolve_left (fun e => by rw [e] at hkl; cases hkl)
     injection e0 with e0
     injection e0 with e1 e2
     subst e1
     subst e2
     obtain ⟨v1, hsix, hV⟩ := hall k hkl
     obtain ⟨ik, im, is_, b0, f0, l0, bb0, bc0, fb0, fc0, lb0, lc0, rfl⟩ := hV.shape
     obtain ⟨s0, s1, s2, s3, s4, s5⟩ := (hsix.keep HBr.out).cells
     have HBW : Hid (Below w.heap.size w wr) := HB.out.trans (HBr.out.mono HB.out.size)
     have hxe : knB[k] = knB.getD k Bson.zero := by rw [List.getD_eq_getElem?_getD, List.getElem?_eq_getElem hkl]; rfl
     rw [hxe] at hV
     simp only [Nat.zero_add] at s0 s1 s2 s3 s4 s5
     obtain ⟨hc1, hc2⟩ := knB_code k hlt
     have CP0 := parse_bad 16 9 3 (by omega) (by omega) _ _ _ wr (HG.out.keep HBW.out) (VIn.keep HBr.out hV) (knB_short k hlt) (by rw [hc1]; exact hc2)
     rw [hc1] at CP0
     have CP := Lib.hid CP0
     obtain ⟨cc, hcc⟩ : ∃ z, z = knC.getD k 0 := ⟨_, rfl⟩
     have cw0 := HCC.out k hlt
     rw [← hcc] at cw0 CP
     have HCWR := Lib.hid cw0
     have hne : (cc != cc) = false := by simp
     have hkn : (k : Int) < 7 := by omega
     have hkn0 : ¬ (k : Int) < 0 := by omega
     clear hall hsix hV hxe hkl hc1 hc2 CP0 hcc cw0
     go_wp2_with fail
     refine CP.out.mono ?_
     rintro e w13 ⟨rfl, hb13⟩
     have HB13 : Hid (Below w218.heap.size w218 w13) := HBr.out.trans (hb13.mono HBr.out.size)
     have cw := cell_keep HB13.out HCWR.out
     clear hb13 CP s0 s1 s2 s3 s4 s5
     go_wp2_with fail
     go_roundw
     case rel => exact ⟨k + 1, by go_num, by omega, HB13.out⟩
     case measure => simp [intOf]; omega
    ·skip
     obtain rfl : k = 7 := by omega
     have HEND : Hid (Below w.heap.size w wr) := HB.out.trans (HBr.out.mono HB.out.size)
     go_wp2_with fail
     refine bodyPost_ret (v := .bool true) ?_ rfl ?_
     ·simp [results, Tryz.results6, go_sem, *]
     ·exact ⟨rfl, HEND.out⟩
end Go.Proofs.YtiajjgehnmkokaaGreatDoor
end
