/- BsonDecode, BsonAwake. -/
import Derived.Test.YtdihelpimpkfoaaDoorMg36
import Derived.Test.YtdihelpimpkfoaaDoorMg31
import Derived.Test.YtdihelpimpkfoaaDoorMg9
import Derived.Test.YtdihelpimpkfoaaDoorMg5
set_option maxRecDepth 100000
section
namespace Go.Proofs.YtdihelpimpkfoaaDoor
open Go.RowKit
open Seal
open Bson (Val)
set_option maxRecDepth 100000 in
theorem fields_deep (list : Bool) (w : World) (gr : Nat) : Calls Tryd.prog 26 #[.pointer (some ⟨gr, 0, none⟩), .int .i64 33, .bool list] w fun e w' => e = .returned (.tuple #[.slice none 0 0, .int .i64 7]) ∧ w = w' := by
  go_enter Tryd.func26, Tryd.ntmps26
  go_wp2_with fail
  go_ret2
  exact ⟨rfl, rfl⟩
set_option maxRecDepth 100000 in
set_option maxHeartbeats 2000000 in
theorem rdoc_deep (w : World) (gr : Nat) (ba : Option Addr) (bc : Nat) (b : List Nat) (k : Nat) (hR : Rdr w gr ba bc b k) : Reads_ zeroV (ValV w.heap.size) 15 #[.pointer (some ⟨gr, 0, none⟩), .int .i64 33] w gr ba bc b (Bson.doc 0 false none (b.drop k)) := by
  have hlt := hR.lt
  clear hR
  refine Reads_.of ?_
  show Calls _ _ _ _ (ErrPost zeroV w gr 7)
  have hT := Lib.hid (fields_deep false (w.alloc (.cells zeroCs 28 (0, 0))) gr)
  go_enter Tryd.func15, Tryd.ntmps15
  go_wp2_with fail
  refine hT.out.mono ?_
  rintro e' w' ⟨rfl, hw'⟩
  have HF : Hid (Fresh w w') := by rw [← hw']; exact Fresh.new w
  have HG : Hid (w.grownBy w' (some gr)) := by rw [← hw']; exact grown_box _
  clear hw'
  obtain ⟨d0, f0⟩ := HF.out.cells 0 _ rfl
  obtain ⟨d1, f1⟩ := HF.out.cells 1 _ rfl
  obtain ⟨d2, f2⟩ := HF.out.cells 2 _ rfl
  obtain ⟨d3, f3⟩ := HF.out.cells 3 _ rfl
  obtain ⟨d4, f4⟩ := HF.out.cells 4 _ rfl
  obtain ⟨d5, f5⟩ := HF.out.cells 5 _ rfl
  go_wp2_with fail
  exact bodyPost_ret (v := .tuple #[zeroV, .int .i64 7]) (by simp [results, Tryd.results15, go_sem, zeroV, *]) rfl (fin_err (n := 7) HG.out _ _ _ _ _ _ rfl)
set_option maxRecDepth 100000 in
set_option maxHeartbeats 2000000 in
theorem rlist_deep (w : World) (gr : Nat) (ba : Option Addr) (bc : Nat) (b : List Nat) (k : Nat) (hR : Rdr w gr ba bc b k) : Reads_ zeroV (ValV w.heap.size) 50 #[.pointer (some ⟨gr, 0, none⟩), .int .i64 33] w gr ba bc b (Bson.doc 0 true none (b.drop k)) := by
  have hlt := hR.lt
  clear hR
  refine Reads_.of ?_
  show Calls _ _ _ _ (ErrPost zeroV w gr 7)
  have hT := Lib.hid (fields_deep true (w.alloc (.cells zeroCs 28 (0, 0))) gr)
  go_enter Tryd.func50, Tryd.ntmps50
  go_wp2_with fail
  refine hT.out.mono ?_
  rintro e' w' ⟨rfl, hw'⟩
  have HF : Hid (Fresh w w') := by rw [← hw']; exact Fresh.new w
  have HG : Hid (w.grownBy w' (some gr)) := by rw [← hw']; exact grown_box _
  clear hw'
  obtain ⟨d0, f0⟩ := HF.out.cells 0 _ rfl
  obtain ⟨d1, f1⟩ := HF.out.cells 1 _ rfl
  obtain ⟨d2, f2⟩ := HF.out.cells 2 _ rfl
  obtain ⟨d3, f3⟩ := HF.out.cells 3 _ rfl
  obtain ⟨d4, f4⟩ := HF.out.cells 4 _ rfl
  obtain ⟨d5, f5⟩ := HF.out.cells 5 _ rfl
  go_wp2_with fail
  exact bodyPost_ret (v := .tuple #[zeroV, .int .i64 7]) (by simp [results, Tryd.results50, go_sem, zeroV, *]) rfl (fin_err (n := 7) HG.out _ _ _ _ _ _ rfl)
theorem allRead_none (gr : Nat) (ba : Option Addr) (bc : Nat) (b : List Nat) : AllRead 0 33 gr ba bc b := by
  intro c f hf W k2 hR hT
  rcases fnOf_cases hf with ⟨rfl, rfl⟩ | ⟨rfl, rfl⟩ | ⟨rfl, rfl⟩ | ⟨rfl, rfl⟩ | ⟨rfl, rfl⟩ | ⟨rfl, rfl⟩ | ⟨rfl, rfl⟩ | ⟨rfl, rfl⟩ | ⟨rfl, rfl⟩ | ⟨rfl, rfl⟩ | ⟨rfl, rfl⟩ | ⟨rfl, rfl⟩ | ⟨rfl, rfl⟩ | ⟨rfl, rfl⟩
  · exact double_any W gr ba bc b k2 _ hR
  · exact text_any W gr ba bc b k2 _ hR hT.t8
  · exact rdoc_deep W gr ba bc b k2 hR
  · exact rlist_deep W gr ba bc b k2 hR
  · exact blob_any W gr ba bc b k2 _ hR
  · exact id_any W gr ba bc b k2 _ hR
  · exact bool_any W gr ba bc b k2 _ hR
  · exact date_any W gr ba bc b k2 _ hR
  · exact null_any W gr ba bc b k2 _ hR
  · exact int32_any W gr ba bc b k2 _ hR
  · exact int64_any W gr ba bc b k2 _ hR
  · exact decimal_any W gr ba bc b k2 _ hR
  · exact greatest_any W gr ba bc b k2 _ hR
  · exact least_any W gr ba bc b k2 _ hR
theorem allRead : ∀ (d : Nat) (dp : Int), dp + d = 33 → 2 ≤ dp → ∀ (gr : Nat) (ba : Option Addr) (bc : Nat) (b : List Nat), AllRead d dp gr ba bc b
  | 0, dp, hd, _, gr, ba, bc, b => by
    obtain rfl : dp = 33 := by omega
    exact allRead_none gr ba bc b
  | d + 1, dp, hd, h2, gr, ba, bc, b => by
    have IH := allRead d (dp + 1) (by omega) (by omega) gr ba bc b
    intro c f hf W k2 hR hT
    have h3 := rdoc_any d dp (by omega) (by omega) W gr ba bc b k2 (fun _ => IH) hR hT
    have h4 := rlist_any d dp (by omega) (by omega) W gr ba bc b k2 (fun _ => IH) hR hT
    rw [if_neg (by omega)] at h3 h4
    rcases fnOf_cases hf with ⟨rfl, rfl⟩ | ⟨rfl, rfl⟩ | ⟨rfl, rfl⟩ | ⟨rfl, rfl⟩ | ⟨rfl, rfl⟩ | ⟨rfl, rfl⟩ | ⟨rfl, rfl⟩ | ⟨rfl, rfl⟩ | ⟨rfl, rfl⟩ | ⟨rfl, rfl⟩ | ⟨rfl, rfl⟩ | ⟨rfl, rfl⟩ | ⟨rfl, rfl⟩ | ⟨rfl, rfl⟩
    · exact double_any W gr ba bc b k2 _ hR
    · exact text_any W gr ba bc b k2 _ hR hT.t8
    · exact h3
    · exact h4
    · exact blob_any W gr ba bc b k2 _ hR
    · exact id_any W gr ba bc b k2 _ hR
    · exact bool_any W gr ba bc b k2 _ hR
    · exact date_any W gr ba bc b k2 _ hR
    · exact null_any W gr ba bc b k2 _ hR
    · exact int32_any W gr ba bc b k2 _ hR
    · exact int64_any W gr ba bc b k2 _ hR
    · exact decimal_any W gr ba bc b k2 _ hR
    · exact greatest_any W gr ba bc b k2 _ hR
    · exact least_any W gr ba bc b k2 _ hR
theorem ValV.mono {L L2 : Nat} {w : World} {x : Val} {v : Value} (h : ValV L w x v) (hl : L2 ≤ L) : ValV L2 w x v := h.imp fun _ hv => hv.kept (Kept.of_below (Below.refl _ _)) (fun _ hg => Nat.le_trans hl hg)
theorem zeroVal (L : Nat) (w : World) : ValV L w Bson.zero (.agg #[.int .i64 0, .int .i64 0, .string ⟨#[]⟩, .slice none 0 0, .slice none 0 0, .slice none 0 0]) :=
  ⟨1, none, none, none, 0, 0, 0, rfl, ⟨by decide, by decide, by decide, by decide, by decide, by decide, by decide, by decide, fun c hc => by cases hc⟩, ⟨Nat.le_refl _, by omega⟩, ⟨Nat.le_refl _, by omega⟩, ⟨Nat.le_refl _, by omega⟩, .inl rfl, .inl rfl, .inl rfl⟩
set_option maxRecDepth 100000 in
set_option maxHeartbeats 2000000 in
theorem decode_any (w : World) (a : Option Addr) (c : Nat) (b : List Nat) (hc : b.length ≤ c) (hc2 : c ≤ 9223372036854775807) (hs : SliceIs w a b) (ho : Oct b) (hT : Tabs w) :
    Calls Tryd.prog 9 #[.slice a b.length c] w fun e w' => ∃ v, e = .returned (.tuple #[v, .int .i64 ((Bson.decode b).1 : Int)]) ∧ ValV w.heap.size w' (Bson.decode b).2 v ∧ Below w.heap.size w w' := by
  by_cases hlong : 65536 < b.length
  · have hd : Bson.decode b = (3, Bson.zero) := by unfold Bson.decode; rw [if_pos hlong]
    rw [hd]
    have hi : (65536 : Int) < (b.length : Int) := by omega
    clear hs ho hT hd
    go_enter Tryd.func9, Tryd.ntmps9
    go_wp2_with fail
    exact bodyPost_ret (v := .tuple #[.agg #[.int .i64 0, .int .i64 0, .string ⟨#[]⟩, .slice none 0 0, .slice none 0 0, .slice none 0 0], .int .i64 3]) (by simp [results, Tryd.results9, go_sem, *]) rfl ⟨_, rfl, zeroVal _ _, (Below.refl _ w).alloc (Nat.le_refl _) _⟩
  · have hi : ¬ (65536 : Int) < (b.length : Int) := by omega
    have HB : Hid (Below w.heap.size w ((w.alloc (.cells zeroCs 28)).alloc (.cells #[.slice a b.length c, .int .i64 0] 49))) := ((Below.refl _ w).alloc (Nat.le_refl _) _).alloc (by simp) _
    have hblk : ((w.alloc (.cells zeroCs 28)).alloc (.cells #[.slice a b.length c, .int .i64 0] 49)).heap[w.heap.size + 1]? = some (.cells #[.slice a b.length c, .int .i64 0] 49 (0, 0)) := by
      have h1 := heap_alloc_new (w.alloc (.cells zeroCs 28)) (.cells #[.slice a b.length c, .int .i64 0] 49 (0, 0))
      rw [show (w.alloc (.cells zeroCs 28)).heap.size = w.heap.size + 1 by simp] at h1
      exact h1
    have HR : Rdr ((w.alloc (.cells zeroCs 28)).alloc (.cells #[.slice a b.length c, .int .i64 0] 49)) (w.heap.size + 1) a c b 0 := ⟨hblk, hs.keep HB.out, Nat.zero_le _, by omega, hc, hc2, ho⟩
    have H := rdoc_any 31 1 (by decide) (by decide) ((w.alloc (.cells zeroCs 28)).alloc (.cells #[.slice a b.length c, .int .i64 0] 49)) (w.heap.size + 1) a c b 0 (fun _ => allRead 31 2 (by decide) (by decide) _ _ _ _) HR (hT.below HB.out)
    rw [if_pos rfl, List.drop_zero] at H
    have HW2 : Hid (((w.alloc (.cells zeroCs 28)).alloc (.cells #[.slice a b.length c, .int .i64 0] 49)).heap.size = w.heap.size + 2) := (by simp : ((w.alloc (.cells zeroCs 28)).alloc (.cells #[.slice a b.length c, .int .i64 0] 49)).heap.size = w.heap.size + 2)
    have HF2 : Hid (Fresh w ((w.alloc (.cells zeroCs 28)).alloc (.cells #[.slice a b.length c, .int .i64 0] 49))) := (((Below.refl _ (w.alloc (.cells zeroCs 28))).alloc (Nat.le_refl _) _).block w.heap.size (by simp)).trans (Fresh.new w)
    have hd : Bson.decode b = match Bson.doc 32 false (some b.length) b with | .err e => (e, Bson.zero) | .ok v _ => (0, v) := by unfold Bson.decode; rw [if_neg hlong]; rfl
    clear hs ho hT HR hblk
    cases hres : Bson.doc 32 false (some b.length) b with
    | err m =>
      have HD : Hid (Bson.decode b = (m, Bson.zero)) := by show _ = _; rw [hd, hres]
      have hT := Lib.hid (H.err m hres)
      unfold ErrPost zeroV at hT
      rw [HD.out]
      clear hd hres H
      go_enter Tryd.func9, Tryd.ntmps9
      go_wp2_with fail
      refine hT.out.mono ?_
      rintro e' w3 ⟨rfl, hg⟩
      have HF : Hid (Fresh w w3) := (hg.block _ (by have := HW2.out; omega) (fun e => by have := Option.some.inj e; omega)).trans HF2.out
      have HG := Lib.hid (grown_trans (grown_below HB.out (w.heap.size + 1)) hg)
      clear hg
      obtain ⟨d0, f0⟩ := HF.out.cells 0 _ rfl
      obtain ⟨d1, f1⟩ := HF.out.cells 1 _ rfl
      obtain ⟨d2, f2⟩ := HF.out.cells 2 _ rfl
      obtain ⟨d3, f3⟩ := HF.out.cells 3 _ rfl
      obtain ⟨d4, f4⟩ := HF.out.cells 4 _ rfl
      obtain ⟨d5, f5⟩ := HF.out.cells 5 _ rfl
      go_wp2_with fail
      exact bodyPost_ret (v := .tuple #[.agg #[.int .i64 0, .int .i64 0, .string ⟨#[]⟩, .slice none 0 0, .slice none 0 0, .slice none 0 0], .int .i64 (m : Int)]) (by simp [results, Tryd.results9, go_sem, *]) rfl ⟨_, rfl, zeroVal _ _, below_grown (w := w) (grown_six HG.out (Nat.le_refl _) _ _ _ _ _ _) (Nat.le_refl _) (by omega)⟩
    | ok x r =>
      have HD : Hid (Bson.decode b = (0, x)) := by show _ = _; rw [hd, hres]
      have hT := Lib.hid (H.ok x r hres)
      unfold OkPost at hT
      rw [HD.out]
      clear hd hres H
      go_enter Tryd.func9, Tryd.ntmps9
      go_wp2_with fail
      refine hT.out.mono ?_
      rintro e' w3 ⟨v, k', rfl, hV, -, -, hg⟩
      have HF : Hid (Fresh w w3) := (hg.block _ (by have := HW2.out; omega) (fun e => by have := Option.some.inj e; omega)).trans HF2.out
      have HG := Lib.hid (grown_trans (grown_below HB.out (w.heap.size + 1)) hg)
      have hV1 : ValV (w.heap.size + 1) w3 x v := hV.mono (by have := HW2.out; omega)
      obtain ⟨q1, q2, q3, a1, n1, c1, a2, n2, c2, a3, n3, c3, rfl, hS⟩ := ValV.stored hV1
      have HS := Lib.hid hS
      clear hg hV hV1 hS
      obtain ⟨d0, f0⟩ := HF.out.cells 0 _ rfl
      obtain ⟨d1, f1⟩ := HF.out.cells 1 _ rfl
      obtain ⟨d2, f2⟩ := HF.out.cells 2 _ rfl
      obtain ⟨d3, f3⟩ := HF.out.cells 3 _ rfl
      obtain ⟨d4, f4⟩ := HF.out.cells 4 _ rfl
      obtain ⟨d5, f5⟩ := HF.out.cells 5 _ rfl
      go_wp2_with fail
      exact bodyPost_ret (v := .tuple #[.agg #[.int .i64 q1, .int .i64 q2, .string q3, .slice a1 n1 c1, .slice a2 n2 c2, .slice a3 n3 c3], .int .i64 0]) (by simp [results, Tryd.results9, go_sem, *]) rfl ⟨_, rfl, HS.out _ _ _ _ _ _, below_grown (w := w) (grown_six HG.out (Nat.le_refl _) _ _ _ _ _ _) (Nat.le_refl _) (by omega)⟩
end Go.Proofs.YtdihelpimpkfoaaDoor
end
section
namespace Go.Proofs.YtdihelpimpkfoaaDoor
open Go.RowKit
open Seal
open Bson (Val)
def wake5 : Val := .mk 6 0 ⟨#[]⟩ [] [(⟨#[97]⟩, .mk 3 1 ⟨#[]⟩ [] [] [])] []
def wakeB : List Nat := [12, 0, 0, 0, 16, 97, 0, 1, 0, 0, 0, 0]
theorem wake_enc : docB wake5 = some wakeB := by decide +kernel
theorem wake_dec : Bson.decode wakeB = (0, wake5) := by rfl
/-- A row of one's own reads as its bytes. -/
theorem Own8.reads {w : World} {base : Nat} {v : Value} {bs : List Nat} (h : Own8 w base v bs) : ∃ a c, v = .slice a bs.length c ∧ bs.length ≤ c ∧ c ≤ 9223372036854775807 ∧ SliceIs w a bs ∧ (∀ p, a = some p → base ≤ p.block ∧ p.block < w.heap.size) := by
  rcases h.own.2 with ⟨rfl, e⟩ | ⟨g, cap, cur, rfl, hb, hr, h1, h2, h3, h4⟩
  · exact ⟨none, 0, by rw [e], by omega, by omega, .inl (List.eq_nil_of_length_eq_zero e), nofun⟩
  · refine ⟨_, cap, rfl, h1, by unfold maxLen at h2; omega, .inr ⟨g, 0, rfl, fun j hj => ?_⟩, fun p e => by cases e; exact ⟨hb, (Array.getElem?_eq_some_iff.1 hr).1⟩⟩
    have hl : j < (u8s bs).length := by simpa [u8s] using hj
    rw [Nat.zero_add, cell_of_row w g j _ _ _ hr, ← Array.getElem?_toList]
    have e : cur.toList[j]? = (u8s bs)[j]? := by rw [← h4, List.getElem?_take_of_lt (by omega)]
    rw [e]
    simp [u8s, u8, hj]
set_option maxRecDepth 100000 in
set_option maxHeartbeats 2000000 in
theorem awake5_any (w : World) (hT : Tabs w) : Calls Tryd.prog 4 #[] w fun e w' => e = .returned (.bool true) ∧ Below w.heap.size w w' := by
  obtain ⟨W, hW⟩ : ∃ W, W = (w.alloc (.cells #[.string ⟨#[97]⟩, .int .i64 3, .int .i64 1, .string ⟨#[]⟩, .slice none 0 0, .slice none 0 0, .slice none 0 0] 35)).alloc (.cells #[.int .i64 6, .int .i64 0, .string ⟨#[]⟩, .slice none 0 0, .slice (some ⟨w.heap.size, 0, none⟩) 1 1, .slice none 0 0] 28) := ⟨_, rfl⟩
  have HB : Hid (Below w.heap.size w W) := by rw [hW]; exact ((Below.refl _ w).alloc (Nat.le_refl _) _).alloc (by simp) _
  have HF : Hid (W.heap[w.heap.size]? = some (.cells #[.string ⟨#[97]⟩, .int .i64 3, .int .i64 1, .string ⟨#[]⟩, .slice none 0 0, .slice none 0 0, .slice none 0 0] 35 (0, 0))) := by
    show _ = _
    rw [hW]; exact (Below.heap_alloc _ _ _ (by simp)).trans (heap_alloc_new w _)
  have HX : Hid (W.heap[w.heap.size + 1]? = some (.cells #[.int .i64 6, .int .i64 0, .string ⟨#[]⟩, .slice none 0 0, .slice (some ⟨w.heap.size, 0, none⟩) 1 1, .slice none 0 0] 28 (0, 0))) := by
    show _ = _
    have h1 := heap_alloc_new (w.alloc (.cells #[.string ⟨#[97]⟩, .int .i64 3, .int .i64 1, .string ⟨#[]⟩, .slice none 0 0, .slice none 0 0, .slice none 0 0] 35)) (.cells #[.int .i64 6, .int .i64 0, .string ⟨#[]⟩, .slice none 0 0, .slice (some ⟨w.heap.size, 0, none⟩) 1 1, .slice none 0 0] 28)
    rw [hW]; simpa using h1
  have HV : Hid (∀ W', Below W.heap.size W W' → VIn W' (fun g => g = w.heap.size) 2 wake5 (.agg #[.int .i64 6, .int .i64 0, .string ⟨#[]⟩, .slice none 0 0, .slice (some ⟨w.heap.size, 0, none⟩) 1 1, .slice none 0 0])) := fun W' hb => VIn.keep hb (doc_in HF.out rfl (by decide) (leaf_in _ _ 3 1 (by omega) (by omega) 0))
  have hgW : w.heap.size + 1 < W.heap.size := (Array.getElem?_eq_some_iff.1 HX.out).1
  have CE := Lib.hid (encode_ok _ 2 wake5 _ W wakeB (HV.out W (Below.refl _ _)) (fun g hg => by omega) (hT.below HB.out) wake_enc)
  have HT := Lib.hid hT
  have HW := Lib.hid hW
  clear hT hW
  go_enter Tryd.func4, Tryd.ntmps4
  go_upto_region 2 with fail
  rw [← HW.out]
  have q0 := cell_of_row _ _ 0 _ _ _ HX.out
  have q1 := cell_of_row _ _ 1 _ _ _ HX.out
  have q2 := cell_of_row _ _ 2 _ _ _ HX.out
  have q3 := cell_of_row _ _ 3 _ _ _ HX.out
  have q4 := cell_of_row _ _ 4 _ _ _ HX.out
  have q5 := cell_of_row _ _ 5 _ _ _ HX.out
  go_wp2_with fail
  refine CE.out.mono ?_
  rintro e w2 ⟨v2, rfl, hO2, hb2⟩
  obtain ⟨a2, c2, rfl, hc2, hm2, hs2, -⟩ := hO2.reads
  have HB2 := Lib.hid hb2
  have HT2 := Lib.hid ((HT.out.below HB.out).below hb2)
  have HS2 := Lib.hid hs2
  have CD := Lib.hid (decode_any w2 a2 c2 wakeB hc2 hm2 hs2 (by unfold wakeB Oct; decide) HT2.out)
  rw [wake_dec] at CD
  have hwl : wakeB.length = 12 := rfl
  rw [hwl] at CD ⊢
  replace q0 := cell_keep hb2 q0
  replace q1 := cell_keep hb2 q1
  replace q2 := cell_keep hb2 q2
  replace q3 := cell_keep hb2 q3
  replace q4 := cell_keep hb2 q4
  replace q5 := cell_keep hb2 q5
  clear hO2 hs2 hb2 hwl
  go_wp2_with fail
  refine CD.out.mono ?_
  rintro e w3 ⟨v3, rfl, ⟨h3, hv3⟩, hb3⟩
  cases h3 with
  | zero => exact hv3.elim
  | succ h3 =>
  obtain ⟨ba, fa, la, bc, fc, lc, rfl, -⟩ := id hv3
  obtain ⟨-, -, -, -, -, hF3, -⟩ := VIn.parts hv3
  obtain ⟨g3, o3, rfl, -, hall3⟩ := hF3.resolve_left (by show ¬ [_] = []; simp)
  obtain ⟨-, -, v4, hsix4, hv4⟩ := hall3 0 (by decide)
  have hq4 : w3.cell? ⟨g3, o3 + 1 + 1, none⟩ = some (.int .i64 1) := by
    cases h3 with
    | zero => exact hv4.elim
    | succ h3 =>
    obtain ⟨_, _, _, _, _, _, rfl, _⟩ := hv4
    obtain ⟨d0, d1, d2, d3, d4, d5, he6, s0, s1, s2, s3, s4, s5⟩ := hsix4
    unfold agg at he6
    simp only [Value.agg.injEq, Array.mk.injEq, List.cons.injEq, and_true] at he6
    obtain ⟨-, rfl, -⟩ := he6
    rw [Nat.zero_mul, Nat.add_zero] at s1
    exact s1
  have hq4b : w3.cell? ⟨g3, o3 + 2, none⟩ = some (.int .i64 1) := hq4
  have e5 : agg wake5 ba (some ⟨g3, o3, none⟩) la bc fc lc = .agg #[.int .i64 6, .int .i64 0, .string ⟨#[]⟩, .slice ba 0 bc, .slice (some ⟨g3, o3, none⟩) 1 fc, .slice la 0 lc] := rfl
  rw [e5]
  have HB3 := Lib.hid hb3
  have HBX : Hid (Below w3.heap.size w3 (w3.alloc (.cells #[.int .i64 6, .int .i64 0, .string ⟨#[]⟩, .slice ba 0 bc, .slice (some ⟨g3, o3, none⟩) 1 fc, .slice la 0 lc] 28))) := (Below.refl _ w3).alloc (Nat.le_refl _) _
  have HBA := Lib.hid (HB2.out.trans ((HB3.out.mono HB2.out.size).trans (HBX.out.mono (Nat.le_trans HB2.out.size HB3.out.size))))
  have hconv : (convert 22 9 (.slice a2 12 c2)).run Tryd.prog (w3.alloc (.cells #[.int .i64 6, .int .i64 0, .string ⟨#[]⟩, .slice ba 0 bc, .slice (some ⟨g3, o3, none⟩) 1 fc, .slice la 0 lc] 28)) = .ok (.string ⟨#[12, 0, 0, 0, 16, 97, 0, 1, 0, 0, 0, 0]⟩) (w3.alloc (.cells #[.int .i64 6, .int .i64 0, .string ⟨#[]⟩, .slice ba 0 bc, .slice (some ⟨g3, o3, none⟩) 1 fc, .slice la 0 lc] 28)) :=
    conv_str _ a2 12 c2 wakeB rfl ((HS2.out.keep HB3.out).keep HBX.out)
  have CS := Lib.hid (size_any _ 2 wake5 _ _ (HV.out _ HBA.out) ((HT.out.below HB.out).below HBA.out))
  rw [show sizeB wake5 = 12 from sizeB_some wake_enc] at CS
  replace q0 := cell_keep hb3 q0
  replace q1 := cell_keep hb3 q1
  replace q2 := cell_keep hb3 q2
  replace q3 := cell_keep hb3 q3
  replace q4 := cell_keep hb3 q4
  replace q5 := cell_keep hb3 q5
  have hq4x := cell_keep HBX.out hq4
  have qx0 := cell_keep HBX.out q0
  have qx1 := cell_keep HBX.out q1
  have qx2 := cell_keep HBX.out q2
  have qx3 := cell_keep HBX.out q3
  have qx4 := cell_keep HBX.out q4
  have qx5 := cell_keep HBX.out q5
  clear hb3 hv3 hall3 hsix4 hv4 e5 hF3 CD CE
  go_wp2_with fail
  refine CS.out.mono ?_
  rintro e w4 ⟨rfl, hb4⟩
  have HBB := Lib.hid (HBA.out.trans (hb4.mono HBA.out.size))
  have CM := Lib.hid (may_any _ 2 wake5 _ _ (HV.out _ HBB.out) ((HT.out.below HB.out).below HBB.out))
  rw [wake_enc] at CM
  have q0' := cell_keep hb4 (cell_keep HBX.out q0)
  have q1' := cell_keep hb4 (cell_keep HBX.out q1)
  have q2' := cell_keep hb4 (cell_keep HBX.out q2)
  have q3' := cell_keep hb4 (cell_keep HBX.out q3)
  have q4' := cell_keep hb4 (cell_keep HBX.out q4)
  have q5' := cell_keep hb4 (cell_keep HBX.out q5)
  clear hb4 q0 q1 q2 q3 q4 q5 hconv hq4 hq4b hq4x qx0 qx1 qx2 qx3 qx4 qx5
  go_wp2_with fail
  refine CM.out.mono ?_
  rintro e w5 ⟨rfl, hb5⟩
  have HBC := Lib.hid (HB.out.trans ((HBB.out.trans (hb5.mono HBB.out.size)).mono HB.out.size))
  clear hb5
  go_wp2_with fail
  go_ret
  exact ⟨rfl, HBC.out⟩
end Go.Proofs.YtdihelpimpkfoaaDoor
end
