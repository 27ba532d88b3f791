/- BsonDecode, BsonAwake, BsonDeepWalk. -/
import Derived.Test.YtpiookgkkaafeaaDoorMg35
import Derived.Test.YtpiookgkkaafeaaDoorMg30
import Derived.Test.YtpiookgkkaafeaaDoorMg8
import Derived.Test.YtpiookgkkaafeaaDoorMg4
import Derived.Test.YtpiookgkkaafeaaDoorMg6
import Derived.Test.YtpiookgkkaafeaaDoorMg7
import Derived.Test.YtpiookgkkaafeaaDoorMg23
import Derived.Test.YtpiookgkkaafeaaDoorMg16
set_option maxRecDepth 100000
section
namespace Go.Proofs.YtpiookgkkaafeaaDoor
open Go.RowKit
open Seal
open Bson (Val)
set_option maxRecDepth 100000 in
theorem fields_deep (list : Bool) (w : World) (gr : Nat) : Calls Tryd.prog 40 #[.pointer (some ⟨gr, 0, none⟩), .int .i64 33, .bool list] w fun e w' => e = .returned (.tuple #[.slice none 0 0, .int .i64 7]) ∧ w = w' := by
  go_enter Tryd.func40, Tryd.ntmps40
  go_wp2_with fail
  go_ret2
  exact ⟨rfl, rfl⟩
set_option maxRecDepth 100000 in
set_option maxHeartbeats 2000000 in
theorem rdoc_deep (w : World) (gr : Nat) (ba : Option Addr) (bc : Nat) (b : List Nat) (k : Nat) (hR : Rdr w gr ba bc b k) : Reads_ zeroV (ValV w.heap.size) 23 #[.pointer (some ⟨gr, 0, none⟩), .int .i64 33] w gr ba bc b (Bson.doc 0 false none (b.drop k)) := by
  have hlt := hR.lt
  clear hR
  refine Reads_.of ?_
  show Calls _ _ _ _ (ErrPost zeroV w gr 7)
  have hT := Lib.hid (fields_deep false (w.alloc (.cells zeroCs 27 (0, 0))) gr)
  go_enter Tryd.func23, Tryd.ntmps23
  go_wp2_with fail
  refine hT.out.mono ?_
  rintro e' w' ⟨rfl, hw'⟩
  have HF : Hid (Fresh w w') := by rw [← hw']; exact Fresh.new w
  have HG : Hid (w.grownBy w' (some gr)) := by rw [← hw']; exact grown_box _
  clear hw'
  obtain ⟨d0, f0⟩ := HF.out.cells 0 _ rfl
  obtain ⟨d1, f1⟩ := HF.out.cells 1 _ rfl
  obtain ⟨d2, f2⟩ := HF.out.cells 2 _ rfl
  obtain ⟨d3, f3⟩ := HF.out.cells 3 _ rfl
  obtain ⟨d4, f4⟩ := HF.out.cells 4 _ rfl
  obtain ⟨d5, f5⟩ := HF.out.cells 5 _ rfl
  go_wp2_with fail
  exact bodyPost_ret (v := .tuple #[zeroV, .int .i64 7]) (by simp [results, Tryd.results23, go_sem, zeroV, *]) rfl (fin_err (n := 7) HG.out _ _ _ _ _ _ rfl)
set_option maxRecDepth 100000 in
set_option maxHeartbeats 2000000 in
theorem rlist_deep (w : World) (gr : Nat) (ba : Option Addr) (bc : Nat) (b : List Nat) (k : Nat) (hR : Rdr w gr ba bc b k) : Reads_ zeroV (ValV w.heap.size) 84 #[.pointer (some ⟨gr, 0, none⟩), .int .i64 33] w gr ba bc b (Bson.doc 0 true none (b.drop k)) := by
  have hlt := hR.lt
  clear hR
  refine Reads_.of ?_
  show Calls _ _ _ _ (ErrPost zeroV w gr 7)
  have hT := Lib.hid (fields_deep true (w.alloc (.cells zeroCs 27 (0, 0))) gr)
  go_enter Tryd.func84, Tryd.ntmps84
  go_wp2_with fail
  refine hT.out.mono ?_
  rintro e' w' ⟨rfl, hw'⟩
  have HF : Hid (Fresh w w') := by rw [← hw']; exact Fresh.new w
  have HG : Hid (w.grownBy w' (some gr)) := by rw [← hw']; exact grown_box _
  clear hw'
  obtain ⟨d0, f0⟩ := HF.out.cells 0 _ rfl
  obtain ⟨d1, f1⟩ := HF.out.cells 1 _ rfl
  obtain ⟨d2, f2⟩ := HF.out.cells 2 _ rfl
  obtain ⟨d3, f3⟩ := HF.out.cells 3 _ rfl
  obtain ⟨d4, f4⟩ := HF.out.cells 4 _ rfl
  obtain ⟨d5, f5⟩ := HF.out.cells 5 _ rfl
  go_wp2_with fail
  exact bodyPost_ret (v := .tuple #[zeroV, .int .i64 7]) (by simp [results, Tryd.results84, go_sem, zeroV, *]) rfl (fin_err (n := 7) HG.out _ _ _ _ _ _ rfl)
theorem allRead_none (gr : Nat) (ba : Option Addr) (bc : Nat) (b : List Nat) : AllRead 0 33 gr ba bc b := by
  intro c f hf W k2 hR hT
  rcases fnOf_cases hf with ⟨rfl, rfl⟩ | ⟨rfl, rfl⟩ | ⟨rfl, rfl⟩ | ⟨rfl, rfl⟩ | ⟨rfl, rfl⟩ | ⟨rfl, rfl⟩ | ⟨rfl, rfl⟩ | ⟨rfl, rfl⟩ | ⟨rfl, rfl⟩ | ⟨rfl, rfl⟩ | ⟨rfl, rfl⟩ | ⟨rfl, rfl⟩ | ⟨rfl, rfl⟩ | ⟨rfl, rfl⟩
  · exact double_any W gr ba bc b k2 _ hR
  · exact text_any W gr ba bc b k2 _ hR hT.t8
  · exact rdoc_deep W gr ba bc b k2 hR
  · exact rlist_deep W gr ba bc b k2 hR
  · exact blob_any W gr ba bc b k2 _ hR
  · exact id_any W gr ba bc b k2 _ hR
  · exact bool_any W gr ba bc b k2 _ hR
  · exact date_any W gr ba bc b k2 _ hR
  · exact null_any W gr ba bc b k2 _ hR
  · exact int32_any W gr ba bc b k2 _ hR
  · exact int64_any W gr ba bc b k2 _ hR
  · exact decimal_any W gr ba bc b k2 _ hR
  · exact greatest_any W gr ba bc b k2 _ hR
  · exact least_any W gr ba bc b k2 _ hR
theorem allRead : ∀ (d : Nat) (dp : Int), dp + d = 33 → 2 ≤ dp → ∀ (gr : Nat) (ba : Option Addr) (bc : Nat) (b : List Nat), AllRead d dp gr ba bc b
  | 0, dp, hd, _, gr, ba, bc, b => by
    obtain rfl : dp = 33 := by omega
    exact allRead_none gr ba bc b
  | d + 1, dp, hd, h2, gr, ba, bc, b => by
    have IH := allRead d (dp + 1) (by omega) (by omega) gr ba bc b
    intro c f hf W k2 hR hT
    have h3 := rdoc_any d dp (by omega) (by omega) W gr ba bc b k2 (fun _ => IH) hR hT
    have h4 := rlist_any d dp (by omega) (by omega) W gr ba bc b k2 (fun _ => IH) hR hT
    rw [if_neg (by omega)] at h3 h4
    rcases fnOf_cases hf with ⟨rfl, rfl⟩ | ⟨rfl, rfl⟩ | ⟨rfl, rfl⟩ | ⟨rfl, rfl⟩ | ⟨rfl, rfl⟩ | ⟨rfl, rfl⟩ | ⟨rfl, rfl⟩ | ⟨rfl, rfl⟩ | ⟨rfl, rfl⟩ | ⟨rfl, rfl⟩ | ⟨rfl, rfl⟩ | ⟨rfl, rfl⟩ | ⟨rfl, rfl⟩ | ⟨rfl, rfl⟩
    · exact double_any W gr ba bc b k2 _ hR
    · exact text_any W gr ba bc b k2 _ hR hT.t8
    · exact h3
    · exact h4
    · exact blob_any W gr ba bc b k2 _ hR
    · exact id_any W gr ba bc b k2 _ hR
    · exact bool_any W gr ba bc b k2 _ hR
    · exact date_any W gr ba bc b k2 _ hR
    · exact null_any W gr ba bc b k2 _ hR
    · exact int32_any W gr ba bc b k2 _ hR
    · exact int64_any W gr ba bc b k2 _ hR
    · exact decimal_any W gr ba bc b k2 _ hR
    · exact greatest_any W gr ba bc b k2 _ hR
    · exact least_any W gr ba bc b k2 _ hR
theorem ValV.mono {L L2 : Nat} {w : World} {x : Val} {v : Value} (h : ValV L w x v) (hl : L2 ≤ L) : ValV L2 w x v := h.imp fun _ hv => hv.kept (Kept.of_below (Below.refl _ _)) (fun _ hg => Nat.le_trans hl hg)
theorem zeroVal (L : Nat) (w : World) : ValV L w Bson.zero (.agg #[.int .i64 0, .int .i64 0, .string ⟨#[]⟩, .slice none 0 0, .slice none 0 0, .slice none 0 0]) :=
  ⟨1, none, none, none, 0, 0, 0, rfl, ⟨by decide, by decide, by decide, by decide, by decide, by decide, by decide, by decide, fun c hc => by cases hc⟩, ⟨Nat.le_refl _, by omega⟩, ⟨Nat.le_refl _, by omega⟩, ⟨Nat.le_refl _, by omega⟩, .inl rfl, .inl rfl, .inl rfl⟩
set_option maxRecDepth 100000 in
set_option maxHeartbeats 2000000 in
theorem decode_any (w : World) (a : Option Addr) (c : Nat) (b : List Nat) (hc : b.length ≤ c) (hc2 : c ≤ 9223372036854775807) (hs : SliceIs w a b) (ho : Oct b) (hT : Tabs w) :
    Calls Tryd.prog 11 #[.slice a b.length c] w fun e w' => ∃ v, e = .returned (.tuple #[v, .int .i64 ((Bson.decode b).1 : Int)]) ∧ ValV w.heap.size w' (Bson.decode b).2 v ∧ Below w.heap.size w w' := by
  by_cases hlong : 65536 < b.length
  · have hd : Bson.decode b = (3, Bson.zero) := by unfold Bson.decode; rw [if_pos hlong]
    rw [hd]
    have hi : (65536 : Int) < (b.length : Int) := by omega
    clear hs ho hT hd
    go_enter Tryd.func11, Tryd.ntmps11
    go_wp2_with fail
    exact bodyPost_ret (v := .tuple #[.agg #[.int .i64 0, .int .i64 0, .string ⟨#[]⟩, .slice none 0 0, .slice none 0 0, .slice none 0 0], .int .i64 3]) (by simp [results, Tryd.results11, go_sem, *]) rfl ⟨_, rfl, zeroVal _ _, (Below.refl _ w).alloc (Nat.le_refl _) _⟩
  · have hi : ¬ (65536 : Int) < (b.length : Int) := by omega
    have HB : Hid (Below w.heap.size w ((w.alloc (.cells zeroCs 27)).alloc (.cells #[.slice a b.length c, .int .i64 0] 59))) := ((Below.refl _ w).alloc (Nat.le_refl _) _).alloc (by simp) _
    have hblk : ((w.alloc (.cells zeroCs 27)).alloc (.cells #[.slice a b.length c, .int .i64 0] 59)).heap[w.heap.size + 1]? = some (.cells #[.slice a b.length c, .int .i64 0] 59 (0, 0)) := by
      have h1 := heap_alloc_new (w.alloc (.cells zeroCs 27)) (.cells #[.slice a b.length c, .int .i64 0] 59 (0, 0))
      rw [show (w.alloc (.cells zeroCs 27)).heap.size = w.heap.size + 1 by simp] at h1
      exact h1
    have HR : Rdr ((w.alloc (.cells zeroCs 27)).alloc (.cells #[.slice a b.length c, .int .i64 0] 59)) (w.heap.size + 1) a c b 0 := ⟨hblk, hs.keep HB.out, Nat.zero_le _, by omega, hc, hc2, ho⟩
    have H := rdoc_any 31 1 (by decide) (by decide) ((w.alloc (.cells zeroCs 27)).alloc (.cells #[.slice a b.length c, .int .i64 0] 59)) (w.heap.size + 1) a c b 0 (fun _ => allRead 31 2 (by decide) (by decide) _ _ _ _) HR (hT.below HB.out)
    rw [if_pos rfl, List.drop_zero] at H
    have HW2 : Hid (((w.alloc (.cells zeroCs 27)).alloc (.cells #[.slice a b.length c, .int .i64 0] 59)).heap.size = w.heap.size + 2) := (by simp : ((w.alloc (.cells zeroCs 27)).alloc (.cells #[.slice a b.length c, .int .i64 0] 59)).heap.size = w.heap.size + 2)
    have HF2 : Hid (Fresh w ((w.alloc (.cells zeroCs 27)).alloc (.cells #[.slice a b.length c, .int .i64 0] 59))) := (((Below.refl _ (w.alloc (.cells zeroCs 27))).alloc (Nat.le_refl _) _).block w.heap.size (by simp)).trans (Fresh.new w)
    have hd : Bson.decode b = match Bson.doc 32 false (some b.length) b with | .err e => (e, Bson.zero) | .ok v _ => (0, v) := by unfold Bson.decode; rw [if_neg hlong]; rfl
    clear hs ho hT HR hblk
    cases hres : Bson.doc 32 false (some b.length) b with
    | err m =>
      have HD : Hid (Bson.decode b = (m, Bson.zero)) := by show _ = _; rw [hd, hres]
      have hT := Lib.hid (H.err m hres)
      unfold ErrPost zeroV at hT
      rw [HD.out]
      clear hd hres H
      go_enter Tryd.func11, Tryd.ntmps11
      go_wp2_with fail
      refine hT.out.mono ?_
      rintro e' w3 ⟨rfl, hg⟩
      have HF : Hid (Fresh w w3) := (hg.block _ (by have := HW2.out; omega) (fun e => by have := Option.some.inj e; omega)).trans HF2.out
      have HG := Lib.hid (grown_trans (grown_below HB.out (w.heap.size + 1)) hg)
      clear hg
      obtain ⟨d0, f0⟩ := HF.out.cells 0 _ rfl
      obtain ⟨d1, f1⟩ := HF.out.cells 1 _ rfl
      obtain ⟨d2, f2⟩ := HF.out.cells 2 _ rfl
      obtain ⟨d3, f3⟩ := HF.out.cells 3 _ rfl
      obtain ⟨d4, f4⟩ := HF.out.cells 4 _ rfl
      obtain ⟨d5, f5⟩ := HF.out.cells 5 _ rfl
      go_wp2_with fail
      exact bodyPost_ret (v := .tuple #[.agg #[.int .i64 0, .int .i64 0, .string ⟨#[]⟩, .slice none 0 0, .slice none 0 0, .slice none 0 0], .int .i64 (m : Int)]) (by simp [results, Tryd.results11, go_sem, *]) rfl ⟨_, rfl, zeroVal _ _, below_grown (w := w) (grown_six HG.out (Nat.le_refl _) _ _ _ _ _ _) (Nat.le_refl _) (by omega)⟩
    | ok x r =>
      have HD : Hid (Bson.decode b = (0, x)) := by show _ = _; rw [hd, hres]
      have hT := Lib.hid (H.ok x r hres)
      unfold OkPost at hT
      rw [HD.out]
      clear hd hres H
      go_enter Tryd.func11, Tryd.ntmps11
      go_wp2_with fail
      refine hT.out.mono ?_
      rintro e' w3 ⟨v, k', rfl, hV, -, -, hg⟩
      have HF : Hid (Fresh w w3) := (hg.block _ (by have := HW2.out; omega) (fun e => by have := Option.some.inj e; omega)).trans HF2.out
      have HG := Lib.hid (grown_trans (grown_below HB.out (w.heap.size + 1)) hg)
      have hV1 : ValV (w.heap.size + 1) w3 x v := hV.mono (by have := HW2.out; omega)
      obtain ⟨q1, q2, q3, a1, n1, c1, a2, n2, c2, a3, n3, c3, rfl, hS⟩ := ValV.stored hV1
      have HS := Lib.hid hS
      clear hg hV hV1 hS
      obtain ⟨d0, f0⟩ := HF.out.cells 0 _ rfl
      obtain ⟨d1, f1⟩ := HF.out.cells 1 _ rfl
      obtain ⟨d2, f2⟩ := HF.out.cells 2 _ rfl
      obtain ⟨d3, f3⟩ := HF.out.cells 3 _ rfl
      obtain ⟨d4, f4⟩ := HF.out.cells 4 _ rfl
      obtain ⟨d5, f5⟩ := HF.out.cells 5 _ rfl
      go_wp2_with fail
      exact bodyPost_ret (v := .tuple #[.agg #[.int .i64 q1, .int .i64 q2, .string q3, .slice a1 n1 c1, .slice a2 n2 c2, .slice a3 n3 c3], .int .i64 0]) (by simp [results, Tryd.results11, go_sem, *]) rfl ⟨_, rfl, HS.out _ _ _ _ _ _, below_grown (w := w) (grown_six HG.out (Nat.le_refl _) _ _ _ _ _ _) (Nat.le_refl _) (by omega)⟩
end Go.Proofs.YtpiookgkkaafeaaDoor
end
section
namespace Go.Proofs.YtpiookgkkaafeaaDoor
open Go.RowKit
open Seal
open Bson (Val)
def wake5 : Val := .mk 6 0 ⟨#[]⟩ [] [(⟨#[97]⟩, .mk 3 1 ⟨#[]⟩ [] [] [])] []
def wakeB : List Nat := [12, 0, 0, 0, 16, 97, 0, 1, 0, 0, 0, 0]
theorem wake_enc : docB wake5 = some wakeB := by decide +kernel
theorem wake_dec : Bson.decode wakeB = (0, wake5) := by rfl
/-- A row of one's own reads as its bytes. -/
theorem Own8.reads {w : World} {base : Nat} {v : Value} {bs : List Nat} (h : Own8 w base v bs) : ∃ a c, v = .slice a bs.length c ∧ bs.length ≤ c ∧ c ≤ 9223372036854775807 ∧ SliceIs w a bs ∧ (∀ p, a = some p → base ≤ p.block ∧ p.block < w.heap.size) := by
  rcases h.own.2 with ⟨rfl, e⟩ | ⟨g, cap, cur, rfl, hb, hr, h1, h2, h3, h4⟩
  · exact ⟨none, 0, by rw [e], by omega, by omega, .inl (List.eq_nil_of_length_eq_zero e), nofun⟩
  · refine ⟨_, cap, rfl, h1, by unfold maxLen at h2; omega, .inr ⟨g, 0, rfl, fun j hj => ?_⟩, fun p e => by cases e; exact ⟨hb, (Array.getElem?_eq_some_iff.1 hr).1⟩⟩
    have hl : j < (u8s bs).length := by simpa [u8s] using hj
    rw [Nat.zero_add, cell_of_row w g j _ _ _ hr, ← Array.getElem?_toList]
    have e : cur.toList[j]? = (u8s bs)[j]? := by rw [← h4, List.getElem?_take_of_lt (by omega)]
    rw [e]
    simp [u8s, u8, hj]
set_option maxRecDepth 100000 in
set_option maxHeartbeats 2000000 in
theorem awake5_any (w : World) (hT : Tabs w) : Calls Tryd.prog 10 #[] w fun e w' => e = .returned (.bool true) ∧ Below w.heap.size w w' := by
  obtain ⟨W, hW⟩ : ∃ W, W = (w.alloc (.cells #[.string ⟨#[97]⟩, .int .i64 3, .int .i64 1, .string ⟨#[]⟩, .slice none 0 0, .slice none 0 0, .slice none 0 0] 43)).alloc (.cells #[.int .i64 6, .int .i64 0, .string ⟨#[]⟩, .slice none 0 0, .slice (some ⟨w.heap.size, 0, none⟩) 1 1, .slice none 0 0] 27) := ⟨_, rfl⟩
  have HB : Hid (Below w.heap.size w W) := by rw [hW]; exact ((Below.refl _ w).alloc (Nat.le_refl _) _).alloc (by simp) _
  have HF : Hid (W.heap[w.heap.size]? = some (.cells #[.string ⟨#[97]⟩, .int .i64 3, .int .i64 1, .string ⟨#[]⟩, .slice none 0 0, .slice none 0 0, .slice none 0 0] 43 (0, 0))) := by
    show _ = _
    rw [hW]; exact (Below.heap_alloc _ _ _ (by simp)).trans (heap_alloc_new w _)
  have HX : Hid (W.heap[w.heap.size + 1]? = some (.cells #[.int .i64 6, .int .i64 0, .string ⟨#[]⟩, .slice none 0 0, .slice (some ⟨w.heap.size, 0, none⟩) 1 1, .slice none 0 0] 27 (0, 0))) := by
    show _ = _
    have h1 := heap_alloc_new (w.alloc (.cells #[.string ⟨#[97]⟩, .int .i64 3, .int .i64 1, .string ⟨#[]⟩, .slice none 0 0, .slice none 0 0, .slice none 0 0] 43)) (.cells #[.int .i64 6, .int .i64 0, .string ⟨#[]⟩, .slice none 0 0, .slice (some ⟨w.heap.size, 0, none⟩) 1 1, .slice none 0 0] 27)
    rw [hW]; simpa using h1
  have HV : Hid (∀ W', Below W.heap.size W W' → VIn W' (fun g => g = w.heap.size) 2 wake5 (.agg #[.int .i64 6, .int .i64 0, .string ⟨#[]⟩, .slice none 0 0, .slice (some ⟨w.heap.size, 0, none⟩) 1 1, .slice none 0 0])) := fun W' hb => VIn.keep hb (doc_in HF.out rfl (by decide) (leaf_in _ _ 3 1 (by omega) (by omega) 0))
  have hgW : w.heap.size + 1 < W.heap.size := (Array.getElem?_eq_some_iff.1 HX.out).1
  have CE := Lib.hid (encode_ok _ 2 wake5 _ W wakeB (HV.out W (Below.refl _ _)) (fun g hg => by omega) (hT.below HB.out) wake_enc)
  have HT := Lib.hid hT
  have HW := Lib.hid hW
  clear hT hW
  go_enter Tryd.func10, Tryd.ntmps10
  go_upto_region 2 with fail
  rw [← HW.out]
  have q0 := cell_of_row _ _ 0 _ _ _ HX.out
  have q1 := cell_of_row _ _ 1 _ _ _ HX.out
  have q2 := cell_of_row _ _ 2 _ _ _ HX.out
  have q3 := cell_of_row _ _ 3 _ _ _ HX.out
  have q4 := cell_of_row _ _ 4 _ _ _ HX.out
  have q5 := cell_of_row _ _ 5 _ _ _ HX.out
  go_wp2_with fail
  refine CE.out.mono ?_
  rintro e w2 ⟨v2, rfl, hO2, hb2⟩
  obtain ⟨a2, c2, rfl, hc2, hm2, hs2, -⟩ := hO2.reads
  have HB2 := Lib.hid hb2
  have HT2 := Lib.hid ((HT.out.below HB.out).below hb2)
  have HS2 := Lib.hid hs2
  have CD := Lib.hid (decode_any w2 a2 c2 wakeB hc2 hm2 hs2 (by unfold wakeB Oct; decide) HT2.out)
  rw [wake_dec] at CD
  have hwl : wakeB.length = 12 := rfl
  rw [hwl] at CD ⊢
  replace q0 := cell_keep hb2 q0
  replace q1 := cell_keep hb2 q1
  replace q2 := cell_keep hb2 q2
  replace q3 := cell_keep hb2 q3
  replace q4 := cell_keep hb2 q4
  replace q5 := cell_keep hb2 q5
  clear hO2 hs2 hb2 hwl
  go_wp2_with fail
  refine CD.out.mono ?_
  rintro e w3 ⟨v3, rfl, ⟨h3, hv3⟩, hb3⟩
  cases h3 with
  | zero => exact hv3.elim
  | succ h3 =>
  obtain ⟨ba, fa, la, bc, fc, lc, rfl, -⟩ := id hv3
  obtain ⟨-, -, -, -, -, hF3, -⟩ := VIn.parts hv3
  obtain ⟨g3, o3, rfl, -, hall3⟩ := hF3.resolve_left (by show ¬ [_] = []; simp)
  obtain ⟨-, -, v4, hsix4, hv4⟩ := hall3 0 (by decide)
  have hq4 : w3.cell? ⟨g3, o3 + 1 + 1, none⟩ = some (.int .i64 1) := by
    cases h3 with
    | zero => exact hv4.elim
    | succ h3 =>
    obtain ⟨_, _, _, _, _, _, rfl, _⟩ := hv4
    obtain ⟨d0, d1, d2, d3, d4, d5, he6, s0, s1, s2, s3, s4, s5⟩ := hsix4
    unfold agg at he6
    simp only [Value.agg.injEq, Array.mk.injEq, List.cons.injEq, and_true] at he6
    obtain ⟨-, rfl, -⟩ := he6
    rw [Nat.zero_mul, Nat.add_zero] at s1
    exact s1
  have hq4b : w3.cell? ⟨g3, o3 + 2, none⟩ = some (.int .i64 1) := hq4
  have e5 : agg wake5 ba (some ⟨g3, o3, none⟩) la bc fc lc = .agg #[.int .i64 6, .int .i64 0, .string ⟨#[]⟩, .slice ba 0 bc, .slice (some ⟨g3, o3, none⟩) 1 fc, .slice la 0 lc] := rfl
  rw [e5]
  have HB3 := Lib.hid hb3
  have HBX : Hid (Below w3.heap.size w3 (w3.alloc (.cells #[.int .i64 6, .int .i64 0, .string ⟨#[]⟩, .slice ba 0 bc, .slice (some ⟨g3, o3, none⟩) 1 fc, .slice la 0 lc] 27))) := (Below.refl _ w3).alloc (Nat.le_refl _) _
  have HBA := Lib.hid (HB2.out.trans ((HB3.out.mono HB2.out.size).trans (HBX.out.mono (Nat.le_trans HB2.out.size HB3.out.size))))
  have hconv : (convert 22 9 (.slice a2 12 c2)).run Tryd.prog (w3.alloc (.cells #[.int .i64 6, .int .i64 0, .string ⟨#[]⟩, .slice ba 0 bc, .slice (some ⟨g3, o3, none⟩) 1 fc, .slice la 0 lc] 27)) = .ok (.string ⟨#[12, 0, 0, 0, 16, 97, 0, 1, 0, 0, 0, 0]⟩) (w3.alloc (.cells #[.int .i64 6, .int .i64 0, .string ⟨#[]⟩, .slice ba 0 bc, .slice (some ⟨g3, o3, none⟩) 1 fc, .slice la 0 lc] 27)) :=
    conv_str _ a2 12 c2 wakeB rfl ((HS2.out.keep HB3.out).keep HBX.out)
  have CS := Lib.hid (size_any _ 2 wake5 _ _ (HV.out _ HBA.out) ((HT.out.below HB.out).below HBA.out))
  rw [show sizeB wake5 = 12 from sizeB_some wake_enc] at CS
  replace q0 := cell_keep hb3 q0
  replace q1 := cell_keep hb3 q1
  replace q2 := cell_keep hb3 q2
  replace q3 := cell_keep hb3 q3
  replace q4 := cell_keep hb3 q4
  replace q5 := cell_keep hb3 q5
  have hq4x := cell_keep HBX.out hq4
  have qx0 := cell_keep HBX.out q0
  have qx1 := cell_keep HBX.out q1
  have qx2 := cell_keep HBX.out q2
  have qx3 := cell_keep HBX.out q3
  have qx4 := cell_keep HBX.out q4
  have qx5 := cell_keep HBX.out q5
  clear hb3 hv3 hall3 hsix4 hv4 e5 hF3 CD CE
  go_wp2_with fail
  refine CS.out.mono ?_
  rintro e w4 ⟨rfl, hb4⟩
  have HBB := Lib.hid (HBA.out.trans (hb4.mono HBA.out.size))
  have CM := Lib.hid (may_any _ 2 wake5 _ _ (HV.out _ HBB.out) ((HT.out.below HB.out).below HBB.out))
  rw [wake_enc] at CM
  have q0' := cell_keep hb4 (cell_keep HBX.out q0)
  have q1' := cell_keep hb4 (cell_keep HBX.out q1)
  have q2' := cell_keep hb4 (cell_keep HBX.out q2)
  have q3' := cell_keep hb4 (cell_keep HBX.out q3)
  have q4' := cell_keep hb4 (cell_keep HBX.out q4)
  have q5' := cell_keep hb4 (cell_keep HBX.out q5)
  clear hb4 q0 q1 q2 q3 q4 q5 hconv hq4 hq4b hq4x qx0 qx1 qx2 qx3 qx4 qx5
  go_wp2_with fail
  refine CM.out.mono ?_
  rintro e w5 ⟨rfl, hb5⟩
  have HBC := Lib.hid (HB.out.trans ((HBB.out.trans (hb5.mono HBB.out.size)).mono HB.out.size))
  clear hb5
  go_wp2_with fail
  go_ret
  exact ⟨rfl, HBC.out⟩
end Go.Proofs.YtpiookgkkaafeaaDoor
end
section
namespace Go.Proofs.YtpiookgkkaafeaaDoor
open Go.RowKit
open Seal
open Bson (Val)
def bitOf (t i : Nat) : Bool := decide (bits BinOp.and IntKind.u32 ((t : Int) / 2 ^ (i % 32)) 1 = 1)
def shapeD (m t : Nat) : Nat → List Bool
  | 0 => []
  | k + 1 => (decide (k + 1 < m) && bitOf t k) :: shapeD m t k
theorem shapeD_length (m t : Nat) : ∀ k, (shapeD m t k).length = k
  | 0 => rfl
  | k + 1 => by rw [shapeD, List.length_cons, shapeD_length m t k]
/-- The box at b holds the value that k wrappings make; what it reads lies in later blocks. -/
def DLoop (w0 : World) (b m t k : Nat) (w : World) : Prop :=
  Below b w0 w ∧ ∃ c0 c1 c2 c3 c4 c5, IsBox w b c0 c1 c2 c3 c4 c5 ∧ VIn w (fun g => b < g ∧ g < w.heap.size) (k + 1) (deepV (shapeD m t k)) (.agg #[c0, c1, c2, c3, c4, c5])
theorem one_in {w : World} {Q : Nat → Prop} {h g : Nat} {x : Val} {c0 c1 c2 c3 c4 c5 : Value} {t : TypeId} (hr : w.heap[g]? = some (.cells #[c0, c1, c2, c3, c4, c5] t (0, 0))) (hq : Q g) (hx : VIn w Q h x (.agg #[c0, c1, c2, c3, c4, c5])) :
    VIn w Q (h + 1) (.mk 7 0 ⟨#[]⟩ [] [] [x]) (.agg #[.int .i64 7, .int .i64 0, .string ⟨#[]⟩, .slice none 0 0, .slice none 0 0, .slice (some ⟨g, 0, none⟩) 1 1]) := by
  refine ⟨none, none, some ⟨g, 0, none⟩, 0, 0, 1, rfl, plain_lim 7 0 [] _ (by omega) (by omega) (by simp) (by simp), ⟨Nat.le_refl _, by omega⟩, ⟨Nat.le_refl _, by omega⟩, ⟨Nat.le_refl _, by omega⟩, .inl rfl, .inl rfl, .inr ⟨g, 0, rfl, hq, fun i hi => ?_⟩⟩
  obtain rfl : i = 0 := by simp [Val.l] at hi; omega
  refine ⟨_, ⟨c0, c1, c2, c3, c4, c5, rfl, ?_, ?_, ?_, ?_, ?_, ?_⟩, hx⟩
  · exact (cell_of_row _ _ 0 _ _ _ hr).trans rfl
  · exact (cell_of_row _ _ 1 _ _ _ hr).trans rfl
  · exact (cell_of_row _ _ 2 _ _ _ hr).trans rfl
  · exact (cell_of_row _ _ 3 _ _ _ hr).trans rfl
  · exact (cell_of_row _ _ 4 _ _ _ hr).trans rfl
  · exact (cell_of_row _ _ 5 _ _ _ hr).trans rfl
theorem deep_put {w0 wr W2 : World} {b h : Nat} {x : Val} {c0 c1 c2 c3 c4 c5 d0 d1 d2 d3 d4 d5 : Value} (hbk : Below b w0 wr) (hx : IsBox wr b c0 c1 c2 c3 c4 c5) (hb2 : Below wr.heap.size wr W2)
    (hv : VIn W2 (fun g => b < g ∧ g < W2.heap.size) h x (.agg #[d0, d1, d2, d3, d4, d5])) :
    Below b w0 (puts W2 b 0 [d0, d1, d2, d3, d4, d5]) ∧ ∃ e0 e1 e2 e3 e4 e5, IsBox (puts W2 b 0 [d0, d1, d2, d3, d4, d5]) b e0 e1 e2 e3 e4 e5 ∧ VIn (puts W2 b 0 [d0, d1, d2, d3, d4, d5]) (fun g => b < g ∧ g < (puts W2 b 0 [d0, d1, d2, d3, d4, d5]).heap.size) h x (.agg #[e0, e1, e2, e3, e4, e5]) := by
  refine ⟨puts_below (hbk.trans (hb2.mono (Nat.le_of_lt hx.lt))) (Nat.le_refl b) _ _, d0, d1, d2, d3, d4, d5, (hx.keep hb2).put .., ?_⟩
  refine VIn.kept (puts_kept _ (by omega) 0 _) (fun g hg => ?_) hv
  rw [puts_size]; exact hg
theorem deep_up {wr W2 : World} {b h : Nat} {x : Val} {v : Value} (hb2 : Below wr.heap.size wr W2) (hv : VIn wr (fun g => b < g ∧ g < wr.heap.size) h x v) : VIn W2 (fun g => b < g ∧ g < W2.heap.size) h x v :=
  VIn.kept (Kept.of_below hb2) (fun _ hg => ⟨hg.1, Nat.lt_of_lt_of_le hg.2 hb2.size⟩) hv
set_option maxRecDepth 100000 in
set_option maxHeartbeats 4000000 in
theorem deep5_any (w : World) (a t : Nat) (ha : a < 256) (hT : Tabs w) : Calls Tryd.prog 8 #[.int .u8 a, .int .u32 t] w fun e w' => e = .returned (.bool true) ∧ Below w.heap.size w w' := by
  have HT := Lib.hid hT
  have CA := Lib.hid (awake5_any w hT)
  clear hT
  obtain ⟨r, hr⟩ : ∃ r, r = a % 36 := ⟨_, rfl⟩
  have hr36 : r < 36 := by omega
  have hrm : Int.tmod (a : Int) 36 = (r : Int) := by rw [hr]; exact (Int.ofNat_tmod a 36).symm
  clear hr
  go_enter Tryd.func8, Tryd.ntmps8
  go_wp2_with fail
  refine CA.out.mono ?_
  rintro e w1 ⟨rfl, hb1⟩
  have HB1 := Lib.hid hb1
  have HT1 := Lib.hid (HT.out.below hb1)
  clear CA hb1
  obtain ⟨m, hm⟩ : ∃ m, m = r + 1 := ⟨_, rfl⟩
  have hm1 : 1 + (r : Int) = (m : Int) := by omega
  have hm2 : (m : Int) - 1 = (r : Int) := by omega
  have HM := Lib.hid hm
  have hm36 : m ≤ 36 := by omega
  have HB2 : Hid (Below w1.heap.size w1 (w1.alloc (.cells #[.int .i64 3, .int .i64 7, .string ⟨#[]⟩, .slice none 0 0, .slice none 0 0, .slice none 0 0] 27))) := (Below.refl _ w1).alloc (Nat.le_refl _) _
  have HX2 := Lib.hid (IsBox.new w1 (.int .i64 3) (.int .i64 7) (.string ⟨#[]⟩) (.slice none 0 0) (.slice none 0 0) (.slice none 0 0))
  clear hm
  go_wp2_with fail
  go_loopw [7] (fun i wr => ∃ k : Nat, i = .int .i64 k ∧ k ≤ m ∧ Hid (DLoop w1 w1.heap.size m t k wr)) (fun i _ => m - (intOf i).toNat)
  case atStart => exact ⟨0, rfl, Nat.zero_le _, HB2.out, _, _, _, _, _, _, HX2.out, leaf_in _ _ 3 7 (by omega) (by omega) 0⟩
  case round =>
    obtain ⟨k, rfl, hk, HL⟩ := hrel
    obtain ⟨hbk, c0, c1, c2, c3, c4, c5, hx, hv⟩ := HL.out
    by_cases hlt : k < m
    · obtain ⟨k1, k2, s2, b3, l3, z3, b4, l4, z4, b5, l5, z5, hcs⟩ := VIn.form hv
      simp only [Value.agg.injEq, Array.mk.injEq, List.cons.injEq, and_true] at hcs
      obtain ⟨rfl, rfl, rfl, rfl, rfl, rfl⟩ := hcs
      obtain ⟨x0, x1, x2, x3, x4, x5⟩ := hx.cells
      obtain ⟨y0, y1, y2, y3, y4, y5⟩ := hx.thaw
      have HX := Lib.hid hx
      have HV := Lib.hid hv
      have HB := Lib.hid hbk
      obtain ⟨s, hs⟩ : ∃ s, s = k % 32 := ⟨_, rfl⟩
      have hks : Int.tmod (k : Int) 32 = (s : Int) := by rw [hs]; exact (Int.ofNat_tmod k 32).symm
      have hs32 : s < 32 := by omega
      have HS := Lib.hid hs
      clear hx hv hbk hs
      obtain ⟨q, hq⟩ : ∃ q : Int, bits BinOp.and IntKind.u32 ((t : Int) / 2 ^ s) 1 = q := ⟨_, rfl⟩
      have HBT : Hid (bitOf t k = decide (q = 1)) := by show bitOf t k = _; rw [← hq, HS.out]; rfl
      by_cases hl : k < r ∧ q = 1
      · obtain ⟨hkr, rfl⟩ := hl
        have HB3 : Hid (Below wr.heap.size wr (wr.alloc (.cells #[.int .i64 k1, .int .i64 k2, .string s2, .slice b3 l3 z3, .slice b4 l4 z4, .slice b5 l5 z5] 27))) := (Below.refl _ wr).alloc (Nat.le_refl _) _
        have HX3 := Lib.hid (HX.out.keep HB3.out)
        obtain ⟨x0, x1, x2, x3, x4, x5⟩ := HX3.out.cells
        obtain ⟨y0, y1, y2, y3, y4, y5⟩ := HX3.out.thaw
        skip
        go_wp2_with fail
        have hsh : shapeD m t (k + 1) = true :: shapeD m t k := by rw [shapeD, HBT.out]; congr 1; simp; have := HM.out; omega
        have hg : w1.heap.size < wr.heap.size := HX.out.lt
        have hg2 : wr.heap.size < (wr.alloc (.cells #[.int .i64 k1, .int .i64 k2, .string s2, .slice b3 l3 z3, .slice b4 l4 z4, .slice b5 l5 z5] 27)).heap.size := by simp
        have hvn := deep_up HB3.out HV.out
        have hnew := one_in (Q := fun g => w1.heap.size < g ∧ g < (wr.alloc (.cells #[.int .i64 k1, .int .i64 k2, .string s2, .slice b3 l3 z3, .slice b4 l4 z4, .slice b5 l5 z5] 27)).heap.size) (heap_alloc_new wr _) ⟨hg, hg2⟩ hvn
        have hfin := deep_put HB.out HX.out HB3.out hnew
        refine ⟨⟨k + 1, by go_num, by omega, ?_⟩, by simp [intOf]; omega⟩
        show DLoop _ _ _ _ _ _
        unfold DLoop
        rw [hsh]
        exact hfin
      · by_cases hkr : k < r
        · have hq1 : ¬ q = 1 := fun e => hl ⟨hkr, e⟩
          have HB3 : Hid (Below wr.heap.size wr (wr.alloc (.cells #[.string ⟨#[97]⟩, .int .i64 k1, .int .i64 k2, .string s2, .slice b3 l3 z3, .slice b4 l4 z4, .slice b5 l5 z5] 43))) := (Below.refl _ wr).alloc (Nat.le_refl _) _
          have HX3 := Lib.hid (HX.out.keep HB3.out)
          obtain ⟨x0, x1, x2, x3, x4, x5⟩ := HX3.out.cells
          obtain ⟨y0, y1, y2, y3, y4, y5⟩ := HX3.out.thaw
          skip
          go_wp2_with fail
          have hsh : shapeD m t (k + 1) = false :: shapeD m t k := by rw [shapeD, HBT.out]; congr 1; simp [hq1]
          have hg : w1.heap.size < wr.heap.size := HX.out.lt
          have hg2 : wr.heap.size < (wr.alloc (.cells #[.string ⟨#[97]⟩, .int .i64 k1, .int .i64 k2, .string s2, .slice b3 l3 z3, .slice b4 l4 z4, .slice b5 l5 z5] 43)).heap.size := by simp
          have hvn := deep_up HB3.out HV.out
          have hnew := doc_in (Q := fun g => w1.heap.size < g ∧ g < (wr.alloc (.cells #[.string ⟨#[97]⟩, .int .i64 k1, .int .i64 k2, .string s2, .slice b3 l3 z3, .slice b4 l4 z4, .slice b5 l5 z5] 43)).heap.size) (nm := ⟨#[97]⟩) (heap_alloc_new wr _) ⟨hg, hg2⟩ (by decide) hvn
          have hfin := deep_put HB.out HX.out HB3.out hnew
          refine ⟨⟨k + 1, by go_num, by omega, ?_⟩, by simp [intOf]; omega⟩
          show DLoop _ _ _ _ _ _
          unfold DLoop
          rw [hsh]
          exact hfin
        · skip
          have HB3 : Hid (Below wr.heap.size wr (wr.alloc (.cells #[.string ⟨#[97]⟩, .int .i64 k1, .int .i64 k2, .string s2, .slice b3 l3 z3, .slice b4 l4 z4, .slice b5 l5 z5] 43))) := (Below.refl _ wr).alloc (Nat.le_refl _) _
          have HX3 := Lib.hid (HX.out.keep HB3.out)
          obtain ⟨x0, x1, x2, x3, x4, x5⟩ := HX3.out.cells
          obtain ⟨y0, y1, y2, y3, y4, y5⟩ := HX3.out.thaw
          skip
          go_wp2_with fail
          have hsh : shapeD m t (k + 1) = false :: shapeD m t k := by
            rw [shapeD]
            have h0 : ¬ k + 1 < m := by have := HM.out; omega
            simp [h0]
          have hg : w1.heap.size < wr.heap.size := HX.out.lt
          have hg2 : wr.heap.size < (wr.alloc (.cells #[.string ⟨#[97]⟩, .int .i64 k1, .int .i64 k2, .string s2, .slice b3 l3 z3, .slice b4 l4 z4, .slice b5 l5 z5] 43)).heap.size := by simp
          have hvn := deep_up HB3.out HV.out
          have hnew := doc_in (Q := fun g => w1.heap.size < g ∧ g < (wr.alloc (.cells #[.string ⟨#[97]⟩, .int .i64 k1, .int .i64 k2, .string s2, .slice b3 l3 z3, .slice b4 l4 z4, .slice b5 l5 z5] 43)).heap.size) (nm := ⟨#[97]⟩) (heap_alloc_new wr _) ⟨hg, hg2⟩ (by decide) hvn
          have hfin := deep_put HB.out HX.out HB3.out hnew
          refine ⟨⟨k + 1, by go_num, by omega, ?_⟩, by simp [intOf]; omega⟩
          show DLoop _ _ _ _ _ _
          unfold DLoop
          rw [hsh]
          exact hfin
    · obtain rfl : k = m := by omega
      have key : ∀ m, m = r + 1 → shapeD m t m = false :: shapeD m t r := by rintro _ rfl; rw [shapeD]; simp
      rw [key k HM.out] at hv
      obtain ⟨S, hS⟩ : ∃ S, S = shapeD k t r := ⟨_, rfl⟩
      have hSl : S.length = r := by rw [hS, shapeD_length]
      rw [← hS] at hv
      obtain ⟨k1, k2, s2, b3, l3, z3, b4, l4, z4, b5, l5, z5, hcs⟩ := VIn.form hv
      simp only [Value.agg.injEq, Array.mk.injEq, List.cons.injEq, and_true] at hcs
      obtain ⟨rfl, rfl, rfl, rfl, rfl, rfl⟩ := hcs
      obtain ⟨x0, x1, x2, x3, x4, x5⟩ := hx.cells
      have HX := Lib.hid hx
      have HV := Lib.hid hv
      have HB := Lib.hid hbk
      have HTR := Lib.hid (HT1.out.below hbk)
      have HBR := Lib.hid (HB1.out.trans (hbk.mono HB1.out.size))
      have HSL := Lib.hid hSl
      have HSS := Lib.hid hS
      have hkr := HM.out
      have HE : Hid (k ≤ 32 → Bson.enc 32 (deepV (false :: S)) = some (deepB (false :: S))) := fun h => deep_enc 32 (false :: S) (by simp; omega)
      clear hx hv hbk hS hSl HL
      by_cases h32 : k ≤ 32
      · have hi32 : (k : Int) ≤ 32 := by omega
        have hdl := deep_len (false :: S)
        have hdoc : docB (deepV (false :: S)) = some (deepB (false :: S)) := by
          unfold docB
          rw [if_pos (by rfl), HE.out h32]
          show (if _ then _ else _) = _
          rw [if_pos (by have := HSL.out; simp at hdl; omega)]
        have HDOC := Lib.hid hdoc
        have hdec := deep_decode S (by have := HSL.out; omega)
        clear hkr
        go_wp2_with fail
        go_at_call 14
        refine (encode_ok _ (k + 1) _ _ wr _ HV.out (fun g hg => hg.2) HTR.out hdoc).mono ?_
        rintro e w3 ⟨v3, rfl, hO3, hb3⟩
        obtain ⟨a3, c3, rfl, hc3, hm3, hs3, -⟩ := hO3.reads
        have HX3 := Lib.hid (HX.out.keep hb3)
        have HV3 := Lib.hid (VIn.keep hb3 HV.out)
        have HT3 := Lib.hid (HTR.out.below hb3)
        have HB3 := Lib.hid (HBR.out.trans (hb3.mono HBR.out.size))
        have CD := Lib.hid (decode_any w3 a3 c3 (deepB (false :: S)) hc3 hm3 hs3 (enc_oct 32 (k + 1) _ _ HV.out.octs (HE.out h32)) HT3.out)
        rw [hdec] at CD
        obtain ⟨L, hL⟩ : ∃ L, L = (deepB (false :: S)).length := ⟨_, rfl⟩
        rw [← hL] at CD
        rw [← hL]
        clear hdl hdoc hdec hO3 hb3 hc3 hm3 hs3 hL x0 x1 x2 x3 x4 x5
        go_wp2_with fail
        go_at_call 11
        refine CD.out.mono ?_
        rintro e w4 ⟨v4, rfl, ⟨h4, hv4⟩, hb4⟩
        obtain ⟨q1, q2, q3, a1, n1, d1, a2, n2, d2, a5, n5, d5, rfl⟩ := VIn.form hv4
        have HB5 : Hid (Below w3.heap.size w3 (w4.alloc (.cells #[.int .i64 q1, .int .i64 q2, .string q3, .slice a1 n1 d1, .slice a2 n2 d2, .slice a5 n5 d5] 27))) := hb4.alloc hb4.size _
        have HX5 := Lib.hid (HX3.out.keep HB5.out)
        have HV5 := Lib.hid (VIn.keep HB5.out HV3.out)
        have HT5 := Lib.hid (HT3.out.below HB5.out)
        have HBW5 := Lib.hid (HB3.out.trans (HB5.out.mono HB3.out.size))
        have HY5 := Lib.hid (IsBox.new w4 (.int .i64 q1) (.int .i64 q2) (.string q3) (.slice a1 n1 d1) (.slice a2 n2 d2) (.slice a5 n5 d5))
        have HW5 := Lib.hid (VIn.keep ((Below.refl _ w4).alloc (Nat.le_refl _) (.cells #[.int .i64 q1, .int .i64 q2, .string q3, .slice a1 n1 d1, .slice a2 n2 d2, .slice a5 n5 d5] 27)) hv4)
        obtain ⟨x0, x1, x2, x3, x4, x5⟩ := HX5.out.cells
        obtain ⟨y0, y1, y2, y3, y4, y5⟩ := HY5.out.cells
        clear hv4 hb4 CD
        go_wp2_with fail
        go_at_call 13
        refine (same_any (k + 1) h4 _ _ _ _ _ _ _ HV5.out HW5.out).mono ?_
        rintro e w6 ⟨b6, rfl, hsame, hb6⟩
        obtain rfl : b6 = true := hsame.2 rfl
        obtain ⟨x0, x1, x2, x3, x4, x5⟩ := (HX5.out.keep hb6).cells
        have HV6 := Lib.hid (VIn.keep hb6 HV5.out)
        have HT6 := Lib.hid (HT5.out.below hb6)
        have HBW6 := Lib.hid (HBW5.out.trans (hb6.mono HBW5.out.size))
        clear hb6 hsame y0 y1 y2 y3 y4 y5
        go_wp2_with fail
        go_at_call 18
        refine (may_any _ (k + 1) _ _ w6 HV6.out HT6.out).mono ?_
        rintro e w7 ⟨rfl, hb7⟩
        rw [HDOC.out]
        have HBW7 := Lib.hid (HBW6.out.trans (hb7.mono HBW6.out.size))
        clear hb7
        show _
        go_wp2_with fail
        go_ret
        exact ⟨rfl, HBW7.out⟩
      · have hi32 : ¬ (k : Int) ≤ 32 := by omega
        have hdoc : docB (deepV (false :: S)) = none := by
          unfold docB
          rw [if_pos (by rfl), deep_none 32 (false :: S) (by have := HSL.out; simp; omega)]
        have HDOC := Lib.hid hdoc
        have hdec := deep_decode_err S (by have := HSL.out; omega) (by have := HSL.out; omega)
        have HDEC := Lib.hid hdec
        clear hkr hdec
        go_wp2_with fail
        go_at_call 14
        refine (encode_no _ (k + 1) _ _ wr HV.out HTR.out hdoc).mono ?_
        rintro e w3 ⟨rfl, hb3⟩
        have HX3 := Lib.hid (HX.out.keep hb3)
        have HV3 := Lib.hid (VIn.keep hb3 HV.out)
        have HT3 := Lib.hid (HTR.out.below hb3)
        have HB3 := Lib.hid (HBR.out.trans (hb3.mono HBR.out.size))
        clear hb3 hdoc x0 x1 x2 x3 x4 x5
        have HB4 : Hid (Below w3.heap.size w3 (w3.alloc (.cells #[.int .u8 7, .int .u8 0, .int .u8 0, .int .u8 0] 5))) := (Below.refl _ w3).alloc (Nat.le_refl _) _
        have HO4 : Hid (Own8 (w3.alloc (.cells #[.int .u8 7, .int .u8 0, .int .u8 0, .int .u8 0] 5)) w3.heap.size (.slice (some ⟨w3.heap.size, 0, none⟩) 4 4) (deepB [])) :=
          ⟨⟨rfl, .inr ⟨w3.heap.size, 4, _, rfl, Nat.le_refl _, heap_alloc_new w3 _, Nat.le_refl _, by decide, rfl, rfl⟩⟩, by simp⟩
        have HSH := Lib.hid (key k HM.out)
        clear key
        go_wp2_with fail
        go_loopw [12, 13, 14] (fun v c i w5 => ∃ j : Nat, i = .int .i64 j ∧ j ≤ k ∧ c = .int .u8 (deepC (shapeD k t j) : Nat) ∧ Hid (Own8 w5 w3.heap.size v (deepB (shapeD k t j))) ∧ Hid (Below w3.heap.size w3 w5)) (fun _ _ i _ => k - (intOf i).toNat)
        case atStart => exact ⟨0, rfl, Nat.zero_le _, rfl, HO4.out, HB4.out⟩
        case round =>
          obtain ⟨j, rfl, hj, rfl, HO5, HB5⟩ := hrel
          by_cases hjk : j < k
          · obtain ⟨s, hs⟩ : ∃ s, s = j % 32 := ⟨_, rfl⟩
            have hks : Int.tmod (j : Int) 32 = (s : Int) := by rw [hs]; exact (Int.ofNat_tmod j 32).symm
            have hs32 : s < 32 := by omega
            have HS := Lib.hid hs
            clear hs
            obtain ⟨q, hq⟩ : ∃ q : Int, bits BinOp.and IntKind.u32 ((t : Int) / 2 ^ s) 1 = q := ⟨_, rfl⟩
            have HBT : Hid (bitOf t j = decide (q = 1)) := by show bitOf t j = _; rw [← hq, HS.out]; rfl
            have hdl := deep_len (shapeD k t j)
            rw [shapeD_length] at hdl
            obtain ⟨a5, c5, rfl, hc5, hm5, hsl5, -⟩ := HO5.out.reads
            have HSL5 := Lib.hid hsl5
            clear hsl5
            obtain ⟨n, hn⟩ : ∃ n, n = (deepB (shapeD k t j)).length := ⟨_, rfl⟩
            rw [← hn] at hc5
            rw [← hn]
            have HO := HO5.out.own
            rw [← hn] at HO
            have hn300 : n ≤ 300 := by omega
            have HN := Lib.hid hn
            clear hn hdl
            obtain ⟨u, hu⟩ : ∃ u, u = (n + 8) % 256 := ⟨_, rfl⟩
            have hu1 : IntKind.u8.wrap (7 + (n : Int) + 1) = (u : Int) := by rw [hu]; show (7 + (n : Int) + 1) % 256 = _; omega
            obtain ⟨z, hz⟩ : ∃ z, z = (n + 8) / 256 := ⟨_, rfl⟩
            have hz1 : (7 + (n : Int) + 1) / 256 = (z : Int) := by omega
            have HU := Lib.hid hu
            have HZ := Lib.hid hz
            clear hu hz
            obtain ⟨tag, htag⟩ : ∃ tag, tag = deepC (shapeD k t j) := ⟨_, rfl⟩
            rw [← htag]
            have HTAG := Lib.hid htag
            clear htag
            obtain ⟨i0, hi, hz0, hzz1, hz2⟩ := info_parts infoU8
            by_cases hl : j < r ∧ q = 1
            · obtain ⟨hkr, rfl⟩ := hl
              have hzw : IntKind.u8.wrap (z : Int) = (z : Int) := by have := HZ.out; show (z : Int) % 256 = _; omega
              have hown6 : (wr.alloc (.cells #[.int .u8 u, .int .u8 z, .int .u8 0, .int .u8 0, .int .u8 tag] 5)).ownsRow wr.heap.size 5 1 (.slice (some ⟨wr.heap.size, 0, none⟩) 5 5) 5 [.int .u8 u, .int .u8 z, .int .u8 0, .int .u8 0, .int .u8 tag] :=
                ⟨rfl, .inr ⟨wr.heap.size, 5, _, rfl, Nat.le_refl _, heap_alloc_new wr _, Nat.le_refl _, by decide, rfl, rfl⟩⟩
              have HB6 : Hid (Below wr.heap.size wr (wr.alloc (.cells #[.int .u8 u, .int .u8 z, .int .u8 0, .int .u8 0, .int .u8 tag] 5))) := (Below.refl _ wr).alloc (Nat.le_refl _) _
              go_wp2_with (at_builtin; refine Lib.wpList_append_own_string _ rfl _ _ 22 9 rfl wr.heap.size 5 i0 Tryd.underlying22 Tryd.underlying9 hi hz0 hzz1 hz2 _ 5 _ rfl hown6 ⟨#[48]⟩ rfl ?c4 (by decide) (by simp) ?_)
              case c4 => unfold maxLen; decide
              intro v7 w7 hown7 hg7 _
              have HB7 : Hid (Below wr.heap.size wr w7) := HB6.out.trans (below_own hown6 (by simp) hg7)
              have hs7 : wr.heap.size ≤ w7.heap.size := HB7.out.size
              clear hown6 hg7
              go_wp2_with (at_builtin; refine wpList_append_own _ rfl _ _ 22 rfl wr.heap.size 5 i0 (.int .u8 0) 1 1 Tryd.underlying22 hi hz0 hzz1 hz2 rfl (by decide) _ (5 + (⟨#[48]⟩ : ByteArray).size) _ rfl (hown7.alloc _) ⟨w7.heap.size, 0, none⟩ 1 1 [.int .u8 0] rfl rfl (oneNew8 _ _) (by intro u hu; simp at hu; subst hu; rfl) ?c4 (by decide) (by simp; omega) ?_)
              case c4 => unfold maxLen; decide
              intro v8 w8 hown8 hg8 _
              have HB8 : Hid (Below wr.heap.size wr w8) := HB7.out.trans (((Below.refl _ w7).alloc hs7 _).trans (below_own (hown7.alloc _) (by simp; omega) hg8))
              have hs8 : wr.heap.size ≤ w8.heap.size := HB8.out.size
              have hsrc : Src w8 a5 n (u8s (deepB (shapeD k t j))) := by have := (HSL5.out.keep HB8.out).src; rw [← HN.out] at this; exact this
              clear hown7 hg8
              go_wp2_with (at_builtin; refine wpList_src rfl _ _ 22 rfl wr.heap.size 5 i0 (.int .u8 0) 1 1 Tryd.underlying22 hi hz0 hzz1 hz2 rfl (by decide) v8 (5 + (⟨#[48]⟩ : ByteArray).size + 1) _ rfl hown8 a5 n c5 (u8s (deepB (shapeD k t j))) rfl hsrc ?c1 (u8s_cell _) ?c4 ?c5 hs8 ?_)
              case c1 => rw [HN.out]; simp [u8s]
              case c4 => unfold maxLen; show 5 + 1 + 1 + n ≤ _; omega
              case c5 => show (5 + 1 + 1 + n) * 1 ≤ _; omega
              intro v9 w9 hown9 hg9
              have HB9 : Hid (Below wr.heap.size wr w9) := HB8.out.trans (below_own hown8 hs8 hg9)
              have hs9 : wr.heap.size ≤ w9.heap.size := HB9.out.size
              clear hown8 hg9 hsrc
              go_wp2_with (at_builtin; refine wpList_append_own _ rfl _ _ 22 rfl wr.heap.size 5 i0 (.int .u8 0) 1 1 Tryd.underlying22 hi hz0 hzz1 hz2 rfl (by decide) _ (5 + (⟨#[48]⟩ : ByteArray).size + 1 + n) _ rfl (hown9.alloc _) ⟨w9.heap.size, 0, none⟩ 1 1 [.int .u8 0] rfl rfl (oneNew8 _ _) (by intro u hu; simp at hu; subst hu; rfl) ?c4 ?c5 (by simp; omega) ?_)
              case c4 => unfold maxLen; show 5 + 1 + 1 + n + 1 ≤ _; omega
              case c5 => show (5 + 1 + 1 + n + 1) * 1 ≤ _; omega
              intro v10 w10 hown10 hg10 _
              have HB10 : Hid (Below wr.heap.size wr w10) := HB9.out.trans (((Below.refl _ w9).alloc hs9 _).trans (below_own (hown9.alloc _) (by simp; omega) hg10))
              have hsh : shapeD k t (j + 1) = true :: shapeD k t j := by rw [shapeD, HBT.out]; congr 1; simp; have := HM.out; omega
              have HO10 : Hid (Own8 w10 w3.heap.size v10 (deepB (true :: shapeD k t j))) := deep_row8 true (shapeD k t j) ⟨#[48]⟩ rfl HN.out hn300 HU.out HZ.out HO5.out.sz (Nat.le_trans HO5.out.sz HB10.out.size) (by rw [← HTAG.out]; exact hown10)
              clear hown9 hown10 hg10
              go_wp2_with fail
              go_roundw
              case rel => exact ⟨j + 1, by go_num, by omega, by rw [hsh]; rfl, by rw [hsh]; exact HO10, HB5.out.trans (HB10.out.mono HO5.out.sz)⟩
              case measure => simp [intOf]; omega
            · by_cases hkr : j < r
              · have hq1 : ¬ q = 1 := fun e => hl ⟨hkr, e⟩
                have hzw : IntKind.u8.wrap (z : Int) = (z : Int) := by have := HZ.out; show (z : Int) % 256 = _; omega
                have hown6 : (wr.alloc (.cells #[.int .u8 u, .int .u8 z, .int .u8 0, .int .u8 0, .int .u8 tag] 5)).ownsRow wr.heap.size 5 1 (.slice (some ⟨wr.heap.size, 0, none⟩) 5 5) 5 [.int .u8 u, .int .u8 z, .int .u8 0, .int .u8 0, .int .u8 tag] :=
                  ⟨rfl, .inr ⟨wr.heap.size, 5, _, rfl, Nat.le_refl _, heap_alloc_new wr _, Nat.le_refl _, by decide, rfl, rfl⟩⟩
                have HB6 : Hid (Below wr.heap.size wr (wr.alloc (.cells #[.int .u8 u, .int .u8 z, .int .u8 0, .int .u8 0, .int .u8 tag] 5))) := (Below.refl _ wr).alloc (Nat.le_refl _) _
                go_wp2_with (at_builtin; refine Lib.wpList_append_own_string _ rfl _ _ 22 9 rfl wr.heap.size 5 i0 Tryd.underlying22 Tryd.underlying9 hi hz0 hzz1 hz2 _ 5 _ rfl hown6 ⟨#[97]⟩ rfl ?c4 (by decide) (by simp) ?_)
                case c4 => unfold maxLen; decide
                intro v7 w7 hown7 hg7 _
                have HB7 : Hid (Below wr.heap.size wr w7) := HB6.out.trans (below_own hown6 (by simp) hg7)
                have hs7 : wr.heap.size ≤ w7.heap.size := HB7.out.size
                clear hown6 hg7
                go_wp2_with (at_builtin; refine wpList_append_own _ rfl _ _ 22 rfl wr.heap.size 5 i0 (.int .u8 0) 1 1 Tryd.underlying22 hi hz0 hzz1 hz2 rfl (by decide) _ (5 + (⟨#[97]⟩ : ByteArray).size) _ rfl (hown7.alloc _) ⟨w7.heap.size, 0, none⟩ 1 1 [.int .u8 0] rfl rfl (oneNew8 _ _) (by intro u hu; simp at hu; subst hu; rfl) ?c4 (by decide) (by simp; omega) ?_)
                case c4 => unfold maxLen; decide
                intro v8 w8 hown8 hg8 _
                have HB8 : Hid (Below wr.heap.size wr w8) := HB7.out.trans (((Below.refl _ w7).alloc hs7 _).trans (below_own (hown7.alloc _) (by simp; omega) hg8))
                have hs8 : wr.heap.size ≤ w8.heap.size := HB8.out.size
                have hsrc : Src w8 a5 n (u8s (deepB (shapeD k t j))) := by have := (HSL5.out.keep HB8.out).src; rw [← HN.out] at this; exact this
                clear hown7 hg8
                go_wp2_with (at_builtin; refine wpList_src rfl _ _ 22 rfl wr.heap.size 5 i0 (.int .u8 0) 1 1 Tryd.underlying22 hi hz0 hzz1 hz2 rfl (by decide) v8 (5 + (⟨#[97]⟩ : ByteArray).size + 1) _ rfl hown8 a5 n c5 (u8s (deepB (shapeD k t j))) rfl hsrc ?c1 (u8s_cell _) ?c4 ?c5 hs8 ?_)
                case c1 => rw [HN.out]; simp [u8s]
                case c4 => unfold maxLen; show 5 + 1 + 1 + n ≤ _; omega
                case c5 => show (5 + 1 + 1 + n) * 1 ≤ _; omega
                intro v9 w9 hown9 hg9
                have HB9 : Hid (Below wr.heap.size wr w9) := HB8.out.trans (below_own hown8 hs8 hg9)
                have hs9 : wr.heap.size ≤ w9.heap.size := HB9.out.size
                clear hown8 hg9 hsrc
                go_wp2_with (at_builtin; refine wpList_append_own _ rfl _ _ 22 rfl wr.heap.size 5 i0 (.int .u8 0) 1 1 Tryd.underlying22 hi hz0 hzz1 hz2 rfl (by decide) _ (5 + (⟨#[97]⟩ : ByteArray).size + 1 + n) _ rfl (hown9.alloc _) ⟨w9.heap.size, 0, none⟩ 1 1 [.int .u8 0] rfl rfl (oneNew8 _ _) (by intro u hu; simp at hu; subst hu; rfl) ?c4 ?c5 (by simp; omega) ?_)
                case c4 => unfold maxLen; show 5 + 1 + 1 + n + 1 ≤ _; omega
                case c5 => show (5 + 1 + 1 + n + 1) * 1 ≤ _; omega
                intro v10 w10 hown10 hg10 _
                have HB10 : Hid (Below wr.heap.size wr w10) := HB9.out.trans (((Below.refl _ w9).alloc hs9 _).trans (below_own (hown9.alloc _) (by simp; omega) hg10))
                have hsh : shapeD k t (j + 1) = false :: shapeD k t j := by rw [shapeD, HBT.out]; congr 1; simp [hq1]
                have HO10 : Hid (Own8 w10 w3.heap.size v10 (deepB (false :: shapeD k t j))) := deep_row8 false (shapeD k t j) ⟨#[97]⟩ rfl HN.out hn300 HU.out HZ.out HO5.out.sz (Nat.le_trans HO5.out.sz HB10.out.size) (by rw [← HTAG.out]; exact hown10)
                clear hown9 hown10 hg10
                go_wp2_with fail
                go_roundw
                case rel => exact ⟨j + 1, by go_num, by omega, by rw [hsh]; rfl, by rw [hsh]; exact HO10, HB5.out.trans (HB10.out.mono HO5.out.sz)⟩
                case measure => simp [intOf]; omega
              · skip
                have hzw : IntKind.u8.wrap (z : Int) = (z : Int) := by have := HZ.out; show (z : Int) % 256 = _; omega
                have hown6 : (wr.alloc (.cells #[.int .u8 u, .int .u8 z, .int .u8 0, .int .u8 0, .int .u8 tag] 5)).ownsRow wr.heap.size 5 1 (.slice (some ⟨wr.heap.size, 0, none⟩) 5 5) 5 [.int .u8 u, .int .u8 z, .int .u8 0, .int .u8 0, .int .u8 tag] :=
                  ⟨rfl, .inr ⟨wr.heap.size, 5, _, rfl, Nat.le_refl _, heap_alloc_new wr _, Nat.le_refl _, by decide, rfl, rfl⟩⟩
                have HB6 : Hid (Below wr.heap.size wr (wr.alloc (.cells #[.int .u8 u, .int .u8 z, .int .u8 0, .int .u8 0, .int .u8 tag] 5))) := (Below.refl _ wr).alloc (Nat.le_refl _) _
                go_wp2_with (at_builtin; refine Lib.wpList_append_own_string _ rfl _ _ 22 9 rfl wr.heap.size 5 i0 Tryd.underlying22 Tryd.underlying9 hi hz0 hzz1 hz2 _ 5 _ rfl hown6 ⟨#[97]⟩ rfl ?c4 (by decide) (by simp) ?_)
                case c4 => unfold maxLen; decide
                intro v7 w7 hown7 hg7 _
                have HB7 : Hid (Below wr.heap.size wr w7) := HB6.out.trans (below_own hown6 (by simp) hg7)
                have hs7 : wr.heap.size ≤ w7.heap.size := HB7.out.size
                clear hown6 hg7
                go_wp2_with (at_builtin; refine wpList_append_own _ rfl _ _ 22 rfl wr.heap.size 5 i0 (.int .u8 0) 1 1 Tryd.underlying22 hi hz0 hzz1 hz2 rfl (by decide) _ (5 + (⟨#[97]⟩ : ByteArray).size) _ rfl (hown7.alloc _) ⟨w7.heap.size, 0, none⟩ 1 1 [.int .u8 0] rfl rfl (oneNew8 _ _) (by intro u hu; simp at hu; subst hu; rfl) ?c4 (by decide) (by simp; omega) ?_)
                case c4 => unfold maxLen; decide
                intro v8 w8 hown8 hg8 _
                have HB8 : Hid (Below wr.heap.size wr w8) := HB7.out.trans (((Below.refl _ w7).alloc hs7 _).trans (below_own (hown7.alloc _) (by simp; omega) hg8))
                have hs8 : wr.heap.size ≤ w8.heap.size := HB8.out.size
                have hsrc : Src w8 a5 n (u8s (deepB (shapeD k t j))) := by have := (HSL5.out.keep HB8.out).src; rw [← HN.out] at this; exact this
                clear hown7 hg8
                go_wp2_with (at_builtin; refine wpList_src rfl _ _ 22 rfl wr.heap.size 5 i0 (.int .u8 0) 1 1 Tryd.underlying22 hi hz0 hzz1 hz2 rfl (by decide) v8 (5 + (⟨#[97]⟩ : ByteArray).size + 1) _ rfl hown8 a5 n c5 (u8s (deepB (shapeD k t j))) rfl hsrc ?c1 (u8s_cell _) ?c4 ?c5 hs8 ?_)
                case c1 => rw [HN.out]; simp [u8s]
                case c4 => unfold maxLen; show 5 + 1 + 1 + n ≤ _; omega
                case c5 => show (5 + 1 + 1 + n) * 1 ≤ _; omega
                intro v9 w9 hown9 hg9
                have HB9 : Hid (Below wr.heap.size wr w9) := HB8.out.trans (below_own hown8 hs8 hg9)
                have hs9 : wr.heap.size ≤ w9.heap.size := HB9.out.size
                clear hown8 hg9 hsrc
                go_wp2_with (at_builtin; refine wpList_append_own _ rfl _ _ 22 rfl wr.heap.size 5 i0 (.int .u8 0) 1 1 Tryd.underlying22 hi hz0 hzz1 hz2 rfl (by decide) _ (5 + (⟨#[97]⟩ : ByteArray).size + 1 + n) _ rfl (hown9.alloc _) ⟨w9.heap.size, 0, none⟩ 1 1 [.int .u8 0] rfl rfl (oneNew8 _ _) (by intro u hu; simp at hu; subst hu; rfl) ?c4 ?c5 (by simp; omega) ?_)
                case c4 => unfold maxLen; show 5 + 1 + 1 + n + 1 ≤ _; omega
                case c5 => show (5 + 1 + 1 + n + 1) * 1 ≤ _; omega
                intro v10 w10 hown10 hg10 _
                have HB10 : Hid (Below wr.heap.size wr w10) := HB9.out.trans (((Below.refl _ w9).alloc hs9 _).trans (below_own (hown9.alloc _) (by simp; omega) hg10))
                have hsh : shapeD k t (j + 1) = false :: shapeD k t j := by rw [shapeD]; have h0 : decide (j + 1 < k) = false := decide_eq_false (by have := HM.out; omega); rw [h0]; rfl
                have HO10 : Hid (Own8 w10 w3.heap.size v10 (deepB (false :: shapeD k t j))) := deep_row8 false (shapeD k t j) ⟨#[97]⟩ rfl HN.out hn300 HU.out HZ.out HO5.out.sz (Nat.le_trans HO5.out.sz HB10.out.size) (by rw [← HTAG.out]; exact hown10)
                clear hown9 hown10 hg10
                go_wp2_with fail
                go_roundw
                case rel => exact ⟨j + 1, by go_num, by omega, by rw [hsh]; rfl, by rw [hsh]; exact HO10, HB5.out.trans (HB10.out.mono HO5.out.sz)⟩
                case measure => simp [intOf]; omega
          · obtain rfl : j = k := by omega
            have hsj := HSH.out
            rw [← HSS.out] at hsj
            rw [hsj] at HO5
            obtain ⟨a5, c5, e5, hc5, hm5, hs5, -⟩ := HO5.out.reads
            subst e5
            have HX5 := Lib.hid (HX3.out.keep HB5.out)
            have HV5 := Lib.hid (VIn.keep HB5.out HV3.out)
            have HT5 := Lib.hid (HT3.out.below HB5.out)
            have HBW5 := Lib.hid (HB3.out.trans (HB5.out.mono HB3.out.size))
            have CD := Lib.hid (decode_any wr a5 c5 (deepB (false :: S)) hc5 hm5 hs5 (enc_oct _ _ _ _ HV.out.octs (deep_enc _ _ (Nat.le_refl _))) HT5.out)
            rw [HDEC.out] at CD
            obtain ⟨L, hL⟩ : ∃ L, L = (deepB (false :: S)).length := ⟨_, rfl⟩
            rw [← hL] at CD
            rw [← hL]
            clear hL hc5 hm5 hs5 HO5
            rw [hsj]
            clear hsj
            go_wp2_with fail
            go_at_call 11
            refine CD.out.mono ?_
            rintro e w6 ⟨v6, rfl, ⟨h6, hv6⟩, hb6⟩
            obtain ⟨q1, q2, q3, a1, n1, d1, a2, n2, d2, a6, n6, d6, rfl⟩ := VIn.form hv6
            have HB7 : Hid (Below wr.heap.size wr (w6.alloc (.cells #[.int .i64 q1, .int .i64 q2, .string q3, .slice a1 n1 d1, .slice a2 n2 d2, .slice a6 n6 d6] 27))) := hb6.alloc hb6.size _
            have HV7 := Lib.hid (VIn.keep HB7.out HV5.out)
            have HT7 := Lib.hid (HT5.out.below HB7.out)
            have HBW7 := Lib.hid (HBW5.out.trans (HB7.out.mono HBW5.out.size))
            have HX7 := Lib.hid (HX5.out.keep HB7.out)
            obtain ⟨x0, x1, x2, x3, x4, x5⟩ := HX7.out.cells
            clear hv6 hb6 CD
            go_wp2_with fail
            go_at_call 18
            refine (may_any _ _ _ _ _ HV7.out HT7.out).mono ?_
            rintro e w8 ⟨rfl, hb8⟩
            rw [HDOC.out]
            have HV8 := Lib.hid (VIn.keep hb8 HV7.out)
            have HT8 := Lib.hid (HT7.out.below hb8)
            have HBW8 := Lib.hid (HBW7.out.trans (hb8.mono HBW7.out.size))
            obtain ⟨y0, y1, y2, y3, y4, y5⟩ := (HX7.out.keep hb8).cells
            clear hb8
            show _
            go_wp2_with fail
            go_at_call 15
            refine (size_any _ _ _ _ _ HV8.out HT8.out).mono ?_
            rintro e w9 ⟨rfl, hb9⟩
            have hz : sizeB (deepV (false :: S)) = 0 := sizeB_none HDOC.out
            rw [hz]
            have HBW9 := Lib.hid (HBW8.out.trans (hb9.mono HBW8.out.size))
            clear hb9
            go_wp2_with fail
            go_ret
            exact ⟨rfl, HBW9.out⟩
end Go.Proofs.YtpiookgkkaafeaaDoor
end
