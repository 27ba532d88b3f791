/- BsonNum, BsonOf, BsonRaw. -/
import Derived.Test.YtdihelpimpkfoaaDoorMg10
import Derived.Test.YtdihelpimpkfoaaDoorMg0
set_option maxRecDepth 100000
section
namespace Go.Proofs.YtdihelpimpkfoaaDoor
open Go.RowKit
open Seal
open Bson (Val Res)
/-- A value that lies in blocks from L on. -/
def ValV (L : Nat) (w : World) (x : Val) (v : Value) : Prop := ∃ h, VIn w (fun g => L ≤ g) h x v
theorem Rdr.alloc {w : World} {gr : Nat} {ba : Option Addr} {bc : Nat} {b : List Nat} {k : Nat} (h : Rdr w gr ba bc b k) (o : Obj) : Rdr (w.alloc o) gr ba bc b k := h.keep ((Below.refl _ w).alloc (Nat.le_refl _) o)
theorem grown_new {w w' : World} {gr B : Nat} (h : w.grownBy w' (some gr)) (hB : w.heap.size ≤ B) (j : Nat) (v : Value) : w.grownBy (w'.setCell ⟨B, j, none⟩ v) (some gr) :=
  ⟨h.os, h.tape, h.output, by simpa using h.size, fun g hg hne => (Below.heap_setCell w' ⟨B, j, none⟩ v g (by show g ≠ B; omega)).trans (h.block g hg hne)⟩
theorem grown_box {w : World} {gr : Nat} (o : Obj) : w.grownBy (w.alloc o) (some gr) := grown_below ((Below.refl _ w).alloc (Nat.le_refl _) o) gr
/-- The six cells of a result, stored one by one. -/
abbrev six (w : World) (B : Nat) (v0 v1 v2 v3 v4 v5 : Value) : World := (((((w.setCell ⟨B, 0, none⟩ v0).setCell ⟨B, 1, none⟩ v1).setCell ⟨B, 2, none⟩ v2).setCell ⟨B, 3, none⟩ v3).setCell ⟨B, 4, none⟩ v4).setCell ⟨B, 5, none⟩ v5
theorem grown_six {w w' : World} {gr B : Nat} (h : w.grownBy w' (some gr)) (hB : w.heap.size ≤ B) (v0 v1 v2 v3 v4 v5 : Value) : w.grownBy (six w' B v0 v1 v2 v3 v4 v5) (some gr) :=
  grown_new (grown_new (grown_new (grown_new (grown_new (grown_new h hB 0 v0) hB 1 v1) hB 2 v2) hB 3 v3) hB 4 v4) hB 5 v5
set_option maxRecDepth 100000 in
set_option maxHeartbeats 1000000 in
theorem number_no (w : World) (gr : Nat) (ba : Option Addr) (bc : Nat) (b : List Nat) (k n : Nat) (kd : Int) (hn : n ≤ 8) (hR : Rdr w gr ba bc b k) (h : b.length < k + n) :
    Calls Tryd.prog 67 #[.pointer (some ⟨gr, 0, none⟩), .int .i64 kd, .int .i64 (n : Int)] w (ErrPost zeroV w gr 2) := by
  have hT := Lib.hid (take_no _ gr ba bc b k n (hR.alloc (.cells #[.int .i64 0, .int .i64 0, .string ⟨#[]⟩, .slice none 0 0, .slice none 0 0, .slice none 0 0] 28 (0, 0))) (by omega) h)
  clear h hR
  go_enter Tryd.func67, Tryd.ntmps67
  go_wp2_with fail
  refine hT.out.mono ?_
  rintro e w' ⟨rfl, q, rfl⟩
  go_wp2_with fail
  exact bodyPost_ret (v := .tuple #[zeroV, .int .i64 2]) (by simp [results, Tryd.results67, go_sem, zeroV]) rfl ⟨rfl, grown_six (grown_trans (grown_box _) (grown_drewN _ q gr)) (Nat.le_refl _) _ _ _ _ _ _⟩
/-- A value without parts of its own in memory. -/
theorem vin_flat (L : Nat) (w : World) (k n : Int) (s : ByteArray) (hk0 : -9223372036854775808 ≤ k) (hk1 : k ≤ 9223372036854775807) (hn0 : -9223372036854775808 ≤ n) (hn1 : n ≤ 9223372036854775807) (hs : s.size ≤ 140737488355328) :
    ValV L w (.mk k n s [] [] []) (.agg #[.int .i64 k, .int .i64 n, .string s, .slice none 0 0, .slice none 0 0, .slice none 0 0]) :=
  ⟨1, none, none, none, 0, 0, 0, rfl, ⟨hk0, hk1, hn0, hn1, hs, by show (0 : Nat) ≤ _; omega, by show (0 : Nat) ≤ _; omega, by show (0 : Nat) ≤ _; omega, fun c hc => by cases hc⟩, ⟨Nat.le_refl _, by omega⟩, ⟨Nat.le_refl _, by omega⟩, ⟨Nat.le_refl _, by omega⟩, .inl rfl, .inl rfl, .inl rfl⟩
/-- A reader behind the six stores of a result. -/
theorem Rdr.six {w : World} {gr : Nat} {ba : Option Addr} {bc : Nat} {b : List Nat} {k : Nat} (h : Rdr w gr ba bc b k) {B : Nat} (hB : B ≠ gr) (hu : ∀ (g o : Nat) (x : Int), w.cell? ⟨g, o, none⟩ = some (Value.int .u8 x) → g ≠ B) (v0 v1 v2 v3 v4 v5 : Value) : Rdr (six w B v0 v1 v2 v3 v4 v5) gr ba bc b k := by
  have e : ∀ g, g ≠ B → (Go.Proofs.YtdihelpimpkfoaaDoor.six w B v0 v1 v2 v3 v4 v5).heap[g]? = w.heap[g]? := by
    intro g hg
    have s1 : ∀ (w : World) (j : Nat) (v : Value), (w.setCell ⟨B, j, none⟩ v).heap[g]? = w.heap[g]? := fun w j v => Below.heap_setCell w ⟨B, j, none⟩ v g hg
    unfold Go.Proofs.YtdihelpimpkfoaaDoor.six
    rw [s1, s1, s1, s1, s1, s1]
  refine ⟨(e gr (fun h => hB h.symm)).trans h.blk, ?_, h.le, h.len, h.cap, h.max, h.oct⟩
  rcases h.rd with h0 | ⟨g, o, ea, hr⟩
  · exact .inl h0
  · refine .inr ⟨g, o, ea, fun j hj => ?_⟩
    have h1 := hr j hj
    exact (World.cell?_of_block (a := ⟨g, o + j, none⟩) (e g (hu _ _ _ h1))).trans h1
/-- No byte lies in a block that holds none. -/
theorem no_byte {w : World} {B : Nat} {cs : Array Value} {t : TypeId} (h : w.heap[B]? = some (.cells cs t (0, 0))) (hc : ∀ (j : Nat) (x : Int), cs[j]? ≠ some (Value.int .u8 x)) : ∀ (g o : Nat) (x : Int), w.cell? ⟨g, o, none⟩ = some (Value.int .u8 x) → g ≠ B := by
  rintro g o x hx rfl
  rw [cell_of_row w g o cs t (0, 0) h] at hx
  exact hc _ _ hx
/-- The box of a result, as it is laid. -/
abbrev zeroCs : Array Value := #[.int .i64 0, .int .i64 0, .string ⟨#[]⟩, .slice none 0 0, .slice none 0 0, .slice none 0 0]
theorem zero_no_byte (j : Nat) (x : Int) : (zeroCs)[j]? ≠ some (Value.int .u8 x) := by
  match j with
  | 0 => simp
  | 1 => simp
  | 2 => simp
  | 3 => simp
  | 4 => simp
  | 5 => simp
  | j + 6 => simp
/-- In w' the box that was laid behind w still holds nothing. -/
def Fresh (w w' : World) : Prop := w'.heap[w.heap.size]? = some (.cells zeroCs 28 (0, 0))
theorem Fresh.new (w : World) : Fresh w (w.alloc (.cells zeroCs 28 (0, 0))) := heap_alloc_new w _
theorem Fresh.grown {w w0 w' : World} {gr : Nat} (h : Fresh w w0) (hg : w0.grownBy w' (some gr)) (hl : gr < w.heap.size) : Fresh w w' :=
  (hg.block w.heap.size (by have := World.block_lt_of_cell? w0 ⟨w.heap.size, 0, none⟩ ((cell_of_row w0 _ 0 _ _ _ h).trans rfl); exact this) (fun e => by have := Option.some.inj e; omega)).trans h
theorem Fresh.cells {w w' : World} (h : Fresh w w') : ∀ (j : Nat) (v : Value), (zeroCs)[j]? = some v → w'.cell? ⟨w.heap.size, j, none⟩ = some v ∧ w'.frozen? ⟨w.heap.size, j, none⟩ = false :=
  fun j _ hv => ⟨(cell_of_row w' _ j _ _ _ h).trans hv, frozen_of_row w' _ j _ _ h⟩
theorem Fresh.no_byte {w w' : World} (h : Fresh w w') : ∀ (g o : Nat) (x : Int), w'.cell? ⟨g, o, none⟩ = some (Value.int .u8 x) → g ≠ w.heap.size := Go.Proofs.YtdihelpimpkfoaaDoor.no_byte h zero_no_byte
theorem fin_ok {w w' : World} {gr : Nat} {ba : Option Addr} {bc : Nat} {b : List Nat} {k' : Nat} {x : Val} {r : List Nat} (hlt : gr < w.heap.size) (hF : Fresh w w') (hR : Rdr w' gr ba bc b k') (hg : w.grownBy w' (some gr)) (v0 v1 v2 v3 v4 v5 : Value)
    (hV : ValV w.heap.size (six w' w.heap.size v0 v1 v2 v3 v4 v5) x (.agg #[v0, v1, v2, v3, v4, v5])) (hr : r = b.drop k') : OkPost (ValV w.heap.size) w gr ba bc b x r (.returned (.tuple #[.agg #[v0, v1, v2, v3, v4, v5], .int .i64 0])) (six w' w.heap.size v0 v1 v2 v3 v4 v5) :=
  ⟨_, k', rfl, hV, hr, hR.six (by omega) hF.no_byte _ _ _ _ _ _, grown_six hg (Nat.le_refl _) _ _ _ _ _ _⟩
theorem fin_err {w w' : World} {gr n : Nat} (hg : w.grownBy w' (some gr)) (v0 v1 v2 v3 v4 v5 : Value) (hz : zeroV = .agg #[v0, v1, v2, v3, v4, v5]) : ErrPost zeroV w gr n (.returned (.tuple #[.agg #[v0, v1, v2, v3, v4, v5], .int .i64 (n : Int)])) (six w' w.heap.size v0 v1 v2 v3 v4 v5) :=
  ⟨by rw [hz], grown_six hg (Nat.le_refl _) _ _ _ _ _ _⟩
theorem in64 {n : Nat} {sg : Int} (hn : n = 1 ∨ n = 4 ∨ n = 8) (hsb : -((256 ^ n / 2 : Nat) : Int) ≤ sg ∧ sg < ((256 ^ n / 2 : Nat) : Int)) : -9223372036854775808 ≤ sg ∧ sg ≤ 9223372036854775807 := by
  rcases hn with rfl | rfl | rfl <;> simp only [Nat.reducePow, Nat.reduceDiv] at hsb <;> omega
set_option maxRecDepth 100000 in
set_option maxHeartbeats 1000000 in
theorem number_yes (w : World) (gr : Nat) (ba : Option Addr) (bc : Nat) (b : List Nat) (k n : Nat) (kd : Int) (hn : n = 1 ∨ n = 4 ∨ n = 8) (hk0 : -9223372036854775808 ≤ kd) (hk1 : kd ≤ 9223372036854775807) (hR : Rdr w gr ba bc b k) (h : k + n ≤ b.length) :
    Calls Tryd.prog 67 #[.pointer (some ⟨gr, 0, none⟩), .int .i64 kd, .int .i64 (n : Int)] w (OkPost (ValV w.heap.size) w gr ba bc b (.mk kd (Bson.signed ((b.drop k).take n)) Bson.none_ [] [] []) (b.drop (k + n))) := by
  have hT := Lib.hid (take_yes _ gr ba bc b k n (hR.alloc (.cells zeroCs 28 (0, 0))) h)
  have hlt := hR.lt
  have hxn : ((b.drop k).take n).length = n := by simp; omega
  have hon := oct_take hR.oct k n
  have hS := Lib.hid (fun w a c hs => signed_any w a n c ((b.drop k).take n) hxn hn hon hs)
  have hsb := (Bson.signed_bd _ hon).resolve_right (fun e => by rw [e] at hxn; simp at hxn; omega)
  rw [hxn] at hsb
  have hsb' := in64 hn hsb
  clear hsb
  generalize Bson.signed ((b.drop k).take n) = sg at *
  clear h hR hxn hon hn
  go_enter Tryd.func67, Tryd.ntmps67
  go_wp2_with fail
  refine hT.out.mono ?_
  rintro e w' ⟨a, c, rfl, hc0, hc1, hs, hR', hg⟩
  have HSS := Lib.hid (hS.out w' a c hs)
  have HF := Lib.hid ((Fresh.new w).grown hg hlt)
  have HG := Lib.hid (grown_trans (grown_box _) hg)
  have HR' := Lib.hid hR'
  clear hs hR' hg
  go_wp2_with fail
  refine HSS.out.mono ?_
  rintro e w'' ⟨rfl, rfl⟩
  obtain ⟨d0, f0⟩ := HF.out.cells 0 _ rfl
  obtain ⟨d1, f1⟩ := HF.out.cells 1 _ rfl
  obtain ⟨d2, f2⟩ := HF.out.cells 2 _ rfl
  obtain ⟨d3, f3⟩ := HF.out.cells 3 _ rfl
  obtain ⟨d4, f4⟩ := HF.out.cells 4 _ rfl
  obtain ⟨d5, f5⟩ := HF.out.cells 5 _ rfl
  go_wp2_with fail
  exact bodyPost_ret (v := .tuple #[.agg #[.int .i64 kd, .int .i64 sg, .string ⟨#[]⟩, .slice none 0 0, .slice none 0 0, .slice none 0 0], .int .i64 0]) (by simp [results, Tryd.results67, go_sem, *]) rfl (fin_ok hlt HF.out HR'.out HG.out _ _ _ _ _ _ (vin_flat _ _ kd sg ⟨#[]⟩ hk0 hk1 hsb'.1 hsb'.2 (by decide)) rfl)
/-- A value that a callee made, behind the six stores of the result. -/
theorem ValV.stored {w w' : World} {x : Val} {v : Value} (h : ValV (w.heap.size + 1) w' x v) : ∃ (q1 q2 : Int) (q3 : ByteArray) (a1 : Option Addr) (n1 c1 : Nat) (a2 : Option Addr) (n2 c2 : Nat) (a3 : Option Addr) (n3 c3 : Nat), v = .agg #[.int .i64 q1, .int .i64 q2, .string q3, .slice a1 n1 c1, .slice a2 n2 c2, .slice a3 n3 c3] ∧ ∀ u0 u1 u2 u3 u4 u5, ValV w.heap.size (six w' w.heap.size u0 u1 u2 u3 u4 u5) x (.agg #[.int .i64 q1, .int .i64 q2, .string q3, .slice a1 n1 c1, .slice a2 n2 c2, .slice a3 n3 c3]) := by
  obtain ⟨h, hv⟩ := h
  cases h with
  | zero => exact hv.elim
  | succ h =>
    have hv' := hv
    obtain ⟨ba, fa, la, bc, fc, lc, rfl, _⟩ := hv'
    refine ⟨_, _, _, _, _, _, _, _, _, _, _, _, rfl, fun u0 u1 u2 u3 u4 u5 => ⟨h + 1, VIn.kept (Q := fun g => w.heap.size + 1 ≤ g) (fun g hg _ => ?_) (fun g (hg : w.heap.size + 1 ≤ g) => by show w.heap.size ≤ g; omega) hv⟩⟩
    have hne : g ≠ w.heap.size := by have h1 : w.heap.size + 1 ≤ g := hg; omega
    have s1 : ∀ (w' : World) (j : Nat) (v : Value), (w'.setCell ⟨w.heap.size, j, none⟩ v).heap[g]? = w'.heap[g]? := fun w' j v => Below.heap_setCell w' ⟨w.heap.size, j, none⟩ v g hne
    unfold six
    rw [s1, s1, s1, s1, s1, s1]
theorem ValV.less {L L' : Nat} {w : World} {x : Val} {v : Value} (h : ValV L w x v) (hl : L' ≤ L) : ValV L' w x v := h.imp fun _ hv => VIn.kept (Q := fun g => L ≤ g) (fun _ _ _ => rfl) (fun _ (hg : L ≤ _) => Nat.le_trans hl hg) hv
theorem ValV.stored_at {w w' : World} {x : Val} {v : Value} (h : ValV (w.heap.size + 1) w' x v) (u0 u1 u2 u3 u4 u5 : Value) : ValV w.heap.size (six w' w.heap.size u0 u1 u2 u3 u4 u5) x v := by
  obtain ⟨q1, q2, q3, a1, n1, c1, a2, n2, c2, a3, n3, c3, rfl, hS⟩ := ValV.stored h
  exact hS _ _ _ _ _ _
theorem ValV.keep {L : Nat} {w w' : World} {x : Val} {v : Value} (h : ValV L w x v) (hb : Below w.heap.size w w') : ValV L w' x v := h.imp fun _ hv => hv.keep hb
theorem ValV.alloc {L : Nat} {w : World} {x : Val} {v : Value} (h : ValV L w x v) (o : Obj) : ValV L (w.alloc o) x v := h.keep ((Below.refl _ w).alloc (Nat.le_refl _) o)
end Go.Proofs.YtdihelpimpkfoaaDoor
end
section
namespace Go.Proofs.YtdihelpimpkfoaaDoor
open Go.RowKit
open Seal
open Bson (Val)
/-- The method that reads a value of a code. -/
def fnOf (c : Nat) : Option Nat :=
  if c = 1 then some 48 else if c = 2 then some 49 else if c = 3 then some 15 else if c = 4 then some 50 else if c = 5 then some 51 else if c = 7 then some 52 else if c = 8 then some 53 else if c = 9 then some 54 else if c = 10 then some 55 else if c = 16 then some 56 else if c = 18 then some 57 else if c = 19 then some 58 else if c = 127 then some 59 else if c = 255 then some 60 else none
/-- A function as a value. -/
def fnV : Option Nat → Value
  | some f => .func (.func f) #[] #[]
  | none => .nilFunc
theorem fnOf_cases {c f : Nat} (h : fnOf c = some f) : (c = 1 ∧ f = 48) ∨ (c = 2 ∧ f = 49) ∨ (c = 3 ∧ f = 15) ∨ (c = 4 ∧ f = 50) ∨ (c = 5 ∧ f = 51) ∨ (c = 7 ∧ f = 52) ∨ (c = 8 ∧ f = 53) ∨ (c = 9 ∧ f = 54) ∨ (c = 10 ∧ f = 55) ∨ (c = 16 ∧ f = 56) ∨ (c = 18 ∧ f = 57) ∨ (c = 19 ∧ f = 58) ∨ (c = 127 ∧ f = 59) ∨ (c = 255 ∧ f = 60) := by
  by_cases hc : c = 1 ∨ c = 2 ∨ c = 3 ∨ c = 4 ∨ c = 5 ∨ c = 7 ∨ c = 8 ∨ c = 9 ∨ c = 10 ∨ c = 16 ∨ c = 18 ∨ c = 19 ∨ c = 127 ∨ c = 255
  · rcases hc with rfl | rfl | rfl | rfl | rfl | rfl | rfl | rfl | rfl | rfl | rfl | rfl | rfl | rfl
    all_goals
      obtain rfl := Option.some.inj h
      simp
  · exfalso
    unfold fnOf at h
    simp only [not_or] at hc
    obtain ⟨h0, h1, h2, h3, h4, h5, h6, h7, h8, h9, h10, h11, h12, h13⟩ := hc
    simp [h0, h1, h2, h3, h4, h5, h6, h7, h8, h9, h10, h11, h12, h13] at h
theorem fnOf_known {c : Nat} : Bson.known c = (fnOf c).isSome := by
  by_cases hc : c = 1 ∨ c = 2 ∨ c = 3 ∨ c = 4 ∨ c = 5 ∨ c = 7 ∨ c = 8 ∨ c = 9 ∨ c = 10 ∨ c = 16 ∨ c = 18 ∨ c = 19 ∨ c = 127 ∨ c = 255
  · rcases hc with rfl | rfl | rfl | rfl | rfl | rfl | rfl | rfl | rfl | rfl | rfl | rfl | rfl | rfl <;> rfl
  · unfold Bson.known fnOf
    simp only [not_or] at hc
    obtain ⟨h0, h1, h2, h3, h4, h5, h6, h7, h8, h9, h10, h11, h12, h13⟩ := hc
    simp [h0, h1, h2, h3, h4, h5, h6, h7, h8, h9, h10, h11, h12, h13]
set_option maxRecDepth 100000 in
set_option maxHeartbeats 1000000 in
theorem readingOf_any (c : Nat) (w : World) : Calls Tryd.prog 44 #[.int .u8 (c : Int)] w fun e w' => e = .returned (fnV (fnOf c)) ∧ w = w' := by
  by_cases hc : c = 1 ∨ c = 2 ∨ c = 3 ∨ c = 4 ∨ c = 5 ∨ c = 7 ∨ c = 8 ∨ c = 9 ∨ c = 10 ∨ c = 16 ∨ c = 18 ∨ c = 19 ∨ c = 127 ∨ c = 255
  · rcases hc with rfl | rfl | rfl | rfl | rfl | rfl | rfl | rfl | rfl | rfl | rfl | rfl | rfl | rfl
    all_goals
      go_enter Tryd.func44, Tryd.ntmps44
      go_wp2_with fail
      go_ret
      exact ⟨rfl, rfl⟩
  · have hn : fnOf c = none := by
      unfold fnOf
      simp only [not_or] at hc
      obtain ⟨h0, h1, h2, h3, h4, h5, h6, h7, h8, h9, h10, h11, h12, h13⟩ := hc
      simp [h0, h1, h2, h3, h4, h5, h6, h7, h8, h9, h10, h11, h12, h13]
    rw [hn]
    simp only [not_or] at hc
    obtain ⟨h0, h1, h2, h3, h4, h5, h6, h7, h8, h9, h10, h11, h12, h13⟩ := hc
    have g0 : ((c : Int) == 1) = false := by rw [beq_eq_false_iff_ne]; omega
    have k0 : ¬ (c : Int) = 1 := by omega
    have g1 : ((c : Int) == 2) = false := by rw [beq_eq_false_iff_ne]; omega
    have k1 : ¬ (c : Int) = 2 := by omega
    have g2 : ((c : Int) == 3) = false := by rw [beq_eq_false_iff_ne]; omega
    have k2 : ¬ (c : Int) = 3 := by omega
    have g3 : ((c : Int) == 4) = false := by rw [beq_eq_false_iff_ne]; omega
    have k3 : ¬ (c : Int) = 4 := by omega
    have g4 : ((c : Int) == 5) = false := by rw [beq_eq_false_iff_ne]; omega
    have k4 : ¬ (c : Int) = 5 := by omega
    have g5 : ((c : Int) == 7) = false := by rw [beq_eq_false_iff_ne]; omega
    have k5 : ¬ (c : Int) = 7 := by omega
    have g6 : ((c : Int) == 8) = false := by rw [beq_eq_false_iff_ne]; omega
    have k6 : ¬ (c : Int) = 8 := by omega
    have g7 : ((c : Int) == 9) = false := by rw [beq_eq_false_iff_ne]; omega
    have k7 : ¬ (c : Int) = 9 := by omega
    have g8 : ((c : Int) == 10) = false := by rw [beq_eq_false_iff_ne]; omega
    have k8 : ¬ (c : Int) = 10 := by omega
    have g9 : ((c : Int) == 16) = false := by rw [beq_eq_false_iff_ne]; omega
    have k9 : ¬ (c : Int) = 16 := by omega
    have g10 : ((c : Int) == 18) = false := by rw [beq_eq_false_iff_ne]; omega
    have k10 : ¬ (c : Int) = 18 := by omega
    have g11 : ((c : Int) == 19) = false := by rw [beq_eq_false_iff_ne]; omega
    have k11 : ¬ (c : Int) = 19 := by omega
    have g12 : ((c : Int) == 127) = false := by rw [beq_eq_false_iff_ne]; omega
    have k12 : ¬ (c : Int) = 127 := by omega
    have g13 : ((c : Int) == 255) = false := by rw [beq_eq_false_iff_ne]; omega
    have k13 : ¬ (c : Int) = 255 := by omega
    go_enter Tryd.func44, Tryd.ntmps44
    go_wp2_with fail
    go_ret
    exact ⟨rfl, rfl⟩
/-- The call of such a method by its value. -/
theorem callF {c f : Nat} (h : fnOf c = some f) (args : Array Value) (w : World) : (callFunc f args).run Tryd.prog w = .ok (.enter f args) w := by
  rcases fnOf_cases h with ⟨-, rfl⟩ | ⟨-, rfl⟩ | ⟨-, rfl⟩ | ⟨-, rfl⟩ | ⟨-, rfl⟩ | ⟨-, rfl⟩ | ⟨-, rfl⟩ | ⟨-, rfl⟩ | ⟨-, rfl⟩ | ⟨-, rfl⟩ | ⟨-, rfl⟩ | ⟨-, rfl⟩ | ⟨-, rfl⟩ | ⟨-, rfl⟩
  all_goals kernel_rfl
end Go.Proofs.YtdihelpimpkfoaaDoor
end
section
namespace Go.Proofs.YtdihelpimpkfoaaDoor
open Go.RowKit
open Seal
open Bson (Val Res)
theorem infoU8 : (Tryd.prog.info? 5).map (fun i => (i.zero, i.size, i.bytes)) = some (some (.int .u8 0), 1, 1) := by kernel_rfl
theorem SliceIs.src {w : World} {a : Option Addr} {l : List Nat} (h : SliceIs w a l) : Src w a l.length (u8s l) := by
  rcases h with rfl | ⟨g, o, rfl, h⟩
  · exact ⟨fun _ => rfl, fun ad _ j u hu => by simp [u8s] at hu⟩
  · refine ⟨fun e => (by cases e), fun ad e j u hu => ?_⟩
    obtain rfl := Option.some.inj e
    have hj : j < l.length := by
      by_cases hj : j < l.length
      · exact hj
      · simp [u8s, List.getElem?_eq_none (show l.length ≤ j by omega)] at hu
    have h1 := h j hj
    have e1 : (⟨g, o, none⟩ : Addr).add j = ⟨g, o + j, none⟩ := by unfold Addr.add; split <;> simp_all
    rw [e1, h1]
    simp [u8s, u8, List.getElem?_eq_getElem hj] at hu
    rw [← hu, List.getD_eq_getElem?_getD, List.getElem?_eq_getElem hj]; rfl
theorem Src.drew {w : World} {a : Option Addr} {m : Nat} {news : List Value} (h : Src w a m news) : Src w.drew a m news := h
theorem u8s_one (l : List Nat) : ∀ u ∈ u8s l, u.oneCell' = true := by
  intro u hu
  obtain ⟨x, _, rfl⟩ := List.mem_map.1 hu
  rfl
/-- A row of bytes that was made is a part of a value. -/
theorem bytes_of_row {w : World} {L : Nat} {v : Value} {l : List Nat} (h : w.ownsRow L 5 1 v l.length (u8s l)) : ∃ a c, v = .slice a l.length c ∧ l.length ≤ c ∧ c ≤ 9223372036854775807 ∧ BytesIn w (fun g => L ≤ g) a l := by
  rcases h.2 with ⟨rfl, h0⟩ | ⟨g, cap, cur, rfl, hbg, hg, hnc, hcm, hcs, htake⟩
  · have hl : l = [] := List.eq_nil_of_length_eq_zero h0
    subst hl
    exact ⟨none, 0, rfl, Nat.le_refl _, by omega, .inl rfl⟩
  · have hcm' : cap ≤ 9223372036854775807 := hcm
    refine ⟨_, cap, rfl, hnc, hcm', .inr ⟨g, 0, rfl, hbg, fun j hj => ?_⟩⟩
    have := h.cells (g := g) rfl j (.int .u8 ((l.getD j 0 : Nat) : Int)) (by simp [u8s, u8, List.getElem?_eq_getElem hj, List.getD_eq_getElem?_getD])
    have e1 : (⟨g, 0, none⟩ : Addr).add j = ⟨g, 0 + j, none⟩ := by unfold Addr.add; split <;> simp_all
    rw [e1] at this
    exact this
/-- A value of bytes, behind the six stores of the result. -/
theorem bytes_stored {w w' : World} (kd : Int) (l : List Nat) (a : Option Addr) (c : Nat) (hk0 : -9223372036854775808 ≤ kd) (hk1 : kd ≤ 9223372036854775807) (ho : Oct l) (hn : l.length ≤ 65536) (hc : l.length ≤ c) (hm : c ≤ 9223372036854775807)
    (hB : BytesIn w' (fun g => w.heap.size + 1 ≤ g) a l) (u0 u1 u2 u3 u4 u5 : Value) : ValV w.heap.size (six w' w.heap.size u0 u1 u2 u3 u4 u5) (.mk kd 0 Bson.none_ l [] []) (.agg #[.int .i64 kd, .int .i64 0, .string ⟨#[]⟩, .slice a l.length c, .slice none 0 0, .slice none 0 0]) := by
  have hV : ValV (w.heap.size + 1) w' (.mk kd 0 Bson.none_ l [] []) (.agg #[.int .i64 kd, .int .i64 0, .string ⟨#[]⟩, .slice a l.length c, .slice none 0 0, .slice none 0 0]) :=
    ⟨1, a, none, none, c, 0, 0, rfl, ⟨hk0, hk1, by show (-9223372036854775808 : Int) ≤ 0; omega, by show (0 : Int) ≤ _; omega, by show (0 : Nat) ≤ _; omega, by show l.length ≤ _; omega, by show (0 : Nat) ≤ _; omega, by show (0 : Nat) ≤ _; omega, ho⟩, ⟨hc, hm⟩, ⟨Nat.le_refl _, by omega⟩, ⟨Nat.le_refl _, by omega⟩, hB, .inl rfl, .inl rfl⟩
  obtain ⟨q1, q2, q3, a1, n1, c1, a2, n2, c2, a3, n3, c3, e, h⟩ := hV.stored
  rw [e]
  exact h _ _ _ _ _ _
set_option maxRecDepth 100000 in
set_option maxHeartbeats 1000000 in
theorem raw_no (w : World) (gr : Nat) (ba : Option Addr) (bc : Nat) (b : List Nat) (k n : Nat) (kd : Int) (hn : n ≤ 2147483647) (hR : Rdr w gr ba bc b k) (h : b.length < k + n) :
    Calls Tryd.prog 66 #[.pointer (some ⟨gr, 0, none⟩), .int .i64 kd, .int .i64 (n : Int)] w (ErrPost zeroV w gr 2) := by
  have hT := Lib.hid (take_no _ gr ba bc b k n (hR.alloc (.cells zeroCs 28 (0, 0))) hn h)
  clear h hR
  go_enter Tryd.func66, Tryd.ntmps66
  go_wp2_with fail
  refine hT.out.mono ?_
  rintro e w' ⟨rfl, q, rfl⟩
  go_wp2_with fail
  exact bodyPost_ret (v := .tuple #[zeroV, .int .i64 2]) (by simp [results, Tryd.results66, go_sem, zeroV]) rfl (fin_err (grown_trans (grown_box _) (grown_drewN _ q gr)) _ _ _ _ _ _ rfl)
set_option maxRecDepth 100000 in
set_option maxHeartbeats 1000000 in
theorem raw_yes (w : World) (gr : Nat) (ba : Option Addr) (bc : Nat) (b : List Nat) (k n : Nat) (kd : Int) (hk0 : -9223372036854775808 ≤ kd) (hk1 : kd ≤ 9223372036854775807) (hR : Rdr w gr ba bc b k) (h : k + n ≤ b.length) :
    Calls Tryd.prog 66 #[.pointer (some ⟨gr, 0, none⟩), .int .i64 kd, .int .i64 (n : Int)] w (OkPost (ValV w.heap.size) w gr ba bc b (.mk kd 0 Bson.none_ ((b.drop k).take n) [] []) (b.drop (k + n))) := by
  obtain ⟨i0, hi, hz0, hz1, hz2⟩ := info_parts infoU8
  have hT := Lib.hid (take_yes _ gr ba bc b k n (hR.alloc (.cells zeroCs 28 (0, 0))) h)
  have hlt := hR.lt
  have hlen := hR.len
  have hxn : ((b.drop k).take n).length = n := by simp; omega
  have hon := oct_take hR.oct k n
  have hn : n ≤ 65536 := by omega
  obtain ⟨l, hle⟩ : ∃ l, l = (b.drop k).take n := ⟨_, rfl⟩
  rw [← hle] at hxn hon ⊢
  have HLE := Lib.hid hle
  clear hle
  have HX := Lib.hid hxn
  have HO := Lib.hid hon
  clear h hR hxn hon
  go_enter Tryd.func66, Tryd.ntmps66
  go_wp2_with fail
  refine hT.out.mono ?_
  rintro e w' ⟨a, c, rfl, hc0, hc1, hs, hR', hg⟩
  rw [← HLE.out] at hs
  have HF := Lib.hid ((Fresh.new w).grown hg hlt)
  have HG := Lib.hid (grown_trans (grown_box _) hg)
  have HS := Lib.hid (SliceIs.src hs)
  have HR' := Lib.hid hR'
  have hsz := hg.size
  rw [show (w.alloc (.cells zeroCs 28 (0, 0))).heap.size = w.heap.size + 1 by simp] at hsz
  have hsrc : Hid (Src w' a n (u8s l)) := by have h := HS.out; rw [HX.out] at h; exact h
  have hul : Hid ((u8s l).length = n * 1) := by show _ = _; simp [u8s, HX.out]
  have h63 : Hid (0 + n ≤ maxLen) := by show _ ≤ _; unfold maxLen; omega
  have h47 : Hid ((0 + n) * 1 ≤ 140737488355328) := by show _ ≤ _; omega
  clear hs hR' hg
  clear HS
  go_wp2_with (at_builtin; refine wpList_src rfl (.const (.slice none 0 0)) (.tmp 21) 22 rfl (w.heap.size + 1) 5 i0 (.int .u8 0) 1 1 Tryd.underlying22 hi hz0 hz1 hz2 rfl (by decide) (.slice none 0 0) 0 [] rfl (World.ownsRow_nil _ _ _ _) a n c (u8s l) rfl hsrc.out hul.out (u8s_one l) h63.out h47.out hsz ?_; intro v' w2 hown hgrow
               have hown2 : w2.ownsRow (w.heap.size + 1) 5 1 v' l.length (u8s l) := by rw [HX.out]; simpa using hown
               obtain ⟨a2, c2, rfl, hc2, hc2m, hB⟩ := bytes_of_row hown2
               have hb2 : Below w'.heap.size w' w2 := ⟨hgrow.os, hgrow.tape, hgrow.output, hgrow.size, fun g hg => hgrow.block g hg (by simp [Value.ownBlock])⟩
               have HF2 := Lib.hid (HF.out.grown (grown_below hb2 gr) hlt)
               have HG2 := Lib.hid (grown_trans HG.out (grown_below hb2 gr))
               have HR2 := Lib.hid (HR'.out.keep hb2)
               have HB := Lib.hid hB
               have HC2 := Lib.hid hc2
               clear hown hgrow hown2 hb2 hB hc2
               obtain ⟨d0, f0⟩ := HF2.out.cells 0 _ rfl
               obtain ⟨d1, f1⟩ := HF2.out.cells 1 _ rfl
               obtain ⟨d2, f2⟩ := HF2.out.cells 2 _ rfl
               obtain ⟨d3, f3⟩ := HF2.out.cells 3 _ rfl
               obtain ⟨d4, f4⟩ := HF2.out.cells 4 _ rfl
               obtain ⟨d5, f5⟩ := HF2.out.cells 5 _ rfl)
  exact bodyPost_ret (v := .tuple #[.agg #[.int .i64 kd, .int .i64 0, .string ⟨#[]⟩, .slice a2 l.length c2, .slice none 0 0, .slice none 0 0], .int .i64 0]) (by simp [results, Tryd.results66, go_sem, *]) rfl (fin_ok hlt HF2.out HR2.out HG2.out _ _ _ _ _ _
    (bytes_stored kd l a2 c2 hk0 hk1 HO.out (by have := HX.out; omega) HC2.out hc2m HB.out _ _ _ _ _ _) rfl)
end Go.Proofs.YtdihelpimpkfoaaDoor
end
