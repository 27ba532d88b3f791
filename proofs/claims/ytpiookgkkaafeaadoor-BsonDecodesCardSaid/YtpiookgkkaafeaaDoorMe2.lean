/- RefRValN, RefRValB, RefRValD, RefRValL, RefRVal, RefRDMem. -/
import Derived.Test.YtpiookgkkaafeaaDoorMe1
import Derived.Test.YtpiookgkkaafeaaDoorMg10
import Derived.Test.YtpiookgkkaafeaaDoorMg33
set_option maxRecDepth 100000
section
namespace Go.Proofs.YtpiookgkkaafeaaDoor
open Go.RowKit
open Seal
open Bson (Val Res)
theorem box_six (w : World) (B : Nat) (t : TypeId) (u0 u1 u2 u3 u4 u5 v0 v1 v2 v3 v4 v5 : Value) (h : w.heap[B]? = some (.cells #[u0, u1, u2, u3, u4, u5] t (0, 0))) : (six w B v0 v1 v2 v3 v4 v5).heap[B]? = some (.cells #[v0, v1, v2, v3, v4, v5] t (0, 0)) := by
  have h0 : (w.setCell ⟨B, 0, none⟩ v0).heap[B]? = some (.cells #[v0, u1, u2, u3, u4, u5] t (0, 0)) := by rw [heap_setCell_same w B 0 _ _ _ h]; rfl
  have h1 : ((w.setCell ⟨B, 0, none⟩ v0).setCell ⟨B, 1, none⟩ v1).heap[B]? = some (.cells #[v0, v1, u2, u3, u4, u5] t (0, 0)) := by rw [heap_setCell_same (w.setCell ⟨B, 0, none⟩ v0) B 1 _ _ _ h0]; rfl
  have h2 : (((w.setCell ⟨B, 0, none⟩ v0).setCell ⟨B, 1, none⟩ v1).setCell ⟨B, 2, none⟩ v2).heap[B]? = some (.cells #[v0, v1, v2, u3, u4, u5] t (0, 0)) := by rw [heap_setCell_same ((w.setCell ⟨B, 0, none⟩ v0).setCell ⟨B, 1, none⟩ v1) B 2 _ _ _ h1]; rfl
  have h3 : ((((w.setCell ⟨B, 0, none⟩ v0).setCell ⟨B, 1, none⟩ v1).setCell ⟨B, 2, none⟩ v2).setCell ⟨B, 3, none⟩ v3).heap[B]? = some (.cells #[v0, v1, v2, v3, u4, u5] t (0, 0)) := by rw [heap_setCell_same (((w.setCell ⟨B, 0, none⟩ v0).setCell ⟨B, 1, none⟩ v1).setCell ⟨B, 2, none⟩ v2) B 3 _ _ _ h2]; rfl
  have h4 : (((((w.setCell ⟨B, 0, none⟩ v0).setCell ⟨B, 1, none⟩ v1).setCell ⟨B, 2, none⟩ v2).setCell ⟨B, 3, none⟩ v3).setCell ⟨B, 4, none⟩ v4).heap[B]? = some (.cells #[v0, v1, v2, v3, v4, u5] t (0, 0)) := by rw [heap_setCell_same ((((w.setCell ⟨B, 0, none⟩ v0).setCell ⟨B, 1, none⟩ v1).setCell ⟨B, 2, none⟩ v2).setCell ⟨B, 3, none⟩ v3) B 4 _ _ _ h3]; rfl
  have h5 : ((((((w.setCell ⟨B, 0, none⟩ v0).setCell ⟨B, 1, none⟩ v1).setCell ⟨B, 2, none⟩ v2).setCell ⟨B, 3, none⟩ v3).setCell ⟨B, 4, none⟩ v4).setCell ⟨B, 5, none⟩ v5).heap[B]? = some (.cells #[v0, v1, v2, v3, v4, v5] t (0, 0)) := by rw [heap_setCell_same (((((w.setCell ⟨B, 0, none⟩ v0).setCell ⟨B, 1, none⟩ v1).setCell ⟨B, 2, none⟩ v2).setCell ⟨B, 3, none⟩ v3).setCell ⟨B, 4, none⟩ v4) B 5 _ _ _ h4]; rfl
  exact h5
theorem fresh_six {w w' : World} (h : Fresh w w') {B : Nat} (hB : B ≠ w.heap.size) (v0 v1 v2 v3 v4 v5 : Value) : Fresh w (six w' B v0 v1 v2 v3 v4 v5) := by
  have s1 : ∀ (w' : World) (j : Nat) (v : Value), (w'.setCell ⟨B, j, none⟩ v).heap[w.heap.size]? = w'.heap[w.heap.size]? := fun w' j v => Below.heap_setCell w' ⟨B, j, none⟩ v w.heap.size (by exact fun e => hB e.symm)
  show (Go.Proofs.YtpiookgkkaafeaaDoor.six w' B v0 v1 v2 v3 v4 v5).heap[w.heap.size]? = _
  unfold Go.Proofs.YtpiookgkkaafeaaDoor.six
  rw [s1, s1, s1, s1, s1, s1]; exact h
theorem nb8 {q1 q2 : Int} {q3 : ByteArray} {a1 a2 a3 : Option Addr} {n1 n2 n3 c1 c2 c3 : Nat} (j : Nat) (x : Int) : (#[.int .i64 q1, .int .i64 q2, .string q3, .slice a1 n1 c1, .slice a2 n2 c2, .slice a3 n3 c3] : Array Value)[j]? ≠ some (Value.int .u8 x) := by
  match j with
  | 0 => simp
  | 1 => simp
  | 2 => simp
  | 3 => simp
  | 4 => simp
  | 5 => simp
  | j + 6 => simp
theorem conv_i64 (l : List Nat) (hl : l.length = 8) (ho : Oct l) : IntKind.i64.wrap ((Bson.leN l : Nat) : Int) = Bson.signed l ∧ -9223372036854775808 ≤ Bson.signed l ∧ Bson.signed l ≤ 9223372036854775807 := by
  have h1 := Bson.leN_lt l ho
  rw [hl] at h1
  have h2 : Bson.leN l < 18446744073709551616 := by simpa using h1
  have hs : Bson.signed l = if Bson.leN l < 9223372036854775808 then (Bson.leN l : Int) else (Bson.leN l : Int) - 18446744073709551616 := by
    unfold Bson.signed; rw [hl]; simp only [Nat.reducePow, Nat.reduceDiv]; split <;> omega
  have hi : IntKind.i64.wrap ((Bson.leN l : Nat) : Int) = (((Bson.leN l : Nat) : Int) + 9223372036854775808) % 18446744073709551616 - 9223372036854775808 := by
    simp [IntKind.wrap, IntKind.bits, IntKind.signed]
    split <;> omega
  refine ⟨by rw [hi, hs]; split <;> omega, ?_, ?_⟩ <;> (rw [hs]; split <;> omega)
set_option maxRecDepth 100000 in
set_option maxHeartbeats 4000000 in
theorem rval_int32 (w : World) (gr : Nat) (ba : Option Addr) (bc : Nat) (b : List Nat) (k : Nat) (dp : Int) (hR : RdE w gr ba bc b k 0) :
    Calls Tryd.prog 48 #[.pointer (some ⟨gr, 0, none⟩), .int .u8 16, .int .i64 dp] w (RPostE w.heap.size w gr ba bc b (Bson.number 3 4 (b.drop k))) := by
  have hlt := hR.lt
  have hB0 : Below w.heap.size w (w.alloc (.cells zeroCs 27)) := (Below.refl _ w).alloc (Nat.le_refl _) _
  have HR0 := Lib.hid (hR.keep hB0)
  have HG0 := Lib.hid (grown_below hB0 gr)
  have HF0 : Hid (Fresh w (w.alloc (.cells zeroCs 27))) := Fresh.new w
  clear hR hB0
  by_cases h4 : b.length < k + 4
  · have hres : Bson.number 3 4 (b.drop k) = .err 2 := by unfold Bson.number Bson.take; rw [if_pos (by simp; omega)]; rfl
    rw [hres]
    have CN := Lib.hid (need_no _ gr ba bc b k 4 HR0.out (by decide) h4)
    clear hres h4
    go_enter Tryd.func48, Tryd.ntmps48
    go_wp2_with fail
    refine CN.out.mono ?_
    rintro e w1 ⟨rfl, hr1, hg1⟩
    have HR1 := Lib.hid hr1
    have HG1 := Lib.hid (grown_trans HG0.out hg1)
    have HF1 := Lib.hid (HF0.out.grown hg1 hlt)
    clear hr1 hg1
    obtain ⟨d0, f0⟩ := HF1.out.cells 0 _ rfl
    obtain ⟨d1, f1⟩ := HF1.out.cells 1 _ rfl
    obtain ⟨d2, f2⟩ := HF1.out.cells 2 _ rfl
    obtain ⟨d3, f3⟩ := HF1.out.cells 3 _ rfl
    obtain ⟨d4, f4⟩ := HF1.out.cells 4 _ rfl
    obtain ⟨d5, f5⟩ := HF1.out.cells 5 _ rfl
    go_wp2_with fail
    exact bodyPost_ret (v := .agg #[.int .i64 0, .int .i64 0, .string ⟨#[]⟩, .slice none 0 0, .slice none 0 0, .slice none 0 0]) (by simp [results, Tryd.results48, go_sem, *]) rfl (fine_err hlt HF1.out HR1.out HG1.out _ _ _ _ _ _ six_zero)
  · have hmL : k + 4 ≤ b.length := by omega
    have HRS : Hid (Bson.number 3 4 (b.drop k) = .ok (.mk 3 (Bson.signed ((b.drop k).take 4)) Bson.none_ [] [] []) (b.drop (k + 4))) := by
      show _ = _
      unfold Bson.number Bson.take
      rw [if_neg (by simp; omega)]
      show Res.ok _ ((b.drop k).drop 4) = _
      rw [List.drop_drop]
    have CY := Lib.hid (need_ok _ gr ba bc b k 4 HR0.out hmL)
    have HML := Lib.hid hmL
    have hlen := HR0.out.len
    have hcap := HR0.out.cap
    have hmax := HR0.out.max
    have hx4 : ((b.drop k).take 4).length = 4 := by simp; omega
    have ho4 : Oct ((b.drop k).take 4) := fun c hc => HR0.out.oct c (List.mem_of_mem_drop (List.mem_of_mem_take hc))
    obtain ⟨hu32, hi32, hi64, hs0, hs1⟩ := conv_i32 _ hx4 ho4
    obtain ⟨RES, hRES⟩ : ∃ r, r = Bson.number 3 4 (b.drop k) := ⟨_, rfl⟩
    rw [← hRES] at HRS ⊢
    have CG0 := Lib.hid (fun (W : World) (hs : SliceIs W ba b) => get_any W ba b.length bc k 4 b rfl (by decide) (by decide) hmL HR0.out.len HR0.out.oct hs)
    generalize Bson.signed ((b.drop k).take 4) = sg at *
    generalize Bson.leN ((b.drop k).take 4) = x4 at *
    clear h4 hRES hx4 ho4
    go_enter Tryd.func48, Tryd.ntmps48
    go_wp2_with fail
    refine CY.out.mono ?_
    rintro e w5 ⟨rfl, hr5, hg5⟩
    have HR5 := Lib.hid hr5
    have HG5 := Lib.hid (grown_trans HG0.out hg5)
    have HF5 := Lib.hid (HF0.out.grown hg5 hlt)
    clear hr5 hg5
    clear CY
    obtain ⟨L, hL⟩ : ∃ L, L = b.length := ⟨_, rfl⟩
    have HL := Lib.hid hL
    have CG : Hid (∀ W, SliceIs W ba b → Calls Tryd.prog 43 #[.slice ba L bc, .int .i64 (k : Int), .int .i64 4] W fun e w' => e = .returned (.int .u64 (x4 : Int)) ∧ W = w') := fun W hs => by rw [hL]; exact CG0.out W hs
    rw [← hL] at hlen hcap hmL
    clear hL CG0
    have c1 := HR5.out.c1
    have f1 := HR5.out.frz 1
    have hw1 : IntKind.i64.wrap ((k : Int) + 4) = (k : Int) + 4 := IntWalk.i64_in _ (by omega)
    go_wp2_with fail
    have hs4 := HR5.out.setAt (k + 4) HML.out
    have e4 : ((k + 4 : Nat) : Int) = (k : Int) + 4 := by omega
    rw [e4] at hs4
    have HR6 := Lib.hid hs4.1
    have HG6 := Lib.hid (grown_trans HG5.out hs4.2)
    have HF6 := Lib.hid (HF5.out.grown hs4.2 hlt)
    clear hs4 e4 c1 f1
    generalize w5.setCell ⟨gr, 1, none⟩ (.int .i64 ((k : Int) + 4)) = w6 at *
    obtain ⟨r, hr⟩ : ∃ r, r = k + 4 := ⟨_, rfl⟩
    have HRr := Lib.hid hr
    have c0 := HR6.out.c0
    have c1 := HR6.out.c1
    rw [← HL.out] at c0
    rw [← hr] at c1
    have hrL : r ≤ L := by omega
    have hw3 : IntKind.i64.wrap ((r : Int) - 4) = (r : Int) - 4 := IntWalk.i64_in _ (by omega)
    have hrm : (r : Int) - 4 = (k : Int) := by omega
    clear hr hmL
    have hw4 : IntKind.i64.wrap (k : Int) = (k : Int) := IntWalk.i64_in _ (by omega)
    have hkeep := And.intro c0 c1
    refine wp_region_held_drew (S := fun W => W.cell? ⟨gr, 0, none⟩ = some (.slice ba L bc) ∧ W.cell? ⟨gr, 1, none⟩ = some (.int .i64 (r : Int))) (by kernel_rfl) (by exact hkeep) (fun hHeld => ?_)
    have HR7 : Hid (RdE w6.drew gr ba bc b (k + 4) 0) := HR6.out.dr 1
    have HG7 : Hid (w.grownBy w6.drew (some gr)) := grown_trans HG6.out (grown_drewN w6 1 gr)
    have HF7 : Hid (Fresh w w6.drew) := HF6.out.dr 1
    clear hkeep c0 c1
    generalize w6.drew = w7 at *
    refine wpAnyH_take (i := 0) (v := ?_) rfl (by kernel_rfl) (by kernel_rfl) (by kernel_rfl) (fun _ _ _ h => h) (Or.inl ⟨by kernel_rfl, ?_⟩) (by assumption) ?_
    rotate_left
    · intro wS hSw
      (try dsimp only at hSw)
      go_simp
      try (with_reducible rfl)
    try simp only [List.getElem_toArray, List.getElem_cons_zero, Act.put, List.setIfInBounds_toArray, List.set_cons_zero, List.set_cons_succ]
    refine wpAnyH_take (i := 1) (v := ?_) rfl (by kernel_rfl) (by kernel_rfl) (by kernel_rfl) (fun _ _ _ h => h) (Or.inl ⟨by kernel_rfl, ?_⟩) (by assumption) ?_
    rotate_left
    · intro wS hSw
      (try dsimp only at hSw)
      go_simp
      try (with_reducible rfl)
    try simp only [List.getElem_toArray, List.getElem_cons_succ, List.getElem_cons_zero, Act.put, List.setIfInBounds_toArray, List.set_cons_zero, List.set_cons_succ]
    refine wpAnyH_take (i := 2) (v := ?_) rfl (by kernel_rfl) (by kernel_rfl) (by kernel_rfl) (fun _ _ _ h => h) (Or.inl ⟨by kernel_rfl, ?_⟩) (by assumption) ?_
    rotate_left
    · intro wS hSw
      (try dsimp only at hSw)
      go_simp
      try (with_reducible rfl)
    try simp only [List.getElem_toArray, List.getElem_cons_succ, List.getElem_cons_zero, Act.put, List.setIfInBounds_toArray, List.set_cons_zero, List.set_cons_succ]
    refine wpAnyH_take (i := 3) (v := ?_) rfl (by kernel_rfl) (by kernel_rfl) (by kernel_rfl) (fun _ _ _ h => h) (Or.inl ⟨by kernel_rfl, ?_⟩) (by assumption) ?_
    rotate_left
    · intro wS hSw
      (try dsimp only at hSw)
      go_simp
      try (with_reducible rfl)
    try simp only [List.getElem_toArray, List.getElem_cons_succ, List.getElem_cons_zero, Act.put, List.setIfInBounds_toArray, List.set_cons_zero, List.set_cons_succ]
    refine wpAnyH_take (i := 4) (v := ?_) rfl (by kernel_rfl) (by kernel_rfl) (by kernel_rfl) (fun _ _ _ h => h) (Or.inl ⟨by kernel_rfl, ?_⟩) (by assumption) ?_
    rotate_left
    · intro wS hSw
      (try dsimp only at hSw)
      go_simp
      try (with_reducible rfl)
    try simp only [List.getElem_toArray, List.getElem_cons_succ, List.getElem_cons_zero, Act.put, List.setIfInBounds_toArray, List.set_cons_zero, List.set_cons_succ]
    refine wpAnyH_take (i := 5) (v := ?_) rfl (by kernel_rfl) (by kernel_rfl) (by kernel_rfl) (fun _ _ _ h => h) (Or.inl ⟨by kernel_rfl, ?_⟩) (by assumption) ?_
    rotate_left
    · intro wS hSw
      (try dsimp only at hSw)
      go_simp
      try (with_reducible rfl)
    try simp only [List.getElem_toArray, List.getElem_cons_succ, List.getElem_cons_zero, Act.put, List.setIfInBounds_toArray, List.set_cons_zero, List.set_cons_succ]
    refine wpAnyH_take (i := 6) (v := ?_) rfl (by kernel_rfl) (by kernel_rfl) (by kernel_rfl) (fun _ _ _ h => h) (Or.inl ⟨by kernel_rfl, ?_⟩) (by assumption) ?_
    rotate_left
    · intro wS hSw
      (try dsimp only at hSw)
      go_simp
      try (with_reducible rfl)
    try simp only [List.getElem_toArray, List.getElem_cons_succ, List.getElem_cons_zero, Act.put, List.setIfInBounds_toArray, List.set_cons_zero, List.set_cons_succ]
    refine wpAnyH_take (i := 7) (v := ?_) rfl (by kernel_rfl) (by kernel_rfl) (by kernel_rfl) (fun _ _ _ h => h) (Or.inl ⟨by kernel_rfl, ?_⟩) (by assumption) ?_
    rotate_left
    · intro wS hSw
      (try dsimp only at hSw)
      go_simp
      try (with_reducible rfl)
    try simp only [List.getElem_toArray, List.getElem_cons_succ, List.getElem_cons_zero, Act.put, List.setIfInBounds_toArray, List.set_cons_zero, List.set_cons_succ]
    refine wpAnyH_take (i := 8) (v := ?_) rfl (by kernel_rfl) (by kernel_rfl) (by kernel_rfl) (fun _ _ _ h => h) (Or.inl ⟨by kernel_rfl, ?_⟩) (by assumption) ?_
    rotate_left
    · intro wS hSw
      (try dsimp only at hSw)
      go_simp
      try (with_reducible rfl)
    try simp only [List.getElem_toArray, List.getElem_cons_succ, List.getElem_cons_zero, Act.put, List.setIfInBounds_toArray, List.set_cons_zero, List.set_cons_succ]
    refine wpAnyH_ready (rs := [9]) (by kernel_rfl) (by simp) ?_
    refine AllReadyH.cons rfl (fun K hK => ?_) AllReadyH.nil
    go_simp
    go_at_call 43
    refine (CG.out _ HR7.out.rd).mono ?_
    rintro e wg ⟨rfl, rfl⟩
    have hkg : w7.cell? ⟨gr, 0, none⟩ = some (.slice ba L bc) ∧ w7.cell? ⟨gr, 1, none⟩ = some (.int .i64 (r : Int)) := by
      have e0 := HR7.out.c0
      have e1 := HR7.out.c1
      rw [← HL.out] at e0
      exact ⟨e0, by rw [HRr.out]; exact e1⟩
    refine hK.out _ _ (by exact hkg) (fun hHeld => ?_)
    clear hK K hkg
    try simp only [List.getElem_toArray, List.getElem_cons_succ, List.getElem_cons_zero, Act.put, List.setIfInBounds_toArray, List.set_cons_zero, List.set_cons_succ]
    refine wpAnyH_take (i := 10) (v := ?_) rfl (by kernel_rfl) (by kernel_rfl) (by kernel_rfl) (fun _ _ _ h => h) (Or.inl ⟨by kernel_rfl, ?_⟩) (by assumption) ?_
    rotate_left
    · intro wS hSw
      (try dsimp only at hSw)
      go_simp
      try (with_reducible rfl)
    try simp only [List.getElem_toArray, List.getElem_cons_succ, List.getElem_cons_zero, Act.put, List.setIfInBounds_toArray, List.set_cons_zero, List.set_cons_succ]
    refine wpAnyH_take (i := 11) (v := ?_) rfl (by kernel_rfl) (by kernel_rfl) (by kernel_rfl) (fun _ _ _ h => h) (Or.inl ⟨by kernel_rfl, ?_⟩) (by assumption) ?_
    rotate_left
    · intro wS hSw
      (try dsimp only at hSw)
      go_simp
      try (with_reducible rfl)
    try simp only [List.getElem_toArray, List.getElem_cons_succ, List.getElem_cons_zero, Act.put, List.setIfInBounds_toArray, List.set_cons_zero, List.set_cons_succ]
    refine wpAnyH_take (i := 12) (v := ?_) rfl (by kernel_rfl) (by kernel_rfl) (by kernel_rfl) (fun _ _ _ h => h) (Or.inl ⟨by kernel_rfl, ?_⟩) (by assumption) ?_
    rotate_left
    · intro wS hSw
      (try dsimp only at hSw)
      go_simp
      try (with_reducible rfl)
    try simp only [List.getElem_toArray, List.getElem_cons_succ, List.getElem_cons_zero, Act.put, List.setIfInBounds_toArray, List.set_cons_zero, List.set_cons_succ]
    refine wpAnyH_take (i := 13) (v := ?_) rfl (by kernel_rfl) (by kernel_rfl) (by kernel_rfl) (fun _ _ _ h => h) (Or.inl ⟨by kernel_rfl, ?_⟩) (by assumption) ?_
    rotate_left
    · intro wS hSw
      (try dsimp only at hSw)
      go_simp
      try (with_reducible rfl)
    try simp only [List.getElem_toArray, List.getElem_cons_succ, List.getElem_cons_zero, Act.put, List.setIfInBounds_toArray, List.set_cons_zero, List.set_cons_succ]
    refine wpAnyH_ready (rs := [14]) (by kernel_rfl) (by simp) ?_
    refine AllReadyH.cons rfl (fun K hK => ?_) AllReadyH.nil
    obtain ⟨d0, f0⟩ := HF7.out.cells 0 _ rfl
    obtain ⟨d1, f1⟩ := HF7.out.cells 1 _ rfl
    obtain ⟨d2, f2⟩ := HF7.out.cells 2 _ rfl
    obtain ⟨d3, f3⟩ := HF7.out.cells 3 _ rfl
    obtain ⟨d4, f4⟩ := HF7.out.cells 4 _ rfl
    obtain ⟨d5, f5⟩ := HF7.out.cells 5 _ rfl
    go_simp
    have h6 := HR7.out.six (B := w.heap.size) (by omega) HF7.out.no_byte (.int .i64 3) (.int .i64 sg) (.string ⟨#[]⟩) (.slice none 0 0) (.slice none 0 0) (.slice none 0 0)
    have hkeep2 : (six w7 w.heap.size (.int .i64 3) (.int .i64 sg) (.string ⟨#[]⟩) (.slice none 0 0) (.slice none 0 0) (.slice none 0 0)).cell? ⟨gr, 0, none⟩ = some (.slice ba L bc) ∧ (six w7 w.heap.size (.int .i64 3) (.int .i64 sg) (.string ⟨#[]⟩) (.slice none 0 0) (.slice none 0 0) (.slice none 0 0)).cell? ⟨gr, 1, none⟩ = some (.int .i64 (r : Int)) := by
      have e0 := (Lib.hid h6).out.c0
      have e1 := (Lib.hid h6).out.c1
      rw [← HL.out] at e0
      exact ⟨e0, by rw [HRr.out]; exact e1⟩
    clear h6
    refine hK.out _ _ (by exact hkeep2) (fun hHeld => ?_)
    clear hK K hkeep2
    try simp only [List.getElem_toArray, List.getElem_cons_succ, List.getElem_cons_zero, Act.put, List.setIfInBounds_toArray, List.set_cons_zero, List.set_cons_succ]
    refine wpAnyH_done (by kernel_rfl) ?_ _
    go_wp2_with fail
    rw [HRS.out]
    exact bodyPost_ret (v := .agg #[.int .i64 3, .int .i64 sg, .string ⟨#[]⟩, .slice none 0 0, .slice none 0 0, .slice none 0 0]) (by simp [results, Tryd.results48, go_sem, *]) rfl (fine_ok hlt HF7.out HR7.out HG7.out _ _ _ _ _ _ ⟨3, sg, ⟨#[]⟩, none, 0, 0, none, 0, 0, none, 0, 0, rfl⟩ (vin_flat _ _ 3 sg ⟨#[]⟩ (by decide) (by decide) (by omega) (by omega) (by decide)) rfl)
end Go.Proofs.YtpiookgkkaafeaaDoor
end
section
namespace Go.Proofs.YtpiookgkkaafeaaDoor
open Go.RowKit
open Seal
open Bson (Val Res)
theorem RdE.byteHere {w : World} {gr bc k e i g o : Nat} {b : List Nat} (h : RdE w gr (some ⟨g, o, none⟩) bc b k e) (hi : i < b.length) : w.cell? ⟨g, o + i, none⟩ = some (.int .u8 (b[i] : Int)) := by
  obtain ⟨g', o', e, h1, _⟩ := h.byteAt hi
  cases e; exact h1
theorem signed_one (z : Nat) (_ : z < 256) : Bson.signed [z] = if z < 128 then (z : Int) else (z : Int) - 256 := by
  have e : Bson.leN [z] = z := by simp [Bson.leN]
  unfold Bson.signed; rw [e]; simp only [List.length_cons, List.length_nil, Nat.zero_add, Nat.reducePow, Nat.reduceDiv]; split <;> omega
theorem bool_is (b : List Nat) (k : Nat) (hk : k < b.length) (hz : b[k] < 256) : Bson.bool (b.drop k) = if 1 < b[k] then .err 4 else .ok (.mk 10 (b[k] : Int) Bson.none_ [] [] []) (b.drop (k + 1)) := by
  unfold Bson.bool Bson.take
  rw [if_neg (by simp; omega)]
  have e : (b.drop k).take 1 = [b[k]] := by rw [List.drop_eq_getElem_cons hk]; rfl
  show (if _ then _ else Res.ok _ ((b.drop k).drop 1)) = _
  rw [e, signed_one _ hz, List.drop_drop]
  by_cases h : 1 < b[k]
  · rw [if_pos h, if_pos (by split <;> omega)]
  · rw [if_neg h, if_neg (by split <;> omega), if_pos (by omega)]
set_option maxRecDepth 100000 in
set_option maxHeartbeats 4000000 in
theorem rval_bool (w : World) (gr : Nat) (ba : Option Addr) (bc : Nat) (b : List Nat) (k : Nat) (dp : Int) (hR : RdE w gr ba bc b k 0) :
    Calls Tryd.prog 48 #[.pointer (some ⟨gr, 0, none⟩), .int .u8 8, .int .i64 dp] w (RPostE w.heap.size w gr ba bc b (Bson.bool (b.drop k))) := by
  have hlt := hR.lt
  have hB0 : Below w.heap.size w (w.alloc (.cells zeroCs 27)) := (Below.refl _ w).alloc (Nat.le_refl _) _
  have HR0 := Lib.hid (hR.keep hB0)
  have HG0 := Lib.hid (grown_below hB0 gr)
  have HF0 : Hid (Fresh w (w.alloc (.cells zeroCs 27))) := Fresh.new w
  clear hR hB0
  by_cases h4 : b.length < k + 1
  · have hres : Bson.bool (b.drop k) = .err 2 := by unfold Bson.bool Bson.take; rw [if_pos (by simp; omega)]; rfl
    rw [hres]
    have CN := Lib.hid (need_no _ gr ba bc b k 1 HR0.out (by decide) h4)
    clear hres h4
    go_enter Tryd.func48, Tryd.ntmps48
    go_wp2_with fail
    refine CN.out.mono ?_
    rintro e w1 ⟨rfl, hr1, hg1⟩
    have HR1 := Lib.hid hr1
    have HG1 := Lib.hid (grown_trans HG0.out hg1)
    have HF1 := Lib.hid (HF0.out.grown hg1 hlt)
    clear hr1 hg1
    obtain ⟨d0, f0⟩ := HF1.out.cells 0 _ rfl
    obtain ⟨d1, f1⟩ := HF1.out.cells 1 _ rfl
    obtain ⟨d2, f2⟩ := HF1.out.cells 2 _ rfl
    obtain ⟨d3, f3⟩ := HF1.out.cells 3 _ rfl
    obtain ⟨d4, f4⟩ := HF1.out.cells 4 _ rfl
    obtain ⟨d5, f5⟩ := HF1.out.cells 5 _ rfl
    go_wp2_with fail
    exact bodyPost_ret (v := .agg #[.int .i64 0, .int .i64 0, .string ⟨#[]⟩, .slice none 0 0, .slice none 0 0, .slice none 0 0]) (by simp [results, Tryd.results48, go_sem, *]) rfl (fine_err hlt HF1.out HR1.out HG1.out _ _ _ _ _ _ six_zero)
  · have hmL : k + 1 ≤ b.length := by omega
    have HLT : Hid (k < b.length) := by show _ < _; omega
    have CY := Lib.hid (need_ok _ gr ba bc b k 1 HR0.out hmL)
    have HML := Lib.hid hmL
    have hlen := HR0.out.len
    have hcap := HR0.out.cap
    have hmax := HR0.out.max
    obtain ⟨g, o, rfl, -, hz256⟩ := HR0.out.byteAt HLT.out
    have HRS0 := Lib.hid (bool_is b k HLT.out hz256)
    obtain ⟨RES, hRES⟩ : ∃ r, r = Bson.bool (b.drop k) := ⟨_, rfl⟩
    rw [← hRES] at HRS0 ⊢
    obtain ⟨z, hz⟩ : ∃ z, z = b[k]'HLT.out := ⟨_, rfl⟩
    have HZ := Lib.hid hz
    rw [← hz] at HRS0 hz256
    clear h4 hRES hz
    go_enter Tryd.func48, Tryd.ntmps48
    go_wp2_with fail
    refine CY.out.mono ?_
    rintro e w1 ⟨rfl, hr1, hg1⟩
    have HR1 := Lib.hid hr1
    have HG1 := Lib.hid (grown_trans HG0.out hg1)
    have HF1 := Lib.hid (HF0.out.grown hg1 hlt)
    clear hr1 hg1
    clear CY
    obtain ⟨L, hL⟩ : ∃ L, L = b.length := ⟨_, rfl⟩
    have HL := Lib.hid hL
    rw [← hL] at hlen hcap hmL
    clear hL
    have c0 := HR1.out.c0
    have c1 := HR1.out.c1
    rw [← HL.out] at c0
    have q0 := HR1.out.byteHere HLT.out
    rw [← HZ.out] at q0
    have hk0 : (0 : Int) ≤ (k : Int) := by omega
    have hk1 : (k : Int) < (L : Int) := by omega
    have hkt : ((k : Int)).toNat = k := by omega
    have hkL : k < L := by omega
    by_cases hbig : 1 < z
    · have HRS : Hid (RES = .err 4) := by show _ = _; rw [HRS0.out, if_pos hbig]
      have hbi : (1 : Int) < (z : Int) := by omega
      have hbd : decide ((1 : Int) < (z : Int)) = true := decide_eq_true hbi
      go_wp2_with fail
      go_quiet (fail)
      have HR2 := Lib.hid (HR1.out.dr nq)
      have HG2 := Lib.hid (grown_trans HG1.out (grown_drewN w1 nq gr))
      have HF2 := Lib.hid (HF1.out.dr nq)
      clear c0 c1 q0 hk0 hk1 hkt hkL
      generalize w1.drewN nq = w2 at *
      go_wp2_with fail
      refine (bad_any _ gr _ bc b k 4 HR2.out).mono ?_
      rintro e w3 ⟨⟨v3, rfl⟩, hr3, hg3⟩
      have HR3 := Lib.hid hr3
      have HG3 := Lib.hid (grown_trans HG2.out hg3)
      have HF3 := Lib.hid (HF2.out.grown hg3 hlt)
      clear hr3 hg3
      have c1 := HR3.out.c1
      have f1 := HR3.out.frz 1
      have hw1 : IntKind.i64.wrap ((k : Int) + 1) = (k : Int) + 1 := IntWalk.i64_in _ (by omega)
      go_wp2_with fail
      have hs4 := HR3.out.setAt (k + 1) HML.out
      have e4 : ((k + 1 : Nat) : Int) = (k : Int) + 1 := by omega
      rw [e4] at hs4
      have HR6 := Lib.hid hs4.1
      have HG6 := Lib.hid (grown_trans HG3.out hs4.2)
      have HF6 := Lib.hid (HF3.out.grown hs4.2 hlt)
      clear hs4 e4 c1 f1
      generalize w3.setCell ⟨gr, 1, none⟩ (.int .i64 ((k : Int) + 1)) = w6 at *
      obtain ⟨r, hr⟩ : ∃ r, r = k + 1 := ⟨_, rfl⟩
      have HRr := Lib.hid hr
      have c0 := HR6.out.c0
      have c1 := HR6.out.c1
      rw [← HL.out] at c0
      rw [← hr] at c1
      have q0 := HR6.out.byteHere HLT.out
      rw [← HZ.out] at q0
      have hrL : r ≤ L := by omega
      have hw3 : IntKind.i64.wrap ((r : Int) - 1) = (r : Int) - 1 := IntWalk.i64_in _ (by omega)
      have hrm : (r : Int) - 1 = (k : Int) := by omega
      have hw4 : IntKind.i64.wrap (k : Int) = (k : Int) := IntWalk.i64_in _ (by omega)
      have hwz : IntKind.i64.wrap (z : Int) = (z : Int) := IntWalk.i64_in _ (by omega)
      have hk0 : (0 : Int) ≤ (k : Int) := by omega
      have hk1 : (k : Int) < (L : Int) := by omega
      have hkt : ((k : Int)).toNat = k := by omega
      have hkL : k < L := by omega
      clear hr
      have hkeep := And.intro c0 (And.intro c1 q0)
      refine wp_region_held_drew (S := fun W => W.cell? ⟨gr, 0, none⟩ = some (.slice (some ⟨g, o, none⟩) L bc) ∧ W.cell? ⟨gr, 1, none⟩ = some (.int .i64 (r : Int)) ∧ W.cell? ⟨g, o + k, none⟩ = some (.int .u8 (z : Int))) (by kernel_rfl) (by exact hkeep) (fun hHeld => ?_)
      have HR7 : Hid (RdE w6.drew gr (some ⟨g, o, none⟩) bc b (k + 1) 4) := HR6.out.dr 1
      have HG7 : Hid (w.grownBy w6.drew (some gr)) := grown_trans HG6.out (grown_drewN w6 1 gr)
      have HF7 : Hid (Fresh w w6.drew) := HF6.out.dr 1
      clear hkeep c0 c1 q0
      generalize w6.drew = w7 at *
      refine wpAnyH_take (i := 0) (v := ?_) rfl (by kernel_rfl) (by kernel_rfl) (by kernel_rfl) (fun _ _ _ h => h) (Or.inl ⟨by kernel_rfl, ?_⟩) (by assumption) ?_
      rotate_left
      · intro wS hSw
        (try dsimp only at hSw)
        go_simp
        try (with_reducible rfl)
      try simp only [List.getElem_toArray, List.getElem_cons_zero, Act.put, List.setIfInBounds_toArray, List.set_cons_zero, List.set_cons_succ]
      refine wpAnyH_take (i := 1) (v := ?_) rfl (by kernel_rfl) (by kernel_rfl) (by kernel_rfl) (fun _ _ _ h => h) (Or.inl ⟨by kernel_rfl, ?_⟩) (by assumption) ?_
      rotate_left
      · intro wS hSw
        (try dsimp only at hSw)
        go_simp
        try (with_reducible rfl)
      try simp only [List.getElem_toArray, List.getElem_cons_succ, List.getElem_cons_zero, Act.put, List.setIfInBounds_toArray, List.set_cons_zero, List.set_cons_succ]
      refine wpAnyH_take (i := 2) (v := ?_) rfl (by kernel_rfl) (by kernel_rfl) (by kernel_rfl) (fun _ _ _ h => h) (Or.inl ⟨by kernel_rfl, ?_⟩) (by assumption) ?_
      rotate_left
      · intro wS hSw
        (try dsimp only at hSw)
        go_simp
        try (with_reducible rfl)
      try simp only [List.getElem_toArray, List.getElem_cons_succ, List.getElem_cons_zero, Act.put, List.setIfInBounds_toArray, List.set_cons_zero, List.set_cons_succ]
      refine wpAnyH_take (i := 3) (v := ?_) rfl (by kernel_rfl) (by kernel_rfl) (by kernel_rfl) (fun _ _ _ h => h) (Or.inl ⟨by kernel_rfl, ?_⟩) (by assumption) ?_
      rotate_left
      · intro wS hSw
        (try dsimp only at hSw)
        go_simp
        try (with_reducible rfl)
      try simp only [List.getElem_toArray, List.getElem_cons_succ, List.getElem_cons_zero, Act.put, List.setIfInBounds_toArray, List.set_cons_zero, List.set_cons_succ]
      refine wpAnyH_take (i := 4) (v := ?_) rfl (by kernel_rfl) (by kernel_rfl) (by kernel_rfl) (fun _ _ _ h => h) (Or.inl ⟨by kernel_rfl, ?_⟩) (by assumption) ?_
      rotate_left
      · intro wS hSw
        (try dsimp only at hSw)
        go_simp
        try (with_reducible rfl)
      try simp only [List.getElem_toArray, List.getElem_cons_succ, List.getElem_cons_zero, Act.put, List.setIfInBounds_toArray, List.set_cons_zero, List.set_cons_succ]
      refine wpAnyH_take (i := 5) (v := ?_) rfl (by kernel_rfl) (by kernel_rfl) (by kernel_rfl) (fun _ _ _ h => h) (Or.inl ⟨by kernel_rfl, ?_⟩) (by assumption) ?_
      rotate_left
      · intro wS hSw
        (try dsimp only at hSw)
        go_simp
        try (with_reducible rfl)
      try simp only [List.getElem_toArray, List.getElem_cons_succ, List.getElem_cons_zero, Act.put, List.setIfInBounds_toArray, List.set_cons_zero, List.set_cons_succ]
      refine wpAnyH_take (i := 6) (v := ?_) rfl (by kernel_rfl) (by kernel_rfl) (by kernel_rfl) (fun _ _ _ h => h) (Or.inl ⟨by kernel_rfl, ?_⟩) (by assumption) ?_
      rotate_left
      · intro wS hSw
        (try dsimp only at hSw)
        go_simp
        try (with_reducible rfl)
      try simp only [List.getElem_toArray, List.getElem_cons_succ, List.getElem_cons_zero, Act.put, List.setIfInBounds_toArray, List.set_cons_zero, List.set_cons_succ]
      refine wpAnyH_take (i := 7) (v := ?_) rfl (by kernel_rfl) (by kernel_rfl) (by kernel_rfl) (fun _ _ _ h => h) (Or.inl ⟨by kernel_rfl, ?_⟩) (by assumption) ?_
      rotate_left
      · intro wS hSw
        (try dsimp only at hSw)
        go_simp
        try (with_reducible rfl)
      try simp only [List.getElem_toArray, List.getElem_cons_succ, List.getElem_cons_zero, Act.put, List.setIfInBounds_toArray, List.set_cons_zero, List.set_cons_succ]
      refine wpAnyH_take (i := 8) (v := ?_) rfl (by kernel_rfl) (by kernel_rfl) (by kernel_rfl) (fun _ _ _ h => h) (Or.inl ⟨by kernel_rfl, ?_⟩) (by assumption) ?_
      rotate_left
      · intro wS hSw
        (try dsimp only at hSw)
        go_simp
        try (with_reducible rfl)
      try simp only [List.getElem_toArray, List.getElem_cons_succ, List.getElem_cons_zero, Act.put, List.setIfInBounds_toArray, List.set_cons_zero, List.set_cons_succ]
      refine wpAnyH_take (i := 9) (v := ?_) rfl (by kernel_rfl) (by kernel_rfl) (by kernel_rfl) (fun _ _ _ h => h) (Or.inl ⟨by kernel_rfl, ?_⟩) (by assumption) ?_
      rotate_left
      · intro wS hSw
        (try dsimp only at hSw)
        go_simp
        try (with_reducible rfl)
      try simp only [List.getElem_toArray, List.getElem_cons_succ, List.getElem_cons_zero, Act.put, List.setIfInBounds_toArray, List.set_cons_zero, List.set_cons_succ]
      refine wpAnyH_take (i := 10) (v := ?_) rfl (by kernel_rfl) (by kernel_rfl) (by kernel_rfl) (fun _ _ _ h => h) (Or.inl ⟨by kernel_rfl, ?_⟩) (by assumption) ?_
      rotate_left
      · intro wS hSw
        (try dsimp only at hSw)
        go_simp
        try (with_reducible rfl)
      try simp only [List.getElem_toArray, List.getElem_cons_succ, List.getElem_cons_zero, Act.put, List.setIfInBounds_toArray, List.set_cons_zero, List.set_cons_succ]
      refine wpAnyH_take (i := 11) (v := ?_) rfl (by kernel_rfl) (by kernel_rfl) (by kernel_rfl) (fun _ _ _ h => h) (Or.inl ⟨by kernel_rfl, ?_⟩) (by assumption) ?_
      rotate_left
      · intro wS hSw
        (try dsimp only at hSw)
        go_simp
        try (with_reducible rfl)
      try simp only [List.getElem_toArray, List.getElem_cons_succ, List.getElem_cons_zero, Act.put, List.setIfInBounds_toArray, List.set_cons_zero, List.set_cons_succ]
      refine wpAnyH_take (i := 12) (v := ?_) rfl (by kernel_rfl) (by kernel_rfl) (by kernel_rfl) (fun _ _ _ h => h) (Or.inl ⟨by kernel_rfl, ?_⟩) (by assumption) ?_
      rotate_left
      · intro wS hSw
        (try dsimp only at hSw)
        go_simp
        try (with_reducible rfl)
      try simp only [List.getElem_toArray, List.getElem_cons_succ, List.getElem_cons_zero, Act.put, List.setIfInBounds_toArray, List.set_cons_zero, List.set_cons_succ]
      refine wpAnyH_ready (rs := [13]) (by kernel_rfl) (by simp) ?_
      refine AllReadyH.cons rfl (fun K hK => ?_) AllReadyH.nil
      obtain ⟨d0, f0⟩ := HF7.out.cells 0 _ rfl
      obtain ⟨d1, f1⟩ := HF7.out.cells 1 _ rfl
      obtain ⟨d2, f2⟩ := HF7.out.cells 2 _ rfl
      obtain ⟨d3, f3⟩ := HF7.out.cells 3 _ rfl
      obtain ⟨d4, f4⟩ := HF7.out.cells 4 _ rfl
      obtain ⟨d5, f5⟩ := HF7.out.cells 5 _ rfl
      go_simp
      have hkeep2 : (six w7 w.heap.size (.int .i64 10) (.int .i64 (z : Int)) (.string ⟨#[]⟩) (.slice none 0 0) (.slice none 0 0) (.slice none 0 0)).cell? ⟨gr, 0, none⟩ = some (.slice (some ⟨g, o, none⟩) L bc) ∧ (six w7 w.heap.size (.int .i64 10) (.int .i64 (z : Int)) (.string ⟨#[]⟩) (.slice none 0 0) (.slice none 0 0) (.slice none 0 0)).cell? ⟨gr, 1, none⟩ = some (.int .i64 (r : Int)) ∧ (six w7 w.heap.size (.int .i64 10) (.int .i64 (z : Int)) (.string ⟨#[]⟩) (.slice none 0 0) (.slice none 0 0) (.slice none 0 0)).cell? ⟨g, o + k, none⟩ = some (.int .u8 (z : Int)) := by
        have h6 := HR7.out.six (B := w.heap.size) (by omega) HF7.out.no_byte (.int .i64 10) (.int .i64 (z : Int)) (.string ⟨#[]⟩) (.slice none 0 0) (.slice none 0 0) (.slice none 0 0)
        have e0 := h6.c0
        have e1 := h6.c1
        have q0 := (Lib.hid h6).out.byteHere HLT.out
        rw [← HZ.out] at q0
        rw [← HL.out] at e0
        exact ⟨e0, by rw [HRr.out]; exact e1, q0⟩
      refine hK.out _ _ (by exact hkeep2) (fun hHeld => ?_)
      clear hK K hkeep2
      try simp only [List.getElem_toArray, List.getElem_cons_succ, List.getElem_cons_zero, Act.put, List.setIfInBounds_toArray, List.set_cons_zero, List.set_cons_succ]
      refine wpAnyH_done (by kernel_rfl) ?_ _
      go_wp2_with fail
      rw [HRS.out]
      exact bodyPost_ret (v := .agg #[.int .i64 10, .int .i64 (z : Int), .string ⟨#[]⟩, .slice none 0 0, .slice none 0 0, .slice none 0 0]) (by simp [results, Tryd.results48, go_sem, *]) rfl (fine_err hlt HF7.out HR7.out HG7.out _ _ _ _ _ _ ⟨10, z, ⟨#[]⟩, none, 0, 0, none, 0, 0, none, 0, 0, rfl⟩)
    · have HRS : Hid (RES = .ok (.mk 10 (z : Int) Bson.none_ [] [] []) (b.drop (k + 1))) := by show _ = _; rw [HRS0.out, if_neg hbig]
      have hbi : ¬ (1 : Int) < (z : Int) := by omega
      have hbd : decide ((1 : Int) < (z : Int)) = false := decide_eq_false hbi
      go_wp2_with fail
      go_quiet (fail)
      have HR2 := Lib.hid (HR1.out.dr nq)
      have HG2 := Lib.hid (grown_trans HG1.out (grown_drewN w1 nq gr))
      have HF2 := Lib.hid (HF1.out.dr nq)
      clear c0 c1 q0 hk0 hk1 hkt hkL
      generalize w1.drewN nq = w2 at *
      have c1 := HR2.out.c1
      have f1 := HR2.out.frz 1
      have hw1 : IntKind.i64.wrap ((k : Int) + 1) = (k : Int) + 1 := IntWalk.i64_in _ (by omega)
      go_wp2_with fail
      have hs4 := HR2.out.setAt (k + 1) HML.out
      have e4 : ((k + 1 : Nat) : Int) = (k : Int) + 1 := by omega
      rw [e4] at hs4
      have HR6 := Lib.hid hs4.1
      have HG6 := Lib.hid (grown_trans HG2.out hs4.2)
      have HF6 := Lib.hid (HF2.out.grown hs4.2 hlt)
      clear hs4 e4 c1 f1
      generalize w2.setCell ⟨gr, 1, none⟩ (.int .i64 ((k : Int) + 1)) = w6 at *
      obtain ⟨r, hr⟩ : ∃ r, r = k + 1 := ⟨_, rfl⟩
      have HRr := Lib.hid hr
      have c0 := HR6.out.c0
      have c1 := HR6.out.c1
      rw [← HL.out] at c0
      rw [← hr] at c1
      have q0 := HR6.out.byteHere HLT.out
      rw [← HZ.out] at q0
      have hrL : r ≤ L := by omega
      have hw3 : IntKind.i64.wrap ((r : Int) - 1) = (r : Int) - 1 := IntWalk.i64_in _ (by omega)
      have hrm : (r : Int) - 1 = (k : Int) := by omega
      have hw4 : IntKind.i64.wrap (k : Int) = (k : Int) := IntWalk.i64_in _ (by omega)
      have hwz : IntKind.i64.wrap (z : Int) = (z : Int) := IntWalk.i64_in _ (by omega)
      have hk0 : (0 : Int) ≤ (k : Int) := by omega
      have hk1 : (k : Int) < (L : Int) := by omega
      have hkt : ((k : Int)).toNat = k := by omega
      have hkL : k < L := by omega
      clear hr
      have hkeep := And.intro c0 (And.intro c1 q0)
      refine wp_region_held_drew (S := fun W => W.cell? ⟨gr, 0, none⟩ = some (.slice (some ⟨g, o, none⟩) L bc) ∧ W.cell? ⟨gr, 1, none⟩ = some (.int .i64 (r : Int)) ∧ W.cell? ⟨g, o + k, none⟩ = some (.int .u8 (z : Int))) (by kernel_rfl) (by exact hkeep) (fun hHeld => ?_)
      have HR7 : Hid (RdE w6.drew gr (some ⟨g, o, none⟩) bc b (k + 1) 0) := HR6.out.dr 1
      have HG7 : Hid (w.grownBy w6.drew (some gr)) := grown_trans HG6.out (grown_drewN w6 1 gr)
      have HF7 : Hid (Fresh w w6.drew) := HF6.out.dr 1
      clear hkeep c0 c1 q0
      generalize w6.drew = w7 at *
      refine wpAnyH_take (i := 0) (v := ?_) rfl (by kernel_rfl) (by kernel_rfl) (by kernel_rfl) (fun _ _ _ h => h) (Or.inl ⟨by kernel_rfl, ?_⟩) (by assumption) ?_
      rotate_left
      · intro wS hSw
        (try dsimp only at hSw)
        go_simp
        try (with_reducible rfl)
      try simp only [List.getElem_toArray, List.getElem_cons_zero, Act.put, List.setIfInBounds_toArray, List.set_cons_zero, List.set_cons_succ]
      refine wpAnyH_take (i := 1) (v := ?_) rfl (by kernel_rfl) (by kernel_rfl) (by kernel_rfl) (fun _ _ _ h => h) (Or.inl ⟨by kernel_rfl, ?_⟩) (by assumption) ?_
      rotate_left
      · intro wS hSw
        (try dsimp only at hSw)
        go_simp
        try (with_reducible rfl)
      try simp only [List.getElem_toArray, List.getElem_cons_succ, List.getElem_cons_zero, Act.put, List.setIfInBounds_toArray, List.set_cons_zero, List.set_cons_succ]
      refine wpAnyH_take (i := 2) (v := ?_) rfl (by kernel_rfl) (by kernel_rfl) (by kernel_rfl) (fun _ _ _ h => h) (Or.inl ⟨by kernel_rfl, ?_⟩) (by assumption) ?_
      rotate_left
      · intro wS hSw
        (try dsimp only at hSw)
        go_simp
        try (with_reducible rfl)
      try simp only [List.getElem_toArray, List.getElem_cons_succ, List.getElem_cons_zero, Act.put, List.setIfInBounds_toArray, List.set_cons_zero, List.set_cons_succ]
      refine wpAnyH_take (i := 3) (v := ?_) rfl (by kernel_rfl) (by kernel_rfl) (by kernel_rfl) (fun _ _ _ h => h) (Or.inl ⟨by kernel_rfl, ?_⟩) (by assumption) ?_
      rotate_left
      · intro wS hSw
        (try dsimp only at hSw)
        go_simp
        try (with_reducible rfl)
      try simp only [List.getElem_toArray, List.getElem_cons_succ, List.getElem_cons_zero, Act.put, List.setIfInBounds_toArray, List.set_cons_zero, List.set_cons_succ]
      refine wpAnyH_take (i := 4) (v := ?_) rfl (by kernel_rfl) (by kernel_rfl) (by kernel_rfl) (fun _ _ _ h => h) (Or.inl ⟨by kernel_rfl, ?_⟩) (by assumption) ?_
      rotate_left
      · intro wS hSw
        (try dsimp only at hSw)
        go_simp
        try (with_reducible rfl)
      try simp only [List.getElem_toArray, List.getElem_cons_succ, List.getElem_cons_zero, Act.put, List.setIfInBounds_toArray, List.set_cons_zero, List.set_cons_succ]
      refine wpAnyH_take (i := 5) (v := ?_) rfl (by kernel_rfl) (by kernel_rfl) (by kernel_rfl) (fun _ _ _ h => h) (Or.inl ⟨by kernel_rfl, ?_⟩) (by assumption) ?_
      rotate_left
      · intro wS hSw
        (try dsimp only at hSw)
        go_simp
        try (with_reducible rfl)
      try simp only [List.getElem_toArray, List.getElem_cons_succ, List.getElem_cons_zero, Act.put, List.setIfInBounds_toArray, List.set_cons_zero, List.set_cons_succ]
      refine wpAnyH_take (i := 6) (v := ?_) rfl (by kernel_rfl) (by kernel_rfl) (by kernel_rfl) (fun _ _ _ h => h) (Or.inl ⟨by kernel_rfl, ?_⟩) (by assumption) ?_
      rotate_left
      · intro wS hSw
        (try dsimp only at hSw)
        go_simp
        try (with_reducible rfl)
      try simp only [List.getElem_toArray, List.getElem_cons_succ, List.getElem_cons_zero, Act.put, List.setIfInBounds_toArray, List.set_cons_zero, List.set_cons_succ]
      refine wpAnyH_take (i := 7) (v := ?_) rfl (by kernel_rfl) (by kernel_rfl) (by kernel_rfl) (fun _ _ _ h => h) (Or.inl ⟨by kernel_rfl, ?_⟩) (by assumption) ?_
      rotate_left
      · intro wS hSw
        (try dsimp only at hSw)
        go_simp
        try (with_reducible rfl)
      try simp only [List.getElem_toArray, List.getElem_cons_succ, List.getElem_cons_zero, Act.put, List.setIfInBounds_toArray, List.set_cons_zero, List.set_cons_succ]
      refine wpAnyH_take (i := 8) (v := ?_) rfl (by kernel_rfl) (by kernel_rfl) (by kernel_rfl) (fun _ _ _ h => h) (Or.inl ⟨by kernel_rfl, ?_⟩) (by assumption) ?_
      rotate_left
      · intro wS hSw
        (try dsimp only at hSw)
        go_simp
        try (with_reducible rfl)
      try simp only [List.getElem_toArray, List.getElem_cons_succ, List.getElem_cons_zero, Act.put, List.setIfInBounds_toArray, List.set_cons_zero, List.set_cons_succ]
      refine wpAnyH_take (i := 9) (v := ?_) rfl (by kernel_rfl) (by kernel_rfl) (by kernel_rfl) (fun _ _ _ h => h) (Or.inl ⟨by kernel_rfl, ?_⟩) (by assumption) ?_
      rotate_left
      · intro wS hSw
        (try dsimp only at hSw)
        go_simp
        try (with_reducible rfl)
      try simp only [List.getElem_toArray, List.getElem_cons_succ, List.getElem_cons_zero, Act.put, List.setIfInBounds_toArray, List.set_cons_zero, List.set_cons_succ]
      refine wpAnyH_take (i := 10) (v := ?_) rfl (by kernel_rfl) (by kernel_rfl) (by kernel_rfl) (fun _ _ _ h => h) (Or.inl ⟨by kernel_rfl, ?_⟩) (by assumption) ?_
      rotate_left
      · intro wS hSw
        (try dsimp only at hSw)
        go_simp
        try (with_reducible rfl)
      try simp only [List.getElem_toArray, List.getElem_cons_succ, List.getElem_cons_zero, Act.put, List.setIfInBounds_toArray, List.set_cons_zero, List.set_cons_succ]
      refine wpAnyH_take (i := 11) (v := ?_) rfl (by kernel_rfl) (by kernel_rfl) (by kernel_rfl) (fun _ _ _ h => h) (Or.inl ⟨by kernel_rfl, ?_⟩) (by assumption) ?_
      rotate_left
      · intro wS hSw
        (try dsimp only at hSw)
        go_simp
        try (with_reducible rfl)
      try simp only [List.getElem_toArray, List.getElem_cons_succ, List.getElem_cons_zero, Act.put, List.setIfInBounds_toArray, List.set_cons_zero, List.set_cons_succ]
      refine wpAnyH_take (i := 12) (v := ?_) rfl (by kernel_rfl) (by kernel_rfl) (by kernel_rfl) (fun _ _ _ h => h) (Or.inl ⟨by kernel_rfl, ?_⟩) (by assumption) ?_
      rotate_left
      · intro wS hSw
        (try dsimp only at hSw)
        go_simp
        try (with_reducible rfl)
      try simp only [List.getElem_toArray, List.getElem_cons_succ, List.getElem_cons_zero, Act.put, List.setIfInBounds_toArray, List.set_cons_zero, List.set_cons_succ]
      refine wpAnyH_ready (rs := [13]) (by kernel_rfl) (by simp) ?_
      refine AllReadyH.cons rfl (fun K hK => ?_) AllReadyH.nil
      obtain ⟨d0, f0⟩ := HF7.out.cells 0 _ rfl
      obtain ⟨d1, f1⟩ := HF7.out.cells 1 _ rfl
      obtain ⟨d2, f2⟩ := HF7.out.cells 2 _ rfl
      obtain ⟨d3, f3⟩ := HF7.out.cells 3 _ rfl
      obtain ⟨d4, f4⟩ := HF7.out.cells 4 _ rfl
      obtain ⟨d5, f5⟩ := HF7.out.cells 5 _ rfl
      go_simp
      have hkeep2 : (six w7 w.heap.size (.int .i64 10) (.int .i64 (z : Int)) (.string ⟨#[]⟩) (.slice none 0 0) (.slice none 0 0) (.slice none 0 0)).cell? ⟨gr, 0, none⟩ = some (.slice (some ⟨g, o, none⟩) L bc) ∧ (six w7 w.heap.size (.int .i64 10) (.int .i64 (z : Int)) (.string ⟨#[]⟩) (.slice none 0 0) (.slice none 0 0) (.slice none 0 0)).cell? ⟨gr, 1, none⟩ = some (.int .i64 (r : Int)) ∧ (six w7 w.heap.size (.int .i64 10) (.int .i64 (z : Int)) (.string ⟨#[]⟩) (.slice none 0 0) (.slice none 0 0) (.slice none 0 0)).cell? ⟨g, o + k, none⟩ = some (.int .u8 (z : Int)) := by
        have h6 := HR7.out.six (B := w.heap.size) (by omega) HF7.out.no_byte (.int .i64 10) (.int .i64 (z : Int)) (.string ⟨#[]⟩) (.slice none 0 0) (.slice none 0 0) (.slice none 0 0)
        have e0 := h6.c0
        have e1 := h6.c1
        have q0 := (Lib.hid h6).out.byteHere HLT.out
        rw [← HZ.out] at q0
        rw [← HL.out] at e0
        exact ⟨e0, by rw [HRr.out]; exact e1, q0⟩
      refine hK.out _ _ (by exact hkeep2) (fun hHeld => ?_)
      clear hK K hkeep2
      try simp only [List.getElem_toArray, List.getElem_cons_succ, List.getElem_cons_zero, Act.put, List.setIfInBounds_toArray, List.set_cons_zero, List.set_cons_succ]
      refine wpAnyH_done (by kernel_rfl) ?_ _
      go_wp2_with fail
      rw [HRS.out]
      exact bodyPost_ret (v := .agg #[.int .i64 10, .int .i64 (z : Int), .string ⟨#[]⟩, .slice none 0 0, .slice none 0 0, .slice none 0 0]) (by simp [results, Tryd.results48, go_sem, *]) rfl (fine_ok hlt HF7.out HR7.out HG7.out _ _ _ _ _ _ ⟨10, z, ⟨#[]⟩, none, 0, 0, none, 0, 0, none, 0, 0, rfl⟩ (vin_flat _ _ 10 (z : Int) ⟨#[]⟩ (by decide) (by decide) (by omega) (by omega) (by decide)) rfl)
end Go.Proofs.YtpiookgkkaafeaaDoor
end
section
namespace Go.Proofs.YtpiookgkkaafeaaDoor
open Go.RowKit
open Seal
open Bson (Val Res)
set_option maxRecDepth 100000 in
set_option maxHeartbeats 4000000 in
theorem rval_date (w : World) (gr : Nat) (ba : Option Addr) (bc : Nat) (b : List Nat) (k : Nat) (dp : Int) (hR : RdE w gr ba bc b k 0) :
    Calls Tryd.prog 48 #[.pointer (some ⟨gr, 0, none⟩), .int .u8 9, .int .i64 dp] w (RPostE w.heap.size w gr ba bc b (Bson.number 11 8 (b.drop k))) := by
  have hlt := hR.lt
  have hB0 : Below w.heap.size w (w.alloc (.cells zeroCs 27)) := (Below.refl _ w).alloc (Nat.le_refl _) _
  have HR0 := Lib.hid (hR.keep hB0)
  have HG0 := Lib.hid (grown_below hB0 gr)
  have HF0 : Hid (Fresh w (w.alloc (.cells zeroCs 27))) := Fresh.new w
  clear hR hB0
  by_cases h4 : b.length < k + 8
  · have hres : Bson.number 11 8 (b.drop k) = .err 2 := by unfold Bson.number Bson.take; rw [if_pos (by simp; omega)]; rfl
    rw [hres]
    have CN := Lib.hid (need_no _ gr ba bc b k 8 HR0.out (by decide) h4)
    clear hres h4
    go_enter Tryd.func48, Tryd.ntmps48
    go_wp2_with fail
    refine CN.out.mono ?_
    rintro e w1 ⟨rfl, hr1, hg1⟩
    have HR1 := Lib.hid hr1
    have HG1 := Lib.hid (grown_trans HG0.out hg1)
    have HF1 := Lib.hid (HF0.out.grown hg1 hlt)
    clear hr1 hg1
    obtain ⟨d0, f0⟩ := HF1.out.cells 0 _ rfl
    obtain ⟨d1, f1⟩ := HF1.out.cells 1 _ rfl
    obtain ⟨d2, f2⟩ := HF1.out.cells 2 _ rfl
    obtain ⟨d3, f3⟩ := HF1.out.cells 3 _ rfl
    obtain ⟨d4, f4⟩ := HF1.out.cells 4 _ rfl
    obtain ⟨d5, f5⟩ := HF1.out.cells 5 _ rfl
    go_wp2_with fail
    exact bodyPost_ret (v := .agg #[.int .i64 0, .int .i64 0, .string ⟨#[]⟩, .slice none 0 0, .slice none 0 0, .slice none 0 0]) (by simp [results, Tryd.results48, go_sem, *]) rfl (fine_err hlt HF1.out HR1.out HG1.out _ _ _ _ _ _ six_zero)
  · have hmL : k + 8 ≤ b.length := by omega
    have HRS : Hid (Bson.number 11 8 (b.drop k) = .ok (.mk 11 (Bson.signed ((b.drop k).take 8)) Bson.none_ [] [] []) (b.drop (k + 8))) := by
      show _ = _
      unfold Bson.number Bson.take
      rw [if_neg (by simp; omega)]
      show Res.ok _ ((b.drop k).drop 8) = _
      rw [List.drop_drop]
    have CY := Lib.hid (need_ok _ gr ba bc b k 8 HR0.out hmL)
    have HML := Lib.hid hmL
    have hlen := HR0.out.len
    have hcap := HR0.out.cap
    have hmax := HR0.out.max
    have hx4 : ((b.drop k).take 8).length = 8 := by simp; omega
    have ho4 : Oct ((b.drop k).take 8) := fun c hc => HR0.out.oct c (List.mem_of_mem_drop (List.mem_of_mem_take hc))
    obtain ⟨hi64, hs0, hs1⟩ := conv_i64 _ hx4 ho4
    obtain ⟨RES, hRES⟩ : ∃ r, r = Bson.number 11 8 (b.drop k) := ⟨_, rfl⟩
    rw [← hRES] at HRS ⊢
    have CG0 := Lib.hid (fun (W : World) (hs : SliceIs W ba b) => get_any W ba b.length bc k 8 b rfl (by decide) (by decide) hmL HR0.out.len HR0.out.oct hs)
    generalize Bson.signed ((b.drop k).take 8) = sg at *
    generalize Bson.leN ((b.drop k).take 8) = x4 at *
    clear h4 hRES hx4 ho4
    go_enter Tryd.func48, Tryd.ntmps48
    go_wp2_with fail
    refine CY.out.mono ?_
    rintro e w5 ⟨rfl, hr5, hg5⟩
    have HR5 := Lib.hid hr5
    have HG5 := Lib.hid (grown_trans HG0.out hg5)
    have HF5 := Lib.hid (HF0.out.grown hg5 hlt)
    clear hr5 hg5
    clear CY
    obtain ⟨L, hL⟩ : ∃ L, L = b.length := ⟨_, rfl⟩
    have HL := Lib.hid hL
    have CG : Hid (∀ W, SliceIs W ba b → Calls Tryd.prog 43 #[.slice ba L bc, .int .i64 (k : Int), .int .i64 8] W fun e w' => e = .returned (.int .u64 (x4 : Int)) ∧ W = w') := fun W hs => by rw [hL]; exact CG0.out W hs
    rw [← hL] at hlen hcap hmL
    clear hL CG0
    have c1 := HR5.out.c1
    have f1 := HR5.out.frz 1
    have hw1 : IntKind.i64.wrap ((k : Int) + 8) = (k : Int) + 8 := IntWalk.i64_in _ (by omega)
    go_wp2_with fail
    have hs4 := HR5.out.setAt (k + 8) HML.out
    have e4 : ((k + 8 : Nat) : Int) = (k : Int) + 8 := by omega
    rw [e4] at hs4
    have HR6 := Lib.hid hs4.1
    have HG6 := Lib.hid (grown_trans HG5.out hs4.2)
    have HF6 := Lib.hid (HF5.out.grown hs4.2 hlt)
    clear hs4 e4 c1 f1
    generalize w5.setCell ⟨gr, 1, none⟩ (.int .i64 ((k : Int) + 8)) = w6 at *
    obtain ⟨r, hr⟩ : ∃ r, r = k + 8 := ⟨_, rfl⟩
    have HRr := Lib.hid hr
    have c0 := HR6.out.c0
    have c1 := HR6.out.c1
    rw [← HL.out] at c0
    rw [← hr] at c1
    have hrL : r ≤ L := by omega
    have hw3 : IntKind.i64.wrap ((r : Int) - 8) = (r : Int) - 8 := IntWalk.i64_in _ (by omega)
    have hrm : (r : Int) - 8 = (k : Int) := by omega
    clear hr hmL
    have hw4 : IntKind.i64.wrap (k : Int) = (k : Int) := IntWalk.i64_in _ (by omega)
    have hkeep := And.intro c0 c1
    refine wp_region_held_drew (S := fun W => W.cell? ⟨gr, 0, none⟩ = some (.slice ba L bc) ∧ W.cell? ⟨gr, 1, none⟩ = some (.int .i64 (r : Int))) (by kernel_rfl) (by exact hkeep) (fun hHeld => ?_)
    have HR7 : Hid (RdE w6.drew gr ba bc b (k + 8) 0) := HR6.out.dr 1
    have HG7 : Hid (w.grownBy w6.drew (some gr)) := grown_trans HG6.out (grown_drewN w6 1 gr)
    have HF7 : Hid (Fresh w w6.drew) := HF6.out.dr 1
    clear hkeep c0 c1
    generalize w6.drew = w7 at *
    have HB8 : Hid (Below w7.heap.size w7 (w7.alloc (.cells zeroCs 27))) := (Below.refl _ _).alloc (Nat.le_refl _) _
    have HR8 : Hid (RdE (w7.alloc (.cells zeroCs 27)) gr ba bc b (k + 8) 0) := HR7.out.keep HB8.out
    have HG8 : Hid (w.grownBy (w7.alloc (.cells zeroCs 27)) (some gr)) := grown_trans HG7.out (grown_below HB8.out gr)
    have HF8 : Hid (Fresh w (w7.alloc (.cells zeroCs 27))) := HF7.out.grown (grown_below HB8.out gr) hlt
    have HT8 : Hid ((w7.alloc (.cells zeroCs 27)).heap[w7.heap.size]? = some (.cells zeroCs 27 (0, 0))) := heap_alloc_new w7 _
    have HTL : Hid (gr < w7.heap.size ∧ w.heap.size < w7.heap.size) := ⟨HR7.out.lt, World.block_lt_of_cell? _ ⟨w.heap.size, 0, none⟩ (HF7.out.cells 0 _ rfl).1⟩
    refine wpAnyH_take (i := 0) (v := ?_) rfl (by kernel_rfl) (by kernel_rfl) (by kernel_rfl) (fun _ _ _ h => h) (Or.inl ⟨by kernel_rfl, ?_⟩) (by assumption) ?_
    rotate_left
    · intro wS hSw
      (try dsimp only at hSw)
      go_simp
      try (with_reducible rfl)
    try simp only [List.getElem_toArray, List.getElem_cons_zero, Act.put, List.setIfInBounds_toArray, List.set_cons_zero, List.set_cons_succ]
    refine wpAnyH_take (i := 1) (v := ?_) rfl (by kernel_rfl) (by kernel_rfl) (by kernel_rfl) (fun _ _ _ h => h) (Or.inl ⟨by kernel_rfl, ?_⟩) (by assumption) ?_
    rotate_left
    · intro wS hSw
      (try dsimp only at hSw)
      go_simp
      try (with_reducible rfl)
    try simp only [List.getElem_toArray, List.getElem_cons_succ, List.getElem_cons_zero, Act.put, List.setIfInBounds_toArray, List.set_cons_zero, List.set_cons_succ]
    refine wpAnyH_take (i := 2) (v := ?_) rfl (by kernel_rfl) (by kernel_rfl) (by kernel_rfl) (fun _ _ _ h => h) (Or.inl ⟨by kernel_rfl, ?_⟩) (by assumption) ?_
    rotate_left
    · intro wS hSw
      (try dsimp only at hSw)
      go_simp
      try (with_reducible rfl)
    try simp only [List.getElem_toArray, List.getElem_cons_succ, List.getElem_cons_zero, Act.put, List.setIfInBounds_toArray, List.set_cons_zero, List.set_cons_succ]
    refine wpAnyH_take (i := 3) (v := ?_) rfl (by kernel_rfl) (by kernel_rfl) (by kernel_rfl) (fun _ _ _ h => h) (Or.inl ⟨by kernel_rfl, ?_⟩) (by assumption) ?_
    rotate_left
    · intro wS hSw
      (try dsimp only at hSw)
      go_simp
      try (with_reducible rfl)
    try simp only [List.getElem_toArray, List.getElem_cons_succ, List.getElem_cons_zero, Act.put, List.setIfInBounds_toArray, List.set_cons_zero, List.set_cons_succ]
    refine wpAnyH_take (i := 4) (v := ?_) rfl (by kernel_rfl) (by kernel_rfl) (by kernel_rfl) (fun _ _ _ h => h) (Or.inl ⟨by kernel_rfl, ?_⟩) (by assumption) ?_
    rotate_left
    · intro wS hSw
      (try dsimp only at hSw)
      go_simp
      try (with_reducible rfl)
    try simp only [List.getElem_toArray, List.getElem_cons_succ, List.getElem_cons_zero, Act.put, List.setIfInBounds_toArray, List.set_cons_zero, List.set_cons_succ]
    refine wpAnyH_take (i := 5) (v := ?_) rfl (by kernel_rfl) (by kernel_rfl) (by kernel_rfl) (fun _ _ _ h => h) (Or.inl ⟨by kernel_rfl, ?_⟩) (by assumption) ?_
    rotate_left
    · intro wS hSw
      (try dsimp only at hSw)
      go_simp
      try (with_reducible rfl)
    try simp only [List.getElem_toArray, List.getElem_cons_succ, List.getElem_cons_zero, Act.put, List.setIfInBounds_toArray, List.set_cons_zero, List.set_cons_succ]
    refine wpAnyH_take (i := 6) (v := ?_) rfl (by kernel_rfl) (by kernel_rfl) (by kernel_rfl) (fun _ _ _ h => h) (Or.inl ⟨by kernel_rfl, ?_⟩) (by assumption) ?_
    rotate_left
    · intro wS hSw
      (try dsimp only at hSw)
      go_simp
      try (with_reducible rfl)
    try simp only [List.getElem_toArray, List.getElem_cons_succ, List.getElem_cons_zero, Act.put, List.setIfInBounds_toArray, List.set_cons_zero, List.set_cons_succ]
    refine wpAnyH_take (i := 7) (v := ?_) rfl (by kernel_rfl) (by kernel_rfl) (by kernel_rfl) (fun _ _ _ h => h) (Or.inl ⟨by kernel_rfl, ?_⟩) (by assumption) ?_
    rotate_left
    · intro wS hSw
      (try dsimp only at hSw)
      go_simp
      try (with_reducible rfl)
    try simp only [List.getElem_toArray, List.getElem_cons_succ, List.getElem_cons_zero, Act.put, List.setIfInBounds_toArray, List.set_cons_zero, List.set_cons_succ]
    refine wpAnyH_take (i := 8) (v := ?_) rfl (by kernel_rfl) (by kernel_rfl) (by kernel_rfl) (fun _ _ _ h => h) (Or.inl ⟨by kernel_rfl, ?_⟩) (by assumption) ?_
    rotate_left
    · intro wS hSw
      (try dsimp only at hSw)
      go_simp
      try (with_reducible rfl)
    try simp only [List.getElem_toArray, List.getElem_cons_succ, List.getElem_cons_zero, Act.put, List.setIfInBounds_toArray, List.set_cons_zero, List.set_cons_succ]
    refine wpAnyH_ready (rs := [9, 12]) (by kernel_rfl) (by simp) ?_
    refine AllReadyH.cons rfl (fun K hK => ?_) (AllReadyH.cons rfl (fun K hK => ?_) AllReadyH.nil)
    · go_simp
      go_at_call 43
      refine (CG.out _ HR7.out.rd).mono ?_
      rintro e wg ⟨rfl, rfl⟩
      have hkg : w7.cell? ⟨gr, 0, none⟩ = some (.slice ba L bc) ∧ w7.cell? ⟨gr, 1, none⟩ = some (.int .i64 (r : Int)) := by
        have e0 := HR7.out.c0
        have e1 := HR7.out.c1
        rw [← HL.out] at e0
        exact ⟨e0, by rw [HRr.out]; exact e1⟩
      refine hK.out _ _ (by exact hkg) (fun hHeld => ?_)
      clear hK K hkg
      try simp only [List.getElem_toArray, List.getElem_cons_succ, List.getElem_cons_zero, Act.put, List.setIfInBounds_toArray, List.set_cons_zero, List.set_cons_succ]
      refine wpAnyH_take (i := 10) (v := ?_) rfl (by kernel_rfl) (by kernel_rfl) (by kernel_rfl) (fun _ _ _ h => h) (Or.inl ⟨by kernel_rfl, ?_⟩) (by assumption) ?_
      rotate_left
      · intro wS hSw
        (try dsimp only at hSw)
        go_simp
        try (with_reducible rfl)
      try simp only [List.getElem_toArray, List.getElem_cons_succ, List.getElem_cons_zero, Act.put, List.setIfInBounds_toArray, List.set_cons_zero, List.set_cons_succ]
      refine wpAnyH_take (i := 11) (v := ?_) rfl (by kernel_rfl) (by kernel_rfl) (by kernel_rfl) (fun _ _ _ h => h) (Or.inl ⟨by kernel_rfl, ?_⟩) (by assumption) ?_
      rotate_left
      · intro wS hSw
        (try dsimp only at hSw)
        go_simp
        try (with_reducible rfl)
      try simp only [List.getElem_toArray, List.getElem_cons_succ, List.getElem_cons_zero, Act.put, List.setIfInBounds_toArray, List.set_cons_zero, List.set_cons_succ]
      refine wpAnyH_ready (rs := [12]) (by kernel_rfl) (by simp) ?_
      refine AllReadyH.cons rfl (fun K hK => ?_) AllReadyH.nil
      go_simp
      have hkz : (w7.alloc (.cells zeroCs 27)).cell? ⟨gr, 0, none⟩ = some (.slice ba L bc) ∧ (w7.alloc (.cells zeroCs 27)).cell? ⟨gr, 1, none⟩ = some (.int .i64 (r : Int)) := by
        have e0 := HR8.out.c0
        have e1 := HR8.out.c1
        rw [← HL.out] at e0
        exact ⟨e0, by rw [HRr.out]; exact e1⟩
      refine hK.out _ _ (by exact hkz) (fun hHeld => ?_)
      clear hK K hkz
      try simp only [List.getElem_toArray, List.getElem_cons_succ, List.getElem_cons_zero, Act.put, List.setIfInBounds_toArray, List.set_cons_zero, List.set_cons_succ]
      generalize (w7.alloc (.cells zeroCs 27)) = w8 at *
      generalize w7.heap.size = T at *
      refine wpAnyH_ready (rs := [13]) (by kernel_rfl) (by simp) ?_
      refine AllReadyH.cons rfl (fun K hK => ?_) AllReadyH.nil
      have d0 := (cell_of_row w8 T 0 _ _ _ HT8.out).trans (rfl : (zeroCs)[0]? = some (Value.int .i64 0))
      have f0 := frozen_of_row w8 T 0 _ _ HT8.out
      have d1 := (cell_of_row w8 T 1 _ _ _ HT8.out).trans (rfl : (zeroCs)[1]? = some (Value.int .i64 0))
      have f1 := frozen_of_row w8 T 1 _ _ HT8.out
      have d2 := (cell_of_row w8 T 2 _ _ _ HT8.out).trans (rfl : (zeroCs)[2]? = some (Value.string ⟨#[]⟩))
      have f2 := frozen_of_row w8 T 2 _ _ HT8.out
      have d3 := (cell_of_row w8 T 3 _ _ _ HT8.out).trans (rfl : (zeroCs)[3]? = some (Value.slice none 0 0))
      have f3 := frozen_of_row w8 T 3 _ _ HT8.out
      have d4 := (cell_of_row w8 T 4 _ _ _ HT8.out).trans (rfl : (zeroCs)[4]? = some (Value.slice none 0 0))
      have f4 := frozen_of_row w8 T 4 _ _ HT8.out
      have d5 := (cell_of_row w8 T 5 _ _ _ HT8.out).trans (rfl : (zeroCs)[5]? = some (Value.slice none 0 0))
      have f5 := frozen_of_row w8 T 5 _ _ HT8.out
      go_simp
      have HR9 : Hid (RdE (six w8 T (.int .i64 11) (.int .i64 sg) (.string ⟨#[]⟩) (.slice none 0 0) (.slice none 0 0) (.slice none 0 0)) gr ba bc b (k + 8) 0) := HR8.out.six (B := T) (by have := HTL.out; omega) (Go.Proofs.YtpiookgkkaafeaaDoor.no_byte HT8.out zero_no_byte) (.int .i64 11) (.int .i64 sg) (.string ⟨#[]⟩) (.slice none 0 0) (.slice none 0 0) (.slice none 0 0)
      have HG9 : Hid (w.grownBy (six w8 T (.int .i64 11) (.int .i64 sg) (.string ⟨#[]⟩) (.slice none 0 0) (.slice none 0 0) (.slice none 0 0)) (some gr)) := grown_six HG8.out (by have := HTL.out; omega) (.int .i64 11) (.int .i64 sg) (.string ⟨#[]⟩) (.slice none 0 0) (.slice none 0 0) (.slice none 0 0)
      have HF9 : Hid (Fresh w (six w8 T (.int .i64 11) (.int .i64 sg) (.string ⟨#[]⟩) (.slice none 0 0) (.slice none 0 0) (.slice none 0 0))) := fresh_six HF8.out (by have := HTL.out; omega) (.int .i64 11) (.int .i64 sg) (.string ⟨#[]⟩) (.slice none 0 0) (.slice none 0 0) (.slice none 0 0)
      have HT9 : Hid ((six w8 T (.int .i64 11) (.int .i64 sg) (.string ⟨#[]⟩) (.slice none 0 0) (.slice none 0 0) (.slice none 0 0)).heap[T]? = some (.cells #[.int .i64 11, .int .i64 sg, .string ⟨#[]⟩, .slice none 0 0, .slice none 0 0, .slice none 0 0] 27 (0, 0))) := box_six w8 T _ _ _ _ _ _ _ (.int .i64 11) (.int .i64 sg) (.string ⟨#[]⟩) (.slice none 0 0) (.slice none 0 0) (.slice none 0 0) HT8.out
      have hkeep2 : (six w8 T (.int .i64 11) (.int .i64 sg) (.string ⟨#[]⟩) (.slice none 0 0) (.slice none 0 0) (.slice none 0 0)).cell? ⟨gr, 0, none⟩ = some (.slice ba L bc) ∧ (six w8 T (.int .i64 11) (.int .i64 sg) (.string ⟨#[]⟩) (.slice none 0 0) (.slice none 0 0) (.slice none 0 0)).cell? ⟨gr, 1, none⟩ = some (.int .i64 (r : Int)) := by
        have e0 := HR9.out.c0
        have e1 := HR9.out.c1
        rw [← HL.out] at e0
        exact ⟨e0, by rw [HRr.out]; exact e1⟩
      refine hK.out _ _ (by exact hkeep2) (fun hHeld => ?_)
      clear hK K hkeep2
      try simp only [List.getElem_toArray, List.getElem_cons_succ, List.getElem_cons_zero, Act.put, List.setIfInBounds_toArray, List.set_cons_zero, List.set_cons_succ]
      refine wpAnyH_done (by kernel_rfl) ?_ _
      clear hHeld d0 d1 d2 d3 d4 d5 f0 f1 f2 f3 f4 f5
      rw [show ((((((w8.setCell ⟨T, 0, none⟩ (.int .i64 11)).setCell ⟨T, 1, none⟩ (.int .i64 sg)).setCell ⟨T, 2, none⟩ (.string ⟨#[]⟩)).setCell ⟨T, 3, none⟩ (.slice none 0 0)).setCell ⟨T, 4, none⟩ (.slice none 0 0)).setCell ⟨T, 5, none⟩ (.slice none 0 0)) = six w8 T (.int .i64 11) (.int .i64 sg) (.string ⟨#[]⟩) (.slice none 0 0) (.slice none 0 0) (.slice none 0 0) from rfl]
      generalize six w8 T (.int .i64 11) (.int .i64 sg) (.string ⟨#[]⟩) (.slice none 0 0) (.slice none 0 0) (.slice none 0 0) = w9 at *
      have b0 := (cell_of_row w9 T 0 _ _ _ HT9.out).trans (rfl : (#[Value.int .i64 11, Value.int .i64 sg, Value.string ⟨#[]⟩, Value.slice none 0 0, Value.slice none 0 0, Value.slice none 0 0] : Array Value)[0]? = some (Value.int .i64 11))
      have b1 := (cell_of_row w9 T 1 _ _ _ HT9.out).trans (rfl : (#[Value.int .i64 11, Value.int .i64 sg, Value.string ⟨#[]⟩, Value.slice none 0 0, Value.slice none 0 0, Value.slice none 0 0] : Array Value)[1]? = some (Value.int .i64 sg))
      have b2 := (cell_of_row w9 T 2 _ _ _ HT9.out).trans (rfl : (#[Value.int .i64 11, Value.int .i64 sg, Value.string ⟨#[]⟩, Value.slice none 0 0, Value.slice none 0 0, Value.slice none 0 0] : Array Value)[2]? = some (Value.string ⟨#[]⟩))
      have b3 := (cell_of_row w9 T 3 _ _ _ HT9.out).trans (rfl : (#[Value.int .i64 11, Value.int .i64 sg, Value.string ⟨#[]⟩, Value.slice none 0 0, Value.slice none 0 0, Value.slice none 0 0] : Array Value)[3]? = some (Value.slice none 0 0))
      have b4 := (cell_of_row w9 T 4 _ _ _ HT9.out).trans (rfl : (#[Value.int .i64 11, Value.int .i64 sg, Value.string ⟨#[]⟩, Value.slice none 0 0, Value.slice none 0 0, Value.slice none 0 0] : Array Value)[4]? = some (Value.slice none 0 0))
      have b5 := (cell_of_row w9 T 5 _ _ _ HT9.out).trans (rfl : (#[Value.int .i64 11, Value.int .i64 sg, Value.string ⟨#[]⟩, Value.slice none 0 0, Value.slice none 0 0, Value.slice none 0 0] : Array Value)[5]? = some (Value.slice none 0 0))
      obtain ⟨d0, f0⟩ := HF9.out.cells 0 _ rfl
      obtain ⟨d1, f1⟩ := HF9.out.cells 1 _ rfl
      obtain ⟨d2, f2⟩ := HF9.out.cells 2 _ rfl
      obtain ⟨d3, f3⟩ := HF9.out.cells 3 _ rfl
      obtain ⟨d4, f4⟩ := HF9.out.cells 4 _ rfl
      obtain ⟨d5, f5⟩ := HF9.out.cells 5 _ rfl
      go_wp2_with fail
      rw [HRS.out]
      exact bodyPost_ret (v := .agg #[.int .i64 11, .int .i64 sg, .string ⟨#[]⟩, .slice none 0 0, .slice none 0 0, .slice none 0 0]) (by simp [results, Tryd.results48, go_sem, *]) rfl (fine_ok hlt HF9.out HR9.out HG9.out _ _ _ _ _ _ ⟨11, sg, ⟨#[]⟩, none, 0, 0, none, 0, 0, none, 0, 0, rfl⟩ (vin_flat _ _ 11 sg ⟨#[]⟩ (by decide) (by decide) (by omega) (by omega) (by decide)) rfl)
    · go_simp
      have hkz : (w7.alloc (.cells zeroCs 27)).cell? ⟨gr, 0, none⟩ = some (.slice ba L bc) ∧ (w7.alloc (.cells zeroCs 27)).cell? ⟨gr, 1, none⟩ = some (.int .i64 (r : Int)) := by
        have e0 := HR8.out.c0
        have e1 := HR8.out.c1
        rw [← HL.out] at e0
        exact ⟨e0, by rw [HRr.out]; exact e1⟩
      refine hK.out _ _ (by exact hkz) (fun hHeld => ?_)
      clear hK K hkz
      try simp only [List.getElem_toArray, List.getElem_cons_succ, List.getElem_cons_zero, Act.put, List.setIfInBounds_toArray, List.set_cons_zero, List.set_cons_succ]
      refine wpAnyH_ready (rs := [9]) (by kernel_rfl) (by simp) ?_
      refine AllReadyH.cons rfl (fun K hK => ?_) AllReadyH.nil
      go_simp
      go_at_call 43
      refine (CG.out _ HR8.out.rd).mono ?_
      rintro e wg ⟨rfl, rfl⟩
      have hkg : (w7.alloc (.cells zeroCs 27)).cell? ⟨gr, 0, none⟩ = some (.slice ba L bc) ∧ (w7.alloc (.cells zeroCs 27)).cell? ⟨gr, 1, none⟩ = some (.int .i64 (r : Int)) := by
        have e0 := HR8.out.c0
        have e1 := HR8.out.c1
        rw [← HL.out] at e0
        exact ⟨e0, by rw [HRr.out]; exact e1⟩
      refine hK.out _ _ (by exact hkg) (fun hHeld => ?_)
      clear hK K hkg
      try simp only [List.getElem_toArray, List.getElem_cons_succ, List.getElem_cons_zero, Act.put, List.setIfInBounds_toArray, List.set_cons_zero, List.set_cons_succ]
      refine wpAnyH_take (i := 10) (v := ?_) rfl (by kernel_rfl) (by kernel_rfl) (by kernel_rfl) (fun _ _ _ h => h) (Or.inl ⟨by kernel_rfl, ?_⟩) (by assumption) ?_
      rotate_left
      · intro wS hSw
        (try dsimp only at hSw)
        go_simp
        try (with_reducible rfl)
      try simp only [List.getElem_toArray, List.getElem_cons_succ, List.getElem_cons_zero, Act.put, List.setIfInBounds_toArray, List.set_cons_zero, List.set_cons_succ]
      refine wpAnyH_take (i := 11) (v := ?_) rfl (by kernel_rfl) (by kernel_rfl) (by kernel_rfl) (fun _ _ _ h => h) (Or.inl ⟨by kernel_rfl, ?_⟩) (by assumption) ?_
      rotate_left
      · intro wS hSw
        (try dsimp only at hSw)
        go_simp
        try (with_reducible rfl)
      try simp only [List.getElem_toArray, List.getElem_cons_succ, List.getElem_cons_zero, Act.put, List.setIfInBounds_toArray, List.set_cons_zero, List.set_cons_succ]
      generalize (w7.alloc (.cells zeroCs 27)) = w8 at *
      generalize w7.heap.size = T at *
      refine wpAnyH_ready (rs := [13]) (by kernel_rfl) (by simp) ?_
      refine AllReadyH.cons rfl (fun K hK => ?_) AllReadyH.nil
      have d0 := (cell_of_row w8 T 0 _ _ _ HT8.out).trans (rfl : (zeroCs)[0]? = some (Value.int .i64 0))
      have f0 := frozen_of_row w8 T 0 _ _ HT8.out
      have d1 := (cell_of_row w8 T 1 _ _ _ HT8.out).trans (rfl : (zeroCs)[1]? = some (Value.int .i64 0))
      have f1 := frozen_of_row w8 T 1 _ _ HT8.out
      have d2 := (cell_of_row w8 T 2 _ _ _ HT8.out).trans (rfl : (zeroCs)[2]? = some (Value.string ⟨#[]⟩))
      have f2 := frozen_of_row w8 T 2 _ _ HT8.out
      have d3 := (cell_of_row w8 T 3 _ _ _ HT8.out).trans (rfl : (zeroCs)[3]? = some (Value.slice none 0 0))
      have f3 := frozen_of_row w8 T 3 _ _ HT8.out
      have d4 := (cell_of_row w8 T 4 _ _ _ HT8.out).trans (rfl : (zeroCs)[4]? = some (Value.slice none 0 0))
      have f4 := frozen_of_row w8 T 4 _ _ HT8.out
      have d5 := (cell_of_row w8 T 5 _ _ _ HT8.out).trans (rfl : (zeroCs)[5]? = some (Value.slice none 0 0))
      have f5 := frozen_of_row w8 T 5 _ _ HT8.out
      go_simp
      have HR9 : Hid (RdE (six w8 T (.int .i64 11) (.int .i64 sg) (.string ⟨#[]⟩) (.slice none 0 0) (.slice none 0 0) (.slice none 0 0)) gr ba bc b (k + 8) 0) := HR8.out.six (B := T) (by have := HTL.out; omega) (Go.Proofs.YtpiookgkkaafeaaDoor.no_byte HT8.out zero_no_byte) (.int .i64 11) (.int .i64 sg) (.string ⟨#[]⟩) (.slice none 0 0) (.slice none 0 0) (.slice none 0 0)
      have HG9 : Hid (w.grownBy (six w8 T (.int .i64 11) (.int .i64 sg) (.string ⟨#[]⟩) (.slice none 0 0) (.slice none 0 0) (.slice none 0 0)) (some gr)) := grown_six HG8.out (by have := HTL.out; omega) (.int .i64 11) (.int .i64 sg) (.string ⟨#[]⟩) (.slice none 0 0) (.slice none 0 0) (.slice none 0 0)
      have HF9 : Hid (Fresh w (six w8 T (.int .i64 11) (.int .i64 sg) (.string ⟨#[]⟩) (.slice none 0 0) (.slice none 0 0) (.slice none 0 0))) := fresh_six HF8.out (by have := HTL.out; omega) (.int .i64 11) (.int .i64 sg) (.string ⟨#[]⟩) (.slice none 0 0) (.slice none 0 0) (.slice none 0 0)
      have HT9 : Hid ((six w8 T (.int .i64 11) (.int .i64 sg) (.string ⟨#[]⟩) (.slice none 0 0) (.slice none 0 0) (.slice none 0 0)).heap[T]? = some (.cells #[.int .i64 11, .int .i64 sg, .string ⟨#[]⟩, .slice none 0 0, .slice none 0 0, .slice none 0 0] 27 (0, 0))) := box_six w8 T _ _ _ _ _ _ _ (.int .i64 11) (.int .i64 sg) (.string ⟨#[]⟩) (.slice none 0 0) (.slice none 0 0) (.slice none 0 0) HT8.out
      have hkeep2 : (six w8 T (.int .i64 11) (.int .i64 sg) (.string ⟨#[]⟩) (.slice none 0 0) (.slice none 0 0) (.slice none 0 0)).cell? ⟨gr, 0, none⟩ = some (.slice ba L bc) ∧ (six w8 T (.int .i64 11) (.int .i64 sg) (.string ⟨#[]⟩) (.slice none 0 0) (.slice none 0 0) (.slice none 0 0)).cell? ⟨gr, 1, none⟩ = some (.int .i64 (r : Int)) := by
        have e0 := HR9.out.c0
        have e1 := HR9.out.c1
        rw [← HL.out] at e0
        exact ⟨e0, by rw [HRr.out]; exact e1⟩
      refine hK.out _ _ (by exact hkeep2) (fun hHeld => ?_)
      clear hK K hkeep2
      try simp only [List.getElem_toArray, List.getElem_cons_succ, List.getElem_cons_zero, Act.put, List.setIfInBounds_toArray, List.set_cons_zero, List.set_cons_succ]
      refine wpAnyH_done (by kernel_rfl) ?_ _
      clear hHeld d0 d1 d2 d3 d4 d5 f0 f1 f2 f3 f4 f5
      rw [show ((((((w8.setCell ⟨T, 0, none⟩ (.int .i64 11)).setCell ⟨T, 1, none⟩ (.int .i64 sg)).setCell ⟨T, 2, none⟩ (.string ⟨#[]⟩)).setCell ⟨T, 3, none⟩ (.slice none 0 0)).setCell ⟨T, 4, none⟩ (.slice none 0 0)).setCell ⟨T, 5, none⟩ (.slice none 0 0)) = six w8 T (.int .i64 11) (.int .i64 sg) (.string ⟨#[]⟩) (.slice none 0 0) (.slice none 0 0) (.slice none 0 0) from rfl]
      generalize six w8 T (.int .i64 11) (.int .i64 sg) (.string ⟨#[]⟩) (.slice none 0 0) (.slice none 0 0) (.slice none 0 0) = w9 at *
      have b0 := (cell_of_row w9 T 0 _ _ _ HT9.out).trans (rfl : (#[Value.int .i64 11, Value.int .i64 sg, Value.string ⟨#[]⟩, Value.slice none 0 0, Value.slice none 0 0, Value.slice none 0 0] : Array Value)[0]? = some (Value.int .i64 11))
      have b1 := (cell_of_row w9 T 1 _ _ _ HT9.out).trans (rfl : (#[Value.int .i64 11, Value.int .i64 sg, Value.string ⟨#[]⟩, Value.slice none 0 0, Value.slice none 0 0, Value.slice none 0 0] : Array Value)[1]? = some (Value.int .i64 sg))
      have b2 := (cell_of_row w9 T 2 _ _ _ HT9.out).trans (rfl : (#[Value.int .i64 11, Value.int .i64 sg, Value.string ⟨#[]⟩, Value.slice none 0 0, Value.slice none 0 0, Value.slice none 0 0] : Array Value)[2]? = some (Value.string ⟨#[]⟩))
      have b3 := (cell_of_row w9 T 3 _ _ _ HT9.out).trans (rfl : (#[Value.int .i64 11, Value.int .i64 sg, Value.string ⟨#[]⟩, Value.slice none 0 0, Value.slice none 0 0, Value.slice none 0 0] : Array Value)[3]? = some (Value.slice none 0 0))
      have b4 := (cell_of_row w9 T 4 _ _ _ HT9.out).trans (rfl : (#[Value.int .i64 11, Value.int .i64 sg, Value.string ⟨#[]⟩, Value.slice none 0 0, Value.slice none 0 0, Value.slice none 0 0] : Array Value)[4]? = some (Value.slice none 0 0))
      have b5 := (cell_of_row w9 T 5 _ _ _ HT9.out).trans (rfl : (#[Value.int .i64 11, Value.int .i64 sg, Value.string ⟨#[]⟩, Value.slice none 0 0, Value.slice none 0 0, Value.slice none 0 0] : Array Value)[5]? = some (Value.slice none 0 0))
      obtain ⟨d0, f0⟩ := HF9.out.cells 0 _ rfl
      obtain ⟨d1, f1⟩ := HF9.out.cells 1 _ rfl
      obtain ⟨d2, f2⟩ := HF9.out.cells 2 _ rfl
      obtain ⟨d3, f3⟩ := HF9.out.cells 3 _ rfl
      obtain ⟨d4, f4⟩ := HF9.out.cells 4 _ rfl
      obtain ⟨d5, f5⟩ := HF9.out.cells 5 _ rfl
      go_wp2_with fail
      rw [HRS.out]
      exact bodyPost_ret (v := .agg #[.int .i64 11, .int .i64 sg, .string ⟨#[]⟩, .slice none 0 0, .slice none 0 0, .slice none 0 0]) (by simp [results, Tryd.results48, go_sem, *]) rfl (fine_ok hlt HF9.out HR9.out HG9.out _ _ _ _ _ _ ⟨11, sg, ⟨#[]⟩, none, 0, 0, none, 0, 0, none, 0, 0, rfl⟩ (vin_flat _ _ 11 sg ⟨#[]⟩ (by decide) (by decide) (by omega) (by omega) (by decide)) rfl)
end Go.Proofs.YtpiookgkkaafeaaDoor
end
section
namespace Go.Proofs.YtpiookgkkaafeaaDoor
open Go.RowKit
open Seal
open Bson (Val Res)
set_option maxRecDepth 100000 in
set_option maxHeartbeats 4000000 in
theorem rval_int64 (w : World) (gr : Nat) (ba : Option Addr) (bc : Nat) (b : List Nat) (k : Nat) (dp : Int) (hR : RdE w gr ba bc b k 0) :
    Calls Tryd.prog 48 #[.pointer (some ⟨gr, 0, none⟩), .int .u8 18, .int .i64 dp] w (RPostE w.heap.size w gr ba bc b (Bson.number 4 8 (b.drop k))) := by
  have hlt := hR.lt
  have hB0 : Below w.heap.size w (w.alloc (.cells zeroCs 27)) := (Below.refl _ w).alloc (Nat.le_refl _) _
  have HR0 := Lib.hid (hR.keep hB0)
  have HG0 := Lib.hid (grown_below hB0 gr)
  have HF0 : Hid (Fresh w (w.alloc (.cells zeroCs 27))) := Fresh.new w
  clear hR hB0
  by_cases h4 : b.length < k + 8
  · have hres : Bson.number 4 8 (b.drop k) = .err 2 := by unfold Bson.number Bson.take; rw [if_pos (by simp; omega)]; rfl
    rw [hres]
    have CN := Lib.hid (need_no _ gr ba bc b k 8 HR0.out (by decide) h4)
    clear hres h4
    go_enter Tryd.func48, Tryd.ntmps48
    go_wp2_with fail
    refine CN.out.mono ?_
    rintro e w1 ⟨rfl, hr1, hg1⟩
    have HR1 := Lib.hid hr1
    have HG1 := Lib.hid (grown_trans HG0.out hg1)
    have HF1 := Lib.hid (HF0.out.grown hg1 hlt)
    clear hr1 hg1
    obtain ⟨d0, f0⟩ := HF1.out.cells 0 _ rfl
    obtain ⟨d1, f1⟩ := HF1.out.cells 1 _ rfl
    obtain ⟨d2, f2⟩ := HF1.out.cells 2 _ rfl
    obtain ⟨d3, f3⟩ := HF1.out.cells 3 _ rfl
    obtain ⟨d4, f4⟩ := HF1.out.cells 4 _ rfl
    obtain ⟨d5, f5⟩ := HF1.out.cells 5 _ rfl
    go_wp2_with fail
    exact bodyPost_ret (v := .agg #[.int .i64 0, .int .i64 0, .string ⟨#[]⟩, .slice none 0 0, .slice none 0 0, .slice none 0 0]) (by simp [results, Tryd.results48, go_sem, *]) rfl (fine_err hlt HF1.out HR1.out HG1.out _ _ _ _ _ _ six_zero)
  · have hmL : k + 8 ≤ b.length := by omega
    have HRS : Hid (Bson.number 4 8 (b.drop k) = .ok (.mk 4 (Bson.signed ((b.drop k).take 8)) Bson.none_ [] [] []) (b.drop (k + 8))) := by
      show _ = _
      unfold Bson.number Bson.take
      rw [if_neg (by simp; omega)]
      show Res.ok _ ((b.drop k).drop 8) = _
      rw [List.drop_drop]
    have CY := Lib.hid (need_ok _ gr ba bc b k 8 HR0.out hmL)
    have HML := Lib.hid hmL
    have hlen := HR0.out.len
    have hcap := HR0.out.cap
    have hmax := HR0.out.max
    have hx4 : ((b.drop k).take 8).length = 8 := by simp; omega
    have ho4 : Oct ((b.drop k).take 8) := fun c hc => HR0.out.oct c (List.mem_of_mem_drop (List.mem_of_mem_take hc))
    obtain ⟨hi64, hs0, hs1⟩ := conv_i64 _ hx4 ho4
    obtain ⟨RES, hRES⟩ : ∃ r, r = Bson.number 4 8 (b.drop k) := ⟨_, rfl⟩
    rw [← hRES] at HRS ⊢
    have CG0 := Lib.hid (fun (W : World) (hs : SliceIs W ba b) => get_any W ba b.length bc k 8 b rfl (by decide) (by decide) hmL HR0.out.len HR0.out.oct hs)
    generalize Bson.signed ((b.drop k).take 8) = sg at *
    generalize Bson.leN ((b.drop k).take 8) = x4 at *
    clear h4 hRES hx4 ho4
    go_enter Tryd.func48, Tryd.ntmps48
    go_wp2_with fail
    refine CY.out.mono ?_
    rintro e w5 ⟨rfl, hr5, hg5⟩
    have HR5 := Lib.hid hr5
    have HG5 := Lib.hid (grown_trans HG0.out hg5)
    have HF5 := Lib.hid (HF0.out.grown hg5 hlt)
    clear hr5 hg5
    clear CY
    obtain ⟨L, hL⟩ : ∃ L, L = b.length := ⟨_, rfl⟩
    have HL := Lib.hid hL
    have CG : Hid (∀ W, SliceIs W ba b → Calls Tryd.prog 43 #[.slice ba L bc, .int .i64 (k : Int), .int .i64 8] W fun e w' => e = .returned (.int .u64 (x4 : Int)) ∧ W = w') := fun W hs => by rw [hL]; exact CG0.out W hs
    rw [← hL] at hlen hcap hmL
    clear hL CG0
    have c1 := HR5.out.c1
    have f1 := HR5.out.frz 1
    have hw1 : IntKind.i64.wrap ((k : Int) + 8) = (k : Int) + 8 := IntWalk.i64_in _ (by omega)
    go_wp2_with fail
    have hs4 := HR5.out.setAt (k + 8) HML.out
    have e4 : ((k + 8 : Nat) : Int) = (k : Int) + 8 := by omega
    rw [e4] at hs4
    have HR6 := Lib.hid hs4.1
    have HG6 := Lib.hid (grown_trans HG5.out hs4.2)
    have HF6 := Lib.hid (HF5.out.grown hs4.2 hlt)
    clear hs4 e4 c1 f1
    generalize w5.setCell ⟨gr, 1, none⟩ (.int .i64 ((k : Int) + 8)) = w6 at *
    obtain ⟨r, hr⟩ : ∃ r, r = k + 8 := ⟨_, rfl⟩
    have HRr := Lib.hid hr
    have c0 := HR6.out.c0
    have c1 := HR6.out.c1
    rw [← HL.out] at c0
    rw [← hr] at c1
    have hrL : r ≤ L := by omega
    have hw3 : IntKind.i64.wrap ((r : Int) - 8) = (r : Int) - 8 := IntWalk.i64_in _ (by omega)
    have hrm : (r : Int) - 8 = (k : Int) := by omega
    clear hr hmL
    have hw4 : IntKind.i64.wrap (k : Int) = (k : Int) := IntWalk.i64_in _ (by omega)
    have hkeep := And.intro c0 c1
    refine wp_region_held_drew (S := fun W => W.cell? ⟨gr, 0, none⟩ = some (.slice ba L bc) ∧ W.cell? ⟨gr, 1, none⟩ = some (.int .i64 (r : Int))) (by kernel_rfl) (by exact hkeep) (fun hHeld => ?_)
    have HR7 : Hid (RdE w6.drew gr ba bc b (k + 8) 0) := HR6.out.dr 1
    have HG7 : Hid (w.grownBy w6.drew (some gr)) := grown_trans HG6.out (grown_drewN w6 1 gr)
    have HF7 : Hid (Fresh w w6.drew) := HF6.out.dr 1
    clear hkeep c0 c1
    generalize w6.drew = w7 at *
    have HB8 : Hid (Below w7.heap.size w7 (w7.alloc (.cells zeroCs 27))) := (Below.refl _ _).alloc (Nat.le_refl _) _
    have HR8 : Hid (RdE (w7.alloc (.cells zeroCs 27)) gr ba bc b (k + 8) 0) := HR7.out.keep HB8.out
    have HG8 : Hid (w.grownBy (w7.alloc (.cells zeroCs 27)) (some gr)) := grown_trans HG7.out (grown_below HB8.out gr)
    have HF8 : Hid (Fresh w (w7.alloc (.cells zeroCs 27))) := HF7.out.grown (grown_below HB8.out gr) hlt
    have HT8 : Hid ((w7.alloc (.cells zeroCs 27)).heap[w7.heap.size]? = some (.cells zeroCs 27 (0, 0))) := heap_alloc_new w7 _
    have HTL : Hid (gr < w7.heap.size ∧ w.heap.size < w7.heap.size) := ⟨HR7.out.lt, World.block_lt_of_cell? _ ⟨w.heap.size, 0, none⟩ (HF7.out.cells 0 _ rfl).1⟩
    refine wpAnyH_take (i := 0) (v := ?_) rfl (by kernel_rfl) (by kernel_rfl) (by kernel_rfl) (fun _ _ _ h => h) (Or.inl ⟨by kernel_rfl, ?_⟩) (by assumption) ?_
    rotate_left
    · intro wS hSw
      (try dsimp only at hSw)
      go_simp
      try (with_reducible rfl)
    try simp only [List.getElem_toArray, List.getElem_cons_zero, Act.put, List.setIfInBounds_toArray, List.set_cons_zero, List.set_cons_succ]
    refine wpAnyH_take (i := 1) (v := ?_) rfl (by kernel_rfl) (by kernel_rfl) (by kernel_rfl) (fun _ _ _ h => h) (Or.inl ⟨by kernel_rfl, ?_⟩) (by assumption) ?_
    rotate_left
    · intro wS hSw
      (try dsimp only at hSw)
      go_simp
      try (with_reducible rfl)
    try simp only [List.getElem_toArray, List.getElem_cons_succ, List.getElem_cons_zero, Act.put, List.setIfInBounds_toArray, List.set_cons_zero, List.set_cons_succ]
    refine wpAnyH_take (i := 2) (v := ?_) rfl (by kernel_rfl) (by kernel_rfl) (by kernel_rfl) (fun _ _ _ h => h) (Or.inl ⟨by kernel_rfl, ?_⟩) (by assumption) ?_
    rotate_left
    · intro wS hSw
      (try dsimp only at hSw)
      go_simp
      try (with_reducible rfl)
    try simp only [List.getElem_toArray, List.getElem_cons_succ, List.getElem_cons_zero, Act.put, List.setIfInBounds_toArray, List.set_cons_zero, List.set_cons_succ]
    refine wpAnyH_take (i := 3) (v := ?_) rfl (by kernel_rfl) (by kernel_rfl) (by kernel_rfl) (fun _ _ _ h => h) (Or.inl ⟨by kernel_rfl, ?_⟩) (by assumption) ?_
    rotate_left
    · intro wS hSw
      (try dsimp only at hSw)
      go_simp
      try (with_reducible rfl)
    try simp only [List.getElem_toArray, List.getElem_cons_succ, List.getElem_cons_zero, Act.put, List.setIfInBounds_toArray, List.set_cons_zero, List.set_cons_succ]
    refine wpAnyH_take (i := 4) (v := ?_) rfl (by kernel_rfl) (by kernel_rfl) (by kernel_rfl) (fun _ _ _ h => h) (Or.inl ⟨by kernel_rfl, ?_⟩) (by assumption) ?_
    rotate_left
    · intro wS hSw
      (try dsimp only at hSw)
      go_simp
      try (with_reducible rfl)
    try simp only [List.getElem_toArray, List.getElem_cons_succ, List.getElem_cons_zero, Act.put, List.setIfInBounds_toArray, List.set_cons_zero, List.set_cons_succ]
    refine wpAnyH_take (i := 5) (v := ?_) rfl (by kernel_rfl) (by kernel_rfl) (by kernel_rfl) (fun _ _ _ h => h) (Or.inl ⟨by kernel_rfl, ?_⟩) (by assumption) ?_
    rotate_left
    · intro wS hSw
      (try dsimp only at hSw)
      go_simp
      try (with_reducible rfl)
    try simp only [List.getElem_toArray, List.getElem_cons_succ, List.getElem_cons_zero, Act.put, List.setIfInBounds_toArray, List.set_cons_zero, List.set_cons_succ]
    refine wpAnyH_take (i := 6) (v := ?_) rfl (by kernel_rfl) (by kernel_rfl) (by kernel_rfl) (fun _ _ _ h => h) (Or.inl ⟨by kernel_rfl, ?_⟩) (by assumption) ?_
    rotate_left
    · intro wS hSw
      (try dsimp only at hSw)
      go_simp
      try (with_reducible rfl)
    try simp only [List.getElem_toArray, List.getElem_cons_succ, List.getElem_cons_zero, Act.put, List.setIfInBounds_toArray, List.set_cons_zero, List.set_cons_succ]
    refine wpAnyH_take (i := 7) (v := ?_) rfl (by kernel_rfl) (by kernel_rfl) (by kernel_rfl) (fun _ _ _ h => h) (Or.inl ⟨by kernel_rfl, ?_⟩) (by assumption) ?_
    rotate_left
    · intro wS hSw
      (try dsimp only at hSw)
      go_simp
      try (with_reducible rfl)
    try simp only [List.getElem_toArray, List.getElem_cons_succ, List.getElem_cons_zero, Act.put, List.setIfInBounds_toArray, List.set_cons_zero, List.set_cons_succ]
    refine wpAnyH_take (i := 8) (v := ?_) rfl (by kernel_rfl) (by kernel_rfl) (by kernel_rfl) (fun _ _ _ h => h) (Or.inl ⟨by kernel_rfl, ?_⟩) (by assumption) ?_
    rotate_left
    · intro wS hSw
      (try dsimp only at hSw)
      go_simp
      try (with_reducible rfl)
    try simp only [List.getElem_toArray, List.getElem_cons_succ, List.getElem_cons_zero, Act.put, List.setIfInBounds_toArray, List.set_cons_zero, List.set_cons_succ]
    refine wpAnyH_ready (rs := [9, 12]) (by kernel_rfl) (by simp) ?_
    refine AllReadyH.cons rfl (fun K hK => ?_) (AllReadyH.cons rfl (fun K hK => ?_) AllReadyH.nil)
    · go_simp
      go_at_call 43
      refine (CG.out _ HR7.out.rd).mono ?_
      rintro e wg ⟨rfl, rfl⟩
      have hkg : w7.cell? ⟨gr, 0, none⟩ = some (.slice ba L bc) ∧ w7.cell? ⟨gr, 1, none⟩ = some (.int .i64 (r : Int)) := by
        have e0 := HR7.out.c0
        have e1 := HR7.out.c1
        rw [← HL.out] at e0
        exact ⟨e0, by rw [HRr.out]; exact e1⟩
      refine hK.out _ _ (by exact hkg) (fun hHeld => ?_)
      clear hK K hkg
      try simp only [List.getElem_toArray, List.getElem_cons_succ, List.getElem_cons_zero, Act.put, List.setIfInBounds_toArray, List.set_cons_zero, List.set_cons_succ]
      refine wpAnyH_take (i := 10) (v := ?_) rfl (by kernel_rfl) (by kernel_rfl) (by kernel_rfl) (fun _ _ _ h => h) (Or.inl ⟨by kernel_rfl, ?_⟩) (by assumption) ?_
      rotate_left
      · intro wS hSw
        (try dsimp only at hSw)
        go_simp
        try (with_reducible rfl)
      try simp only [List.getElem_toArray, List.getElem_cons_succ, List.getElem_cons_zero, Act.put, List.setIfInBounds_toArray, List.set_cons_zero, List.set_cons_succ]
      refine wpAnyH_take (i := 11) (v := ?_) rfl (by kernel_rfl) (by kernel_rfl) (by kernel_rfl) (fun _ _ _ h => h) (Or.inl ⟨by kernel_rfl, ?_⟩) (by assumption) ?_
      rotate_left
      · intro wS hSw
        (try dsimp only at hSw)
        go_simp
        try (with_reducible rfl)
      try simp only [List.getElem_toArray, List.getElem_cons_succ, List.getElem_cons_zero, Act.put, List.setIfInBounds_toArray, List.set_cons_zero, List.set_cons_succ]
      refine wpAnyH_ready (rs := [12]) (by kernel_rfl) (by simp) ?_
      refine AllReadyH.cons rfl (fun K hK => ?_) AllReadyH.nil
      go_simp
      have hkz : (w7.alloc (.cells zeroCs 27)).cell? ⟨gr, 0, none⟩ = some (.slice ba L bc) ∧ (w7.alloc (.cells zeroCs 27)).cell? ⟨gr, 1, none⟩ = some (.int .i64 (r : Int)) := by
        have e0 := HR8.out.c0
        have e1 := HR8.out.c1
        rw [← HL.out] at e0
        exact ⟨e0, by rw [HRr.out]; exact e1⟩
      refine hK.out _ _ (by exact hkz) (fun hHeld => ?_)
      clear hK K hkz
      try simp only [List.getElem_toArray, List.getElem_cons_succ, List.getElem_cons_zero, Act.put, List.setIfInBounds_toArray, List.set_cons_zero, List.set_cons_succ]
      generalize (w7.alloc (.cells zeroCs 27)) = w8 at *
      generalize w7.heap.size = T at *
      refine wpAnyH_ready (rs := [13]) (by kernel_rfl) (by simp) ?_
      refine AllReadyH.cons rfl (fun K hK => ?_) AllReadyH.nil
      have d0 := (cell_of_row w8 T 0 _ _ _ HT8.out).trans (rfl : (zeroCs)[0]? = some (Value.int .i64 0))
      have f0 := frozen_of_row w8 T 0 _ _ HT8.out
      have d1 := (cell_of_row w8 T 1 _ _ _ HT8.out).trans (rfl : (zeroCs)[1]? = some (Value.int .i64 0))
      have f1 := frozen_of_row w8 T 1 _ _ HT8.out
      have d2 := (cell_of_row w8 T 2 _ _ _ HT8.out).trans (rfl : (zeroCs)[2]? = some (Value.string ⟨#[]⟩))
      have f2 := frozen_of_row w8 T 2 _ _ HT8.out
      have d3 := (cell_of_row w8 T 3 _ _ _ HT8.out).trans (rfl : (zeroCs)[3]? = some (Value.slice none 0 0))
      have f3 := frozen_of_row w8 T 3 _ _ HT8.out
      have d4 := (cell_of_row w8 T 4 _ _ _ HT8.out).trans (rfl : (zeroCs)[4]? = some (Value.slice none 0 0))
      have f4 := frozen_of_row w8 T 4 _ _ HT8.out
      have d5 := (cell_of_row w8 T 5 _ _ _ HT8.out).trans (rfl : (zeroCs)[5]? = some (Value.slice none 0 0))
      have f5 := frozen_of_row w8 T 5 _ _ HT8.out
      go_simp
      have HR9 : Hid (RdE (six w8 T (.int .i64 11) (.int .i64 sg) (.string ⟨#[]⟩) (.slice none 0 0) (.slice none 0 0) (.slice none 0 0)) gr ba bc b (k + 8) 0) := HR8.out.six (B := T) (by have := HTL.out; omega) (Go.Proofs.YtpiookgkkaafeaaDoor.no_byte HT8.out zero_no_byte) (.int .i64 11) (.int .i64 sg) (.string ⟨#[]⟩) (.slice none 0 0) (.slice none 0 0) (.slice none 0 0)
      have HG9 : Hid (w.grownBy (six w8 T (.int .i64 11) (.int .i64 sg) (.string ⟨#[]⟩) (.slice none 0 0) (.slice none 0 0) (.slice none 0 0)) (some gr)) := grown_six HG8.out (by have := HTL.out; omega) (.int .i64 11) (.int .i64 sg) (.string ⟨#[]⟩) (.slice none 0 0) (.slice none 0 0) (.slice none 0 0)
      have HF9 : Hid (Fresh w (six w8 T (.int .i64 11) (.int .i64 sg) (.string ⟨#[]⟩) (.slice none 0 0) (.slice none 0 0) (.slice none 0 0))) := fresh_six HF8.out (by have := HTL.out; omega) (.int .i64 11) (.int .i64 sg) (.string ⟨#[]⟩) (.slice none 0 0) (.slice none 0 0) (.slice none 0 0)
      have HT9 : Hid ((six w8 T (.int .i64 11) (.int .i64 sg) (.string ⟨#[]⟩) (.slice none 0 0) (.slice none 0 0) (.slice none 0 0)).heap[T]? = some (.cells #[.int .i64 11, .int .i64 sg, .string ⟨#[]⟩, .slice none 0 0, .slice none 0 0, .slice none 0 0] 27 (0, 0))) := box_six w8 T _ _ _ _ _ _ _ (.int .i64 11) (.int .i64 sg) (.string ⟨#[]⟩) (.slice none 0 0) (.slice none 0 0) (.slice none 0 0) HT8.out
      have hkeep2 : (six w8 T (.int .i64 11) (.int .i64 sg) (.string ⟨#[]⟩) (.slice none 0 0) (.slice none 0 0) (.slice none 0 0)).cell? ⟨gr, 0, none⟩ = some (.slice ba L bc) ∧ (six w8 T (.int .i64 11) (.int .i64 sg) (.string ⟨#[]⟩) (.slice none 0 0) (.slice none 0 0) (.slice none 0 0)).cell? ⟨gr, 1, none⟩ = some (.int .i64 (r : Int)) := by
        have e0 := HR9.out.c0
        have e1 := HR9.out.c1
        rw [← HL.out] at e0
        exact ⟨e0, by rw [HRr.out]; exact e1⟩
      refine hK.out _ _ (by exact hkeep2) (fun hHeld => ?_)
      clear hK K hkeep2
      try simp only [List.getElem_toArray, List.getElem_cons_succ, List.getElem_cons_zero, Act.put, List.setIfInBounds_toArray, List.set_cons_zero, List.set_cons_succ]
      refine wpAnyH_done (by kernel_rfl) ?_ _
      clear hHeld d0 d1 d2 d3 d4 d5 f0 f1 f2 f3 f4 f5
      rw [show ((((((w8.setCell ⟨T, 0, none⟩ (.int .i64 11)).setCell ⟨T, 1, none⟩ (.int .i64 sg)).setCell ⟨T, 2, none⟩ (.string ⟨#[]⟩)).setCell ⟨T, 3, none⟩ (.slice none 0 0)).setCell ⟨T, 4, none⟩ (.slice none 0 0)).setCell ⟨T, 5, none⟩ (.slice none 0 0)) = six w8 T (.int .i64 11) (.int .i64 sg) (.string ⟨#[]⟩) (.slice none 0 0) (.slice none 0 0) (.slice none 0 0) from rfl]
      generalize six w8 T (.int .i64 11) (.int .i64 sg) (.string ⟨#[]⟩) (.slice none 0 0) (.slice none 0 0) (.slice none 0 0) = w9 at *
      have fT := frozen_of_row w9 T 0 _ _ HT9.out
      have hb10 : w9.grownBy (w9.setCell ⟨T, 0, none⟩ (.int .i64 4)) (some T) := grown_setCell (grown_drewN w9 0 T) 0 _
      have HR10 : Hid (RdE (w9.setCell ⟨T, 0, none⟩ (.int .i64 4)) gr ba bc b (k + 8) 0) := HR9.out.other (by have := HTL.out; omega) (Go.Proofs.YtpiookgkkaafeaaDoor.no_byte HT9.out nb8) 0 _
      have HG10 : Hid (w.grownBy (w9.setCell ⟨T, 0, none⟩ (.int .i64 4)) (some gr)) := grown_new HG9.out (by have := HTL.out; omega) 0 _
      have HF10 : Hid (Fresh w (w9.setCell ⟨T, 0, none⟩ (.int .i64 4))) := (Below.heap_setCell w9 ⟨T, 0, none⟩ _ w.heap.size (by have := HTL.out; show w.heap.size ≠ T; omega)).trans HF9.out
      have HT10 : Hid ((w9.setCell ⟨T, 0, none⟩ (.int .i64 4)).heap[T]? = some (.cells #[.int .i64 4, .int .i64 sg, .string ⟨#[]⟩, .slice none 0 0, .slice none 0 0, .slice none 0 0] 27 (0, 0))) := by
        show _ = _
        rw [heap_setCell_same w9 T 0 _ _ _ HT9.out]; rfl
      clear hb10
      have hne : ¬ T = w.heap.size := by have := HTL.out; omega
      have hne' : ¬ w.heap.size = T := by have := HTL.out; omega
      have b0 := (cell_of_row w9 T 0 _ _ _ HT9.out).trans (rfl : (#[Value.int .i64 11, Value.int .i64 sg, Value.string ⟨#[]⟩, Value.slice none 0 0, Value.slice none 0 0, Value.slice none 0 0] : Array Value)[0]? = some (Value.int .i64 11))
      have b1 := (cell_of_row w9 T 1 _ _ _ HT9.out).trans (rfl : (#[Value.int .i64 11, Value.int .i64 sg, Value.string ⟨#[]⟩, Value.slice none 0 0, Value.slice none 0 0, Value.slice none 0 0] : Array Value)[1]? = some (Value.int .i64 sg))
      have b2 := (cell_of_row w9 T 2 _ _ _ HT9.out).trans (rfl : (#[Value.int .i64 11, Value.int .i64 sg, Value.string ⟨#[]⟩, Value.slice none 0 0, Value.slice none 0 0, Value.slice none 0 0] : Array Value)[2]? = some (Value.string ⟨#[]⟩))
      have b3 := (cell_of_row w9 T 3 _ _ _ HT9.out).trans (rfl : (#[Value.int .i64 11, Value.int .i64 sg, Value.string ⟨#[]⟩, Value.slice none 0 0, Value.slice none 0 0, Value.slice none 0 0] : Array Value)[3]? = some (Value.slice none 0 0))
      have b4 := (cell_of_row w9 T 4 _ _ _ HT9.out).trans (rfl : (#[Value.int .i64 11, Value.int .i64 sg, Value.string ⟨#[]⟩, Value.slice none 0 0, Value.slice none 0 0, Value.slice none 0 0] : Array Value)[4]? = some (Value.slice none 0 0))
      have b5 := (cell_of_row w9 T 5 _ _ _ HT9.out).trans (rfl : (#[Value.int .i64 11, Value.int .i64 sg, Value.string ⟨#[]⟩, Value.slice none 0 0, Value.slice none 0 0, Value.slice none 0 0] : Array Value)[5]? = some (Value.slice none 0 0))
      obtain ⟨d0, f0⟩ := HF9.out.cells 0 _ rfl
      obtain ⟨d1, f1⟩ := HF9.out.cells 1 _ rfl
      obtain ⟨d2, f2⟩ := HF9.out.cells 2 _ rfl
      obtain ⟨d3, f3⟩ := HF9.out.cells 3 _ rfl
      obtain ⟨d4, f4⟩ := HF9.out.cells 4 _ rfl
      obtain ⟨d5, f5⟩ := HF9.out.cells 5 _ rfl
      go_wp2_with fail
      rw [HRS.out]
      exact bodyPost_ret (v := .agg #[.int .i64 4, .int .i64 sg, .string ⟨#[]⟩, .slice none 0 0, .slice none 0 0, .slice none 0 0]) (by simp [results, Tryd.results48, go_sem, *]) rfl (fine_ok hlt HF10.out HR10.out HG10.out _ _ _ _ _ _ ⟨4, sg, ⟨#[]⟩, none, 0, 0, none, 0, 0, none, 0, 0, rfl⟩ (vin_flat _ _ 4 sg ⟨#[]⟩ (by decide) (by decide) (by omega) (by omega) (by decide)) rfl)
    · go_simp
      have hkz : (w7.alloc (.cells zeroCs 27)).cell? ⟨gr, 0, none⟩ = some (.slice ba L bc) ∧ (w7.alloc (.cells zeroCs 27)).cell? ⟨gr, 1, none⟩ = some (.int .i64 (r : Int)) := by
        have e0 := HR8.out.c0
        have e1 := HR8.out.c1
        rw [← HL.out] at e0
        exact ⟨e0, by rw [HRr.out]; exact e1⟩
      refine hK.out _ _ (by exact hkz) (fun hHeld => ?_)
      clear hK K hkz
      try simp only [List.getElem_toArray, List.getElem_cons_succ, List.getElem_cons_zero, Act.put, List.setIfInBounds_toArray, List.set_cons_zero, List.set_cons_succ]
      refine wpAnyH_ready (rs := [9]) (by kernel_rfl) (by simp) ?_
      refine AllReadyH.cons rfl (fun K hK => ?_) AllReadyH.nil
      go_simp
      go_at_call 43
      refine (CG.out _ HR8.out.rd).mono ?_
      rintro e wg ⟨rfl, rfl⟩
      have hkg : (w7.alloc (.cells zeroCs 27)).cell? ⟨gr, 0, none⟩ = some (.slice ba L bc) ∧ (w7.alloc (.cells zeroCs 27)).cell? ⟨gr, 1, none⟩ = some (.int .i64 (r : Int)) := by
        have e0 := HR8.out.c0
        have e1 := HR8.out.c1
        rw [← HL.out] at e0
        exact ⟨e0, by rw [HRr.out]; exact e1⟩
      refine hK.out _ _ (by exact hkg) (fun hHeld => ?_)
      clear hK K hkg
      try simp only [List.getElem_toArray, List.getElem_cons_succ, List.getElem_cons_zero, Act.put, List.setIfInBounds_toArray, List.set_cons_zero, List.set_cons_succ]
      refine wpAnyH_take (i := 10) (v := ?_) rfl (by kernel_rfl) (by kernel_rfl) (by kernel_rfl) (fun _ _ _ h => h) (Or.inl ⟨by kernel_rfl, ?_⟩) (by assumption) ?_
      rotate_left
      · intro wS hSw
        (try dsimp only at hSw)
        go_simp
        try (with_reducible rfl)
      try simp only [List.getElem_toArray, List.getElem_cons_succ, List.getElem_cons_zero, Act.put, List.setIfInBounds_toArray, List.set_cons_zero, List.set_cons_succ]
      refine wpAnyH_take (i := 11) (v := ?_) rfl (by kernel_rfl) (by kernel_rfl) (by kernel_rfl) (fun _ _ _ h => h) (Or.inl ⟨by kernel_rfl, ?_⟩) (by assumption) ?_
      rotate_left
      · intro wS hSw
        (try dsimp only at hSw)
        go_simp
        try (with_reducible rfl)
      try simp only [List.getElem_toArray, List.getElem_cons_succ, List.getElem_cons_zero, Act.put, List.setIfInBounds_toArray, List.set_cons_zero, List.set_cons_succ]
      generalize (w7.alloc (.cells zeroCs 27)) = w8 at *
      generalize w7.heap.size = T at *
      refine wpAnyH_ready (rs := [13]) (by kernel_rfl) (by simp) ?_
      refine AllReadyH.cons rfl (fun K hK => ?_) AllReadyH.nil
      have d0 := (cell_of_row w8 T 0 _ _ _ HT8.out).trans (rfl : (zeroCs)[0]? = some (Value.int .i64 0))
      have f0 := frozen_of_row w8 T 0 _ _ HT8.out
      have d1 := (cell_of_row w8 T 1 _ _ _ HT8.out).trans (rfl : (zeroCs)[1]? = some (Value.int .i64 0))
      have f1 := frozen_of_row w8 T 1 _ _ HT8.out
      have d2 := (cell_of_row w8 T 2 _ _ _ HT8.out).trans (rfl : (zeroCs)[2]? = some (Value.string ⟨#[]⟩))
      have f2 := frozen_of_row w8 T 2 _ _ HT8.out
      have d3 := (cell_of_row w8 T 3 _ _ _ HT8.out).trans (rfl : (zeroCs)[3]? = some (Value.slice none 0 0))
      have f3 := frozen_of_row w8 T 3 _ _ HT8.out
      have d4 := (cell_of_row w8 T 4 _ _ _ HT8.out).trans (rfl : (zeroCs)[4]? = some (Value.slice none 0 0))
      have f4 := frozen_of_row w8 T 4 _ _ HT8.out
      have d5 := (cell_of_row w8 T 5 _ _ _ HT8.out).trans (rfl : (zeroCs)[5]? = some (Value.slice none 0 0))
      have f5 := frozen_of_row w8 T 5 _ _ HT8.out
      go_simp
      have HR9 : Hid (RdE (six w8 T (.int .i64 11) (.int .i64 sg) (.string ⟨#[]⟩) (.slice none 0 0) (.slice none 0 0) (.slice none 0 0)) gr ba bc b (k + 8) 0) := HR8.out.six (B := T) (by have := HTL.out; omega) (Go.Proofs.YtpiookgkkaafeaaDoor.no_byte HT8.out zero_no_byte) (.int .i64 11) (.int .i64 sg) (.string ⟨#[]⟩) (.slice none 0 0) (.slice none 0 0) (.slice none 0 0)
      have HG9 : Hid (w.grownBy (six w8 T (.int .i64 11) (.int .i64 sg) (.string ⟨#[]⟩) (.slice none 0 0) (.slice none 0 0) (.slice none 0 0)) (some gr)) := grown_six HG8.out (by have := HTL.out; omega) (.int .i64 11) (.int .i64 sg) (.string ⟨#[]⟩) (.slice none 0 0) (.slice none 0 0) (.slice none 0 0)
      have HF9 : Hid (Fresh w (six w8 T (.int .i64 11) (.int .i64 sg) (.string ⟨#[]⟩) (.slice none 0 0) (.slice none 0 0) (.slice none 0 0))) := fresh_six HF8.out (by have := HTL.out; omega) (.int .i64 11) (.int .i64 sg) (.string ⟨#[]⟩) (.slice none 0 0) (.slice none 0 0) (.slice none 0 0)
      have HT9 : Hid ((six w8 T (.int .i64 11) (.int .i64 sg) (.string ⟨#[]⟩) (.slice none 0 0) (.slice none 0 0) (.slice none 0 0)).heap[T]? = some (.cells #[.int .i64 11, .int .i64 sg, .string ⟨#[]⟩, .slice none 0 0, .slice none 0 0, .slice none 0 0] 27 (0, 0))) := box_six w8 T _ _ _ _ _ _ _ (.int .i64 11) (.int .i64 sg) (.string ⟨#[]⟩) (.slice none 0 0) (.slice none 0 0) (.slice none 0 0) HT8.out
      have hkeep2 : (six w8 T (.int .i64 11) (.int .i64 sg) (.string ⟨#[]⟩) (.slice none 0 0) (.slice none 0 0) (.slice none 0 0)).cell? ⟨gr, 0, none⟩ = some (.slice ba L bc) ∧ (six w8 T (.int .i64 11) (.int .i64 sg) (.string ⟨#[]⟩) (.slice none 0 0) (.slice none 0 0) (.slice none 0 0)).cell? ⟨gr, 1, none⟩ = some (.int .i64 (r : Int)) := by
        have e0 := HR9.out.c0
        have e1 := HR9.out.c1
        rw [← HL.out] at e0
        exact ⟨e0, by rw [HRr.out]; exact e1⟩
      refine hK.out _ _ (by exact hkeep2) (fun hHeld => ?_)
      clear hK K hkeep2
      try simp only [List.getElem_toArray, List.getElem_cons_succ, List.getElem_cons_zero, Act.put, List.setIfInBounds_toArray, List.set_cons_zero, List.set_cons_succ]
      refine wpAnyH_done (by kernel_rfl) ?_ _
      clear hHeld d0 d1 d2 d3 d4 d5 f0 f1 f2 f3 f4 f5
      rw [show ((((((w8.setCell ⟨T, 0, none⟩ (.int .i64 11)).setCell ⟨T, 1, none⟩ (.int .i64 sg)).setCell ⟨T, 2, none⟩ (.string ⟨#[]⟩)).setCell ⟨T, 3, none⟩ (.slice none 0 0)).setCell ⟨T, 4, none⟩ (.slice none 0 0)).setCell ⟨T, 5, none⟩ (.slice none 0 0)) = six w8 T (.int .i64 11) (.int .i64 sg) (.string ⟨#[]⟩) (.slice none 0 0) (.slice none 0 0) (.slice none 0 0) from rfl]
      generalize six w8 T (.int .i64 11) (.int .i64 sg) (.string ⟨#[]⟩) (.slice none 0 0) (.slice none 0 0) (.slice none 0 0) = w9 at *
      have fT := frozen_of_row w9 T 0 _ _ HT9.out
      have hb10 : w9.grownBy (w9.setCell ⟨T, 0, none⟩ (.int .i64 4)) (some T) := grown_setCell (grown_drewN w9 0 T) 0 _
      have HR10 : Hid (RdE (w9.setCell ⟨T, 0, none⟩ (.int .i64 4)) gr ba bc b (k + 8) 0) := HR9.out.other (by have := HTL.out; omega) (Go.Proofs.YtpiookgkkaafeaaDoor.no_byte HT9.out nb8) 0 _
      have HG10 : Hid (w.grownBy (w9.setCell ⟨T, 0, none⟩ (.int .i64 4)) (some gr)) := grown_new HG9.out (by have := HTL.out; omega) 0 _
      have HF10 : Hid (Fresh w (w9.setCell ⟨T, 0, none⟩ (.int .i64 4))) := (Below.heap_setCell w9 ⟨T, 0, none⟩ _ w.heap.size (by have := HTL.out; show w.heap.size ≠ T; omega)).trans HF9.out
      have HT10 : Hid ((w9.setCell ⟨T, 0, none⟩ (.int .i64 4)).heap[T]? = some (.cells #[.int .i64 4, .int .i64 sg, .string ⟨#[]⟩, .slice none 0 0, .slice none 0 0, .slice none 0 0] 27 (0, 0))) := by
        show _ = _
        rw [heap_setCell_same w9 T 0 _ _ _ HT9.out]; rfl
      clear hb10
      have hne : ¬ T = w.heap.size := by have := HTL.out; omega
      have hne' : ¬ w.heap.size = T := by have := HTL.out; omega
      have b0 := (cell_of_row w9 T 0 _ _ _ HT9.out).trans (rfl : (#[Value.int .i64 11, Value.int .i64 sg, Value.string ⟨#[]⟩, Value.slice none 0 0, Value.slice none 0 0, Value.slice none 0 0] : Array Value)[0]? = some (Value.int .i64 11))
      have b1 := (cell_of_row w9 T 1 _ _ _ HT9.out).trans (rfl : (#[Value.int .i64 11, Value.int .i64 sg, Value.string ⟨#[]⟩, Value.slice none 0 0, Value.slice none 0 0, Value.slice none 0 0] : Array Value)[1]? = some (Value.int .i64 sg))
      have b2 := (cell_of_row w9 T 2 _ _ _ HT9.out).trans (rfl : (#[Value.int .i64 11, Value.int .i64 sg, Value.string ⟨#[]⟩, Value.slice none 0 0, Value.slice none 0 0, Value.slice none 0 0] : Array Value)[2]? = some (Value.string ⟨#[]⟩))
      have b3 := (cell_of_row w9 T 3 _ _ _ HT9.out).trans (rfl : (#[Value.int .i64 11, Value.int .i64 sg, Value.string ⟨#[]⟩, Value.slice none 0 0, Value.slice none 0 0, Value.slice none 0 0] : Array Value)[3]? = some (Value.slice none 0 0))
      have b4 := (cell_of_row w9 T 4 _ _ _ HT9.out).trans (rfl : (#[Value.int .i64 11, Value.int .i64 sg, Value.string ⟨#[]⟩, Value.slice none 0 0, Value.slice none 0 0, Value.slice none 0 0] : Array Value)[4]? = some (Value.slice none 0 0))
      have b5 := (cell_of_row w9 T 5 _ _ _ HT9.out).trans (rfl : (#[Value.int .i64 11, Value.int .i64 sg, Value.string ⟨#[]⟩, Value.slice none 0 0, Value.slice none 0 0, Value.slice none 0 0] : Array Value)[5]? = some (Value.slice none 0 0))
      obtain ⟨d0, f0⟩ := HF9.out.cells 0 _ rfl
      obtain ⟨d1, f1⟩ := HF9.out.cells 1 _ rfl
      obtain ⟨d2, f2⟩ := HF9.out.cells 2 _ rfl
      obtain ⟨d3, f3⟩ := HF9.out.cells 3 _ rfl
      obtain ⟨d4, f4⟩ := HF9.out.cells 4 _ rfl
      obtain ⟨d5, f5⟩ := HF9.out.cells 5 _ rfl
      go_wp2_with fail
      rw [HRS.out]
      exact bodyPost_ret (v := .agg #[.int .i64 4, .int .i64 sg, .string ⟨#[]⟩, .slice none 0 0, .slice none 0 0, .slice none 0 0]) (by simp [results, Tryd.results48, go_sem, *]) rfl (fine_ok hlt HF10.out HR10.out HG10.out _ _ _ _ _ _ ⟨4, sg, ⟨#[]⟩, none, 0, 0, none, 0, 0, none, 0, 0, rfl⟩ (vin_flat _ _ 4 sg ⟨#[]⟩ (by decide) (by decide) (by omega) (by omega) (by decide)) rfl)
end Go.Proofs.YtpiookgkkaafeaaDoor
end
section
namespace Go.Proofs.YtpiookgkkaafeaaDoor
open Go.RowKit
open Seal
open Bson (Val Res)
theorem rvalue_any (w : World) (gr : Nat) (ba : Option Addr) (bc : Nat) (b : List Nat) (k c : Nat) (dp : Int) (hd0 : 0 ≤ dp) (hd1 : dp ≤ 100) (d3 d4 : List Nat → Res Val) (hR : RdE w gr ba bc b k 0)
    (C3 : ∀ w1 : World, RdE w1 gr ba bc b k 0 → Calls Tryd.prog 24 #[.pointer (some ⟨gr, 0, none⟩), .bool false, .int .i64 (dp + 1)] w1 (RPostE w1.heap.size w1 gr ba bc b (d3 (b.drop k))))
    (C4 : ∀ w1 : World, RdE w1 gr ba bc b k 0 → Calls Tryd.prog 24 #[.pointer (some ⟨gr, 0, none⟩), .bool true, .int .i64 (dp + 1)] w1 (RPostE w1.heap.size w1 gr ba bc b (d4 (b.drop k)))) :
    Calls Tryd.prog 48 #[.pointer (some ⟨gr, 0, none⟩), .int .u8 (c : Int), .int .i64 dp] w (RPostE w.heap.size w gr ba bc b (Bson.valOf d3 d4 c (b.drop k))) := by
  by_cases h3 : c = 3
  · subst h3; exact rval_doc w gr ba bc b k dp _ hd0 hd1 hR C3
  by_cases h4 : c = 4
  · subst h4; exact rval_list w gr ba bc b k dp _ hd0 hd1 hR C4
  by_cases h1 : c = 1
  · subst h1; exact rval_double w gr ba bc b k dp hR
  by_cases h2 : c = 2
  · subst h2; exact rval_text w gr ba bc b k dp hR
  by_cases h5 : c = 5
  · subst h5; exact rval_bytes w gr ba bc b k dp hR
  by_cases h7 : c = 7
  · subst h7; exact rval_id w gr ba bc b k dp hR
  by_cases h8 : c = 8
  · subst h8; exact rval_bool w gr ba bc b k dp hR
  by_cases h9 : c = 9
  · subst h9; exact rval_date w gr ba bc b k dp hR
  by_cases h10 : c = 10
  · subst h10; exact rval_null w gr ba bc b k dp hR
  by_cases h16 : c = 16
  · subst h16; exact rval_int32 w gr ba bc b k dp hR
  by_cases h18 : c = 18
  · subst h18; exact rval_int64 w gr ba bc b k dp hR
  by_cases h19 : c = 19
  · subst h19; exact rval_decimal w gr ba bc b k dp hR
  by_cases h127 : c = 127
  · subst h127; exact rval_great w gr ba bc b k dp hR
  by_cases h255 : c = 255
  · subst h255; exact rval_least w gr ba bc b k dp hR
  have hk : Bson.known c = false := by simp [Bson.known, *]
  have hv : Bson.valOf d3 d4 c (b.drop k) = .err 9 := by unfold Bson.valOf Bson.scalarOf; simp [*]
  rw [hv]
  exact rval_none w gr ba bc b k dp c hR hk
end Go.Proofs.YtpiookgkkaafeaaDoor
end
section
namespace Go.Proofs.YtpiookgkkaafeaaDoor
open Go.RowKit
open Seal
open Bson (Val Res)
def dz (list : Bool) : Int := if list then 7 else 6
section
variable {w w' : World} {base : Nat} {v v' : Value} {QA : Nat → Prop} {h : Nat} {ys : List Val} {xs : List Value}
theorem Acc.up (ha : Acc w base v QA h ys xs) {h' : Nat} (hh : h ≤ h') : Acc w base v QA h' ys xs :=
  ⟨ha.own, fun i hi => by
    obtain ⟨c0, c1, c2, c3, c4, c5, h0, h1, h2, h3, h4, h5, hv⟩ := ha.at' i hi
    exact ⟨c0, c1, c2, c3, c4, c5, h0, h1, h2, h3, h4, h5, hv.up hh⟩⟩
theorem Acc.celled (ha : Acc w base v QA h ys xs) (hb : ∀ g, v.ownBlock = some g → w'.heap[g]? = w.heap[g]?) (hc : ∀ g o u, QA g ∧ v.ownBlock ≠ some g → w.cell? ⟨g, o, none⟩ = some u → w'.cell? ⟨g, o, none⟩ = some u) : Acc w' base v QA h ys xs := by
  refine ⟨?_, fun i hi => ?_⟩
  · refine ⟨ha.own.1, ?_⟩
    rcases ha.own.2 with h0 | ⟨g2, cap, cur, e, h1, h2, h3⟩
    · exact .inl h0
    · exact .inr ⟨g2, cap, cur, e, h1, (hb g2 (by rw [e]; rfl)).trans h2, h3⟩
  · obtain ⟨c0, c1, c2, c3, c4, c5, h0, h1, h2, h3, h4, h5, hv⟩ := ha.at' i hi
    exact ⟨c0, c1, c2, c3, c4, c5, h0, h1, h2, h3, h4, h5, VIn.celled hc hv⟩
theorem Acc.grown {gr : Nat} (ha : Acc w base v QA h ys xs) (hg : w.grownBy w' (some gr)) (hq : ∀ g, QA g → g ≠ gr) (hb : gr < base) : Acc w' base v QA h ys xs :=
  ha.celled (fun g e => hg.block g (ha.own.lt g e).2 (fun e2 => by have := (ha.own.lt g e).1; have := Option.some.inj e2; omega))
    (fun g o u hqq hc => (World.cell?_of_block (a := ⟨g, o, none⟩) (hg.block g (World.block_lt_of_cell? w _ hc) (fun e2 => hq g hqq.1 (Option.some.inj e2)))).trans hc)
end
/-- What the loop over the fields holds: the reader, the result's box, the value's box, the row that grows. -/
structure RDLoop (list : Bool) (w : World) (gr : Nat) (ba : Option Addr) (bc : Nat) (b : List Nat) (k e : Nat) (acc : List (ByteArray × Val)) (vF vL : Value) (wr : World) : Prop where
  lt : gr < w.heap.size
  rd : RdE wr gr ba bc b k e
  fr : Fresh w wr
  bx : wr.heap[w.heap.size + 1]? = some (.cells #[.int .i64 (dz list), .int .i64 0, .string ⟨#[]⟩, .slice none 0 0, vF, vL] 27 (0, 0))
  rf : list = false → vL = .slice none 0 0 ∧ ∃ h xs, FAcc wr (w.heap.size + 2) vF (fun g => w.heap.size + 2 ≤ g) h acc xs
  rl : list = true → vF = .slice none 0 0 ∧ ∃ h xs, Acc wr (w.heap.size + 2) vL (fun g => w.heap.size + 2 ≤ g) h (acc.map (·.2)) xs
  nm : list = true → ∀ i (hi : i < acc.length), (acc[i]).1 = Bson.digits i
  gw : w.grownBy wr (some gr)
  sz : w.heap.size + 2 ≤ wr.heap.size
  ln : acc.length ≤ 65536
  r0 : ∃ k0, RdE w gr ba bc b k0 0
section
variable {list : Bool} {w wr w' : World} {gr bc k k' e e' : Nat} {ba : Option Addr} {b : List Nat} {acc : List (ByteArray × Val)} {vF vL : Value}
theorem RDLoop.moved (h : RDLoop list w gr ba bc b k e acc vF vL wr) (hg : wr.grownBy w' (some gr)) (hr : RdE w' gr ba bc b k' e') : RDLoop list w gr ba bc b k' e' acc vF vL w' := by
  have hlt := h.lt
  have hsz := h.sz
  refine ⟨h.lt, hr, h.fr.grown hg h.lt, (hg.block (w.heap.size + 1) (by omega) (fun e => by have := Option.some.inj e; omega)).trans h.bx, fun hl => ?_, fun hl => ?_, h.nm, grown_trans h.gw hg, Nat.le_trans h.sz hg.size, h.ln, h.r0⟩
  · obtain ⟨h1, hh, xs, h2⟩ := h.rf hl
    exact ⟨h1, hh, xs, h2.grown hg (fun g hq e => by have h3 : w.heap.size + 2 ≤ g := hq; omega) (by omega)⟩
  · obtain ⟨h1, hh, xs, h2⟩ := h.rl hl
    exact ⟨h1, hh, xs, h2.grown hg (fun g hq e => by have h3 : w.heap.size + 2 ≤ g := hq; omega) (by omega)⟩
theorem RDLoop.grown (h : RDLoop list w gr ba bc b k e acc vF vL wr) (hg : wr.grownBy w' (some gr)) (hr : RdE w' gr ba bc b k' e') (_ : k ≤ k') : RDLoop list w gr ba bc b k' e' acc vF vL w' := h.moved hg hr
theorem RDLoop.dr (h : RDLoop list w gr ba bc b k e acc vF vL wr) (q : Nat) : RDLoop list w gr ba bc b k e acc vF vL (wr.drewN q) := h.grown (grown_drewN wr q gr) (h.rd.dr q) (Nat.le_refl _)
theorem RDLoop.setAt (h : RDLoop list w gr ba bc b k e acc vF vL wr) (k' : Nat) (hk : k' ≤ b.length) (hkk : k ≤ k') : RDLoop list w gr ba bc b k' e acc vF vL (wr.setCell ⟨gr, 1, none⟩ (.int .i64 (k' : Int))) :=
  h.grown (h.rd.setAt k' hk).2 (h.rd.setAt k' hk).1 hkk
theorem RDLoop.kept (h : RDLoop list w gr ba bc b k e acc vF vL wr) (hb : Below wr.heap.size wr w') : RDLoop list w gr ba bc b k e acc vF vL w' := h.grown (grown_below hb gr) (h.rd.keep hb) (Nat.le_refl _)
theorem RDLoop.box (h : RDLoop list w gr ba bc b k e acc vF vL wr) : wr.cell? ⟨w.heap.size + 1, 0, none⟩ = some (.int .i64 (dz list)) ∧ wr.cell? ⟨w.heap.size + 1, 1, none⟩ = some (.int .i64 0) ∧ wr.cell? ⟨w.heap.size + 1, 2, none⟩ = some (.string ⟨#[]⟩) ∧ wr.cell? ⟨w.heap.size + 1, 3, none⟩ = some (.slice none 0 0) ∧ wr.cell? ⟨w.heap.size + 1, 4, none⟩ = some vF ∧ wr.cell? ⟨w.heap.size + 1, 5, none⟩ = some vL :=
  ⟨cell_of_row _ _ 0 _ _ _ h.bx, cell_of_row _ _ 1 _ _ _ h.bx, cell_of_row _ _ 2 _ _ _ h.bx, cell_of_row _ _ 3 _ _ _ h.bx, cell_of_row _ _ 4 _ _ _ h.bx, cell_of_row _ _ 5 _ _ _ h.bx⟩
/-- The slices' forms, and the value that stands in the box. -/
theorem RDLoop.value (h : RDLoop list w gr ba bc b k e acc vF vL wr) : ∃ aF nF cF aL nL cL, vF = .slice aF nF cF ∧ vL = .slice aL nL cL ∧ nF = (if list then 0 else acc.length) ∧ nL = (if list then acc.length else 0) ∧ nF ≤ cF ∧ nL ≤ cL ∧ cF ≤ 9223372036854775807 ∧ cL ≤ 9223372036854775807 ∧ ValV (w.heap.size + 1) wr (Bson.shut list acc) (.agg #[.int .i64 (dz list), .int .i64 0, .string ⟨#[]⟩, .slice none 0 0, vF, vL]) := by
  have hln := h.ln
  have hle := h.rd.le
  have hlen := h.rd.len
  cases list with
  | false =>
    obtain ⟨rfl, hh, xs, hf⟩ := h.rf rfl
    obtain ⟨a, c, rfl, hc, hfi⟩ := hf.fields (Q' := fun g => w.heap.size + 1 ≤ g) (fun g hq => by have h3 : w.heap.size + 2 ≤ g := hq; show _ ≤ _; omega) (fun g hq _ => by show _ ≤ _; omega)
    refine ⟨a, _, c, none, 0, 0, rfl, rfl, rfl, rfl, hc.1, Nat.le_refl _, hc.2, by omega, hh + 1, none, a, none, 0, c, 0, rfl, ⟨by show (-9223372036854775808 : Int) ≤ 6; omega, by show (6 : Int) ≤ _; omega, by show (-9223372036854775808 : Int) ≤ 0; omega, by show (0 : Int) ≤ _; omega, by show (0 : Nat) ≤ _; omega, by show (0 : Nat) ≤ _; omega, by show acc.length ≤ _; omega, by show (0 : Nat) ≤ _; omega, fun c hc => by cases hc⟩, ⟨Nat.le_refl _, by omega⟩, hc, ⟨Nat.le_refl _, by omega⟩, .inl rfl, hfi, .inl rfl⟩
  | true =>
    obtain ⟨rfl, hh, xs, hf⟩ := h.rl rfl
    obtain ⟨a, c, rfl, hc, hfi⟩ := hf.items (Q' := fun g => w.heap.size + 1 ≤ g) (fun g hq => by have h3 : w.heap.size + 2 ≤ g := hq; show _ ≤ _; omega) (fun g hq _ => by show _ ≤ _; omega)
    have hm : (acc.map (·.2)).length = acc.length := List.length_map _
    refine ⟨none, 0, 0, a, _, c, rfl, rfl, rfl, hm, Nat.le_refl _, hc.1, by omega, hc.2, hh + 1, none, none, a, 0, 0, c, rfl, ⟨by show (-9223372036854775808 : Int) ≤ 7; omega, by show (7 : Int) ≤ _; omega, by show (-9223372036854775808 : Int) ≤ 0; omega, by show (0 : Int) ≤ _; omega, by show (0 : Nat) ≤ _; omega, by show (0 : Nat) ≤ _; omega, by show (0 : Nat) ≤ _; omega, by show (acc.map (·.2)).length ≤ _; omega, fun c hc => by cases hc⟩, ⟨Nat.le_refl _, by omega⟩, ⟨Nat.le_refl _, by omega⟩, hc, .inl rfl, .inl rfl, hfi⟩
/-- The ends: the box is read, and stored into the result's. -/
theorem RDLoop.err {aF aL : Option Addr} {nF cF nL cL : Nat} (h : RDLoop list w gr ba bc b k e acc (.slice aF nF cF) (.slice aL nL cL) wr) : RPostE w.heap.size w gr ba bc b (.err e) (.returned (.agg #[.int .i64 (dz list), .int .i64 0, .string ⟨#[]⟩, .slice none 0 0, .slice aF nF cF, .slice aL nL cL])) (six wr w.heap.size (.int .i64 (dz list)) (.int .i64 0) (.string ⟨#[]⟩) (.slice none 0 0) (.slice aF nF cF) (.slice aL nL cL)) :=
  fine_err h.lt h.fr h.rd h.gw _ _ _ _ _ _ ⟨_, _, _, _, _, _, _, _, _, _, _, _, rfl⟩
theorem RDLoop.ok {aF aL : Option Addr} {nF cF nL cL : Nat} (h : RDLoop list w gr ba bc b k 0 acc (.slice aF nF cF) (.slice aL nL cL) wr) : RPostE w.heap.size w gr ba bc b (.ok (Bson.shut list acc) (b.drop k)) (.returned (.agg #[.int .i64 (dz list), .int .i64 0, .string ⟨#[]⟩, .slice none 0 0, .slice aF nF cF, .slice aL nL cL])) (six wr w.heap.size (.int .i64 (dz list)) (.int .i64 0) (.string ⟨#[]⟩) (.slice none 0 0) (.slice aF nF cF) (.slice aL nL cL)) := by
  obtain ⟨_, _, _, _, _, _, _, _, _, _, _, _, _, _, hv⟩ := h.value
  exact fine_ok h.lt h.fr h.rd h.gw _ _ _ _ _ _ ⟨_, _, _, _, _, _, _, _, _, _, _, _, rfl⟩ (hv.stored_at _ _ _ _ _ _) rfl
/-- What an append into the row and the store of its slice leave. -/
theorem RDLoop.behind {hb0 : Nat} {v v' : Value} {w5 w9 : World} {j : Nat} (h : RDLoop list w gr ba bc b k e acc vF vL wr) (hb : Below wr.heap.size wr w5) (hw : Wrote w5 w9 v v') (hge : ∀ g, v.ownBlock = some g → hb0 ≤ g) (h0 : hb0 = w.heap.size + 2) :
    w.grownBy (w9.setCell ⟨w.heap.size + 1, j, none⟩ v') (some gr) ∧ RdE (w9.setCell ⟨w.heap.size + 1, j, none⟩ v') gr ba bc b k e ∧ Fresh w (w9.setCell ⟨w.heap.size + 1, j, none⟩ v') ∧ w9.heap[w.heap.size + 1]? = some (.cells #[.int .i64 (dz list), .int .i64 0, .string ⟨#[]⟩, .slice none 0 0, vF, vL] 27 (0, 0)) ∧ w.heap.size + 2 ≤ w9.heap.size := by
  subst h0
  have hlt := h.lt
  have hsz := h.sz
  have hs5 : wr.heap.size ≤ w5.heap.size := hb.size
  have hs9 : w5.heap.size ≤ w9.heap.size := hw.1.size
  have hg5 : w.grownBy w5 (some gr) := grown_trans h.gw (grown_below hb gr)
  have hg : w.grownBy w9 (some gr) := ⟨hw.1.os.trans hg5.os, hw.1.tape.trans hg5.tape, hw.1.output.trans hg5.output, Nat.le_trans hg5.size hw.1.size, fun g hgl hne => (hw.1.block g (Nat.lt_of_lt_of_le hgl hg5.size) (fun e => by have := hge g e.symm; omega)).trans (hg5.block g hgl hne)⟩
  have same : ∀ g, g < w.heap.size + 2 → w9.heap[g]? = wr.heap[g]? := fun g hgl => (hw.1.block g (by omega) (fun e => by have := hge g e.symm; omega)).trans (hb.block g (by omega))
  have hgs : w.grownBy (w9.setCell ⟨w.heap.size + 1, j, none⟩ v') (some gr) := grown_new hg (by omega) j v'
  have other : ∀ g, g ≠ w.heap.size + 1 → (w9.setCell ⟨w.heap.size + 1, j, none⟩ v').heap[g]? = w9.heap[g]? := fun g hgn => Below.heap_setCell w9 ⟨w.heap.size + 1, j, none⟩ v' g hgn
  obtain ⟨k0, hr0⟩ := h.r0
  refine ⟨hgs, hr0.moved hgs h.rd.le ((other gr (by omega)).trans ((same gr (by omega)).trans h.rd.blk)), (other _ (by omega)).trans ((same _ (by omega)).trans h.fr), (same _ (by omega)).trans h.bx, by omega⟩
theorem RDLoop.pushF {hy hh : Nat} {v' : Value} {w5 w9 : World} {s : ByteArray} {y : Val} {c0 c1 c2 c3 c4 c5 : Value} {xs : List Value} (h : RDLoop false w gr ba bc b k e acc vF vL wr) (hf : FAcc wr (w.heap.size + 2) vF (fun g => w.heap.size + 2 ≤ g) hh acc xs)
    (hb : Below wr.heap.size wr w5) (hw : Wrote w5 w9 vF v') (hown : w9.ownsRow (w.heap.size + 2) 43 7 v' (acc.length + 1) (xs ++ [.string s, c0, c1, c2, c3, c4, c5])) (hs : s.size ≤ 140737488355328) (hln : acc.length + 1 ≤ 65536)
    (hv : VIn w5 (fun g => w.heap.size + 2 ≤ g ∧ vF.ownBlock ≠ some g) hy y (.agg #[c0, c1, c2, c3, c4, c5])) : RDLoop false w gr ba bc b k e (acc ++ [(s, y)]) v' vL (w9.setCell ⟨w.heap.size + 1, 4, none⟩ v') := by
  have hf5 := (hf.keep hb).up (Nat.le_max_left hh hy)
  obtain ⟨hg, hr, hfr, hbx, hsz⟩ := h.behind (j := 4) hb hw (fun g e => (hf5.own.lt g e).1) rfl
  have hp := hf5.push hw hown hs (hv.up (Nat.le_max_right hh hy))
  have other : ∀ g, g ≠ w.heap.size + 1 → (w9.setCell ⟨w.heap.size + 1, 4, none⟩ v').heap[g]? = w9.heap[g]? := fun g hgn => Below.heap_setCell w9 ⟨w.heap.size + 1, 4, none⟩ v' g hgn
  refine ⟨h.lt, hr, hfr, ?_, fun _ => ⟨(h.rf rfl).1, _, _, hp.celled (fun g e => other g (by have := (hp.own.lt g e).1; omega)) (fun g o u hq hc => (World.cell?_of_block (a := ⟨g, o, none⟩) (other g (by have h1 : w.heap.size + 2 ≤ g := hq.1; omega))).trans hc)⟩, fun e => (by cases e), fun e => by (cases e), hg, ?_, by rw [List.length_append]; simp; omega, h.r0⟩
  · rw [heap_setCell_same w9 (w.heap.size + 1) 4 _ _ _ hbx]; rfl
  · simpa using hsz
theorem RDLoop.pushL {hy hh : Nat} {v' : Value} {w5 w9 : World} {s : ByteArray} {y : Val} {c0 c1 c2 c3 c4 c5 : Value} {xs : List Value} (h : RDLoop true w gr ba bc b k e acc vF vL wr) (hf : Acc wr (w.heap.size + 2) vL (fun g => w.heap.size + 2 ≤ g) hh (acc.map (·.2)) xs)
    (hb : Below wr.heap.size wr w5) (hw : Wrote w5 w9 vL v') (hown : w9.ownsRow (w.heap.size + 2) 27 6 v' (acc.length + 1) (xs ++ [c0, c1, c2, c3, c4, c5])) (hs : s = Bson.digits acc.length) (hln : acc.length + 1 ≤ 65536)
    (hv : VIn w5 (fun g => w.heap.size + 2 ≤ g ∧ vL.ownBlock ≠ some g) hy y (.agg #[c0, c1, c2, c3, c4, c5])) : RDLoop true w gr ba bc b k e (acc ++ [(s, y)]) vF v' (w9.setCell ⟨w.heap.size + 1, 5, none⟩ v') := by
  have hf5 := (hf.keep hb).up (Nat.le_max_left hh hy)
  obtain ⟨hg, hr, hfr, hbx, hsz⟩ := h.behind (j := 5) hb hw (fun g e => (hf5.own.lt g e).1) rfl
  have hp := hf5.push (y := y) hw (by rw [List.length_map]; exact hown) (hv.up (Nat.le_max_right hh hy))
  have other : ∀ g, g ≠ w.heap.size + 1 → (w9.setCell ⟨w.heap.size + 1, 5, none⟩ v').heap[g]? = w9.heap[g]? := fun g hgn => Below.heap_setCell w9 ⟨w.heap.size + 1, 5, none⟩ v' g hgn
  refine ⟨h.lt, hr, hfr, ?_, fun e => (by cases e), fun _ => ⟨(h.rl rfl).1, _, _, by rw [List.map_append]; exact hp.celled (fun g e => other g (by have := (hp.own.lt g e).1; omega)) (fun g o u hq hc => (World.cell?_of_block (a := ⟨g, o, none⟩) (other g (by have h1 : w.heap.size + 2 ≤ g := hq.1; omega))).trans hc)⟩, fun _ i hi => ?_, hg, ?_, by rw [List.length_append]; simp; omega, h.r0⟩
  · rw [heap_setCell_same w9 (w.heap.size + 1) 5 _ _ _ hbx]; rfl
  · rw [List.length_append, List.length_singleton] at hi
    rcases Nat.lt_or_ge i acc.length with hlt | hge
    · rw [List.getElem_append_left hlt]; exact h.nm rfl i hlt
    · obtain rfl : i = acc.length := by omega
      rw [List.getElem_append_right (Nat.le_refl _)]
      simpa using hs
  · simpa using hsz
end
end Go.Proofs.YtpiookgkkaafeaaDoor
end
