/- BsonBool, BsonBlob. -/
import Derived.Test.YtdihelpimpkfoaaDoorMg12
set_option maxRecDepth 100000
section
namespace Go.Proofs.YtdihelpimpkfoaaDoor
open Go.RowKit
open Seal
open Bson (Val Res)
theorem number_val {kd : Int} {n : Nat} {l : List Nat} {x : Val} {r : List Nat} (h : Bson.number kd n l = .ok x r) : ∃ y, x = .mk kd (Bson.signed y) Bson.none_ [] [] [] ∧ Bson.take n l = .ok y r := by
  obtain ⟨y, r', hy, h⟩ := Bson.Res.bind_ok h
  injection h with h2 h3
  subst h2; subst h3
  exact ⟨y, rfl, hy⟩
theorem agg_flat {L : Nat} {w : World} {kd sg : Int} {v : Value} (h : ValV L w (.mk kd sg Bson.none_ [] [] []) v) : ∃ a1 c1 a2 c2 a3 c3, v = .agg #[.int .i64 kd, .int .i64 sg, .string ⟨#[]⟩, .slice a1 0 c1, .slice a2 0 c2, .slice a3 0 c3] := by
  obtain ⟨h, hv⟩ := h
  cases h with
  | zero => exact hv.elim
  | succ h =>
    obtain ⟨ba, fa, la, bc, fc, lc, rfl, _⟩ := hv
    exact ⟨ba, bc, fa, fc, la, lc, rfl⟩
theorem ErrPost.alloc {z : Value} {w w' : World} {gr n : Nat} {e : Ending} (h : ErrPost z w gr n e w') (o : Obj) : ErrPost z w gr n e (w'.alloc o) := ⟨h.1, grown_trans h.2 (grown_box o)⟩
theorem OkPost.alloc {L : Nat} {w w' : World} {gr bc : Nat} {ba : Option Addr} {b : List Nat} {x : Val} {r : List Nat} {e : Ending} (h : OkPost (ValV L) w gr ba bc b x r e w') (o : Obj) : OkPost (ValV L) w gr ba bc b x r e (w'.alloc o) := by
  obtain ⟨v, k, he, hV, hr, hR, hg⟩ := h
  exact ⟨v, k, he, hV.alloc o, hr, hR.alloc o, grown_trans hg (grown_box o)⟩
set_option maxRecDepth 100000 in
set_option maxHeartbeats 1000000 in
theorem bool_any (w : World) (gr : Nat) (ba : Option Addr) (bc : Nat) (b : List Nat) (k : Nat) (dp : Int) (hR : Rdr w gr ba bc b k) :
    Reads_ zeroV (ValV w.heap.size) 53 #[.pointer (some ⟨gr, 0, none⟩), .int .i64 dp] w gr ba bc b (Bson.bool (b.drop k)) := by
  have hR0 := hR.alloc (.cells zeroCs 28 (0, 0))
  have hlt := hR.lt
  have H := number_any _ gr ba bc b k 1 10 (by decide) (by decide) (by decide) hR0
  rw [show (w.alloc (.cells zeroCs 28 (0, 0))).heap.size = w.heap.size + 1 by simp] at H
  have hle := hR.le
  have HT := H.ok
  cases hres : Bson.number 10 1 (b.drop k) with
  | err e =>
    have hb : Bson.bool (b.drop k) = .err e := by
      rcases Bson.Res.bind_err hres with h | ⟨_, _, _, h⟩
      · unfold Bson.bool; rw [h]; rfl
      · cases h
    have hT := Lib.hid (H.err e hres)
    have hne : e ≠ 0 := by
      rcases Bson.Res.bind_err hres with h | ⟨_, _, _, h⟩
      · exact Bson.take_err h
      · cases h
    rw [hb]
    clear H HT hres hb hR hR0
    refine ⟨fun e2 he => ?_, fun x r hx => by cases hx⟩
    injection he with he; subst he
    have hne' : ((e : Int) == 0) = false := by simpa using hne
    go_enter Tryd.func53, Tryd.ntmps53
    go_wp2_with fail
    refine hT.out.mono ?_
    rintro e' w' ⟨rfl, hg⟩
    have HF := Lib.hid ((Fresh.new w).grown hg hlt)
    have HG := Lib.hid (grown_trans (grown_box _) hg)
    have hz : w.heap.size < w'.heap.size := by have h1 := hg.size; simp at h1; omega
    clear hg
    obtain ⟨d0, f0⟩ := HF.out.cells 0 _ rfl
    obtain ⟨d1, f1⟩ := HF.out.cells 1 _ rfl
    obtain ⟨d2, f2⟩ := HF.out.cells 2 _ rfl
    obtain ⟨d3, f3⟩ := HF.out.cells 3 _ rfl
    obtain ⟨d4, f4⟩ := HF.out.cells 4 _ rfl
    obtain ⟨d5, f5⟩ := HF.out.cells 5 _ rfl
    unfold zeroV
    go_wp2_with fail
    exact bodyPost_ret (v := .tuple #[zeroV, .int .i64 (e : Int)]) (by simp [results, Tryd.results53, go_sem, zeroV, *]) rfl (ErrPost.alloc (fin_err HG.out _ _ _ _ _ _ rfl) _)
  | ok x r =>
    obtain ⟨y, rfl, hy⟩ := number_val hres
    obtain ⟨h1, _, rfl, _⟩ := btake_yes hle hy
    have hT := Lib.hid (H.ok _ _ hres)
    have hb : Bson.bool (b.drop k) = if Bson.signed y ≠ 0 ∧ Bson.signed y ≠ 1 then .err 4 else .ok (.mk 10 (Bson.signed y) Bson.none_ [] [] []) (b.drop (k + 1)) := by
      unfold Bson.bool; rw [hy]; rfl
    rw [hb]
    generalize Bson.signed y = sg at *
    clear H HT hres hb hR hR0 hy
    by_cases hsg : sg ≠ 0 ∧ sg ≠ 1
    · rw [if_pos hsg]
      have hsg0 : (sg != 0) = true := by simpa using hsg.1
      have hsg1 : (sg != 1) = true := by simpa using hsg.2
      clear hsg
      refine ⟨fun e2 he => ?_, fun x r hx => by cases hx⟩
      injection he with he; subst he
      go_enter Tryd.func53, Tryd.ntmps53
      go_wp2_with fail
      refine hT.out.mono ?_
      rintro e' w' ⟨v, k', rfl, hV, hr, hR', hg⟩
      have HF := Lib.hid ((Fresh.new w).grown hg hlt)
      have HG := Lib.hid (grown_trans (grown_box _) hg)
      have hz : w.heap.size < w'.heap.size := by have h1 := hg.size; simp at h1; omega
      obtain ⟨a1, c1, a2, c2, a3, c3, rfl⟩ := agg_flat hV
      clear hg hV hr hR'
      obtain ⟨d0, f0⟩ := HF.out.cells 0 _ rfl
      obtain ⟨d1, f1⟩ := HF.out.cells 1 _ rfl
      obtain ⟨d2, f2⟩ := HF.out.cells 2 _ rfl
      obtain ⟨d3, f3⟩ := HF.out.cells 3 _ rfl
      obtain ⟨d4, f4⟩ := HF.out.cells 4 _ rfl
      obtain ⟨d5, f5⟩ := HF.out.cells 5 _ rfl
      go_wp2_with fail
      exact bodyPost_ret (v := .tuple #[zeroV, .int .i64 4]) (by simp [results, Tryd.results53, go_sem, zeroV, *]) rfl (ErrPost.alloc (fin_err HG.out _ _ _ _ _ _ rfl) _)
    · rw [if_neg hsg]
      refine ⟨fun e he => (by cases he), fun x r hx => ?_⟩
      injection hx with h2 h3
      subst h2; subst h3
      have h01 : sg = 0 ∨ sg = 1 := by omega
      clear hsg
      rcases h01 with rfl | rfl
      · go_enter Tryd.func53, Tryd.ntmps53
        go_wp2_with fail
        refine hT.out.mono ?_
        rintro e' w' ⟨v, k', rfl, hV, hr, hR', hg⟩
        have HF := Lib.hid ((Fresh.new w).grown hg hlt)
        have HG := Lib.hid (grown_trans (grown_box _) hg)
        have hz : w.heap.size < w'.heap.size := by have h1 := hg.size; simp at h1; omega
        have HRR := Lib.hid hr
        have HR' := Lib.hid hR'
        obtain ⟨a1, c1, a2, c2, a3, c3, rfl⟩ := agg_flat hV
        have HV := Lib.hid hV
        clear hg hV hr hR'
        obtain ⟨d0, f0⟩ := HF.out.cells 0 _ rfl
        obtain ⟨d1, f1⟩ := HF.out.cells 1 _ rfl
        obtain ⟨d2, f2⟩ := HF.out.cells 2 _ rfl
        obtain ⟨d3, f3⟩ := HF.out.cells 3 _ rfl
        obtain ⟨d4, f4⟩ := HF.out.cells 4 _ rfl
        obtain ⟨d5, f5⟩ := HF.out.cells 5 _ rfl
        go_wp2_with fail
        exact bodyPost_ret (v := .tuple #[.agg #[.int .i64 10, .int .i64 0, .string ⟨#[]⟩, .slice a1 0 c1, .slice a2 0 c2, .slice a3 0 c3], .int .i64 0]) (by simp [results, Tryd.results53, go_sem, *]) rfl (OkPost.alloc (fin_ok hlt HF.out HR'.out HG.out _ _ _ _ _ _ (ValV.stored_at HV.out _ _ _ _ _ _) HRR.out) _)
      · go_enter Tryd.func53, Tryd.ntmps53
        go_wp2_with fail
        refine hT.out.mono ?_
        rintro e' w' ⟨v, k', rfl, hV, hr, hR', hg⟩
        have HF := Lib.hid ((Fresh.new w).grown hg hlt)
        have HG := Lib.hid (grown_trans (grown_box _) hg)
        have hz : w.heap.size < w'.heap.size := by have h1 := hg.size; simp at h1; omega
        have HRR := Lib.hid hr
        have HR' := Lib.hid hR'
        obtain ⟨a1, c1, a2, c2, a3, c3, rfl⟩ := agg_flat hV
        have HV := Lib.hid hV
        clear hg hV hr hR'
        obtain ⟨d0, f0⟩ := HF.out.cells 0 _ rfl
        obtain ⟨d1, f1⟩ := HF.out.cells 1 _ rfl
        obtain ⟨d2, f2⟩ := HF.out.cells 2 _ rfl
        obtain ⟨d3, f3⟩ := HF.out.cells 3 _ rfl
        obtain ⟨d4, f4⟩ := HF.out.cells 4 _ rfl
        obtain ⟨d5, f5⟩ := HF.out.cells 5 _ rfl
        go_wp2_with fail
        exact bodyPost_ret (v := .tuple #[.agg #[.int .i64 10, .int .i64 1, .string ⟨#[]⟩, .slice a1 0 c1, .slice a2 0 c2, .slice a3 0 c3], .int .i64 0]) (by simp [results, Tryd.results53, go_sem, *]) rfl (OkPost.alloc (fin_ok hlt HF.out HR'.out HG.out _ _ _ _ _ _ (ValV.stored_at HV.out _ _ _ _ _ _) HRR.out) _)
end Go.Proofs.YtdihelpimpkfoaaDoor
end
section
namespace Go.Proofs.YtdihelpimpkfoaaDoor
open Go.RowKit
open Seal
open Bson (Val Res)
theorem five_parts {x : List Nat} (h : x.length = 5) : (x.take 4).length = 4 := by simp [h]
theorem reads_take {w : World} {g o : Nat} {l : List Nat} (h : Reads w g o l) (k : Nat) : Reads w g o (l.take k) := by
  have := h.part 0 k
  simpa using this
set_option maxRecDepth 100000 in
set_option maxHeartbeats 1000000 in
theorem blob_any (w : World) (gr : Nat) (ba : Option Addr) (bc : Nat) (b : List Nat) (k : Nat) (dp : Int) (hR : Rdr w gr ba bc b k) :
    Reads_ zeroV (ValV w.heap.size) 51 #[.pointer (some ⟨gr, 0, none⟩), .int .i64 dp] w gr ba bc b (Bson.blob (b.drop k)) := by
  have hR0 := hR.alloc (.cells zeroCs 28 (0, 0))
  have hlt := hR.lt
  have hle := hR.le
  cases hres : Bson.take 5 (b.drop k) with
  | err e =>
    obtain ⟨rfl, hl⟩ := btake_no hle hres
    have hb : Bson.blob (b.drop k) = .err 2 := by unfold Bson.blob; rw [hres]; rfl
    have hT := Lib.hid (take_no _ gr ba bc b k 5 hR0 (by decide) hl)
    rw [hb]
    clear hR hR0 hres hb hl
    refine ⟨fun e2 he => ?_, fun x r hx => by cases hx⟩
    injection he with he; subst he
    go_enter Tryd.func51, Tryd.ntmps51
    go_wp2_with fail
    refine hT.out.mono ?_
    rintro e w' ⟨rfl, q, rfl⟩
    go_wp2_with fail
    exact bodyPost_ret (v := .tuple #[zeroV, .int .i64 2]) (by simp [results, Tryd.results51, go_sem, zeroV]) rfl (fin_err (grown_trans (grown_box _) (grown_drewN _ q gr)) _ _ _ _ _ _ rfl)
  | ok x r =>
    obtain ⟨h1, hxe, rfl, hx5⟩ := btake_yes hle hres
    have hT := Lib.hid (take_yes _ gr ba bc b k 5 hR0 h1)
    have hox : Oct x := by rw [hxe]; exact oct_take hR.oct k 5
    have hx4 := five_parts hx5
    have ho4 : Oct (x.take 4) := fun c hc => hox c (List.mem_of_mem_take hc)
    have hsb := (Bson.signed_bd _ ho4).resolve_right (fun e => by rw [e] at hx4; cases hx4)
    rw [hx4] at hsb
    have hsb' : -2147483648 ≤ Bson.signed (x.take 4) ∧ Bson.signed (x.take 4) < 2147483648 := by simpa using hsb
    have hb : Bson.blob (b.drop k) = if Bson.signed (x.take 4) < 0 ∨ x.getD 4 0 ≠ 0 then .err 4 else rawRes 8 (Bson.signed (x.take 4)).toNat (b.drop (k + 5)) := by
      unfold Bson.blob; rw [hres]; rfl
    have hS := Lib.hid (fun w a c hs => signed_any w a 4 c (x.take 4) hx4 (.inr (.inl rfl)) ho4 hs)
    rw [hb]
    obtain ⟨sg, hsg⟩ : ∃ sg, sg = Bson.signed (x.take 4) := ⟨_, rfl⟩
    obtain ⟨sub, hsub⟩ : ∃ sub, sub = x.getD 4 0 := ⟨_, rfl⟩
    rw [← hsg] at hsb' hS ⊢
    rw [← hsub]
    have HX5 := Lib.hid hx5
    have HXE := Lib.hid hxe
    have HSUB := Lib.hid hsub
    clear hR hR0 hres hb h1 hox hx4 ho4 hsb hsg hsub hx5 hxe
    have walk : ∀ (w' : World) (a : Option Addr) (c : Nat), SliceIs w' a ((b.drop k).take 5) → ∃ g o, a = some ⟨g, o, none⟩ ∧ w'.cell? ⟨g, o + 4, none⟩ = some (.int .u8 (sub : Int)) ∧ SliceIs w' a (x.take 4) := by
      intro w' a c hs
      rw [← HXE.out] at hs
      obtain ⟨g, o, rfl, hr⟩ := hs.resolve_left (fun e => by have := HX5.out; rw [e] at this; cases this)
      refine ⟨g, o, rfl, ?_, .inr ⟨g, o, rfl, reads_take hr 4⟩⟩
      rw [HSUB.out]
      exact hr 4 (by rw [HX5.out]; decide)
    have HWK := Lib.hid walk
    clear walk
    by_cases hbad : sg < 0 ∨ sub ≠ 0
    · rw [if_pos hbad]
      refine ⟨fun e2 he => ?_, fun x r hx => by cases hx⟩
      injection he with he; subst he
      by_cases hneg : sg < 0
      · clear hbad
        go_enter Tryd.func51, Tryd.ntmps51
        go_wp2_with fail
        refine hT.out.mono ?_
        rintro e w' ⟨a, c, rfl, hc0, hc1, hs, hR', hg⟩
        have HF := Lib.hid ((Fresh.new w).grown hg hlt)
        have HG := Lib.hid (grown_trans (grown_box _) hg)
        obtain ⟨g, o, rfl, k4, hs4⟩ := HWK.out w' a c hs
        have C1 := Lib.hid (fun n => hS.out (w'.drewN n) (some ⟨g, o, none⟩) c (hs4.drewN n))
        have hc4 : (4 : Int) ≤ (c : Int) := by omega
        clear hg hs hR' hs4
        obtain ⟨d0, f0⟩ := HF.out.cells 0 _ rfl
        obtain ⟨d1, f1⟩ := HF.out.cells 1 _ rfl
        obtain ⟨d2, f2⟩ := HF.out.cells 2 _ rfl
        obtain ⟨d3, f3⟩ := HF.out.cells 3 _ rfl
        obtain ⟨d4, f4⟩ := HF.out.cells 4 _ rfl
        obtain ⟨d5, f5⟩ := HF.out.cells 5 _ rfl
        go_wp2_with fail
        go_quiet ((go_at_call 43; exact Calls.quiet_of_same ((C1.out _).mono fun _ _ h => ⟨h.1, h.2.symm⟩)))
        go_wp2_with fail
        exact bodyPost_ret (v := .tuple #[zeroV, .int .i64 4]) (by simp [results, Tryd.results51, go_sem, zeroV, *]) rfl (fin_err (grown_trans HG.out (grown_drewN _ _ gr)) _ _ _ _ _ _ rfl)
      · have hsn : ((sub : Int) != 0) = true := by
          have : sub ≠ 0 := hbad.resolve_left hneg
          simpa using this
        have hnz : decide (sg < 0) = false := by simpa using hneg
        clear hbad
        go_enter Tryd.func51, Tryd.ntmps51
        go_wp2_with fail
        refine hT.out.mono ?_
        rintro e w' ⟨a, c, rfl, hc0, hc1, hs, hR', hg⟩
        have HF := Lib.hid ((Fresh.new w).grown hg hlt)
        have HG := Lib.hid (grown_trans (grown_box _) hg)
        obtain ⟨g, o, rfl, k4, hs4⟩ := HWK.out w' a c hs
        have C1 := Lib.hid (fun n => hS.out (w'.drewN n) (some ⟨g, o, none⟩) c (hs4.drewN n))
        have hc4 : (4 : Int) ≤ (c : Int) := by omega
        clear hg hs hR' hs4
        obtain ⟨d0, f0⟩ := HF.out.cells 0 _ rfl
        obtain ⟨d1, f1⟩ := HF.out.cells 1 _ rfl
        obtain ⟨d2, f2⟩ := HF.out.cells 2 _ rfl
        obtain ⟨d3, f3⟩ := HF.out.cells 3 _ rfl
        obtain ⟨d4, f4⟩ := HF.out.cells 4 _ rfl
        obtain ⟨d5, f5⟩ := HF.out.cells 5 _ rfl
        go_wp2_with fail
        go_quiet ((go_at_call 43; exact Calls.quiet_of_same ((C1.out _).mono fun _ _ h => ⟨h.1, h.2.symm⟩)))
        go_wp2_with fail
        exact bodyPost_ret (v := .tuple #[zeroV, .int .i64 4]) (by simp [results, Tryd.results51, go_sem, zeroV, *]) rfl (fin_err (grown_trans HG.out (grown_drewN _ _ gr)) _ _ _ _ _ _ rfl)
    · rw [if_neg hbad]
      have hnn : 0 ≤ sg := by omega
      obtain ⟨N, rfl⟩ := Int.eq_ofNat_of_zero_le hnn
      obtain rfl : sub = 0 := by omega
      rw [Int.toNat_natCast]
      have hN : N ≤ 2147483647 := by omega
      have HRAW := Lib.hid (fun (w2 : World) (h : Rdr w2 gr ba bc b (k + 5)) => raw_any w2 gr ba bc b (k + 5) N 8 hN (by decide) (by decide) h)
      clear hbad hnn hsb'
      refine ⟨fun e2 he => ?_, fun x2 r2 hx => ?_⟩
      · go_enter Tryd.func51, Tryd.ntmps51
        go_wp2_with fail
        refine hT.out.mono ?_
        rintro e w' ⟨a, c, rfl, hc0, hc1, hs, hR', hg⟩
        have HF := Lib.hid ((Fresh.new w).grown hg hlt)
        have HG := Lib.hid (grown_trans (grown_box _) hg)
        have HR' := Lib.hid hR'
        obtain ⟨g, o, rfl, k4, hs4⟩ := HWK.out w' a c hs
        have C1 := Lib.hid (fun n => hS.out (w'.drewN n) (some ⟨g, o, none⟩) c (hs4.drewN n))
        have hc4 : (4 : Int) ≤ (c : Int) := by omega
        have HE := Lib.hid he
        clear hg hs hR' hs4 he
        go_wp2_with fail
        go_quiet ((go_at_call 43; exact Calls.quiet_of_same ((C1.out _).mono fun _ _ h => ⟨h.1, h.2.symm⟩)))
        go_wp2_with fail
        refine ((HRAW.out _ (HR'.out.keep (Go.below_drewN (Below.refl _ _) _))).err _ HE.out).mono ?_
        rintro e3 w3 ⟨rfl, hg3⟩
        have HF3 := Lib.hid ((HF.out.grown (grown_drewN _ _ gr) hlt).grown hg3 hlt)
        have HG3 := Lib.hid (grown_trans (grown_trans HG.out (grown_drewN _ _ gr)) hg3)
        clear hg3
        obtain ⟨d0, f0⟩ := HF3.out.cells 0 _ rfl
        obtain ⟨d1, f1⟩ := HF3.out.cells 1 _ rfl
        obtain ⟨d2, f2⟩ := HF3.out.cells 2 _ rfl
        obtain ⟨d3, f3⟩ := HF3.out.cells 3 _ rfl
        obtain ⟨d4, f4⟩ := HF3.out.cells 4 _ rfl
        obtain ⟨d5, f5⟩ := HF3.out.cells 5 _ rfl
        unfold zeroV
        go_wp2_with fail
        exact bodyPost_ret (v := .tuple #[zeroV, .int .i64 (e2 : Int)]) (by simp [results, Tryd.results51, go_sem, zeroV, *]) rfl (fin_err HG3.out _ _ _ _ _ _ rfl)
      · go_enter Tryd.func51, Tryd.ntmps51
        go_wp2_with fail
        refine hT.out.mono ?_
        rintro e w' ⟨a, c, rfl, hc0, hc1, hs, hR', hg⟩
        have HF := Lib.hid ((Fresh.new w).grown hg hlt)
        have HG := Lib.hid (grown_trans (grown_box _) hg)
        have hz := Lib.hid (show w.heap.size + 1 ≤ w'.heap.size by have h1 := hg.size; simp at h1; omega)
        have HR' := Lib.hid hR'
        obtain ⟨g, o, rfl, k4, hs4⟩ := HWK.out w' a c hs
        have C1 := Lib.hid (fun n => hS.out (w'.drewN n) (some ⟨g, o, none⟩) c (hs4.drewN n))
        have hc4 : (4 : Int) ≤ (c : Int) := by omega
        have HE := Lib.hid hx
        clear hg hs hR' hs4 hx
        go_wp2_with fail
        go_quiet ((go_at_call 43; exact Calls.quiet_of_same ((C1.out _).mono fun _ _ h => ⟨h.1, h.2.symm⟩)))
        go_wp2_with fail
        refine ((HRAW.out _ (HR'.out.keep (Go.below_drewN (Below.refl _ _) _))).ok _ _ HE.out).mono ?_
        rintro e3 w3 ⟨v, k', rfl, hV, hr, hR3, hg3⟩
        have HF3 := Lib.hid ((HF.out.grown (grown_drewN _ _ gr) hlt).grown hg3 hlt)
        have HG3 := Lib.hid (grown_trans (grown_trans HG.out (grown_drewN _ _ gr)) hg3)
        have HR3 := Lib.hid hR3
        have HRR := Lib.hid hr
        obtain ⟨q1, q2, q3, a1, n1, c1, a2, n2, c2, a3, n3, c3, rfl, hS3⟩ := ValV.stored (hV.less hz.out)
        have HS3 := Lib.hid hS3
        clear hg3 hV hr hR3 hS3
        obtain ⟨d0, f0⟩ := HF3.out.cells 0 _ rfl
        obtain ⟨d1, f1⟩ := HF3.out.cells 1 _ rfl
        obtain ⟨d2, f2⟩ := HF3.out.cells 2 _ rfl
        obtain ⟨d3, f3⟩ := HF3.out.cells 3 _ rfl
        obtain ⟨d4, f4⟩ := HF3.out.cells 4 _ rfl
        obtain ⟨d5, f5⟩ := HF3.out.cells 5 _ rfl
        go_wp2_with fail
        exact bodyPost_ret (v := .tuple #[.agg #[.int .i64 q1, .int .i64 q2, .string q3, .slice a1 n1 c1, .slice a2 n2 c2, .slice a3 n3 c3], .int .i64 0]) (by simp [results, Tryd.results51, go_sem, *]) rfl (fin_ok hlt HF3.out HR3.out HG3.out _ _ _ _ _ _ (HS3.out _ _ _ _ _ _) HRR.out)
end Go.Proofs.YtdihelpimpkfoaaDoor
end
