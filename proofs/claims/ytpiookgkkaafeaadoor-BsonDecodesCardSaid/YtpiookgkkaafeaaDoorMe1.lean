/- RefRText, SixIs, RefBare, RefOwnA, RefOwnX, RefOwnB, RefOwnT, RefRBytes, RefRValA, RefRValI. -/
import Derived.Deep.RegionHeld3
import Derived.Lib.AppendStr
import Derived.Test.YtpiookgkkaafeaaDoorMe0
import Derived.Test.YtpiookgkkaafeaaDoorMg31
import Derived.Test.YtpiookgkkaafeaaDoorMg5
import Derived.Test.YtpiookgkkaafeaaDoorMg0
import Derived.Test.YtpiookgkkaafeaaDoorMg10
set_option maxRecDepth 100000
section
namespace Go.Proofs.YtpiookgkkaafeaaDoor
open Go.RowKit
open Seal
open Bson (Val Res)
/-- A value of six cells. -/
def SixV (v : Value) : Prop := ∃ (q1 q2 : Int) (q3 : ByteArray) (a1 : Option Addr) (n1 c1 : Nat) (a2 : Option Addr) (n2 c2 : Nat) (a3 : Option Addr) (n3 c3 : Nat), v = .agg #[.int .i64 q1, .int .i64 q2, .string q3, .slice a1 n1 c1, .slice a2 n2 c2, .slice a3 n3 c3]
/-- What a method of the document's reader leaves. -/
def RPostE (L : Nat) (w : World) (gr : Nat) (ba : Option Addr) (bc : Nat) (b : List Nat) (res : Res Val) (e : Ending) (w' : World) : Prop :=
  w.grownBy w' (some gr) ∧ ∃ v, e = .returned v ∧ SixV v ∧ (match res with | .err n => ∃ k', RdE w' gr ba bc b k' n | .ok x r => ∃ k', r = b.drop k' ∧ RdE w' gr ba bc b k' 0 ∧ ValV L w' x v)
theorem need_ok (w : World) (gr : Nat) (ba : Option Addr) (bc : Nat) (b : List Nat) (k n : Nat) (hR : RdE w gr ba bc b k 0) (h : k + n ≤ b.length) :
    Calls Tryd.prog 42 #[.pointer (some ⟨gr, 0, none⟩), .int .i64 (n : Int)] w fun e w' => e = .returned (.bool true) ∧ RdE w' gr ba bc b k 0 ∧ w.grownBy w' (some gr) := by
  refine (need_yes w gr ba bc b k n hR h).mono ?_
  rintro e w' ⟨rfl, q, rfl⟩
  exact ⟨rfl, hR.dr q, grown_drewN w q gr⟩
set_option maxRecDepth 100000 in
theorem conv_i32 (l : List Nat) (hl : l.length = 4) (ho : Oct l) : IntKind.u32.wrap ((Bson.leN l : Nat) : Int) = (Bson.leN l : Int) ∧ IntKind.i32.wrap ((Bson.leN l : Nat) : Int) = Bson.signed l ∧ IntKind.i64.wrap (Bson.signed l) = Bson.signed l ∧ -2147483648 ≤ Bson.signed l ∧ Bson.signed l < 2147483648 := by
  have h1 := Bson.leN_lt l ho
  rw [hl] at h1
  have h2 : Bson.leN l < 4294967296 := by simpa using h1
  have hs : Bson.signed l = if Bson.leN l < 2147483648 then (Bson.leN l : Int) else (Bson.leN l : Int) - 4294967296 := by
    unfold Bson.signed; rw [hl]; simp only [Nat.reducePow, Nat.reduceDiv]; split <;> omega
  have hu : IntKind.u32.wrap ((Bson.leN l : Nat) : Int) = ((Bson.leN l : Nat) : Int) % 4294967296 := by simp [IntKind.wrap, IntKind.bits, IntKind.signed]
  have hi : IntKind.i32.wrap ((Bson.leN l : Nat) : Int) = (((Bson.leN l : Nat) : Int) + 2147483648) % 4294967296 - 2147483648 := by
    simp [IntKind.wrap, IntKind.bits, IntKind.signed]
    split <;> omega
  have hb : -2147483648 ≤ Bson.signed l ∧ Bson.signed l < 2147483648 := by rw [hs]; split <;> omega
  refine ⟨by rw [hu]; omega, by rw [hi, hs]; split <;> omega, IntWalk.i64_in _ (by omega), hb⟩
theorem RdE.grown {w w' : World} {gr bc k e : Nat} {ba : Option Addr} {b : List Nat} (h : RdE w gr ba bc b k e) (hb : Below w.heap.size w w') : RdE w' gr ba bc b k e ∧ w.grownBy w' (some gr) := ⟨h.keep hb, grown_below hb gr⟩
theorem RdE.six {w : World} {gr : Nat} {ba : Option Addr} {bc : Nat} {b : List Nat} {k e : Nat} (h : RdE w gr ba bc b k e) {B : Nat} (hB : B ≠ gr) (hu : ∀ (g o : Nat) (x : Int), w.cell? ⟨g, o, none⟩ = some (Value.int .u8 x) → g ≠ B) (v0 v1 v2 v3 v4 v5 : Value) : RdE (six w B v0 v1 v2 v3 v4 v5) gr ba bc b k e := by
  have e : ∀ g, g ≠ B → (Go.Proofs.YtpiookgkkaafeaaDoor.six w B v0 v1 v2 v3 v4 v5).heap[g]? = w.heap[g]? := by
    intro g hg
    have s1 : ∀ (w : World) (j : Nat) (v : Value), (w.setCell ⟨B, j, none⟩ v).heap[g]? = w.heap[g]? := fun w j v => Below.heap_setCell w ⟨B, j, none⟩ v g hg
    unfold Go.Proofs.YtpiookgkkaafeaaDoor.six
    rw [s1, s1, s1, s1, s1, s1]
  refine ⟨(e gr (fun h => hB h.symm)).trans h.blk, ?_, h.le, h.len, h.cap, h.max, h.oct⟩
  rcases h.rd with h0 | ⟨g, o, ea, hr⟩
  · exact .inl h0
  · refine .inr ⟨g, o, ea, fun j hj => ?_⟩
    have h1 := hr j hj
    exact (World.cell?_of_block (a := ⟨g, o + j, none⟩) (e g (hu _ _ _ h1))).trans h1
/-- The end of a method: six stores into the box laid behind w. -/
theorem fine_err {w w' : World} {gr n : Nat} {ba : Option Addr} {bc : Nat} {b : List Nat} {k : Nat} {L : Nat} (hlt : gr < w.heap.size) (hF : Fresh w w') (hR : RdE w' gr ba bc b k n) (hg : w.grownBy w' (some gr)) (v0 v1 v2 v3 v4 v5 : Value) (hv : SixV (.agg #[v0, v1, v2, v3, v4, v5])) :
    RPostE L w gr ba bc b (.err n) (.returned (.agg #[v0, v1, v2, v3, v4, v5])) (six w' w.heap.size v0 v1 v2 v3 v4 v5) :=
  ⟨grown_six hg (Nat.le_refl _) _ _ _ _ _ _, _, rfl, hv, k, hR.six (by omega) hF.no_byte _ _ _ _ _ _⟩
theorem fine_ok {w w' : World} {gr : Nat} {ba : Option Addr} {bc : Nat} {b : List Nat} {k : Nat} {x : Val} {r : List Nat} (hlt : gr < w.heap.size) (hF : Fresh w w') (hR : RdE w' gr ba bc b k 0) (hg : w.grownBy w' (some gr)) (v0 v1 v2 v3 v4 v5 : Value) (hv : SixV (.agg #[v0, v1, v2, v3, v4, v5]))
    (hV : ValV w.heap.size (six w' w.heap.size v0 v1 v2 v3 v4 v5) x (.agg #[v0, v1, v2, v3, v4, v5])) (hr : r = b.drop k) :
    RPostE w.heap.size w gr ba bc b (.ok x r) (.returned (.agg #[v0, v1, v2, v3, v4, v5])) (six w' w.heap.size v0 v1 v2 v3 v4 v5) :=
  ⟨grown_six hg (Nat.le_refl _) _ _ _ _ _ _, _, rfl, hv, k, hr, hR.six (by omega) hF.no_byte _ _ _ _ _ _, hV⟩
theorem six_zero : SixV zeroV := ⟨0, 0, ⟨#[]⟩, none, 0, 0, none, 0, 0, none, 0, 0, rfl⟩
theorem textRest_is (b : List Nat) (p m : Nat) (h1 : 1 ≤ m) (h : p + m ≤ b.length) : textRest (m : Int) (b.drop p) = if b.getD (p + m - 1) 0 ≠ 0 then .err 4 else if Bson.u8 (Bson.ofBytes ((b.drop p).take (m - 1))) = false then .err 5 else .ok (.mk 5 0 (Bson.ofBytes ((b.drop p).take (m - 1))) [] [] []) (b.drop (p + m)) := by
  unfold textRest Bson.take
  rw [Int.toNat_natCast, if_neg (by simp; omega)]
  have hl : ((b.drop p).take m).length = m := by simp; omega
  have hg : ((b.drop p).take m).getD (m - 1) 0 = b.getD (p + m - 1) 0 := by
    rw [List.getD_eq_getElem?_getD, List.getD_eq_getElem?_getD, List.getElem?_take_of_lt (by omega), List.getElem?_drop]
    congr 2; omega
  show (if ((b.drop p).take m).getD (((b.drop p).take m).length - 1) 0 ≠ 0 then _ else if Bson.u8 (Bson.ofBytes (((b.drop p).take m).take (((b.drop p).take m).length - 1))) = false then _ else Res.ok (Val.mk 5 0 (Bson.ofBytes (((b.drop p).take m).take (((b.drop p).take m).length - 1))) [] [] []) _) = _
  rw [hl, hg, List.take_take, Nat.min_eq_left (by omega), List.drop_drop]
theorem RdE.byteAt {w : World} {gr bc k e i : Nat} {ba : Option Addr} {b : List Nat} (h : RdE w gr ba bc b k e) (hk : i < b.length) : ∃ g o, ba = some ⟨g, o, none⟩ ∧ w.cell? ⟨g, o + i, none⟩ = some (.int .u8 (b[i] : Int)) ∧ b[i] < 256 := by
  obtain ⟨g, o, e1, hr⟩ := h.rd.resolve_left (fun e => by rw [e] at hk; simp at hk)
  have h1 := hr i hk
  rw [List.getD_eq_getElem?_getD, List.getElem?_eq_getElem hk] at h1
  exact ⟨g, o, e1, h1, h.oct _ (List.getElem_mem hk)⟩
theorem Fresh.dr {w w' : World} (h : Fresh w w') (q : Nat) : Fresh w (w'.drewN q) := h
set_option maxRecDepth 100000 in
set_option maxHeartbeats 4000000 in
theorem rtext_any (w : World) (gr : Nat) (ba : Option Addr) (bc : Nat) (b : List Nat) (k : Nat) (hR : RdE w gr ba bc b k 0) :
    Calls Tryd.prog 65 #[.pointer (some ⟨gr, 0, none⟩)] w (RPostE w.heap.size w gr ba bc b (Bson.text (b.drop k))) := by
  have hlt := hR.lt
  have hB0 : Below w.heap.size w (w.alloc (.cells zeroCs 27)) := (Below.refl _ w).alloc (Nat.le_refl _) _
  have HR0 := Lib.hid (hR.keep hB0)
  have HG0 := Lib.hid (grown_below hB0 gr)
  have HF0 : Hid (Fresh w (w.alloc (.cells zeroCs 27))) := Fresh.new w
  clear hR hB0
  by_cases h4 : b.length < k + 4
  · have hres : Bson.text (b.drop k) = .err 2 := by unfold Bson.text Bson.take; rw [if_pos (by simp; omega)]; rfl
    rw [hres]
    have CN := Lib.hid (need_no _ gr ba bc b k 4 HR0.out (by decide) h4)
    clear hres h4
    go_enter Tryd.func65, Tryd.ntmps65
    go_wp2_with fail
    refine CN.out.mono ?_
    rintro e w1 ⟨rfl, hr1, hg1⟩
    have HR1 := Lib.hid hr1
    have HG1 := Lib.hid (grown_trans HG0.out hg1)
    have HF1 := Lib.hid (HF0.out.grown hg1 hlt)
    clear hr1 hg1
    obtain ⟨d0, f0⟩ := HF1.out.cells 0 _ rfl
    obtain ⟨d1, f1⟩ := HF1.out.cells 1 _ rfl
    obtain ⟨d2, f2⟩ := HF1.out.cells 2 _ rfl
    obtain ⟨d3, f3⟩ := HF1.out.cells 3 _ rfl
    obtain ⟨d4, f4⟩ := HF1.out.cells 4 _ rfl
    obtain ⟨d5, f5⟩ := HF1.out.cells 5 _ rfl
    go_wp2_with fail
    exact bodyPost_ret (v := .agg #[.int .i64 0, .int .i64 0, .string ⟨#[]⟩, .slice none 0 0, .slice none 0 0, .slice none 0 0]) (by simp [results, Tryd.results65, go_sem, *]) rfl (fine_err hlt HF1.out HR1.out HG1.out _ _ _ _ _ _ six_zero)
  · have CY := Lib.hid (need_ok _ gr ba bc b k 4 HR0.out (by omega))
    have hx4 : ((b.drop k).take 4).length = 4 := by simp; omega
    have ho4 : Oct ((b.drop k).take 4) := fun c hc => HR0.out.oct c (List.mem_of_mem_drop (List.mem_of_mem_take hc))
    obtain ⟨hu32, hi32, hi64, hs0, hs1⟩ := conv_i32 _ hx4 ho4
    have hres : Bson.text (b.drop k) = if Bson.signed ((b.drop k).take 4) < 1 then .err 4 else textRest (Bson.signed ((b.drop k).take 4)) (b.drop (k + 4)) := by
      rw [text_split]
      unfold lengthOf Bson.take
      rw [if_neg (by simp; omega)]
      show (if _ then _ else _ : Res Int).bind _ = _
      rw [List.drop_drop]
      split <;> rfl
    obtain ⟨RES, hRES⟩ : ∃ r, r = Bson.text (b.drop k) := ⟨_, rfl⟩
    rw [← hRES]
    have HRES := Lib.hid (hRES.trans hres)
    clear hRES
    have hlen := HR0.out.len
    have hcap := HR0.out.cap
    have hmax := HR0.out.max
    have CG0 := Lib.hid (fun (W : World) (hs : SliceIs W ba b) => get_any W ba b.length bc k 4 b rfl (by decide) (by decide) (by omega) HR0.out.len HR0.out.oct hs)
    generalize Bson.signed ((b.drop k).take 4) = sg at *
    generalize Bson.leN ((b.drop k).take 4) = x4 at *
    have hk4 : k + 4 ≤ b.length := by omega
    clear hres h4 hx4 ho4
    go_enter Tryd.func65, Tryd.ntmps65
    go_wp2_with fail
    refine CY.out.mono ?_
    rintro e w1 ⟨rfl, hr1, hg1⟩
    have HR1 := Lib.hid hr1
    have HG1 := Lib.hid (grown_trans HG0.out hg1)
    have HF1 := Lib.hid (HF0.out.grown hg1 hlt)
    clear hr1 hg1
    obtain ⟨L, hL⟩ : ∃ L, L = b.length := ⟨_, rfl⟩
    have HL := Lib.hid hL
    have c0 := HR1.out.c0
    have c1 := HR1.out.c1
    have f1 := HR1.out.frz 1
    have CG : Hid (∀ q, Calls Tryd.prog 43 #[.slice ba L bc, .int .i64 (k : Int), .int .i64 4] (w1.drewN q) fun e w' => e = .returned (.int .u64 (x4 : Int)) ∧ w1.drewN q = w') := fun q => by rw [hL]; exact CG0.out _ (HR1.out.dr q).rd
    rw [← hL] at c0 hk4 hcap hlen
    clear hL CG0 CY
    have hkw : IntKind.i64.wrap ((k : Int) + 4) = (k : Int) + 4 := IntWalk.i64_in _ (by omega)
    have HN2 : Hid (∀ q, RdE ((w1.drewN q).setCell ⟨gr, 1, none⟩ (.int .i64 ((k : Int) + 4))) gr ba bc b (k + 4) 0 ∧ w.grownBy ((w1.drewN q).setCell ⟨gr, 1, none⟩ (.int .i64 ((k : Int) + 4))) (some gr) ∧ Fresh w ((w1.drewN q).setCell ⟨gr, 1, none⟩ (.int .i64 ((k : Int) + 4)))) := fun q => by
      have h1 := (HR1.out.dr q).setAt (k + 4) (by have := HL.out; omega)
      have e : ((k + 4 : Nat) : Int) = (k : Int) + 4 := by omega
      rw [e] at h1
      have h2 : w1.grownBy ((w1.drewN q).setCell ⟨gr, 1, none⟩ (.int .i64 ((k : Int) + 4))) (some gr) := grown_trans (grown_drewN w1 q gr) h1.2
      exact ⟨h1.1, grown_trans HG1.out h2, HF1.out.grown h2 hlt⟩
    go_wp2_with fail
    go_quiet ((go_at_call 43; exact Calls.quiet_of_same ((CG.out _).mono fun _ _ h => ⟨h.1, h.2.symm⟩)))
    by_cases hlo : sg < 1
    · have HRS : Hid (RES = .err 4) := by show _ = _; rw [HRES.out, if_pos hlo]
      have CB : Hid (∀ q, Calls Tryd.prog 41 #[.pointer (some ⟨gr, 0, none⟩), .int .i64 4] ((w1.drewN q).setCell ⟨gr, 1, none⟩ (.int .i64 ((k : Int) + 4))) fun e w' => (∃ v, e = .returned v) ∧ RdE w' gr ba bc b (k + 4) 4 ∧ w.grownBy w' (some gr) ∧ Fresh w w') := fun q => by
        refine (bad_any _ gr ba bc b (k + 4) 4 (HN2.out q).1).mono ?_
        rintro e w' ⟨h1, h2, h3⟩
        exact ⟨h1, h2, grown_trans (HN2.out q).2.1 h3, (HN2.out q).2.2.grown h3 hlt⟩
      clear c0 HN2
      go_wp2_with fail
      refine (CB.out _).mono ?_
      rintro e w3 ⟨⟨v3, rfl⟩, hr3, hg3, hf3⟩
      have HR3 := Lib.hid hr3
      have HG3 := Lib.hid hg3
      have HF3 := Lib.hid hf3
      clear hr3 hg3 hf3
      obtain ⟨d0, f0⟩ := HF3.out.cells 0 _ rfl
      obtain ⟨d1, f1⟩ := HF3.out.cells 1 _ rfl
      obtain ⟨d2, f2⟩ := HF3.out.cells 2 _ rfl
      obtain ⟨d3, f3⟩ := HF3.out.cells 3 _ rfl
      obtain ⟨d4, f4⟩ := HF3.out.cells 4 _ rfl
      obtain ⟨d5, f5⟩ := HF3.out.cells 5 _ rfl
      go_wp2_with fail
      rw [HRS.out]
      exact bodyPost_ret (v := .agg #[.int .i64 0, .int .i64 0, .string ⟨#[]⟩, .slice none 0 0, .slice none 0 0, .slice none 0 0]) (by simp [results, Tryd.results65, go_sem, *]) rfl (fine_err hlt HF3.out HR3.out HG3.out _ _ _ _ _ _ six_zero)
    · obtain ⟨hlo2, -⟩ : 1 ≤ sg ∧ True := ⟨by omega, trivial⟩
      have HRES2 : Hid (RES = textRest sg (b.drop (k + 4))) := by show _ = _; rw [HRES.out, if_neg hlo]
      clear HRES
      obtain ⟨m, rfl⟩ : ∃ m : Nat, sg = (m : Int) := ⟨sg.toNat, by omega⟩
      have hm1 : 1 ≤ m := by omega
      have hm2 : m ≤ 2147483647 := by omega
      by_cases hmm : b.length < k + 4 + m
      · have HRS : Hid (RES = .err 2) := by
          show _ = _
          rw [HRES2.out]
          unfold textRest Bson.take
          rw [if_pos (by simp; omega)]; rfl
        have CN : Hid (∀ q, Calls Tryd.prog 42 #[.pointer (some ⟨gr, 0, none⟩), .int .i64 (m : Int)] ((w1.drewN q).setCell ⟨gr, 1, none⟩ (.int .i64 ((k : Int) + 4))) fun e w' => e = .returned (.bool false) ∧ RdE w' gr ba bc b (k + 4) 2 ∧ w.grownBy w' (some gr) ∧ Fresh w w') := fun q => by
          refine (need_no _ gr ba bc b (k + 4) m (HN2.out q).1 (by omega) hmm).mono ?_
          rintro e w' ⟨h1, h2, h3⟩
          exact ⟨h1, h2, grown_trans (HN2.out q).2.1 h3, (HN2.out q).2.2.grown h3 hlt⟩
        clear c0 HN2 hmm
        go_wp2_with fail
        refine (CN.out _).mono ?_
        rintro e w3 ⟨rfl, hr3, hg3, hf3⟩
        have HR3 := Lib.hid hr3
        have HG3 := Lib.hid hg3
        have HF3 := Lib.hid hf3
        clear hr3 hg3 hf3
        obtain ⟨d0, f0⟩ := HF3.out.cells 0 _ rfl
        obtain ⟨d1, f1⟩ := HF3.out.cells 1 _ rfl
        obtain ⟨d2, f2⟩ := HF3.out.cells 2 _ rfl
        obtain ⟨d3, f3⟩ := HF3.out.cells 3 _ rfl
        obtain ⟨d4, f4⟩ := HF3.out.cells 4 _ rfl
        obtain ⟨d5, f5⟩ := HF3.out.cells 5 _ rfl
        go_wp2_with fail
        rw [HRS.out]
        exact bodyPost_ret (v := .agg #[.int .i64 0, .int .i64 0, .string ⟨#[]⟩, .slice none 0 0, .slice none 0 0, .slice none 0 0]) (by simp [results, Tryd.results65, go_sem, *]) rfl (fine_err hlt HF3.out HR3.out HG3.out _ _ _ _ _ _ six_zero)
      · have hmL : k + 4 + m ≤ b.length := by omega
        have CY2 : Hid (∀ q, Calls Tryd.prog 42 #[.pointer (some ⟨gr, 0, none⟩), .int .i64 (m : Int)] ((w1.drewN q).setCell ⟨gr, 1, none⟩ (.int .i64 ((k : Int) + 4))) fun e w' => e = .returned (.bool true) ∧ RdE w' gr ba bc b (k + 4) 0 ∧ w.grownBy w' (some gr) ∧ Fresh w w') := fun q => by
          refine (need_ok _ gr ba bc b (k + 4) m (HN2.out q).1 hmL).mono ?_
          rintro e w' ⟨h1, h2, h3⟩
          exact ⟨h1, h2, grown_trans (HN2.out q).2.1 h3, (HN2.out q).2.2.grown h3 hlt⟩
        clear c0 HN2 hmm
        go_wp2_with fail
        refine (CY2.out _).mono ?_
        rintro e w3 ⟨rfl, hr3, hg3, hf3⟩
        have HR3 := Lib.hid hr3
        have HG3 := Lib.hid hg3
        have HF3 := Lib.hid hf3
        clear hr3 hg3 hf3 CY2
        obtain ⟨p, hp⟩ : ∃ p, p = k + 4 := ⟨_, rfl⟩
        rw [← hp] at HR3 hmL HRES2
        clear hp
        have HRES3 : Hid (RES = if b.getD (p + m - 1) 0 ≠ 0 then .err 4 else if Bson.u8 (Bson.ofBytes ((b.drop p).take (m - 1))) = false then .err 5 else .ok (.mk 5 0 (Bson.ofBytes ((b.drop p).take (m - 1))) [] [] []) (b.drop (p + m))) := HRES2.out.trans (textRest_is b p m hm1 hmL)
        obtain ⟨sb, hsb⟩ : ∃ sb, sb = strB ((b.drop p).take (m - 1)) := ⟨_, rfl⟩
        have HSB := Lib.hid hsb
        have hgD : b.getD (p + m - 1) 0 = b[p + m - 1]'(by omega) := by rw [List.getD_eq_getElem?_getD, List.getElem?_eq_getElem (by omega)]; rfl
        have HLT : Hid (p + m - 1 < b.length) := by show _ < _; omega
        have HML := Lib.hid hmL
        have c0 := HR3.out.c0
        have c1 := HR3.out.c1
        rw [← HL.out] at c0 hmL
        obtain ⟨g, o, rfl, -, -⟩ := HR3.out.byteAt HLT.out
        have hcv : ∀ q, (convert 22 9 (.slice (some ⟨g, o + p, none⟩) (m - 1) (bc - p))).run Tryd.prog (w3.drewN q) = .ok (.string sb) (w3.drewN q) := fun q => by
          have hs : SliceIs (w3.drewN q) (some ⟨g, o + p, none⟩) ((b.drop p).take (m - 1)) := by
            have := (HR3.out.dr q).rd.cut p (m - 1)
            rcases this with h | ⟨g', o', e, h⟩
            · exact .inl h
            · refine .inr ⟨g', o', ?_, h⟩
              rw [← e]
              simp [Addr.add]
          rw [hsb]
          exact conv_str _ _ _ _ _ (by have := HML.out; simp; omega) hs
        have hnk : ¬ bc = p := by omega
        have hp0 : (0 : Int) ≤ (p : Int) := by omega
        have hp1 : (p : Int) ≤ (p : Int) + (m : Int) - 1 := by omega
        have hp2 : (p : Int) + (m : Int) - 1 ≤ (bc : Int) := by omega
        have hsub : ((p : Int) + (m : Int)).toNat - 1 - p = m - 1 := by omega
        have hw1 : IntKind.i64.wrap ((p : Int) + (m : Int)) = (p : Int) + (m : Int) := IntWalk.i64_in _ (by omega)
        have hw2 : IntKind.i64.wrap ((p : Int) + (m : Int) - 1) = (p : Int) + (m : Int) - 1 := IntWalk.i64_in _ (by omega)
        clear hsb HRES2
        go_wp2_with fail
        go_quiet (fail)
        have HR4 := Lib.hid (HR3.out.dr nq)
        have HG4 := Lib.hid (grown_trans HG3.out (grown_drewN w3 nq gr))
        have HF4 := Lib.hid (HF3.out.dr nq)
        clear hcv c0 c1
        generalize w3.drewN nq = w4 at *
        have c1 := HR4.out.c1
        have f1 := HR4.out.frz 1
        go_wp2_with fail
        have hs4 := HR4.out.setAt (p + m) HML.out
        have e4 : ((p + m : Nat) : Int) = (p : Int) + (m : Int) := by omega
        rw [e4] at hs4
        have HR5 := Lib.hid hs4.1
        have HG5 := Lib.hid (grown_trans HG4.out hs4.2)
        have HF5 := Lib.hid (HF4.out.grown hs4.2 hlt)
        clear hs4 e4 c1 f1
        generalize w4.setCell ⟨gr, 1, none⟩ (.int .i64 ((p : Int) + (m : Int))) = w5 at *
        have c0 := HR5.out.c0
        have c1 := HR5.out.c1
        rw [← HL.out] at c0
        obtain ⟨g2, o2, e2, q0, hz256⟩ := HR5.out.byteAt HLT.out
        injection e2 with e2
        injection e2 with e2 e3 _
        subst e2 e3
        obtain ⟨z, hz⟩ : ∃ z, z = b[p + m - 1]'HLT.out := ⟨_, rfl⟩
        rw [← hz] at q0
        have HRES4 : Hid (RES = if z ≠ 0 then .err 4 else if Bson.u8 (Bson.ofBytes ((b.drop p).take (m - 1))) = false then .err 5 else .ok (.mk 5 0 (Bson.ofBytes ((b.drop p).take (m - 1))) [] [] []) (b.drop (p + m))) := by
          show _ = _
          rw [HRES3.out, hgD, ← hz]
        clear hz hgD HRES3 hz256
        obtain ⟨r, hr⟩ : ∃ r, r = p + m := ⟨_, rfl⟩
        have HRr := Lib.hid hr
        rw [← hr] at c1
        have e5 : o + (p + m - 1) = o + (r - 1) := by rw [hr]
        rw [e5] at q0
        have hr1 : (1 : Int) ≤ (r : Int) := by omega
        have hw3 : IntKind.i64.wrap ((r : Int) - 1) = (r : Int) - 1 := IntWalk.i64_in _ (by omega)
        have hr2 : (0 : Int) ≤ (r : Int) - 1 := by omega
        have hr3 : (r : Int) - 1 < (L : Int) := by omega
        have hr4 : ((r : Int) - 1).toNat = r - 1 := by omega
        clear hr e5
        have HZS : Hid (sb.size ≤ 140737488355328) := by
          show _ ≤ _
          rw [HSB.out]
          have := HML.out
          show (strB ((b.drop p).take (m - 1))).size ≤ _
          have e : (strB ((b.drop p).take (m - 1))).size = ((b.drop p).take (m - 1)).length := ofBytes_size _
          rw [e, List.length_take, List.length_drop]; omega
        by_cases hz0 : z = 0
        · have hzb : ((z : Int) != 0) = false := by simp [hz0]
          have hzc : (z : Int) = 0 := by omega
          have HRES5 : Hid (RES = if Bson.u8 sb = false then .err 5 else .ok (.mk 5 0 sb [] [] []) (b.drop (p + m))) := by
            show _ = _
            rw [HRES4.out, if_neg (by simp [hz0]), HSB.out]; rfl
          clear HRES4 hz0
          go_wp2_with fail
          go_quiet (fail)
          have HR6 := Lib.hid (HR5.out.dr nq)
          have HG6 := Lib.hid (grown_trans HG5.out (grown_drewN w5 nq gr))
          have HF6 := Lib.hid (HF5.out.dr nq)
          clear c0 c1 q0
          generalize w5.drewN nq = w6 at *
          go_wp2_with fail
          go_at_call 46
          refine (utf8ref_any sb w6 HZS.out).mono ?_
          rintro e w7 ⟨rfl, hb7⟩
          have HR7 := Lib.hid (HR6.out.keep hb7)
          have hg7 : w6.grownBy w7 (some gr) := grown_below hb7 gr
          have HG7 := Lib.hid (grown_trans HG6.out hg7)
          have HF7 := Lib.hid (HF6.out.grown hg7 hlt)
          clear hb7 hg7
          obtain ⟨u, hu⟩ : ∃ u, u = Lib.validD sb.data.toList := ⟨_, rfl⟩
          have HU : Hid (Bson.u8 sb = u) := hu.symm
          rw [← hu]
          clear hu
          cases u with
          | false =>
            have HRS : Hid (RES = .err 5) := by show _ = _; rw [HRES5.out, if_pos HU.out]
            go_wp2_with fail
            refine (bad_any w7 gr _ bc b (p + m) 5 HR7.out).mono ?_
            rintro e w8 ⟨⟨v8, rfl⟩, hr8, hg8⟩
            have HR8 := Lib.hid hr8
            have HG8 := Lib.hid (grown_trans HG7.out hg8)
            have HF8 := Lib.hid (HF7.out.grown hg8 hlt)
            clear hr8 hg8
            obtain ⟨d0, f0⟩ := HF8.out.cells 0 _ rfl
            obtain ⟨d1, f1⟩ := HF8.out.cells 1 _ rfl
            obtain ⟨d2, f2⟩ := HF8.out.cells 2 _ rfl
            obtain ⟨d3, f3⟩ := HF8.out.cells 3 _ rfl
            obtain ⟨d4, f4⟩ := HF8.out.cells 4 _ rfl
            obtain ⟨d5, f5⟩ := HF8.out.cells 5 _ rfl
            go_wp2_with fail
            rw [HRS.out]
            exact bodyPost_ret (v := .agg #[.int .i64 5, .int .i64 0, .string sb, .slice none 0 0, .slice none 0 0, .slice none 0 0]) (by simp [results, Tryd.results65, go_sem, *]) rfl (fine_err hlt HF8.out HR8.out HG8.out _ _ _ _ _ _ ⟨5, 0, sb, none, 0, 0, none, 0, 0, none, 0, 0, rfl⟩)
          | true =>
            have HRS : Hid (RES = .ok (.mk 5 0 sb [] [] []) (b.drop (p + m))) := by show _ = _; rw [HRES5.out, if_neg (by rw [HU.out]; decide)]
            obtain ⟨d0, f0⟩ := HF7.out.cells 0 _ rfl
            obtain ⟨d1, f1⟩ := HF7.out.cells 1 _ rfl
            obtain ⟨d2, f2⟩ := HF7.out.cells 2 _ rfl
            obtain ⟨d3, f3⟩ := HF7.out.cells 3 _ rfl
            obtain ⟨d4, f4⟩ := HF7.out.cells 4 _ rfl
            obtain ⟨d5, f5⟩ := HF7.out.cells 5 _ rfl
            go_wp2_with fail
            rw [HRS.out]
            exact bodyPost_ret (v := .agg #[.int .i64 5, .int .i64 0, .string sb, .slice none 0 0, .slice none 0 0, .slice none 0 0]) (by simp [results, Tryd.results65, go_sem, *]) rfl (fine_ok hlt HF7.out HR7.out HG7.out _ _ _ _ _ _ ⟨5, 0, sb, none, 0, 0, none, 0, 0, none, 0, 0, rfl⟩ (vin_flat _ _ 5 0 sb (by decide) (by decide) (by decide) (by decide) HZS.out) rfl)
        · have hzb : ((z : Int) != 0) = true := by simp; omega
          have hzc : ¬ (z : Int) = 0 := by omega
          have HRS : Hid (RES = .err 4) := by show _ = _; rw [HRES4.out, if_pos hz0]
          clear HRES4 hz0
          go_wp2_with fail
          go_quiet (fail)
          have HR6 := Lib.hid (HR5.out.dr nq)
          have HG6 := Lib.hid (grown_trans HG5.out (grown_drewN w5 nq gr))
          have HF6 := Lib.hid (HF5.out.dr nq)
          clear c0 c1 q0
          generalize w5.drewN nq = w6 at *
          go_wp2_with fail
          refine (bad_any w6 gr _ bc b (p + m) 4 HR6.out).mono ?_
          rintro e w8 ⟨⟨v8, rfl⟩, hr8, hg8⟩
          have HR8 := Lib.hid hr8
          have HG8 := Lib.hid (grown_trans HG6.out hg8)
          have HF8 := Lib.hid (HF6.out.grown hg8 hlt)
          clear hr8 hg8
          obtain ⟨d0, f0⟩ := HF8.out.cells 0 _ rfl
          obtain ⟨d1, f1⟩ := HF8.out.cells 1 _ rfl
          obtain ⟨d2, f2⟩ := HF8.out.cells 2 _ rfl
          obtain ⟨d3, f3⟩ := HF8.out.cells 3 _ rfl
          obtain ⟨d4, f4⟩ := HF8.out.cells 4 _ rfl
          obtain ⟨d5, f5⟩ := HF8.out.cells 5 _ rfl
          go_wp2_with fail
          rw [HRS.out]
          exact bodyPost_ret (v := .agg #[.int .i64 5, .int .i64 0, .string sb, .slice none 0 0, .slice none 0 0, .slice none 0 0]) (by simp [results, Tryd.results65, go_sem, *]) rfl (fine_err hlt HF8.out HR8.out HG8.out _ _ _ _ _ _ ⟨5, 0, sb, none, 0, 0, none, 0, 0, none, 0, 0, rfl⟩)
end Go.Proofs.YtpiookgkkaafeaaDoor
end
section
namespace Go.Proofs.YtpiookgkkaafeaaDoor
open Go.RowKit
open Seal
def SixIs (W : World) (n : Nat) (c0 c1 c2 c3 c4 c5 : Value) : Prop := W.cell? ⟨n, 0, none⟩ = some c0 ∧ W.cell? ⟨n, 1, none⟩ = some c1 ∧ W.cell? ⟨n, 2, none⟩ = some c2 ∧ W.cell? ⟨n, 3, none⟩ = some c3 ∧ W.cell? ⟨n, 4, none⟩ = some c4 ∧ W.cell? ⟨n, 5, none⟩ = some c5
theorem SixIs.keep {W W' : World} {n : Nat} {c0 c1 c2 c3 c4 c5 : Value} (h : SixIs W n c0 c1 c2 c3 c4 c5) (hb : Below W.heap.size W W') : SixIs W' n c0 c1 c2 c3 c4 c5 := by
  obtain ⟨h0, h1, h2, h3, h4, h5⟩ := h
  exact ⟨cell_keep hb h0, cell_keep hb h1, cell_keep hb h2, cell_keep hb h3, cell_keep hb h4, cell_keep hb h5⟩
theorem SixIs.new (w : World) (c0 c1 c2 c3 c4 c5 : Value) (t : TypeId) : SixIs (w.alloc (.cells #[c0, c1, c2, c3, c4, c5] t)) w.heap.size c0 c1 c2 c3 c4 c5 := by
  have e := heap_alloc_new w (.cells #[c0, c1, c2, c3, c4, c5] t)
  exact ⟨(cell_of_row _ _ 0 _ _ _ e).trans rfl, (cell_of_row _ _ 1 _ _ _ e).trans rfl, (cell_of_row _ _ 2 _ _ _ e).trans rfl, (cell_of_row _ _ 3 _ _ _ e).trans rfl, (cell_of_row _ _ 4 _ _ _ e).trans rfl, (cell_of_row _ _ 5 _ _ _ e).trans rfl⟩
end Go.Proofs.YtpiookgkkaafeaaDoor
end
section
namespace Go.Proofs.YtpiookgkkaafeaaDoor
open Go.RowKit
open Seal
open Bson (Val)
end Go.Proofs.YtpiookgkkaafeaaDoor
end
section
namespace Go.Proofs.YtpiookgkkaafeaaDoor
open Go.RowKit
open Seal
open Bson (Val)
theorem BytesAt.keep {w w' : World} {Q : Nat → Prop} {v : Value} {n : Nat} (h : BytesAt w Q v n) (hb : Below w.heap.size w w') : BytesAt w' Q v n := by
  obtain ⟨a, c, l, e, h1, h2, h3⟩ := h
  refine ⟨a, c, l, e, h1, h2, ?_⟩
  rcases h3 with h3 | ⟨g, o, e2, hq, hr⟩
  · exact .inl h3
  · exact .inr ⟨g, o, e2, hq, fun j hj => cell_keep hb (hr j hj)⟩
theorem BytesAt.mono {w : World} {Q Q' : Nat → Prop} {v : Value} {n : Nat} (h : BytesAt w Q v n) (hq : ∀ g, Q g → Q' g) : BytesAt w Q' v n := by
  obtain ⟨a, c, l, e, h1, h2, h3⟩ := h
  refine ⟨a, c, l, e, h1, h2, ?_⟩
  rcases h3 with h3 | ⟨g, o, e2, hg, hr⟩
  · exact .inl h3
  · exact .inr ⟨g, o, e2, hq g hg, hr⟩
theorem BytesAt.none (w : World) (Q : Nat → Prop) : BytesAt w Q (.slice none 0 0) 0 := ⟨Option.none, 0, [], rfl, rfl, fun c hc => (by cases hc), Or.inl rfl⟩
end Go.Proofs.YtpiookgkkaafeaaDoor
end
section
namespace Go.Proofs.YtpiookgkkaafeaaDoor
open Go.RowKit
open Seal
open Bson (Val)
/-- Those bytes, in blocks that Q names. -/
def BytesX (w : World) (Q : Nat → Prop) (v : Value) (l : List Nat) : Prop := ∃ a c, v = .slice a l.length c ∧ Oct l ∧ BytesIn w Q a l
theorem BytesX.at {w : World} {Q : Nat → Prop} {v : Value} {l : List Nat} (h : BytesX w Q v l) : BytesAt w Q v l.length := by
  obtain ⟨a, c, e, h1, h2⟩ := h
  exact ⟨a, c, l, e, rfl, h1, h2⟩
theorem BytesX.kept {w w' : World} {Q Q' : Nat → Prop} {v : Value} {l : List Nat} (h : BytesX w Q v l) (hk : Kept Q w w') (hq : ∀ g, Q g → Q' g) : BytesX w' Q' v l := by
  obtain ⟨a, c, e, h1, h2⟩ := h
  exact ⟨a, c, e, h1, h2.kept hk hq⟩
theorem BytesX.keep {w w' : World} {Q : Nat → Prop} {v : Value} {l : List Nat} (h : BytesX w Q v l) (hb : Below w.heap.size w w') : BytesX w' Q v l := h.kept (Kept.of_below hb) (fun _ h => h)
theorem BytesX.mono {w : World} {Q Q' : Nat → Prop} {v : Value} {l : List Nat} (h : BytesX w Q v l) (hq : ∀ g, Q g → Q' g) : BytesX w Q' v l := h.kept (fun _ _ _ => rfl) hq
theorem BytesX.none (w : World) (Q : Nat → Prop) : BytesX w Q (.slice none 0 0) [] := ⟨Option.none, 0, rfl, fun c hc => (by cases hc), Or.inl rfl⟩
theorem BytesX.own {w : World} {base n : Nat} {v : Value} {l : List Nat} (h : w.ownsRow base 5 1 v n (u8s l)) (ho : Oct l) : BytesX w (fun g => base ≤ g) v l := by
  obtain ⟨hxl, ⟨rfl, hn⟩ | ⟨g, cap, cur, rfl, hbg, hrow, hc, hm, hsz, htake⟩⟩ := h
  · subst hn
    have : l = [] := List.eq_nil_of_length_eq_zero (by simpa [u8s] using hxl)
    subst this
    exact BytesX.none _ _
  · have hl : l.length = n := by simpa [u8s] using hxl
    refine ⟨some ⟨g, 0, Option.none⟩, cap, by rw [hl], ho, .inr ⟨g, 0, rfl, hbg, fun j hj => ?_⟩⟩
    rw [Nat.zero_add, cell_of_row w g j _ _ _ hrow, ← Array.getElem?_toList]
    have e : cur.toList[j]? = (u8s l)[j]? := by rw [← htake, List.getElem?_take_of_lt (by omega)]
    rw [e]
    simp [u8s, Go.Proofs.YtpiookgkkaafeaaDoor.u8, List.getElem?_eq_getElem hj, List.getD_eq_getElem?_getD]
section
variable {x : Val} {xn : Int} {b : Bool}
end
end Go.Proofs.YtpiookgkkaafeaaDoor
end
section
namespace Go.Proofs.YtpiookgkkaafeaaDoor
open Go.RowKit
open Seal
open Bson (Val)
end Go.Proofs.YtpiookgkkaafeaaDoor
end
section
namespace Go.Proofs.YtpiookgkkaafeaaDoor
open Go.RowKit
open Seal
open Bson (Val)
section
variable {P : Program}
theorem step_append_src {ops : Array Oper} {o : Oper} {a : Act} {w : World} {K : Act → World → Prop} {Q : Exit → Act → World → Prop} {E : Prop}
    (hg : o.guard = none) (s x : Operand) (t : TypeId) (ho : o.op = .call { callee := .builtin .append, args := #[s, x], argTypes := #[t, t] })
    (base : Nat) (e : TypeId) (i : TypeInfo) (z : Value) (size bytes : Nat) (ht : P.underlying t = some (.slice e)) (hi : P.info? e = some i) (hz : i.zero = some z)
    (hsize : i.size = size) (hby : i.bytes = bytes) (hzs : z.cells.size = size) (hsz : 0 < size) (v : Value) (n : Nat) (xs : List Value) (hs : a.eval s = v) (hown : w.ownsRow base e size v n xs)
    (ad : Option Addr) (m c : Nat) (news : List Value) (hx : a.eval x = .slice ad m c) (hsrc : Src w ad m news) (hl : news.length = m * size) (h1 : ∀ u ∈ news, u.oneCell' = true)
    (h63 : n + m ≤ maxLen) (hbytes : (n + m) * bytes ≤ 140737488355328) (hbase : base ≤ w.heap.size)
    (h : ∀ v' w', w'.ownsRow base e size v' (n + m) (xs ++ news) → w.grownBy w' v.ownBlock → K (a.put o.dst v') w') :
    if Region.wanted o (yielded ops a.tmps) = true then Oper.wp P o a w K Q else E := by
  have hw : Region.wanted o (yielded ops a.tmps) = true := by simp [Region.wanted, hg]
  rw [if_pos hw]
  obtain ⟨v', w', hr, h2, h3⟩ := run_src (P := P) w base t o.type e i z size bytes ht hi hz hsize hby hzs hsz v n xs hown ad m c news hsrc hl h1 h63 hbytes hbase
  unfold Oper.wp execOp
  simp only [ho, resolve, invoke, builtin, Sem.run_bind, Sem.run_pure, Result.andThen_ok, List.map_toArray, List.map_cons, List.map_nil, hs, hx, hr]
  exact h v' w' h2 h3
end
theorem oct_app {a b : List Nat} (ha : Oct a) (hb : Oct b) : Oct (a ++ b) := fun c hc => by
  rcases List.mem_append.1 hc with h | h
  · exact ha c h
  · exact hb c h
theorem u8s_app (a b : List Nat) : u8s (a ++ b) = u8s a ++ u8s b := by unfold u8s; exact List.map_append
/-- Bytes of one's own: a row at base or behind it. -/
structure Mine (w : World) (base : Nat) (v : Value) (n : Nat) : Prop where
  row : ∃ l, w.ownsRow base 5 1 v n (u8s l) ∧ Oct l
  size : base ≤ w.heap.size
theorem Mine.below {w w' : World} {base : Nat} {v : Value} {n : Nat} (h : Mine w base v n) (hb : Below w.heap.size w w') : Mine w' base v n := by
  obtain ⟨⟨l, h1, h2⟩, h3⟩ := h
  exact ⟨⟨l, owns_below h1 hb, h2⟩, Nat.le_trans h3 hb.size⟩
theorem Mine.bytes {w : World} {base B : Nat} {v : Value} {n : Nat} (h : Mine w base v n) (hB : B ≤ base) : BytesAt w (fun g => B ≤ g) v n := by
  obtain ⟨⟨l, h1, h2⟩, _⟩ := h
  exact (owns_bytes h1 h2).mono (fun g hg => Nat.le_trans hB hg)
/-- A byte 0 at the head of a block. -/
def NoughtAt (w : World) (N : Nat) : Prop := N < w.heap.size ∧ w.cell? ⟨N, 0, none⟩ = some (.int .u8 0)
theorem NoughtAt.keep {w w' : World} {N : Nat} (h : NoughtAt w N) (hb : Below w.heap.size w w') : NoughtAt w' N := ⟨Nat.lt_of_lt_of_le h.1 hb.size, cell_keep hb h.2⟩
theorem NoughtAt.new (w : World) (t : TypeId) : NoughtAt (w.alloc (.cells #[.int .u8 0] t)) w.heap.size :=
  ⟨(Array.getElem?_eq_some_iff.1 (heap_alloc_new w _)).1, (cell_of_row _ _ 0 _ _ _ (heap_alloc_new w _)).trans rfl⟩
theorem NoughtAt.reads {w : World} {N : Nat} (h : NoughtAt w N) : ∀ j u, ([.int .u8 0] : List Value)[j]? = some u → w.cell? (Addr.add ⟨N, 0, none⟩ j) = some u := by
  intro j u hj
  cases j with
  | zero => simp at hj; subst hj; exact h.2
  | succ j => simp at hj
theorem Mine.more {w' : World} {base : Nat} {v' : Value} {n m : Nat} {l k : List Nat} (ho : w'.ownsRow base 5 1 v' (n + m) (u8s l ++ u8s k)) (hl : Oct l) (hk : Oct k) (hb : base ≤ w'.heap.size) : Mine w' base v' (n + m) := by
  rw [← u8s_app] at ho
  exact ⟨⟨_, ho, oct_app hl hk⟩, hb⟩
end Go.Proofs.YtpiookgkkaafeaaDoor
end
section
namespace Go.Proofs.YtpiookgkkaafeaaDoor
open Go.RowKit
open Seal
open Bson (Val Res)
theorem vin_bytes (w0 w : World) (k : Int) (a : Option Addr) (n c : Nat) (l : List Nat) (hk0 : -9223372036854775808 ≤ k) (hk1 : k ≤ 9223372036854775807) (hl : l.length ≤ 140737488355328) (hc : n ≤ c ∧ c ≤ 9223372036854775807) (hn : l.length = n)
    (hx : BytesX w (fun g => w0.heap.size < g) (.slice a n c) l) : ValV w0.heap.size (six w w0.heap.size (.int .i64 k) (.int .i64 0) (.string ⟨#[]⟩) (.slice a n c) (.slice none 0 0) (.slice none 0 0)) (.mk k 0 Bson.none_ l [] []) (.agg #[.int .i64 k, .int .i64 0, .string ⟨#[]⟩, .slice a n c, .slice none 0 0, .slice none 0 0]) := by
  obtain ⟨a', c', e, ho, hb⟩ := hx
  injection e with e1 e2 e3
  subst e1 e3 hn
  have hk : Kept (fun g => w0.heap.size < g) w (six w w0.heap.size (.int .i64 k) (.int .i64 0) (.string ⟨#[]⟩) (.slice a l.length c) (.slice none 0 0) (.slice none 0 0)) := by
    intro g hg _
    have hne : g ≠ w0.heap.size := Nat.ne_of_gt hg
    have s1 : ∀ (w : World) (j : Nat) (v : Value), (w.setCell ⟨w0.heap.size, j, none⟩ v).heap[g]? = w.heap[g]? := fun w j v => Below.heap_setCell w ⟨w0.heap.size, j, none⟩ v g hne
    unfold six
    rw [s1, s1, s1, s1, s1, s1]
  refine ⟨1, a, none, none, c, 0, 0, rfl, ⟨hk0, hk1, by show (-9223372036854775808 : Int) ≤ 0; omega, by show (0 : Int) ≤ _; omega, by show (0 : Nat) ≤ _; omega, hl, by show (0 : Nat) ≤ _; omega, by show (0 : Nat) ≤ _; omega, ho⟩, hc, ⟨Nat.le_refl _, by omega⟩, ⟨Nat.le_refl _, by omega⟩, hb.kept hk (fun g hg => Nat.le_of_lt hg), .inl rfl, .inl rfl⟩
set_option maxRecDepth 100000 in
set_option maxHeartbeats 4000000 in
theorem rbytes_any (w : World) (gr : Nat) (ba : Option Addr) (bc : Nat) (b : List Nat) (k : Nat) (hR : RdE w gr ba bc b k 0) :
    Calls Tryd.prog 66 #[.pointer (some ⟨gr, 0, none⟩)] w (RPostE w.heap.size w gr ba bc b (Bson.blob (b.drop k))) := by
  obtain ⟨i0, hi, hz0, hz1, hz2⟩ := info_parts infoU8
  have hlt := hR.lt
  have hB0 : Below w.heap.size w (w.alloc (.cells zeroCs 27)) := (Below.refl _ w).alloc (Nat.le_refl _) _
  have HR0 := Lib.hid (hR.keep hB0)
  have HG0 := Lib.hid (grown_below hB0 gr)
  have HF0 : Hid (Fresh w (w.alloc (.cells zeroCs 27))) := Fresh.new w
  clear hR hB0
  by_cases h4 : b.length < k + 5
  · have hres : Bson.blob (b.drop k) = .err 2 := by unfold Bson.blob Bson.take; rw [if_pos (by simp; omega)]; rfl
    rw [hres]
    have CN := Lib.hid (need_no _ gr ba bc b k 5 HR0.out (by decide) h4)
    clear hres h4
    go_enter Tryd.func66, Tryd.ntmps66
    go_wp2_with fail
    refine CN.out.mono ?_
    rintro e w1 ⟨rfl, hr1, hg1⟩
    have HR1 := Lib.hid hr1
    have HG1 := Lib.hid (grown_trans HG0.out hg1)
    have HF1 := Lib.hid (HF0.out.grown hg1 hlt)
    clear hr1 hg1
    obtain ⟨d0, f0⟩ := HF1.out.cells 0 _ rfl
    obtain ⟨d1, f1⟩ := HF1.out.cells 1 _ rfl
    obtain ⟨d2, f2⟩ := HF1.out.cells 2 _ rfl
    obtain ⟨d3, f3⟩ := HF1.out.cells 3 _ rfl
    obtain ⟨d4, f4⟩ := HF1.out.cells 4 _ rfl
    obtain ⟨d5, f5⟩ := HF1.out.cells 5 _ rfl
    go_wp2_with fail
    exact bodyPost_ret (v := .agg #[.int .i64 0, .int .i64 0, .string ⟨#[]⟩, .slice none 0 0, .slice none 0 0, .slice none 0 0]) (by simp [results, Tryd.results66, go_sem, *]) rfl (fine_err hlt HF1.out HR1.out HG1.out _ _ _ _ _ _ six_zero)
  · have CY := Lib.hid (need_ok _ gr ba bc b k 5 HR0.out (by omega))
    have hx4 : ((b.drop k).take 4).length = 4 := by simp; omega
    have ho4 : Oct ((b.drop k).take 4) := fun c hc => HR0.out.oct c (List.mem_of_mem_drop (List.mem_of_mem_take hc))
    obtain ⟨hu32, hi32, hi64, hs0, hs1⟩ := conv_i32 _ hx4 ho4
    obtain ⟨RES, hRES⟩ : ∃ r, r = Bson.blob (b.drop k) := ⟨_, rfl⟩
    rw [← hRES]
    have HRES : Hid (RES = if Bson.signed ((b.drop k).take 4) < 0 ∨ b.getD (k + 4) 0 ≠ 0 then .err 4 else (Bson.take (Bson.signed ((b.drop k).take 4)).toNat (b.drop (k + 5))).bind fun t r' => .ok (.mk 8 0 Bson.none_ t [] []) r') := by
      show _ = _
      rw [hRES]
      unfold Bson.blob
      rw [show Bson.take 5 (b.drop k) = .ok ((b.drop k).take 5) ((b.drop k).drop 5) by unfold Bson.take; rw [if_neg (by simp; omega)]]
      have hg : ((b.drop k).take 5).getD 4 0 = b.getD (k + 4) 0 := by
        rw [List.getD_eq_getElem?_getD, List.getD_eq_getElem?_getD, List.getElem?_take_of_lt (by omega), List.getElem?_drop]
      show (if Bson.signed (((b.drop k).take 5).take 4) < 0 ∨ ((b.drop k).take 5).getD 4 0 ≠ 0 then _ else _ : Res Val) = _
      rw [hg, List.take_take, Nat.min_eq_left (by omega), List.drop_drop]
    clear hRES
    have hlen := HR0.out.len
    have hcap := HR0.out.cap
    have hmax := HR0.out.max
    have CG0 := Lib.hid (fun (W : World) (hs : SliceIs W ba b) => get_any W ba b.length bc k 4 b rfl (by decide) (by decide) (by omega) HR0.out.len HR0.out.oct hs)
    generalize Bson.signed ((b.drop k).take 4) = sg at *
    generalize Bson.leN ((b.drop k).take 4) = x4 at *
    have hk4 : k + 5 ≤ b.length := by omega
    have HLT : Hid (k + 4 < b.length) := by show _ < _; omega
    have hgD : b.getD (k + 4) 0 = b[k + 4]'HLT.out := by rw [List.getD_eq_getElem?_getD, List.getElem?_eq_getElem HLT.out]; rfl
    clear h4 hx4 ho4
    go_enter Tryd.func66, Tryd.ntmps66
    go_wp2_with fail
    refine CY.out.mono ?_
    rintro e w1 ⟨rfl, hr1, hg1⟩
    have HR1 := Lib.hid hr1
    have HG1 := Lib.hid (grown_trans HG0.out hg1)
    have HF1 := Lib.hid (HF0.out.grown hg1 hlt)
    clear hr1 hg1
    obtain ⟨L, hL⟩ : ∃ L, L = b.length := ⟨_, rfl⟩
    have HL := Lib.hid hL
    have c0 := HR1.out.c0
    have c1 := HR1.out.c1
    have CG : Hid (∀ q, Calls Tryd.prog 43 #[.slice ba L bc, .int .i64 (k : Int), .int .i64 4] (w1.drewN q) fun e w' => e = .returned (.int .u64 (x4 : Int)) ∧ w1.drewN q = w') := fun q => by rw [hL]; exact CG0.out _ (HR1.out.dr q).rd
    rw [← hL] at c0 hk4 hcap hlen
    clear hL CG0 CY
    obtain ⟨g, o, rfl, q0, hz256⟩ := HR1.out.byteAt HLT.out
    obtain ⟨z, hz⟩ : ∃ z, z = b[k + 4]'HLT.out := ⟨_, rfl⟩
    rw [hgD, ← hz] at HRES
    clear q0 hgD hz256
    go_wp2_with fail
    go_quiet ((go_at_call 43; exact Calls.quiet_of_same ((CG.out _).mono fun _ _ h => ⟨h.1, h.2.symm⟩)))
    have HR2 := Lib.hid (HR1.out.dr nq)
    have HG2 := Lib.hid (grown_trans HG1.out (grown_drewN w1 nq gr))
    have HF2 := Lib.hid (HF1.out.dr nq)
    clear c0 c1 CG
    generalize w1.drewN nq = w2 at *
    have c0 := HR2.out.c0
    have c1 := HR2.out.c1
    rw [← HL.out] at c0
    obtain ⟨g2, o2, e2, q0, -⟩ := HR2.out.byteAt HLT.out
    injection e2 with e2
    injection e2 with e2 e3 _
    subst e2 e3
    rw [← hz] at q0
    clear hz
    have hkw : IntKind.i64.wrap ((k : Int) + 4) = (k : Int) + 4 := IntWalk.i64_in _ (by omega)
    have hk0 : (0 : Int) ≤ (k : Int) + 4 := by omega
    have hk1 : (k : Int) + 4 < (L : Int) := by omega
    have hk2 : ((k : Int) + 4).toNat = k + 4 := by omega
    go_wp2_with fail
    go_quiet (fail)
    have HR3 := Lib.hid (HR2.out.dr nq)
    have HG3 := Lib.hid (grown_trans HG2.out (grown_drewN w2 nq gr))
    have HF3 := Lib.hid (HF2.out.dr nq)
    clear c0 c1 q0 hkw hk0 hk1 hk2
    generalize w2.drewN nq = w3 at *
    have c1 := HR3.out.c1
    have f1 := HR3.out.frz 1
    have hkw : IntKind.i64.wrap ((k : Int) + 5) = (k : Int) + 5 := IntWalk.i64_in _ (by omega)
    have hs4 := HR3.out.setAt (k + 5) (by have := HL.out; omega)
    have e4 : ((k + 5 : Nat) : Int) = (k : Int) + 5 := by omega
    rw [e4] at hs4
    have HS4 := Lib.hid hs4
    clear hs4 e4
    by_cases hneg : sg < 0
    · have HRS : Hid (RES = .err 4) := by show _ = _; rw [HRES.out, if_pos (.inl hneg)]
      go_wp2_with fail
      refine (bad_any _ gr _ bc b (k + 5) 4 HS4.out.1).mono ?_
      rintro e w5 ⟨⟨v5, rfl⟩, hr5, hg5⟩
      have HR5 := Lib.hid hr5
      have hg35 : w3.grownBy w5 (some gr) := grown_trans HS4.out.2 hg5
      have HG5 := Lib.hid (grown_trans HG3.out hg35)
      have HF5 := Lib.hid (HF3.out.grown hg35 hlt)
      clear hr5 hg5 hg35 c1 f1
      obtain ⟨d0, f0⟩ := HF5.out.cells 0 _ rfl
      obtain ⟨d1, f1⟩ := HF5.out.cells 1 _ rfl
      obtain ⟨d2, f2⟩ := HF5.out.cells 2 _ rfl
      obtain ⟨d3, f3⟩ := HF5.out.cells 3 _ rfl
      obtain ⟨d4, f4⟩ := HF5.out.cells 4 _ rfl
      obtain ⟨d5, f5⟩ := HF5.out.cells 5 _ rfl
      go_wp2_with fail
      rw [HRS.out]
      exact bodyPost_ret (v := .agg #[.int .i64 0, .int .i64 0, .string ⟨#[]⟩, .slice none 0 0, .slice none 0 0, .slice none 0 0]) (by simp [results, Tryd.results66, go_sem, *]) rfl (fine_err hlt HF5.out HR5.out HG5.out _ _ _ _ _ _ six_zero)
    · have hneg2 : decide (sg < 0) = false := decide_eq_false hneg
      by_cases hzz : z = 0
      · have hzb : ((z : Int) != 0) = false := by simp [hzz]
        have hzc : (z : Int) = 0 := by omega
        obtain ⟨m, rfl⟩ : ∃ m : Nat, sg = (m : Int) := ⟨sg.toNat, by omega⟩
        have HRES2 : Hid (RES = (Bson.take m (b.drop (k + 5))).bind fun t r' => .ok (.mk 8 0 Bson.none_ t [] []) r') := by
          show _ = _
          rw [HRES.out, if_neg (by rintro (h | h); exact hneg h; exact h hzz), Int.toNat_natCast]
        clear HRES
        by_cases hmm : b.length < k + 5 + m
        · have HRS : Hid (RES = .err 2) := by
            show _ = _
            rw [HRES2.out]
            unfold Bson.take
            rw [if_pos (by have := HL.out; simp; omega)]; rfl
          go_wp2_with fail
          refine (need_no _ gr _ bc b (k + 5) m HS4.out.1 (by omega) hmm).mono ?_
          rintro e w5 ⟨rfl, hr5, hg5⟩
          have HR5 := Lib.hid hr5
          have hg35 : w3.grownBy w5 (some gr) := grown_trans HS4.out.2 hg5
          have HG5 := Lib.hid (grown_trans HG3.out hg35)
          have HF5 := Lib.hid (HF3.out.grown hg35 hlt)
          clear hr5 hg5 hg35 c1 f1 hmm
          obtain ⟨d0, f0⟩ := HF5.out.cells 0 _ rfl
          obtain ⟨d1, f1⟩ := HF5.out.cells 1 _ rfl
          obtain ⟨d2, f2⟩ := HF5.out.cells 2 _ rfl
          obtain ⟨d3, f3⟩ := HF5.out.cells 3 _ rfl
          obtain ⟨d4, f4⟩ := HF5.out.cells 4 _ rfl
          obtain ⟨d5, f5⟩ := HF5.out.cells 5 _ rfl
          go_wp2_with fail
          rw [HRS.out]
          exact bodyPost_ret (v := .agg #[.int .i64 0, .int .i64 0, .string ⟨#[]⟩, .slice none 0 0, .slice none 0 0, .slice none 0 0]) (by simp [results, Tryd.results66, go_sem, *]) rfl (fine_err hlt HF5.out HR5.out HG5.out _ _ _ _ _ _ six_zero)
        · have hmL : k + 5 + m ≤ b.length := by omega
          go_wp2_with fail
          refine (need_ok _ gr _ bc b (k + 5) m HS4.out.1 hmL).mono ?_
          rintro e w5 ⟨rfl, hr5, hg5⟩
          have HR5 := Lib.hid hr5
          have hg35 : w3.grownBy w5 (some gr) := grown_trans HS4.out.2 hg5
          have HG5 := Lib.hid (grown_trans HG3.out hg35)
          have HF5 := Lib.hid (HF3.out.grown hg35 hlt)
          clear hr5 hg5 hg35 c1 f1 hmm HS4
          obtain ⟨p, hp⟩ : ∃ p, p = k + 5 := ⟨_, rfl⟩
          rw [← hp] at HR5 hmL HRES2
          clear hp
          have HRS : Hid (RES = .ok (.mk 8 0 Bson.none_ ((b.drop p).take m) [] []) (b.drop (p + m))) := by
            show _ = _
            rw [HRES2.out]
            unfold Bson.take
            rw [if_neg (by simp; omega)]
            show Res.ok _ ((b.drop p).drop m) = _
            rw [List.drop_drop]
          have HML := Lib.hid hmL
          have c1 := HR5.out.c1
          have f1 := HR5.out.frz 1
          have hw1 : IntKind.i64.wrap ((p : Int) + (m : Int)) = (p : Int) + (m : Int) := IntWalk.i64_in _ (by have := HL.out; omega)
          go_wp2_with fail
          have hs4 := HR5.out.setAt (p + m) HML.out
          have e4 : ((p + m : Nat) : Int) = (p : Int) + (m : Int) := by omega
          rw [e4] at hs4
          have HR6 := Lib.hid hs4.1
          have HG6 := Lib.hid (grown_trans HG5.out hs4.2)
          have HF6 := Lib.hid (HF5.out.grown hs4.2 hlt)
          clear hs4 e4 c1 f1 HRES2
          generalize w5.setCell ⟨gr, 1, none⟩ (.int .i64 ((p : Int) + (m : Int))) = w6 at *
          obtain ⟨r, hr⟩ : ∃ r, r = p + m := ⟨_, rfl⟩
          have HRr := Lib.hid hr
          have c0 := HR6.out.c0
          have c1 := HR6.out.c1
          rw [← HL.out] at c0
          rw [← hr] at c1
          have hrL : r ≤ L := by rw [hr, HL.out]; exact HML.out
          have hnk : ¬ bc = p ∨ True := .inr trivial
          have hw3 : IntKind.i64.wrap ((r : Int) - (m : Int)) = (r : Int) - (m : Int) := IntWalk.i64_in _ (by omega)
          have hrm : (r : Int) - (m : Int) = (p : Int) := by omega
          have hp0 : (0 : Int) ≤ (p : Int) := by omega
          have hp1 : (p : Int) ≤ (r : Int) := by omega
          have hp2 : (r : Int) ≤ (bc : Int) := by omega
          have hrp : r - p = m := by omega
          clear hr hnk hmL
          have hw4 : IntKind.i64.wrap (p : Int) = (p : Int) := IntWalk.i64_in _ (by omega)
          have hpt : ((p : Int)).toNat = p := by omega
          by_cases hbp : bc = p
          · have HM0 : Hid (m = 0) := by show _ = _; omega
            have hrp2 : r ≤ p := by omega
            have hpr2 : p ≤ r := by omega
            have hkeep := And.intro c0 c1
            refine wp_region_held_drew (S := fun W => W.cell? ⟨gr, 0, none⟩ = some (.slice (some ⟨g, o, none⟩) L bc) ∧ W.cell? ⟨gr, 1, none⟩ = some (.int .i64 (r : Int))) (by kernel_rfl) (by exact hkeep) (fun hHeld => ?_)
            have HR7 : Hid (RdE w6.drew gr (some ⟨g, o, none⟩) bc b (p + m) 0) := HR6.out.dr 1
            have HG7 : Hid (w.grownBy w6.drew (some gr)) := grown_trans HG6.out (grown_drewN w6 1 gr)
            have HF7 : Hid (Fresh w w6.drew) := HF6.out.dr 1
            clear hkeep c0 c1
            generalize w6.drew = w7 at *
            refine wpAnyH_take (i := 0) (v := ?_) rfl (by kernel_rfl) (by kernel_rfl) (by kernel_rfl) (fun _ _ _ h => h) (Or.inl ⟨by kernel_rfl, ?_⟩) (by assumption) ?_
            rotate_left
            · intro wS hSw
              (try dsimp only at hSw)
              go_simp
              try (with_reducible rfl)
            try simp only [List.getElem_toArray, List.getElem_cons_zero, Act.put, List.setIfInBounds_toArray, List.set_cons_zero, List.set_cons_succ]
            refine wpAnyH_take (i := 1) (v := ?_) rfl (by kernel_rfl) (by kernel_rfl) (by kernel_rfl) (fun _ _ _ h => h) (Or.inl ⟨by kernel_rfl, ?_⟩) (by assumption) ?_
            rotate_left
            · intro wS hSw
              (try dsimp only at hSw)
              go_simp
              try (with_reducible rfl)
            try simp only [List.getElem_toArray, List.getElem_cons_succ, List.getElem_cons_zero, Act.put, List.setIfInBounds_toArray, List.set_cons_zero, List.set_cons_succ]
            refine wpAnyH_take (i := 2) (v := ?_) rfl (by kernel_rfl) (by kernel_rfl) (by kernel_rfl) (fun _ _ _ h => h) (Or.inl ⟨by kernel_rfl, ?_⟩) (by assumption) ?_
            rotate_left
            · intro wS hSw
              (try dsimp only at hSw)
              go_simp
              try (with_reducible rfl)
            try simp only [List.getElem_toArray, List.getElem_cons_succ, List.getElem_cons_zero, Act.put, List.setIfInBounds_toArray, List.set_cons_zero, List.set_cons_succ]
            refine wpAnyH_take (i := 3) (v := ?_) rfl (by kernel_rfl) (by kernel_rfl) (by kernel_rfl) (fun _ _ _ h => h) (Or.inl ⟨by kernel_rfl, ?_⟩) (by assumption) ?_
            rotate_left
            · intro wS hSw
              (try dsimp only at hSw)
              go_simp
              try (with_reducible rfl)
            try simp only [List.getElem_toArray, List.getElem_cons_succ, List.getElem_cons_zero, Act.put, List.setIfInBounds_toArray, List.set_cons_zero, List.set_cons_succ]
            refine wpAnyH_take (i := 4) (v := ?_) rfl (by kernel_rfl) (by kernel_rfl) (by kernel_rfl) (fun _ _ _ h => h) (Or.inl ⟨by kernel_rfl, ?_⟩) (by assumption) ?_
            rotate_left
            · intro wS hSw
              (try dsimp only at hSw)
              go_simp
              try (with_reducible rfl)
            try simp only [List.getElem_toArray, List.getElem_cons_succ, List.getElem_cons_zero, Act.put, List.setIfInBounds_toArray, List.set_cons_zero, List.set_cons_succ]
            refine wpAnyH_take (i := 5) (v := ?_) rfl (by kernel_rfl) (by kernel_rfl) (by kernel_rfl) (fun _ _ _ h => h) (Or.inl ⟨by kernel_rfl, ?_⟩) (by assumption) ?_
            rotate_left
            · intro wS hSw
              (try dsimp only at hSw)
              go_simp
              try (with_reducible rfl)
            try simp only [List.getElem_toArray, List.getElem_cons_succ, List.getElem_cons_zero, Act.put, List.setIfInBounds_toArray, List.set_cons_zero, List.set_cons_succ]
            refine wpAnyH_take (i := 6) (v := ?_) rfl (by kernel_rfl) (by kernel_rfl) (by kernel_rfl) (fun _ _ _ h => h) (Or.inl ⟨by kernel_rfl, ?_⟩) (by assumption) ?_
            rotate_left
            · intro wS hSw
              (try dsimp only at hSw)
              go_simp
              try (with_reducible rfl)
            try simp only [List.getElem_toArray, List.getElem_cons_succ, List.getElem_cons_zero, Act.put, List.setIfInBounds_toArray, List.set_cons_zero, List.set_cons_succ]
            refine wpAnyH_take (i := 7) (v := ?_) rfl (by kernel_rfl) (by kernel_rfl) (by kernel_rfl) (fun _ _ _ h => h) (Or.inl ⟨by kernel_rfl, ?_⟩) (by assumption) ?_
            rotate_left
            · intro wS hSw
              (try dsimp only at hSw)
              go_simp
              try (with_reducible rfl)
            try simp only [List.getElem_toArray, List.getElem_cons_succ, List.getElem_cons_zero, Act.put, List.setIfInBounds_toArray, List.set_cons_zero, List.set_cons_succ]
            refine wpAnyH_take (i := 8) (v := ?_) rfl (by kernel_rfl) (by kernel_rfl) (by kernel_rfl) (fun _ _ _ h => h) (Or.inl ⟨by kernel_rfl, ?_⟩) (by assumption) ?_
            rotate_left
            · intro wS hSw
              (try dsimp only at hSw)
              go_simp
              try (with_reducible rfl)
            try simp only [List.getElem_toArray, List.getElem_cons_succ, List.getElem_cons_zero, Act.put, List.setIfInBounds_toArray, List.set_cons_zero, List.set_cons_succ]
            refine wpAnyH_take (i := 9) (v := ?_) rfl (by kernel_rfl) (by kernel_rfl) (by kernel_rfl) (fun _ _ _ h => h) (Or.inl ⟨by kernel_rfl, ?_⟩) (by assumption) ?_
            rotate_left
            · intro wS hSw
              (try dsimp only at hSw)
              go_simp
              try (with_reducible rfl)
            try simp only [List.getElem_toArray, List.getElem_cons_succ, List.getElem_cons_zero, Act.put, List.setIfInBounds_toArray, List.set_cons_zero, List.set_cons_succ]
            refine wpAnyH_take (i := 10) (v := ?_) rfl (by kernel_rfl) (by kernel_rfl) (by kernel_rfl) (fun _ _ _ h => h) (Or.inl ⟨by kernel_rfl, ?_⟩) (by assumption) ?_
            rotate_left
            · intro wS hSw
              (try dsimp only at hSw)
              go_simp
              try (with_reducible rfl)
            try simp only [List.getElem_toArray, List.getElem_cons_succ, List.getElem_cons_zero, Act.put, List.setIfInBounds_toArray, List.set_cons_zero, List.set_cons_succ]
            refine wpAnyH_take (i := 11) (v := ?_) rfl (by kernel_rfl) (by kernel_rfl) (by kernel_rfl) (fun _ _ _ h => h) (Or.inl ⟨by kernel_rfl, ?_⟩) (by assumption) ?_
            rotate_left
            · intro wS hSw
              (try dsimp only at hSw)
              go_simp
              try (with_reducible rfl)
            try simp only [List.getElem_toArray, List.getElem_cons_succ, List.getElem_cons_zero, Act.put, List.setIfInBounds_toArray, List.set_cons_zero, List.set_cons_succ]
            refine wpAnyH_take (i := 12) (v := ?_) rfl (by kernel_rfl) (by kernel_rfl) (by kernel_rfl) (fun _ _ _ h => h) (Or.inl ⟨by kernel_rfl, ?_⟩) (by assumption) ?_
            rotate_left
            · intro wS hSw
              (try dsimp only at hSw)
              go_simp
              try (with_reducible rfl)
            try simp only [List.getElem_toArray, List.getElem_cons_succ, List.getElem_cons_zero, Act.put, List.setIfInBounds_toArray, List.set_cons_zero, List.set_cons_succ]
            refine wpAnyH_take (i := 13) (v := ?_) rfl (by kernel_rfl) (by kernel_rfl) (by kernel_rfl) (fun _ _ _ h => h) (Or.inl ⟨by kernel_rfl, ?_⟩) (by assumption) ?_
            rotate_left
            · intro wS hSw
              (try dsimp only at hSw)
              go_simp
              try (with_reducible rfl)
            try simp only [List.getElem_toArray, List.getElem_cons_succ, List.getElem_cons_zero, Act.put, List.setIfInBounds_toArray, List.set_cons_zero, List.set_cons_succ]
            refine wpAnyH_take (i := 14) (v := ?_) rfl (by kernel_rfl) (by kernel_rfl) (by kernel_rfl) (fun _ _ _ h => h) (Or.inl ⟨by kernel_rfl, ?_⟩) (by assumption) ?_
            rotate_left
            · intro wS hSw
              (try dsimp only at hSw)
              go_simp
              try (with_reducible rfl)
            try simp only [List.getElem_toArray, List.getElem_cons_succ, List.getElem_cons_zero, Act.put, List.setIfInBounds_toArray, List.set_cons_zero, List.set_cons_succ]
            refine wpAnyH_ready (rs := [15]) (by kernel_rfl) (by simp) ?_
            refine AllReadyH.cons rfl (fun K hK => ?_) AllReadyH.nil
            have hlm : ((b.drop p).take m).length = m := by have := HML.out; simp; omega
            have hne0 : (b.drop p).take m = [] := List.eq_nil_of_length_eq_zero (by rw [hlm]; exact HM0.out)
            refine step_append_src rfl (.const (.slice none 0 0)) (.tmp 77) 22 rfl w7.heap.size 5 i0 (.int .u8 0) 1 1 Tryd.underlying22 hi hz0 hz1 hz2 rfl (by decide) (.slice none 0 0) 0 [] rfl (World.ownsRow_nil _ _ _ _) (some ⟨g, o, none⟩) m 0 (u8s ((b.drop p).take m)) rfl ⟨fun e => (by cases e), fun ad _ j u hj => by rw [hne0] at hj; simp [u8s] at hj⟩ (by rw [Nat.mul_one]; simp only [u8s, List.length_map]; exact hlm) (u8s_one _) (by unfold maxLen; omega) (by omega) (Nat.le_refl _) ?_
            intro v9 w9 ho9 hg9
            have hb9 : Below w7.heap.size w7 w9 := ⟨hg9.os, hg9.tape, hg9.output, hg9.size, fun g hg => hg9.block g hg (by simp [Value.ownBlock])⟩
            have HR9 := Lib.hid (HR7.out.keep hb9)
            have HG9 := Lib.hid (grown_trans HG7.out (grown_below hb9 gr))
            have HF9 := Lib.hid (HF7.out.grown (grown_below hb9 gr) hlt)
            rw [List.nil_append, Nat.zero_add] at ho9
            have HX9 : Hid (BytesX w9 (fun g => w.heap.size < g) v9 ((b.drop p).take m)) := (BytesX.own ho9 (fun c hc => HR7.out.oct c (List.mem_of_mem_drop (List.mem_of_mem_take hc)))).mono (fun g hg => Nat.lt_of_lt_of_le (World.block_lt_of_cell? _ ⟨w.heap.size, 0, none⟩ (HF7.out.cells 0 _ rfl).1) hg)
            obtain ⟨a9, c9, hv9, hcap9, hmax9⟩ : ∃ a c, v9 = .slice a m c ∧ m ≤ c ∧ c ≤ 9223372036854775807 := by
              rcases ho9.2 with ⟨rfl, e⟩ | ⟨gg, cap, cur, rfl, _, _, h1, h2, _⟩
              · exact ⟨none, 0, by rw [e], by omega, by omega⟩
              · exact ⟨_, cap, rfl, h1, by unfold maxLen at h2; omega⟩
            subst hv9
            have hkeep : w9.cell? ⟨gr, 0, none⟩ = some (.slice (some ⟨g, o, none⟩) L bc) ∧ w9.cell? ⟨gr, 1, none⟩ = some (.int .i64 (r : Int)) := by
              have e0 := HR9.out.c0
              have e1 := HR9.out.c1
              rw [← HL.out] at e0
              exact ⟨e0, by rw [HRr.out]; exact e1⟩
            clear hlm ho9 hg9 hb9
            refine hK.out _ _ (by exact hkeep) (fun hHeld => ?_)
            clear hK K hkeep
            try simp only [List.getElem_toArray, List.getElem_cons_succ, List.getElem_cons_zero, Act.put, List.setIfInBounds_toArray, List.set_cons_zero, List.set_cons_succ]
            refine wpAnyH_take (i := 16) (v := ?_) rfl (by kernel_rfl) (by kernel_rfl) (by kernel_rfl) (fun _ _ _ h => h) (Or.inl ⟨by kernel_rfl, ?_⟩) (by assumption) ?_
            rotate_left
            · intro wS hSw
              (try dsimp only at hSw)
              go_simp
              try (with_reducible rfl)
            try simp only [List.getElem_toArray, List.getElem_cons_succ, List.getElem_cons_zero, Act.put, List.setIfInBounds_toArray, List.set_cons_zero, List.set_cons_succ]
            refine wpAnyH_ready (rs := [17]) (by kernel_rfl) (by simp) ?_
            refine AllReadyH.cons rfl (fun K hK => ?_) AllReadyH.nil
            obtain ⟨d0, f0⟩ := HF9.out.cells 0 _ rfl
            obtain ⟨d1, f1⟩ := HF9.out.cells 1 _ rfl
            obtain ⟨d2, f2⟩ := HF9.out.cells 2 _ rfl
            obtain ⟨d3, f3⟩ := HF9.out.cells 3 _ rfl
            obtain ⟨d4, f4⟩ := HF9.out.cells 4 _ rfl
            obtain ⟨d5, f5⟩ := HF9.out.cells 5 _ rfl
            go_simp
            have hkeep2 : (six w9 w.heap.size (.int .i64 8) (.int .i64 0) (.string ⟨#[]⟩) (.slice a9 m c9) (.slice none 0 0) (.slice none 0 0)).cell? ⟨gr, 0, none⟩ = some (.slice (some ⟨g, o, none⟩) L bc) ∧ (six w9 w.heap.size (.int .i64 8) (.int .i64 0) (.string ⟨#[]⟩) (.slice a9 m c9) (.slice none 0 0) (.slice none 0 0)).cell? ⟨gr, 1, none⟩ = some (.int .i64 (r : Int)) := by
              have h6 := HR9.out.six (B := w.heap.size) (by omega) HF9.out.no_byte (.int .i64 8) (.int .i64 0) (.string ⟨#[]⟩) (.slice a9 m c9) (.slice none 0 0) (.slice none 0 0)
              have e0 := h6.c0
              have e1 := h6.c1
              rw [← HL.out] at e0
              exact ⟨e0, by rw [HRr.out]; exact e1⟩
            refine hK.out _ _ (by exact hkeep2) (fun hHeld => ?_)
            clear hK K hkeep2
            try simp only [List.getElem_toArray, List.getElem_cons_succ, List.getElem_cons_zero, Act.put, List.setIfInBounds_toArray, List.set_cons_zero, List.set_cons_succ]
            refine wpAnyH_done (by kernel_rfl) ?_ _
            go_wp2_with fail
            rw [HRS.out]
            exact bodyPost_ret (v := .agg #[.int .i64 8, .int .i64 0, .string ⟨#[]⟩, .slice a9 m c9, .slice none 0 0, .slice none 0 0]) (by simp [results, Tryd.results66, go_sem, *]) rfl (fine_ok hlt HF9.out HR9.out HG9.out _ _ _ _ _ _ ⟨8, 0, ⟨#[]⟩, a9, m, c9, none, 0, 0, none, 0, 0, rfl⟩ (vin_bytes _ _ 8 a9 m c9 _ (by decide) (by decide) (by have := HML.out; have := HR9.out.len; simp; omega) ⟨hcap9, hmax9⟩ (by have := HML.out; simp; omega) HX9.out) rfl)
          · skip
            have hkeep := And.intro c0 c1
            refine wp_region_held_drew (S := fun W => W.cell? ⟨gr, 0, none⟩ = some (.slice (some ⟨g, o, none⟩) L bc) ∧ W.cell? ⟨gr, 1, none⟩ = some (.int .i64 (r : Int))) (by kernel_rfl) (by exact hkeep) (fun hHeld => ?_)
            have HR7 : Hid (RdE w6.drew gr (some ⟨g, o, none⟩) bc b (p + m) 0) := HR6.out.dr 1
            have HG7 : Hid (w.grownBy w6.drew (some gr)) := grown_trans HG6.out (grown_drewN w6 1 gr)
            have HF7 : Hid (Fresh w w6.drew) := HF6.out.dr 1
            clear hkeep c0 c1
            generalize w6.drew = w7 at *
            refine wpAnyH_take (i := 0) (v := ?_) rfl (by kernel_rfl) (by kernel_rfl) (by kernel_rfl) (fun _ _ _ h => h) (Or.inl ⟨by kernel_rfl, ?_⟩) (by assumption) ?_
            rotate_left
            · intro wS hSw
              (try dsimp only at hSw)
              go_simp
              try (with_reducible rfl)
            try simp only [List.getElem_toArray, List.getElem_cons_zero, Act.put, List.setIfInBounds_toArray, List.set_cons_zero, List.set_cons_succ]
            refine wpAnyH_take (i := 1) (v := ?_) rfl (by kernel_rfl) (by kernel_rfl) (by kernel_rfl) (fun _ _ _ h => h) (Or.inl ⟨by kernel_rfl, ?_⟩) (by assumption) ?_
            rotate_left
            · intro wS hSw
              (try dsimp only at hSw)
              go_simp
              try (with_reducible rfl)
            try simp only [List.getElem_toArray, List.getElem_cons_succ, List.getElem_cons_zero, Act.put, List.setIfInBounds_toArray, List.set_cons_zero, List.set_cons_succ]
            refine wpAnyH_take (i := 2) (v := ?_) rfl (by kernel_rfl) (by kernel_rfl) (by kernel_rfl) (fun _ _ _ h => h) (Or.inl ⟨by kernel_rfl, ?_⟩) (by assumption) ?_
            rotate_left
            · intro wS hSw
              (try dsimp only at hSw)
              go_simp
              try (with_reducible rfl)
            try simp only [List.getElem_toArray, List.getElem_cons_succ, List.getElem_cons_zero, Act.put, List.setIfInBounds_toArray, List.set_cons_zero, List.set_cons_succ]
            refine wpAnyH_take (i := 3) (v := ?_) rfl (by kernel_rfl) (by kernel_rfl) (by kernel_rfl) (fun _ _ _ h => h) (Or.inl ⟨by kernel_rfl, ?_⟩) (by assumption) ?_
            rotate_left
            · intro wS hSw
              (try dsimp only at hSw)
              go_simp
              try (with_reducible rfl)
            try simp only [List.getElem_toArray, List.getElem_cons_succ, List.getElem_cons_zero, Act.put, List.setIfInBounds_toArray, List.set_cons_zero, List.set_cons_succ]
            refine wpAnyH_take (i := 4) (v := ?_) rfl (by kernel_rfl) (by kernel_rfl) (by kernel_rfl) (fun _ _ _ h => h) (Or.inl ⟨by kernel_rfl, ?_⟩) (by assumption) ?_
            rotate_left
            · intro wS hSw
              (try dsimp only at hSw)
              go_simp
              try (with_reducible rfl)
            try simp only [List.getElem_toArray, List.getElem_cons_succ, List.getElem_cons_zero, Act.put, List.setIfInBounds_toArray, List.set_cons_zero, List.set_cons_succ]
            refine wpAnyH_take (i := 5) (v := ?_) rfl (by kernel_rfl) (by kernel_rfl) (by kernel_rfl) (fun _ _ _ h => h) (Or.inl ⟨by kernel_rfl, ?_⟩) (by assumption) ?_
            rotate_left
            · intro wS hSw
              (try dsimp only at hSw)
              go_simp
              try (with_reducible rfl)
            try simp only [List.getElem_toArray, List.getElem_cons_succ, List.getElem_cons_zero, Act.put, List.setIfInBounds_toArray, List.set_cons_zero, List.set_cons_succ]
            refine wpAnyH_take (i := 6) (v := ?_) rfl (by kernel_rfl) (by kernel_rfl) (by kernel_rfl) (fun _ _ _ h => h) (Or.inl ⟨by kernel_rfl, ?_⟩) (by assumption) ?_
            rotate_left
            · intro wS hSw
              (try dsimp only at hSw)
              go_simp
              try (with_reducible rfl)
            try simp only [List.getElem_toArray, List.getElem_cons_succ, List.getElem_cons_zero, Act.put, List.setIfInBounds_toArray, List.set_cons_zero, List.set_cons_succ]
            refine wpAnyH_take (i := 7) (v := ?_) rfl (by kernel_rfl) (by kernel_rfl) (by kernel_rfl) (fun _ _ _ h => h) (Or.inl ⟨by kernel_rfl, ?_⟩) (by assumption) ?_
            rotate_left
            · intro wS hSw
              (try dsimp only at hSw)
              go_simp
              try (with_reducible rfl)
            try simp only [List.getElem_toArray, List.getElem_cons_succ, List.getElem_cons_zero, Act.put, List.setIfInBounds_toArray, List.set_cons_zero, List.set_cons_succ]
            refine wpAnyH_take (i := 8) (v := ?_) rfl (by kernel_rfl) (by kernel_rfl) (by kernel_rfl) (fun _ _ _ h => h) (Or.inl ⟨by kernel_rfl, ?_⟩) (by assumption) ?_
            rotate_left
            · intro wS hSw
              (try dsimp only at hSw)
              go_simp
              try (with_reducible rfl)
            try simp only [List.getElem_toArray, List.getElem_cons_succ, List.getElem_cons_zero, Act.put, List.setIfInBounds_toArray, List.set_cons_zero, List.set_cons_succ]
            refine wpAnyH_take (i := 9) (v := ?_) rfl (by kernel_rfl) (by kernel_rfl) (by kernel_rfl) (fun _ _ _ h => h) (Or.inl ⟨by kernel_rfl, ?_⟩) (by assumption) ?_
            rotate_left
            · intro wS hSw
              (try dsimp only at hSw)
              go_simp
              try (with_reducible rfl)
            try simp only [List.getElem_toArray, List.getElem_cons_succ, List.getElem_cons_zero, Act.put, List.setIfInBounds_toArray, List.set_cons_zero, List.set_cons_succ]
            refine wpAnyH_take (i := 10) (v := ?_) rfl (by kernel_rfl) (by kernel_rfl) (by kernel_rfl) (fun _ _ _ h => h) (Or.inl ⟨by kernel_rfl, ?_⟩) (by assumption) ?_
            rotate_left
            · intro wS hSw
              (try dsimp only at hSw)
              go_simp
              try (with_reducible rfl)
            try simp only [List.getElem_toArray, List.getElem_cons_succ, List.getElem_cons_zero, Act.put, List.setIfInBounds_toArray, List.set_cons_zero, List.set_cons_succ]
            refine wpAnyH_take (i := 11) (v := ?_) rfl (by kernel_rfl) (by kernel_rfl) (by kernel_rfl) (fun _ _ _ h => h) (Or.inl ⟨by kernel_rfl, ?_⟩) (by assumption) ?_
            rotate_left
            · intro wS hSw
              (try dsimp only at hSw)
              go_simp
              try (with_reducible rfl)
            try simp only [List.getElem_toArray, List.getElem_cons_succ, List.getElem_cons_zero, Act.put, List.setIfInBounds_toArray, List.set_cons_zero, List.set_cons_succ]
            refine wpAnyH_take (i := 12) (v := ?_) rfl (by kernel_rfl) (by kernel_rfl) (by kernel_rfl) (fun _ _ _ h => h) (Or.inl ⟨by kernel_rfl, ?_⟩) (by assumption) ?_
            rotate_left
            · intro wS hSw
              (try dsimp only at hSw)
              go_simp
              try (with_reducible rfl)
            try simp only [List.getElem_toArray, List.getElem_cons_succ, List.getElem_cons_zero, Act.put, List.setIfInBounds_toArray, List.set_cons_zero, List.set_cons_succ]
            refine wpAnyH_take (i := 13) (v := ?_) rfl (by kernel_rfl) (by kernel_rfl) (by kernel_rfl) (fun _ _ _ h => h) (Or.inl ⟨by kernel_rfl, ?_⟩) (by assumption) ?_
            rotate_left
            · intro wS hSw
              (try dsimp only at hSw)
              go_simp
              try (with_reducible rfl)
            try simp only [List.getElem_toArray, List.getElem_cons_succ, List.getElem_cons_zero, Act.put, List.setIfInBounds_toArray, List.set_cons_zero, List.set_cons_succ]
            refine wpAnyH_take (i := 14) (v := ?_) rfl (by kernel_rfl) (by kernel_rfl) (by kernel_rfl) (fun _ _ _ h => h) (Or.inl ⟨by kernel_rfl, ?_⟩) (by assumption) ?_
            rotate_left
            · intro wS hSw
              (try dsimp only at hSw)
              go_simp
              try (with_reducible rfl)
            try simp only [List.getElem_toArray, List.getElem_cons_succ, List.getElem_cons_zero, Act.put, List.setIfInBounds_toArray, List.set_cons_zero, List.set_cons_succ]
            refine wpAnyH_ready (rs := [15]) (by kernel_rfl) (by simp) ?_
            refine AllReadyH.cons rfl (fun K hK => ?_) AllReadyH.nil
            have HSL : SliceIs w7 (some ⟨g, o + p, none⟩) ((b.drop p).take m) := by
              rcases HR7.out.rd.cut p m with h | ⟨g', o', e, h⟩
              · exact .inl h
              · refine .inr ⟨g', o', ?_, h⟩
                rw [← e]
                simp [Addr.add]
            have hlm : ((b.drop p).take m).length = m := by have := HML.out; simp; omega
            have hsr := HSL.src
            rw [hlm] at hsr
            refine step_append_src rfl (.const (.slice none 0 0)) (.tmp 77) 22 rfl w7.heap.size 5 i0 (.int .u8 0) 1 1 Tryd.underlying22 hi hz0 hz1 hz2 rfl (by decide) (.slice none 0 0) 0 [] rfl (World.ownsRow_nil _ _ _ _) (some ⟨g, o + p, none⟩) m (bc - p) (u8s ((b.drop p).take m)) rfl hsr (by rw [Nat.mul_one]; simp only [u8s, List.length_map]; exact hlm) (u8s_one _) (by unfold maxLen; omega) (by omega) (Nat.le_refl _) ?_
            intro v9 w9 ho9 hg9
            have hb9 : Below w7.heap.size w7 w9 := ⟨hg9.os, hg9.tape, hg9.output, hg9.size, fun g hg => hg9.block g hg (by simp [Value.ownBlock])⟩
            have HR9 := Lib.hid (HR7.out.keep hb9)
            have HG9 := Lib.hid (grown_trans HG7.out (grown_below hb9 gr))
            have HF9 := Lib.hid (HF7.out.grown (grown_below hb9 gr) hlt)
            rw [List.nil_append, Nat.zero_add] at ho9
            have HX9 : Hid (BytesX w9 (fun g => w.heap.size < g) v9 ((b.drop p).take m)) := (BytesX.own ho9 (fun c hc => HR7.out.oct c (List.mem_of_mem_drop (List.mem_of_mem_take hc)))).mono (fun g hg => Nat.lt_of_lt_of_le (World.block_lt_of_cell? _ ⟨w.heap.size, 0, none⟩ (HF7.out.cells 0 _ rfl).1) hg)
            obtain ⟨a9, c9, hv9, hcap9, hmax9⟩ : ∃ a c, v9 = .slice a m c ∧ m ≤ c ∧ c ≤ 9223372036854775807 := by
              rcases ho9.2 with ⟨rfl, e⟩ | ⟨gg, cap, cur, rfl, _, _, h1, h2, _⟩
              · exact ⟨none, 0, by rw [e], by omega, by omega⟩
              · exact ⟨_, cap, rfl, h1, by unfold maxLen at h2; omega⟩
            subst hv9
            have hkeep : w9.cell? ⟨gr, 0, none⟩ = some (.slice (some ⟨g, o, none⟩) L bc) ∧ w9.cell? ⟨gr, 1, none⟩ = some (.int .i64 (r : Int)) := by
              have e0 := HR9.out.c0
              have e1 := HR9.out.c1
              rw [← HL.out] at e0
              exact ⟨e0, by rw [HRr.out]; exact e1⟩
            clear HSL hsr hlm ho9 hg9 hb9
            refine hK.out _ _ (by exact hkeep) (fun hHeld => ?_)
            clear hK K hkeep
            try simp only [List.getElem_toArray, List.getElem_cons_succ, List.getElem_cons_zero, Act.put, List.setIfInBounds_toArray, List.set_cons_zero, List.set_cons_succ]
            refine wpAnyH_take (i := 16) (v := ?_) rfl (by kernel_rfl) (by kernel_rfl) (by kernel_rfl) (fun _ _ _ h => h) (Or.inl ⟨by kernel_rfl, ?_⟩) (by assumption) ?_
            rotate_left
            · intro wS hSw
              (try dsimp only at hSw)
              go_simp
              try (with_reducible rfl)
            try simp only [List.getElem_toArray, List.getElem_cons_succ, List.getElem_cons_zero, Act.put, List.setIfInBounds_toArray, List.set_cons_zero, List.set_cons_succ]
            refine wpAnyH_ready (rs := [17]) (by kernel_rfl) (by simp) ?_
            refine AllReadyH.cons rfl (fun K hK => ?_) AllReadyH.nil
            obtain ⟨d0, f0⟩ := HF9.out.cells 0 _ rfl
            obtain ⟨d1, f1⟩ := HF9.out.cells 1 _ rfl
            obtain ⟨d2, f2⟩ := HF9.out.cells 2 _ rfl
            obtain ⟨d3, f3⟩ := HF9.out.cells 3 _ rfl
            obtain ⟨d4, f4⟩ := HF9.out.cells 4 _ rfl
            obtain ⟨d5, f5⟩ := HF9.out.cells 5 _ rfl
            go_simp
            have hkeep2 : (six w9 w.heap.size (.int .i64 8) (.int .i64 0) (.string ⟨#[]⟩) (.slice a9 m c9) (.slice none 0 0) (.slice none 0 0)).cell? ⟨gr, 0, none⟩ = some (.slice (some ⟨g, o, none⟩) L bc) ∧ (six w9 w.heap.size (.int .i64 8) (.int .i64 0) (.string ⟨#[]⟩) (.slice a9 m c9) (.slice none 0 0) (.slice none 0 0)).cell? ⟨gr, 1, none⟩ = some (.int .i64 (r : Int)) := by
              have h6 := HR9.out.six (B := w.heap.size) (by omega) HF9.out.no_byte (.int .i64 8) (.int .i64 0) (.string ⟨#[]⟩) (.slice a9 m c9) (.slice none 0 0) (.slice none 0 0)
              have e0 := h6.c0
              have e1 := h6.c1
              rw [← HL.out] at e0
              exact ⟨e0, by rw [HRr.out]; exact e1⟩
            refine hK.out _ _ (by exact hkeep2) (fun hHeld => ?_)
            clear hK K hkeep2
            try simp only [List.getElem_toArray, List.getElem_cons_succ, List.getElem_cons_zero, Act.put, List.setIfInBounds_toArray, List.set_cons_zero, List.set_cons_succ]
            refine wpAnyH_done (by kernel_rfl) ?_ _
            go_wp2_with fail
            rw [HRS.out]
            exact bodyPost_ret (v := .agg #[.int .i64 8, .int .i64 0, .string ⟨#[]⟩, .slice a9 m c9, .slice none 0 0, .slice none 0 0]) (by simp [results, Tryd.results66, go_sem, *]) rfl (fine_ok hlt HF9.out HR9.out HG9.out _ _ _ _ _ _ ⟨8, 0, ⟨#[]⟩, a9, m, c9, none, 0, 0, none, 0, 0, rfl⟩ (vin_bytes _ _ 8 a9 m c9 _ (by decide) (by decide) (by have := HML.out; have := HR9.out.len; simp; omega) ⟨hcap9, hmax9⟩ (by have := HML.out; simp; omega) HX9.out) rfl)
      · have hzb : ((z : Int) != 0) = true := by simp; omega
        have hzc : ¬ (z : Int) = 0 := by omega
        have HRS : Hid (RES = .err 4) := by show _ = _; rw [HRES.out, if_pos (.inr hzz)]
        go_wp2_with fail
        refine (bad_any _ gr _ bc b (k + 5) 4 HS4.out.1).mono ?_
        rintro e w5 ⟨⟨v5, rfl⟩, hr5, hg5⟩
        have HR5 := Lib.hid hr5
        have hg35 : w3.grownBy w5 (some gr) := grown_trans HS4.out.2 hg5
        have HG5 := Lib.hid (grown_trans HG3.out hg35)
        have HF5 := Lib.hid (HF3.out.grown hg35 hlt)
        clear hr5 hg5 hg35 c1 f1
        obtain ⟨d0, f0⟩ := HF5.out.cells 0 _ rfl
        obtain ⟨d1, f1⟩ := HF5.out.cells 1 _ rfl
        obtain ⟨d2, f2⟩ := HF5.out.cells 2 _ rfl
        obtain ⟨d3, f3⟩ := HF5.out.cells 3 _ rfl
        obtain ⟨d4, f4⟩ := HF5.out.cells 4 _ rfl
        obtain ⟨d5, f5⟩ := HF5.out.cells 5 _ rfl
        go_wp2_with fail
        rw [HRS.out]
        exact bodyPost_ret (v := .agg #[.int .i64 0, .int .i64 0, .string ⟨#[]⟩, .slice none 0 0, .slice none 0 0, .slice none 0 0]) (by simp [results, Tryd.results66, go_sem, *]) rfl (fine_err hlt HF5.out HR5.out HG5.out _ _ _ _ _ _ six_zero)
end Go.Proofs.YtpiookgkkaafeaaDoor
end
section
namespace Go.Proofs.YtpiookgkkaafeaaDoor
open Go.RowKit
open Seal
open Bson (Val Res)
set_option maxRecDepth 100000 in
set_option maxHeartbeats 4000000 in
theorem rval_null (w : World) (gr : Nat) (ba : Option Addr) (bc : Nat) (b : List Nat) (k : Nat) (dp : Int) (hR : RdE w gr ba bc b k 0) :
    Calls Tryd.prog 48 #[.pointer (some ⟨gr, 0, none⟩), .int .u8 10, .int .i64 dp] w (RPostE w.heap.size w gr ba bc b (.ok (.mk 2 0 Bson.none_ [] [] []) (b.drop k))) := by
  have HR := Lib.hid hR
  clear hR
  go_enter Tryd.func48, Tryd.ntmps48
  go_wp2_with fail
  refine bodyPost_ret (v := .agg #[.int .i64 2, .int .i64 0, .string ⟨#[]⟩, .slice none 0 0, .slice none 0 0, .slice none 0 0]) (by simp [results, Tryd.results48, go_sem, *]) rfl ?_
  exact ⟨grown_box _, _, rfl, ⟨2, 0, ⟨#[]⟩, none, 0, 0, none, 0, 0, none, 0, 0, rfl⟩, k, rfl, HR.out.keep ((Below.refl _ w).alloc (Nat.le_refl _) _), vin_flat _ _ 2 0 ⟨#[]⟩ (by decide) (by decide) (by decide) (by decide) (by decide)⟩
set_option maxRecDepth 100000 in
set_option maxHeartbeats 4000000 in
theorem rval_least (w : World) (gr : Nat) (ba : Option Addr) (bc : Nat) (b : List Nat) (k : Nat) (dp : Int) (hR : RdE w gr ba bc b k 0) :
    Calls Tryd.prog 48 #[.pointer (some ⟨gr, 0, none⟩), .int .u8 255, .int .i64 dp] w (RPostE w.heap.size w gr ba bc b (.ok (.mk 1 0 Bson.none_ [] [] []) (b.drop k))) := by
  have HR := Lib.hid hR
  clear hR
  go_enter Tryd.func48, Tryd.ntmps48
  go_wp2_with fail
  refine bodyPost_ret (v := .agg #[.int .i64 1, .int .i64 0, .string ⟨#[]⟩, .slice none 0 0, .slice none 0 0, .slice none 0 0]) (by simp [results, Tryd.results48, go_sem, *]) rfl ?_
  exact ⟨grown_box _, _, rfl, ⟨1, 0, ⟨#[]⟩, none, 0, 0, none, 0, 0, none, 0, 0, rfl⟩, k, rfl, HR.out.keep ((Below.refl _ w).alloc (Nat.le_refl _) _), vin_flat _ _ 1 0 ⟨#[]⟩ (by decide) (by decide) (by decide) (by decide) (by decide)⟩
set_option maxRecDepth 100000 in
set_option maxHeartbeats 4000000 in
theorem rval_great (w : World) (gr : Nat) (ba : Option Addr) (bc : Nat) (b : List Nat) (k : Nat) (dp : Int) (hR : RdE w gr ba bc b k 0) :
    Calls Tryd.prog 48 #[.pointer (some ⟨gr, 0, none⟩), .int .u8 127, .int .i64 dp] w (RPostE w.heap.size w gr ba bc b (.ok (.mk 12 0 Bson.none_ [] [] []) (b.drop k))) := by
  have HR := Lib.hid hR
  clear hR
  go_enter Tryd.func48, Tryd.ntmps48
  go_wp2_with fail
  refine bodyPost_ret (v := .agg #[.int .i64 12, .int .i64 0, .string ⟨#[]⟩, .slice none 0 0, .slice none 0 0, .slice none 0 0]) (by simp [results, Tryd.results48, go_sem, *]) rfl ?_
  exact ⟨grown_box _, _, rfl, ⟨12, 0, ⟨#[]⟩, none, 0, 0, none, 0, 0, none, 0, 0, rfl⟩, k, rfl, HR.out.keep ((Below.refl _ w).alloc (Nat.le_refl _) _), vin_flat _ _ 12 0 ⟨#[]⟩ (by decide) (by decide) (by decide) (by decide) (by decide)⟩
set_option maxRecDepth 100000 in
set_option maxHeartbeats 4000000 in
theorem rval_double (w : World) (gr : Nat) (ba : Option Addr) (bc : Nat) (b : List Nat) (k : Nat) (dp : Int) (hR : RdE w gr ba bc b k 0) :
    Calls Tryd.prog 48 #[.pointer (some ⟨gr, 0, none⟩), .int .u8 1, .int .i64 dp] w (RPostE w.heap.size w gr ba bc b (Bson.float 8 (b.drop k))) := by
  have hlt := hR.lt
  have hB0 : Below w.heap.size w (w.alloc (.cells zeroCs 27)) := (Below.refl _ w).alloc (Nat.le_refl _) _
  have HR0 := Lib.hid (hR.keep hB0)
  have HG0 := Lib.hid (grown_below hB0 gr)
  have HF0 : Hid (Fresh w (w.alloc (.cells zeroCs 27))) := Fresh.new w
  clear hR hB0
  by_cases h4 : b.length < k + 8
  · have hres : Bson.float 8 (b.drop k) = .err 2 := by unfold Bson.float Bson.take; rw [if_pos (by simp; omega)]; rfl
    rw [hres]
    have CN := Lib.hid (need_no _ gr ba bc b k 8 HR0.out (by decide) h4)
    clear hres h4
    go_enter Tryd.func48, Tryd.ntmps48
    go_wp2_with fail
    refine CN.out.mono ?_
    rintro e w1 ⟨rfl, hr1, hg1⟩
    have HR1 := Lib.hid hr1
    have HG1 := Lib.hid (grown_trans HG0.out hg1)
    have HF1 := Lib.hid (HF0.out.grown hg1 hlt)
    clear hr1 hg1
    obtain ⟨d0, f0⟩ := HF1.out.cells 0 _ rfl
    obtain ⟨d1, f1⟩ := HF1.out.cells 1 _ rfl
    obtain ⟨d2, f2⟩ := HF1.out.cells 2 _ rfl
    obtain ⟨d3, f3⟩ := HF1.out.cells 3 _ rfl
    obtain ⟨d4, f4⟩ := HF1.out.cells 4 _ rfl
    obtain ⟨d5, f5⟩ := HF1.out.cells 5 _ rfl
    go_wp2_with fail
    exact bodyPost_ret (v := .agg #[.int .i64 0, .int .i64 0, .string ⟨#[]⟩, .slice none 0 0, .slice none 0 0, .slice none 0 0]) (by simp [results, Tryd.results48, go_sem, *]) rfl (fine_err hlt HF1.out HR1.out HG1.out _ _ _ _ _ _ six_zero)
  · have hres : Bson.float 8 (b.drop k) = .err 8 := by unfold Bson.float Bson.take; rw [if_neg (by simp; omega)]; rfl
    rw [hres]
    have CY := Lib.hid (need_ok _ gr ba bc b k 8 HR0.out (by omega))
    clear hres h4
    go_enter Tryd.func48, Tryd.ntmps48
    go_wp2_with fail
    refine CY.out.mono ?_
    rintro e w1 ⟨rfl, hr1, hg1⟩
    have HR1 := Lib.hid hr1
    have HG1 := Lib.hid (grown_trans HG0.out hg1)
    have HF1 := Lib.hid (HF0.out.grown hg1 hlt)
    clear hr1 hg1
    go_wp2_with fail
    refine (bad_any _ gr _ bc b k 8 HR1.out).mono ?_
    rintro e w2 ⟨⟨v2, rfl⟩, hr2, hg2⟩
    have HR2 := Lib.hid hr2
    have HG2 := Lib.hid (grown_trans HG1.out hg2)
    have HF2 := Lib.hid (HF1.out.grown hg2 hlt)
    clear hr2 hg2
    obtain ⟨d0, f0⟩ := HF2.out.cells 0 _ rfl
    obtain ⟨d1, f1⟩ := HF2.out.cells 1 _ rfl
    obtain ⟨d2, f2⟩ := HF2.out.cells 2 _ rfl
    obtain ⟨d3, f3⟩ := HF2.out.cells 3 _ rfl
    obtain ⟨d4, f4⟩ := HF2.out.cells 4 _ rfl
    obtain ⟨d5, f5⟩ := HF2.out.cells 5 _ rfl
    go_wp2_with fail
    exact bodyPost_ret (v := .agg #[.int .i64 0, .int .i64 0, .string ⟨#[]⟩, .slice none 0 0, .slice none 0 0, .slice none 0 0]) (by simp [results, Tryd.results48, go_sem, *]) rfl (fine_err hlt HF2.out HR2.out HG2.out _ _ _ _ _ _ six_zero)
set_option maxRecDepth 100000 in
set_option maxHeartbeats 4000000 in
theorem rval_decimal (w : World) (gr : Nat) (ba : Option Addr) (bc : Nat) (b : List Nat) (k : Nat) (dp : Int) (hR : RdE w gr ba bc b k 0) :
    Calls Tryd.prog 48 #[.pointer (some ⟨gr, 0, none⟩), .int .u8 19, .int .i64 dp] w (RPostE w.heap.size w gr ba bc b (Bson.float 16 (b.drop k))) := by
  have hlt := hR.lt
  have hB0 : Below w.heap.size w (w.alloc (.cells zeroCs 27)) := (Below.refl _ w).alloc (Nat.le_refl _) _
  have HR0 := Lib.hid (hR.keep hB0)
  have HG0 := Lib.hid (grown_below hB0 gr)
  have HF0 : Hid (Fresh w (w.alloc (.cells zeroCs 27))) := Fresh.new w
  clear hR hB0
  by_cases h4 : b.length < k + 16
  · have hres : Bson.float 16 (b.drop k) = .err 2 := by unfold Bson.float Bson.take; rw [if_pos (by simp; omega)]; rfl
    rw [hres]
    have CN := Lib.hid (need_no _ gr ba bc b k 16 HR0.out (by decide) h4)
    clear hres h4
    go_enter Tryd.func48, Tryd.ntmps48
    go_wp2_with fail
    refine CN.out.mono ?_
    rintro e w1 ⟨rfl, hr1, hg1⟩
    have HR1 := Lib.hid hr1
    have HG1 := Lib.hid (grown_trans HG0.out hg1)
    have HF1 := Lib.hid (HF0.out.grown hg1 hlt)
    clear hr1 hg1
    obtain ⟨d0, f0⟩ := HF1.out.cells 0 _ rfl
    obtain ⟨d1, f1⟩ := HF1.out.cells 1 _ rfl
    obtain ⟨d2, f2⟩ := HF1.out.cells 2 _ rfl
    obtain ⟨d3, f3⟩ := HF1.out.cells 3 _ rfl
    obtain ⟨d4, f4⟩ := HF1.out.cells 4 _ rfl
    obtain ⟨d5, f5⟩ := HF1.out.cells 5 _ rfl
    go_wp2_with fail
    exact bodyPost_ret (v := .agg #[.int .i64 0, .int .i64 0, .string ⟨#[]⟩, .slice none 0 0, .slice none 0 0, .slice none 0 0]) (by simp [results, Tryd.results48, go_sem, *]) rfl (fine_err hlt HF1.out HR1.out HG1.out _ _ _ _ _ _ six_zero)
  · have hres : Bson.float 16 (b.drop k) = .err 8 := by unfold Bson.float Bson.take; rw [if_neg (by simp; omega)]; rfl
    rw [hres]
    have CY := Lib.hid (need_ok _ gr ba bc b k 16 HR0.out (by omega))
    clear hres h4
    go_enter Tryd.func48, Tryd.ntmps48
    go_wp2_with fail
    refine CY.out.mono ?_
    rintro e w1 ⟨rfl, hr1, hg1⟩
    have HR1 := Lib.hid hr1
    have HG1 := Lib.hid (grown_trans HG0.out hg1)
    have HF1 := Lib.hid (HF0.out.grown hg1 hlt)
    clear hr1 hg1
    go_wp2_with fail
    refine (bad_any _ gr _ bc b k 8 HR1.out).mono ?_
    rintro e w2 ⟨⟨v2, rfl⟩, hr2, hg2⟩
    have HR2 := Lib.hid hr2
    have HG2 := Lib.hid (grown_trans HG1.out hg2)
    have HF2 := Lib.hid (HF1.out.grown hg2 hlt)
    clear hr2 hg2
    obtain ⟨d0, f0⟩ := HF2.out.cells 0 _ rfl
    obtain ⟨d1, f1⟩ := HF2.out.cells 1 _ rfl
    obtain ⟨d2, f2⟩ := HF2.out.cells 2 _ rfl
    obtain ⟨d3, f3⟩ := HF2.out.cells 3 _ rfl
    obtain ⟨d4, f4⟩ := HF2.out.cells 4 _ rfl
    obtain ⟨d5, f5⟩ := HF2.out.cells 5 _ rfl
    go_wp2_with fail
    exact bodyPost_ret (v := .agg #[.int .i64 0, .int .i64 0, .string ⟨#[]⟩, .slice none 0 0, .slice none 0 0, .slice none 0 0]) (by simp [results, Tryd.results48, go_sem, *]) rfl (fine_err hlt HF2.out HR2.out HG2.out _ _ _ _ _ _ six_zero)
set_option maxRecDepth 100000 in
set_option maxHeartbeats 4000000 in
theorem rval_none (w : World) (gr : Nat) (ba : Option Addr) (bc : Nat) (b : List Nat) (k : Nat) (dp : Int) (c : Nat) (hR : RdE w gr ba bc b k 0) (hc : Bson.known c = false) :
    Calls Tryd.prog 48 #[.pointer (some ⟨gr, 0, none⟩), .int .u8 (c : Int), .int .i64 dp] w (RPostE w.heap.size w gr ba bc b (.err 9)) := by
  have hlt := hR.lt
  have hB0 : Below w.heap.size w (w.alloc (.cells zeroCs 27)) := (Below.refl _ w).alloc (Nat.le_refl _) _
  have HR0 := Lib.hid (hR.keep hB0)
  have HG0 := Lib.hid (grown_below hB0 gr)
  have HF0 : Hid (Fresh w (w.alloc (.cells zeroCs 27))) := Fresh.new w
  clear hR hB0
  have hc' : c ≠ 1 ∧ c ≠ 19 ∧ c ≠ 2 ∧ c ≠ 3 ∧ c ≠ 4 ∧ c ≠ 5 ∧ c ≠ 7 ∧ c ≠ 8 ∧ c ≠ 9 ∧ c ≠ 18 ∧ c ≠ 16 ∧ c ≠ 10 ∧ c ≠ 255 ∧ c ≠ 127 := by
    refine ⟨fun e => by subst e; exact absurd hc (by decide), fun e => by subst e; exact absurd hc (by decide), fun e => by subst e; exact absurd hc (by decide), fun e => by subst e; exact absurd hc (by decide), fun e => by subst e; exact absurd hc (by decide), fun e => by subst e; exact absurd hc (by decide), fun e => by subst e; exact absurd hc (by decide), fun e => by subst e; exact absurd hc (by decide), fun e => by subst e; exact absurd hc (by decide), fun e => by subst e; exact absurd hc (by decide), fun e => by subst e; exact absurd hc (by decide), fun e => by subst e; exact absurd hc (by decide), fun e => by subst e; exact absurd hc (by decide), fun e => by subst e; exact absurd hc (by decide)⟩
  clear hc
  obtain ⟨n1, n19, n2, n3, n4, n5, n7, n8, n9, n18, n16, n10, n255, n127⟩ := hc'
  have i1 : ¬ (c : Int) = 1 := by omega
  have i19 : ¬ (c : Int) = 19 := by omega
  have i2 : ¬ (c : Int) = 2 := by omega
  have i3 : ¬ (c : Int) = 3 := by omega
  have i4 : ¬ (c : Int) = 4 := by omega
  have i5 : ¬ (c : Int) = 5 := by omega
  have i7 : ¬ (c : Int) = 7 := by omega
  have i8 : ¬ (c : Int) = 8 := by omega
  have i9 : ¬ (c : Int) = 9 := by omega
  have i18 : ¬ (c : Int) = 18 := by omega
  have i16 : ¬ (c : Int) = 16 := by omega
  have i10 : ¬ (c : Int) = 10 := by omega
  have i255 : ¬ (c : Int) = 255 := by omega
  have i127 : ¬ (c : Int) = 127 := by omega
  have j1 : ((c : Int) == 1) = false := by simp; omega
  have j19 : ((c : Int) == 19) = false := by simp; omega
  have j2 : ((c : Int) == 2) = false := by simp; omega
  have j3 : ((c : Int) == 3) = false := by simp; omega
  have j4 : ((c : Int) == 4) = false := by simp; omega
  have j5 : ((c : Int) == 5) = false := by simp; omega
  have j7 : ((c : Int) == 7) = false := by simp; omega
  have j8 : ((c : Int) == 8) = false := by simp; omega
  have j9 : ((c : Int) == 9) = false := by simp; omega
  have j18 : ((c : Int) == 18) = false := by simp; omega
  have j16 : ((c : Int) == 16) = false := by simp; omega
  have j10 : ((c : Int) == 10) = false := by simp; omega
  have j255 : ((c : Int) == 255) = false := by simp; omega
  have j127 : ((c : Int) == 127) = false := by simp; omega
  clear n1 n19 n2 n3 n4 n5 n7 n8 n9 n18 n16 n10 n255 n127
  go_enter Tryd.func48, Tryd.ntmps48
  go_wp2_with fail
  refine (bad_any _ gr _ bc b k 9 HR0.out).mono ?_
  rintro e w2 ⟨⟨v2, rfl⟩, hr2, hg2⟩
  have HR2 := Lib.hid hr2
  have HG2 := Lib.hid (grown_trans HG0.out hg2)
  have HF2 := Lib.hid (HF0.out.grown hg2 hlt)
  clear hr2 hg2
  obtain ⟨d0, f0⟩ := HF2.out.cells 0 _ rfl
  obtain ⟨d1, f1⟩ := HF2.out.cells 1 _ rfl
  obtain ⟨d2, f2⟩ := HF2.out.cells 2 _ rfl
  obtain ⟨d3, f3⟩ := HF2.out.cells 3 _ rfl
  obtain ⟨d4, f4⟩ := HF2.out.cells 4 _ rfl
  obtain ⟨d5, f5⟩ := HF2.out.cells 5 _ rfl
  go_wp2_with fail
  exact bodyPost_ret (v := .agg #[.int .i64 0, .int .i64 0, .string ⟨#[]⟩, .slice none 0 0, .slice none 0 0, .slice none 0 0]) (by simp [results, Tryd.results48, go_sem, *]) rfl (fine_err hlt HF2.out HR2.out HG2.out _ _ _ _ _ _ six_zero)
theorem pass_ok {w w1 : World} {gr : Nat} {ba : Option Addr} {bc : Nat} {b : List Nat} {res : Res Val} {v : Value} {ob : Obj} (hlt : gr < w.heap.size) (hw : Below w.heap.size w (w.alloc ob)) (hF : Fresh w w1) (hs : (w.alloc ob).heap.size = w.heap.size + 1) (hg : (w.alloc ob).grownBy w1 (some gr)) (q1 q2 : Int) (q3 : ByteArray) (a1 : Option Addr) (n1 c1 : Nat) (a2 : Option Addr) (n2 c2 : Nat) (a3 : Option Addr) (n3 c3 : Nat)
    (hv : v = .agg #[.int .i64 q1, .int .i64 q2, .string q3, .slice a1 n1 c1, .slice a2 n2 c2, .slice a3 n3 c3])
    (hm : match res with | .err n => ∃ k', RdE w1 gr ba bc b k' n | .ok x r => ∃ k', r = b.drop k' ∧ RdE w1 gr ba bc b k' 0 ∧ ValV (w.alloc ob).heap.size w1 x v) :
    RPostE w.heap.size w gr ba bc b res (.returned v) (six w1 w.heap.size (.int .i64 q1) (.int .i64 q2) (.string q3) (.slice a1 n1 c1) (.slice a2 n2 c2) (.slice a3 n3 c3)) := by
  have hG := grown_trans (grown_below hw gr) hg
  subst hv
  cases res with
  | err n =>
    obtain ⟨k', hk⟩ := hm
    exact fine_err hlt hF hk hG _ _ _ _ _ _ ⟨_, _, _, _, _, _, _, _, _, _, _, _, rfl⟩
  | ok x r =>
    obtain ⟨k', hr, hk, hV⟩ := hm
    rw [hs] at hV
    exact fine_ok hlt hF hk hG _ _ _ _ _ _ ⟨_, _, _, _, _, _, _, _, _, _, _, _, rfl⟩ (hV.stored_at _ _ _ _ _ _) hr
set_option maxRecDepth 100000 in
set_option maxHeartbeats 4000000 in
theorem rval_text (w : World) (gr : Nat) (ba : Option Addr) (bc : Nat) (b : List Nat) (k : Nat) (dp : Int) (hR : RdE w gr ba bc b k 0) :
    Calls Tryd.prog 48 #[.pointer (some ⟨gr, 0, none⟩), .int .u8 2, .int .i64 dp] w (RPostE w.heap.size w gr ba bc b (Bson.text (b.drop k))) := by
  have hlt := hR.lt
  have hB0 : Below w.heap.size w (w.alloc (.cells zeroCs 27)) := (Below.refl _ w).alloc (Nat.le_refl _) _
  have HR0 := Lib.hid (hR.keep hB0)
  have HG0 := Lib.hid (grown_below hB0 gr)
  have HF0 : Hid (Fresh w (w.alloc (.cells zeroCs 27))) := Fresh.new w
  clear hR hB0
  have HW : Hid (Below w.heap.size w (w.alloc (.cells zeroCs 27))) := (Below.refl _ w).alloc (Nat.le_refl _) _
  have HS : Hid ((w.alloc (.cells zeroCs 27)).heap.size = w.heap.size + 1) := by show _ = _; simp
  go_enter Tryd.func48, Tryd.ntmps48
  go_wp2_with fail
  refine (rtext_any _ gr ba bc b k HR0.out).mono ?_
  rintro e w1 ⟨hg1, v, rfl, ⟨q1, q2, q3, a1, n1, c1, a2, n2, c2, a3, n3, c3, rfl⟩, hm⟩
  have HG1 := Lib.hid hg1
  have HM1 := Lib.hid hm
  have HF1 := Lib.hid (HF0.out.grown hg1 hlt)
  clear hg1 hm
  obtain ⟨d0, f0⟩ := HF1.out.cells 0 _ rfl
  obtain ⟨d1, f1⟩ := HF1.out.cells 1 _ rfl
  obtain ⟨d2, f2⟩ := HF1.out.cells 2 _ rfl
  obtain ⟨d3, f3⟩ := HF1.out.cells 3 _ rfl
  obtain ⟨d4, f4⟩ := HF1.out.cells 4 _ rfl
  obtain ⟨d5, f5⟩ := HF1.out.cells 5 _ rfl
  go_wp2_with fail
  exact bodyPost_ret (v := .agg #[.int .i64 q1, .int .i64 q2, .string q3, .slice a1 n1 c1, .slice a2 n2 c2, .slice a3 n3 c3]) (by simp [results, Tryd.results48, go_sem, *]) rfl (pass_ok hlt HW.out HF1.out HS.out HG1.out _ _ _ _ _ _ _ _ _ _ _ _ rfl HM1.out)
set_option maxRecDepth 100000 in
set_option maxHeartbeats 4000000 in
theorem rval_bytes (w : World) (gr : Nat) (ba : Option Addr) (bc : Nat) (b : List Nat) (k : Nat) (dp : Int) (hR : RdE w gr ba bc b k 0) :
    Calls Tryd.prog 48 #[.pointer (some ⟨gr, 0, none⟩), .int .u8 5, .int .i64 dp] w (RPostE w.heap.size w gr ba bc b (Bson.blob (b.drop k))) := by
  have hlt := hR.lt
  have hB0 : Below w.heap.size w (w.alloc (.cells zeroCs 27)) := (Below.refl _ w).alloc (Nat.le_refl _) _
  have HR0 := Lib.hid (hR.keep hB0)
  have HG0 := Lib.hid (grown_below hB0 gr)
  have HF0 : Hid (Fresh w (w.alloc (.cells zeroCs 27))) := Fresh.new w
  clear hR hB0
  have HW : Hid (Below w.heap.size w (w.alloc (.cells zeroCs 27))) := (Below.refl _ w).alloc (Nat.le_refl _) _
  have HS : Hid ((w.alloc (.cells zeroCs 27)).heap.size = w.heap.size + 1) := by show _ = _; simp
  go_enter Tryd.func48, Tryd.ntmps48
  go_wp2_with fail
  refine (rbytes_any _ gr ba bc b k HR0.out).mono ?_
  rintro e w1 ⟨hg1, v, rfl, ⟨q1, q2, q3, a1, n1, c1, a2, n2, c2, a3, n3, c3, rfl⟩, hm⟩
  have HG1 := Lib.hid hg1
  have HM1 := Lib.hid hm
  have HF1 := Lib.hid (HF0.out.grown hg1 hlt)
  clear hg1 hm
  obtain ⟨d0, f0⟩ := HF1.out.cells 0 _ rfl
  obtain ⟨d1, f1⟩ := HF1.out.cells 1 _ rfl
  obtain ⟨d2, f2⟩ := HF1.out.cells 2 _ rfl
  obtain ⟨d3, f3⟩ := HF1.out.cells 3 _ rfl
  obtain ⟨d4, f4⟩ := HF1.out.cells 4 _ rfl
  obtain ⟨d5, f5⟩ := HF1.out.cells 5 _ rfl
  go_wp2_with fail
  exact bodyPost_ret (v := .agg #[.int .i64 q1, .int .i64 q2, .string q3, .slice a1 n1 c1, .slice a2 n2 c2, .slice a3 n3 c3]) (by simp [results, Tryd.results48, go_sem, *]) rfl (pass_ok hlt HW.out HF1.out HS.out HG1.out _ _ _ _ _ _ _ _ _ _ _ _ rfl HM1.out)
set_option maxRecDepth 100000 in
set_option maxHeartbeats 4000000 in
theorem rval_doc (w : World) (gr : Nat) (ba : Option Addr) (bc : Nat) (b : List Nat) (k : Nat) (dp : Int) (res : Res Val) (hd0 : 0 ≤ dp) (hd1 : dp ≤ 100) (hR : RdE w gr ba bc b k 0) (CD : ∀ w1 : World, RdE w1 gr ba bc b k 0 → Calls Tryd.prog 24 #[.pointer (some ⟨gr, 0, none⟩), .bool false, .int .i64 (dp + 1)] w1 (RPostE w1.heap.size w1 gr ba bc b res)) :
    Calls Tryd.prog 48 #[.pointer (some ⟨gr, 0, none⟩), .int .u8 3, .int .i64 dp] w (RPostE w.heap.size w gr ba bc b (res)) := by
  have hlt := hR.lt
  have hB0 : Below w.heap.size w (w.alloc (.cells zeroCs 27)) := (Below.refl _ w).alloc (Nat.le_refl _) _
  have HR0 := Lib.hid (hR.keep hB0)
  have HG0 := Lib.hid (grown_below hB0 gr)
  have HF0 : Hid (Fresh w (w.alloc (.cells zeroCs 27))) := Fresh.new w
  clear hR hB0
  have HW : Hid (Below w.heap.size w (w.alloc (.cells zeroCs 27))) := (Below.refl _ w).alloc (Nat.le_refl _) _
  have HS : Hid ((w.alloc (.cells zeroCs 27)).heap.size = w.heap.size + 1) := by show _ = _; simp
  have HCD := Lib.hid CD
  clear CD
  have hw1 : IntKind.i64.wrap (dp + 1) = dp + 1 := IntWalk.i64_in _ (by omega)
  go_enter Tryd.func48, Tryd.ntmps48
  go_wp2_with fail
  refine (HCD.out _ HR0.out).mono ?_
  rintro e w1 ⟨hg1, v, rfl, ⟨q1, q2, q3, a1, n1, c1, a2, n2, c2, a3, n3, c3, rfl⟩, hm⟩
  have HG1 := Lib.hid hg1
  have HM1 := Lib.hid hm
  have HF1 := Lib.hid (HF0.out.grown hg1 hlt)
  clear hg1 hm
  obtain ⟨d0, f0⟩ := HF1.out.cells 0 _ rfl
  obtain ⟨d1, f1⟩ := HF1.out.cells 1 _ rfl
  obtain ⟨d2, f2⟩ := HF1.out.cells 2 _ rfl
  obtain ⟨d3, f3⟩ := HF1.out.cells 3 _ rfl
  obtain ⟨d4, f4⟩ := HF1.out.cells 4 _ rfl
  obtain ⟨d5, f5⟩ := HF1.out.cells 5 _ rfl
  go_wp2_with fail
  exact bodyPost_ret (v := .agg #[.int .i64 q1, .int .i64 q2, .string q3, .slice a1 n1 c1, .slice a2 n2 c2, .slice a3 n3 c3]) (by simp [results, Tryd.results48, go_sem, *]) rfl (pass_ok hlt HW.out HF1.out HS.out HG1.out _ _ _ _ _ _ _ _ _ _ _ _ rfl HM1.out)
set_option maxRecDepth 100000 in
set_option maxHeartbeats 4000000 in
theorem rval_list (w : World) (gr : Nat) (ba : Option Addr) (bc : Nat) (b : List Nat) (k : Nat) (dp : Int) (res : Res Val) (hd0 : 0 ≤ dp) (hd1 : dp ≤ 100) (hR : RdE w gr ba bc b k 0) (CD : ∀ w1 : World, RdE w1 gr ba bc b k 0 → Calls Tryd.prog 24 #[.pointer (some ⟨gr, 0, none⟩), .bool true, .int .i64 (dp + 1)] w1 (RPostE w1.heap.size w1 gr ba bc b res)) :
    Calls Tryd.prog 48 #[.pointer (some ⟨gr, 0, none⟩), .int .u8 4, .int .i64 dp] w (RPostE w.heap.size w gr ba bc b (res)) := by
  have hlt := hR.lt
  have hB0 : Below w.heap.size w (w.alloc (.cells zeroCs 27)) := (Below.refl _ w).alloc (Nat.le_refl _) _
  have HR0 := Lib.hid (hR.keep hB0)
  have HG0 := Lib.hid (grown_below hB0 gr)
  have HF0 : Hid (Fresh w (w.alloc (.cells zeroCs 27))) := Fresh.new w
  clear hR hB0
  have HW : Hid (Below w.heap.size w (w.alloc (.cells zeroCs 27))) := (Below.refl _ w).alloc (Nat.le_refl _) _
  have HS : Hid ((w.alloc (.cells zeroCs 27)).heap.size = w.heap.size + 1) := by show _ = _; simp
  have HCD := Lib.hid CD
  clear CD
  have hw1 : IntKind.i64.wrap (dp + 1) = dp + 1 := IntWalk.i64_in _ (by omega)
  go_enter Tryd.func48, Tryd.ntmps48
  go_wp2_with fail
  refine (HCD.out _ HR0.out).mono ?_
  rintro e w1 ⟨hg1, v, rfl, ⟨q1, q2, q3, a1, n1, c1, a2, n2, c2, a3, n3, c3, rfl⟩, hm⟩
  have HG1 := Lib.hid hg1
  have HM1 := Lib.hid hm
  have HF1 := Lib.hid (HF0.out.grown hg1 hlt)
  clear hg1 hm
  obtain ⟨d0, f0⟩ := HF1.out.cells 0 _ rfl
  obtain ⟨d1, f1⟩ := HF1.out.cells 1 _ rfl
  obtain ⟨d2, f2⟩ := HF1.out.cells 2 _ rfl
  obtain ⟨d3, f3⟩ := HF1.out.cells 3 _ rfl
  obtain ⟨d4, f4⟩ := HF1.out.cells 4 _ rfl
  obtain ⟨d5, f5⟩ := HF1.out.cells 5 _ rfl
  go_wp2_with fail
  exact bodyPost_ret (v := .agg #[.int .i64 q1, .int .i64 q2, .string q3, .slice a1 n1 c1, .slice a2 n2 c2, .slice a3 n3 c3]) (by simp [results, Tryd.results48, go_sem, *]) rfl (pass_ok hlt HW.out HF1.out HS.out HG1.out _ _ _ _ _ _ _ _ _ _ _ _ rfl HM1.out)
end Go.Proofs.YtpiookgkkaafeaaDoor
end
section
namespace Go.Proofs.YtpiookgkkaafeaaDoor
open Go.RowKit
open Seal
open Bson (Val Res)
set_option maxRecDepth 100000 in
set_option maxHeartbeats 4000000 in
theorem rval_id (w : World) (gr : Nat) (ba : Option Addr) (bc : Nat) (b : List Nat) (k : Nat) (dp : Int) (hR : RdE w gr ba bc b k 0) :
    Calls Tryd.prog 48 #[.pointer (some ⟨gr, 0, none⟩), .int .u8 7, .int .i64 dp] w (RPostE w.heap.size w gr ba bc b (Bson.ident (b.drop k))) := by
  obtain ⟨i0, hi, hz0, hz1, hz2⟩ := info_parts infoU8
  have hlt := hR.lt
  have hB0 : Below w.heap.size w (w.alloc (.cells zeroCs 27)) := (Below.refl _ w).alloc (Nat.le_refl _) _
  have HR0 := Lib.hid (hR.keep hB0)
  have HG0 := Lib.hid (grown_below hB0 gr)
  have HF0 : Hid (Fresh w (w.alloc (.cells zeroCs 27))) := Fresh.new w
  clear hR hB0
  by_cases h4 : b.length < k + 12
  · have hres : Bson.ident (b.drop k) = .err 2 := by unfold Bson.ident Bson.take; rw [if_pos (by simp; omega)]; rfl
    rw [hres]
    have CN := Lib.hid (need_no _ gr ba bc b k 12 HR0.out (by decide) h4)
    clear hres h4
    go_enter Tryd.func48, Tryd.ntmps48
    go_wp2_with fail
    refine CN.out.mono ?_
    rintro e w1 ⟨rfl, hr1, hg1⟩
    have HR1 := Lib.hid hr1
    have HG1 := Lib.hid (grown_trans HG0.out hg1)
    have HF1 := Lib.hid (HF0.out.grown hg1 hlt)
    clear hr1 hg1
    obtain ⟨d0, f0⟩ := HF1.out.cells 0 _ rfl
    obtain ⟨d1, f1⟩ := HF1.out.cells 1 _ rfl
    obtain ⟨d2, f2⟩ := HF1.out.cells 2 _ rfl
    obtain ⟨d3, f3⟩ := HF1.out.cells 3 _ rfl
    obtain ⟨d4, f4⟩ := HF1.out.cells 4 _ rfl
    obtain ⟨d5, f5⟩ := HF1.out.cells 5 _ rfl
    go_wp2_with fail
    exact bodyPost_ret (v := .agg #[.int .i64 0, .int .i64 0, .string ⟨#[]⟩, .slice none 0 0, .slice none 0 0, .slice none 0 0]) (by simp [results, Tryd.results48, go_sem, *]) rfl (fine_err hlt HF1.out HR1.out HG1.out _ _ _ _ _ _ six_zero)
  · have hmL : k + 12 ≤ b.length := by omega
    have HRS : Hid (Bson.ident (b.drop k) = .ok (.mk 9 0 Bson.none_ ((b.drop k).take 12) [] []) (b.drop (k + 12))) := by
      show _ = _
      unfold Bson.ident Bson.take
      rw [if_neg (by simp; omega)]
      show Res.ok _ ((b.drop k).drop 12) = _
      rw [List.drop_drop]
    have CY := Lib.hid (need_ok _ gr ba bc b k 12 HR0.out hmL)
    have HML := Lib.hid hmL
    have hlen := HR0.out.len
    have hcap := HR0.out.cap
    have hmax := HR0.out.max
    obtain ⟨g, o, rfl, -, -⟩ := HR0.out.byteAt (i := k) (by omega)
    obtain ⟨RES, hRES⟩ : ∃ r, r = Bson.ident (b.drop k) := ⟨_, rfl⟩
    rw [← hRES] at HRS ⊢
    clear h4 hRES
    go_enter Tryd.func48, Tryd.ntmps48
    go_wp2_with fail
    refine CY.out.mono ?_
    rintro e w5 ⟨rfl, hr5, hg5⟩
    have HR5 := Lib.hid hr5
    have HG5 := Lib.hid (grown_trans HG0.out hg5)
    have HF5 := Lib.hid (HF0.out.grown hg5 hlt)
    clear hr5 hg5
    obtain ⟨p, hp⟩ : ∃ p, p = k := ⟨_, rfl⟩
    rw [← hp] at HR5 hmL HML HRS
    clear hp CY
    obtain ⟨L, hL⟩ : ∃ L, L = b.length := ⟨_, rfl⟩
    have HL := Lib.hid hL
    rw [← hL] at hlen hcap hmL
    clear hL
    have c1 := HR5.out.c1
    have f1 := HR5.out.frz 1
    have hw1 : IntKind.i64.wrap ((p : Int) + 12) = (p : Int) + 12 := IntWalk.i64_in _ (by omega)
    go_wp2_with fail
    have hs4 := HR5.out.setAt (p + 12) HML.out
    have e4 : ((p + 12 : Nat) : Int) = (p : Int) + 12 := by omega
    rw [e4] at hs4
    have HR6 := Lib.hid hs4.1
    have HG6 := Lib.hid (grown_trans HG5.out hs4.2)
    have HF6 := Lib.hid (HF5.out.grown hs4.2 hlt)
    clear hs4 e4 c1 f1
    generalize w5.setCell ⟨gr, 1, none⟩ (.int .i64 ((p : Int) + 12)) = w6 at *
    obtain ⟨r, hr⟩ : ∃ r, r = p + 12 := ⟨_, rfl⟩
    have HRr := Lib.hid hr
    have c0 := HR6.out.c0
    have c1 := HR6.out.c1
    rw [← HL.out] at c0
    rw [← hr] at c1
    have hrL : r ≤ L := by omega
    have hw3 : IntKind.i64.wrap ((r : Int) - 12) = (r : Int) - 12 := IntWalk.i64_in _ (by omega)
    have hrm : (r : Int) - 12 = (p : Int) := by omega
    have hp0 : (0 : Int) ≤ (p : Int) := by omega
    have hp1 : (p : Int) ≤ (r : Int) := by omega
    have hp2 : (r : Int) ≤ (bc : Int) := by omega
    have hrp : r - p = 12 := by omega
    have hw4 : IntKind.i64.wrap (p : Int) = (p : Int) := IntWalk.i64_in _ (by omega)
    have hpt : ((p : Int)).toNat = p := by omega
    have hbp : ¬ bc = p := by omega
    clear hr hmL
    have hkeep := And.intro c0 c1
    refine wp_region_held_drew (S := fun W => W.cell? ⟨gr, 0, none⟩ = some (.slice (some ⟨g, o, none⟩) L bc) ∧ W.cell? ⟨gr, 1, none⟩ = some (.int .i64 (r : Int))) (by kernel_rfl) (by exact hkeep) (fun hHeld => ?_)
    have HR7 : Hid (RdE w6.drew gr (some ⟨g, o, none⟩) bc b (p + 12) 0) := HR6.out.dr 1
    have HG7 : Hid (w.grownBy w6.drew (some gr)) := grown_trans HG6.out (grown_drewN w6 1 gr)
    have HF7 : Hid (Fresh w w6.drew) := HF6.out.dr 1
    clear hkeep c0 c1
    generalize w6.drew = w7 at *
    refine wpAnyH_take (i := 0) (v := ?_) rfl (by kernel_rfl) (by kernel_rfl) (by kernel_rfl) (fun _ _ _ h => h) (Or.inl ⟨by kernel_rfl, ?_⟩) (by assumption) ?_
    rotate_left
    · intro wS hSw
      (try dsimp only at hSw)
      go_simp
      try (with_reducible rfl)
    try simp only [List.getElem_toArray, List.getElem_cons_zero, Act.put, List.setIfInBounds_toArray, List.set_cons_zero, List.set_cons_succ]
    refine wpAnyH_take (i := 1) (v := ?_) rfl (by kernel_rfl) (by kernel_rfl) (by kernel_rfl) (fun _ _ _ h => h) (Or.inl ⟨by kernel_rfl, ?_⟩) (by assumption) ?_
    rotate_left
    · intro wS hSw
      (try dsimp only at hSw)
      go_simp
      try (with_reducible rfl)
    try simp only [List.getElem_toArray, List.getElem_cons_succ, List.getElem_cons_zero, Act.put, List.setIfInBounds_toArray, List.set_cons_zero, List.set_cons_succ]
    refine wpAnyH_take (i := 2) (v := ?_) rfl (by kernel_rfl) (by kernel_rfl) (by kernel_rfl) (fun _ _ _ h => h) (Or.inl ⟨by kernel_rfl, ?_⟩) (by assumption) ?_
    rotate_left
    · intro wS hSw
      (try dsimp only at hSw)
      go_simp
      try (with_reducible rfl)
    try simp only [List.getElem_toArray, List.getElem_cons_succ, List.getElem_cons_zero, Act.put, List.setIfInBounds_toArray, List.set_cons_zero, List.set_cons_succ]
    refine wpAnyH_take (i := 3) (v := ?_) rfl (by kernel_rfl) (by kernel_rfl) (by kernel_rfl) (fun _ _ _ h => h) (Or.inl ⟨by kernel_rfl, ?_⟩) (by assumption) ?_
    rotate_left
    · intro wS hSw
      (try dsimp only at hSw)
      go_simp
      try (with_reducible rfl)
    try simp only [List.getElem_toArray, List.getElem_cons_succ, List.getElem_cons_zero, Act.put, List.setIfInBounds_toArray, List.set_cons_zero, List.set_cons_succ]
    refine wpAnyH_take (i := 4) (v := ?_) rfl (by kernel_rfl) (by kernel_rfl) (by kernel_rfl) (fun _ _ _ h => h) (Or.inl ⟨by kernel_rfl, ?_⟩) (by assumption) ?_
    rotate_left
    · intro wS hSw
      (try dsimp only at hSw)
      go_simp
      try (with_reducible rfl)
    try simp only [List.getElem_toArray, List.getElem_cons_succ, List.getElem_cons_zero, Act.put, List.setIfInBounds_toArray, List.set_cons_zero, List.set_cons_succ]
    refine wpAnyH_take (i := 5) (v := ?_) rfl (by kernel_rfl) (by kernel_rfl) (by kernel_rfl) (fun _ _ _ h => h) (Or.inl ⟨by kernel_rfl, ?_⟩) (by assumption) ?_
    rotate_left
    · intro wS hSw
      (try dsimp only at hSw)
      go_simp
      try (with_reducible rfl)
    try simp only [List.getElem_toArray, List.getElem_cons_succ, List.getElem_cons_zero, Act.put, List.setIfInBounds_toArray, List.set_cons_zero, List.set_cons_succ]
    refine wpAnyH_take (i := 6) (v := ?_) rfl (by kernel_rfl) (by kernel_rfl) (by kernel_rfl) (fun _ _ _ h => h) (Or.inl ⟨by kernel_rfl, ?_⟩) (by assumption) ?_
    rotate_left
    · intro wS hSw
      (try dsimp only at hSw)
      go_simp
      try (with_reducible rfl)
    try simp only [List.getElem_toArray, List.getElem_cons_succ, List.getElem_cons_zero, Act.put, List.setIfInBounds_toArray, List.set_cons_zero, List.set_cons_succ]
    refine wpAnyH_take (i := 7) (v := ?_) rfl (by kernel_rfl) (by kernel_rfl) (by kernel_rfl) (fun _ _ _ h => h) (Or.inl ⟨by kernel_rfl, ?_⟩) (by assumption) ?_
    rotate_left
    · intro wS hSw
      (try dsimp only at hSw)
      go_simp
      try (with_reducible rfl)
    try simp only [List.getElem_toArray, List.getElem_cons_succ, List.getElem_cons_zero, Act.put, List.setIfInBounds_toArray, List.set_cons_zero, List.set_cons_succ]
    refine wpAnyH_take (i := 8) (v := ?_) rfl (by kernel_rfl) (by kernel_rfl) (by kernel_rfl) (fun _ _ _ h => h) (Or.inl ⟨by kernel_rfl, ?_⟩) (by assumption) ?_
    rotate_left
    · intro wS hSw
      (try dsimp only at hSw)
      go_simp
      try (with_reducible rfl)
    try simp only [List.getElem_toArray, List.getElem_cons_succ, List.getElem_cons_zero, Act.put, List.setIfInBounds_toArray, List.set_cons_zero, List.set_cons_succ]
    refine wpAnyH_take (i := 9) (v := ?_) rfl (by kernel_rfl) (by kernel_rfl) (by kernel_rfl) (fun _ _ _ h => h) (Or.inl ⟨by kernel_rfl, ?_⟩) (by assumption) ?_
    rotate_left
    · intro wS hSw
      (try dsimp only at hSw)
      go_simp
      try (with_reducible rfl)
    try simp only [List.getElem_toArray, List.getElem_cons_succ, List.getElem_cons_zero, Act.put, List.setIfInBounds_toArray, List.set_cons_zero, List.set_cons_succ]
    refine wpAnyH_take (i := 10) (v := ?_) rfl (by kernel_rfl) (by kernel_rfl) (by kernel_rfl) (fun _ _ _ h => h) (Or.inl ⟨by kernel_rfl, ?_⟩) (by assumption) ?_
    rotate_left
    · intro wS hSw
      (try dsimp only at hSw)
      go_simp
      try (with_reducible rfl)
    try simp only [List.getElem_toArray, List.getElem_cons_succ, List.getElem_cons_zero, Act.put, List.setIfInBounds_toArray, List.set_cons_zero, List.set_cons_succ]
    refine wpAnyH_take (i := 11) (v := ?_) rfl (by kernel_rfl) (by kernel_rfl) (by kernel_rfl) (fun _ _ _ h => h) (Or.inl ⟨by kernel_rfl, ?_⟩) (by assumption) ?_
    rotate_left
    · intro wS hSw
      (try dsimp only at hSw)
      go_simp
      try (with_reducible rfl)
    try simp only [List.getElem_toArray, List.getElem_cons_succ, List.getElem_cons_zero, Act.put, List.setIfInBounds_toArray, List.set_cons_zero, List.set_cons_succ]
    refine wpAnyH_take (i := 12) (v := ?_) rfl (by kernel_rfl) (by kernel_rfl) (by kernel_rfl) (fun _ _ _ h => h) (Or.inl ⟨by kernel_rfl, ?_⟩) (by assumption) ?_
    rotate_left
    · intro wS hSw
      (try dsimp only at hSw)
      go_simp
      try (with_reducible rfl)
    try simp only [List.getElem_toArray, List.getElem_cons_succ, List.getElem_cons_zero, Act.put, List.setIfInBounds_toArray, List.set_cons_zero, List.set_cons_succ]
    refine wpAnyH_take (i := 13) (v := ?_) rfl (by kernel_rfl) (by kernel_rfl) (by kernel_rfl) (fun _ _ _ h => h) (Or.inl ⟨by kernel_rfl, ?_⟩) (by assumption) ?_
    rotate_left
    · intro wS hSw
      (try dsimp only at hSw)
      go_simp
      try (with_reducible rfl)
    try simp only [List.getElem_toArray, List.getElem_cons_succ, List.getElem_cons_zero, Act.put, List.setIfInBounds_toArray, List.set_cons_zero, List.set_cons_succ]
    refine wpAnyH_ready (rs := [14]) (by kernel_rfl) (by simp) ?_
    refine AllReadyH.cons rfl (fun K hK => ?_) AllReadyH.nil
    have HSL : SliceIs w7 (some ⟨g, o + p, none⟩) ((b.drop p).take 12) := by
      rcases HR7.out.rd.cut p 12 with h | ⟨g', o', e, h⟩
      · exact .inl h
      · refine .inr ⟨g', o', ?_, h⟩
        rw [← e]
        simp [Addr.add]
    have hlm : ((b.drop p).take 12).length = 12 := by have := HML.out; simp; omega
    have hsr := HSL.src
    rw [hlm] at hsr
    refine step_append_src rfl (.const (.slice none 0 0)) (.tmp 68) 22 rfl w7.heap.size 5 i0 (.int .u8 0) 1 1 Tryd.underlying22 hi hz0 hz1 hz2 rfl (by decide) (.slice none 0 0) 0 [] rfl (World.ownsRow_nil _ _ _ _) (some ⟨g, o + p, none⟩) 12 (bc - p) (u8s ((b.drop p).take 12)) rfl hsr (by rw [Nat.mul_one]; simp only [u8s, List.length_map]; exact hlm) (u8s_one _) (by unfold maxLen; omega) (by omega) (Nat.le_refl _) ?_
    intro v9 w9 ho9 hg9
    have hb9 : Below w7.heap.size w7 w9 := ⟨hg9.os, hg9.tape, hg9.output, hg9.size, fun g hg => hg9.block g hg (by simp [Value.ownBlock])⟩
    have HR9 := Lib.hid (HR7.out.keep hb9)
    have HG9 := Lib.hid (grown_trans HG7.out (grown_below hb9 gr))
    have HF9 := Lib.hid (HF7.out.grown (grown_below hb9 gr) hlt)
    rw [List.nil_append, Nat.zero_add] at ho9
    have HX9 : Hid (BytesX w9 (fun g => w.heap.size < g) v9 ((b.drop p).take 12)) := (BytesX.own ho9 (fun c hc => HR7.out.oct c (List.mem_of_mem_drop (List.mem_of_mem_take hc)))).mono (fun g hg => Nat.lt_of_lt_of_le (World.block_lt_of_cell? _ ⟨w.heap.size, 0, none⟩ (HF7.out.cells 0 _ rfl).1) hg)
    obtain ⟨a9, c9, hv9, hcap9, hmax9⟩ : ∃ a c, v9 = .slice a 12 c ∧ 12 ≤ c ∧ c ≤ 9223372036854775807 := by
      rcases ho9.2 with ⟨rfl, e⟩ | ⟨gg, cap, cur, rfl, _, _, h1, h2, _⟩
      · exact ⟨none, 0, by rw [e], by omega, by omega⟩
      · exact ⟨_, cap, rfl, h1, by unfold maxLen at h2; omega⟩
    subst hv9
    have hkeep : w9.cell? ⟨gr, 0, none⟩ = some (.slice (some ⟨g, o, none⟩) L bc) ∧ w9.cell? ⟨gr, 1, none⟩ = some (.int .i64 (r : Int)) := by
      have e0 := HR9.out.c0
      have e1 := HR9.out.c1
      rw [← HL.out] at e0
      exact ⟨e0, by rw [HRr.out]; exact e1⟩
    clear HSL hsr hlm ho9 hg9 hb9
    refine hK.out _ _ (by exact hkeep) (fun hHeld => ?_)
    clear hK K hkeep
    try simp only [List.getElem_toArray, List.getElem_cons_succ, List.getElem_cons_zero, Act.put, List.setIfInBounds_toArray, List.set_cons_zero, List.set_cons_succ]
    refine wpAnyH_take (i := 15) (v := ?_) rfl (by kernel_rfl) (by kernel_rfl) (by kernel_rfl) (fun _ _ _ h => h) (Or.inl ⟨by kernel_rfl, ?_⟩) (by assumption) ?_
    rotate_left
    · intro wS hSw
      (try dsimp only at hSw)
      go_simp
      try (with_reducible rfl)
    try simp only [List.getElem_toArray, List.getElem_cons_succ, List.getElem_cons_zero, Act.put, List.setIfInBounds_toArray, List.set_cons_zero, List.set_cons_succ]
    refine wpAnyH_ready (rs := [16]) (by kernel_rfl) (by simp) ?_
    refine AllReadyH.cons rfl (fun K hK => ?_) AllReadyH.nil
    obtain ⟨d0, f0⟩ := HF9.out.cells 0 _ rfl
    obtain ⟨d1, f1⟩ := HF9.out.cells 1 _ rfl
    obtain ⟨d2, f2⟩ := HF9.out.cells 2 _ rfl
    obtain ⟨d3, f3⟩ := HF9.out.cells 3 _ rfl
    obtain ⟨d4, f4⟩ := HF9.out.cells 4 _ rfl
    obtain ⟨d5, f5⟩ := HF9.out.cells 5 _ rfl
    go_simp
    have hkeep2 : (six w9 w.heap.size (.int .i64 9) (.int .i64 0) (.string ⟨#[]⟩) (.slice a9 12 c9) (.slice none 0 0) (.slice none 0 0)).cell? ⟨gr, 0, none⟩ = some (.slice (some ⟨g, o, none⟩) L bc) ∧ (six w9 w.heap.size (.int .i64 9) (.int .i64 0) (.string ⟨#[]⟩) (.slice a9 12 c9) (.slice none 0 0) (.slice none 0 0)).cell? ⟨gr, 1, none⟩ = some (.int .i64 (r : Int)) := by
      have h6 := HR9.out.six (B := w.heap.size) (by omega) HF9.out.no_byte (.int .i64 9) (.int .i64 0) (.string ⟨#[]⟩) (.slice a9 12 c9) (.slice none 0 0) (.slice none 0 0)
      have e0 := h6.c0
      have e1 := h6.c1
      rw [← HL.out] at e0
      exact ⟨e0, by rw [HRr.out]; exact e1⟩
    refine hK.out _ _ (by exact hkeep2) (fun hHeld => ?_)
    clear hK K hkeep2
    try simp only [List.getElem_toArray, List.getElem_cons_succ, List.getElem_cons_zero, Act.put, List.setIfInBounds_toArray, List.set_cons_zero, List.set_cons_succ]
    refine wpAnyH_done (by kernel_rfl) ?_ _
    go_wp2_with fail
    rw [HRS.out]
    exact bodyPost_ret (v := .agg #[.int .i64 9, .int .i64 0, .string ⟨#[]⟩, .slice a9 12 c9, .slice none 0 0, .slice none 0 0]) (by simp [results, Tryd.results48, go_sem, *]) rfl (fine_ok hlt HF9.out HR9.out HG9.out _ _ _ _ _ _ ⟨9, 0, ⟨#[]⟩, a9, 12, c9, none, 0, 0, none, 0, 0, rfl⟩ (vin_bytes _ _ 9 a9 12 c9 _ (by decide) (by decide) (by have := HML.out; have := HR9.out.len; simp; omega) ⟨hcap9, hmax9⟩ (by have := HML.out; simp; omega) HX9.out) rfl)
end Go.Proofs.YtpiookgkkaafeaaDoor
end
