/- THE WALKS OF Page, holdOf, hold's end, Writer's end. -/
import Derived.Test.YtbkiahnljklhpaaDoorTapeState
import Derived.Laws.EntriesVeiled
namespace Go.Proofs.YtbkiahnljklhpaaDoor
open Go.RowKit
open Seal
set_option maxRecDepth 100000 in
set_option maxHeartbeats 400000 in
theorem page_any (g : Nat) (s : Disk.St) (own : Nat → Nat) (w : World) (h : DiskAt w g s own) :
    Calls Tryd.prog 41 #[.pointer (some ⟨g, 0, none⟩)] w fun e w' => e = .returned (.int .i64 ((s.page : Nat) : Int)) ∧ w = w' := by
  obtain ⟨pv, gu, mv, xs, ws, R⟩ := h
  have c0 := R.blk.c0
  clear R
  go_enter Tryd.func41, Tryd.ntmps41
  go_wp2_with fail
  go_ret
  exact ⟨rfl, rfl⟩
def takeV (gl : Nat) : Value := .func (Fn.func 42) #[.pointer (some ⟨gl, 0, none⟩)] #[]
def giveV (gl : Nat) : Value := .func (Fn.func 43) #[.pointer (some ⟨gl, 0, none⟩)] #[]
set_option maxRecDepth 100000 in
set_option maxHeartbeats 400000 in
theorem holdOf_any (n gl : Nat) (B H M : Int) (w : World) (h : Led w gl LedT B H M) (hF : Fair B H) :
    Calls Tryd.prog 40 #[.int .i64 ((n : Nat) : Int), .func (Fn.func 42) #[.pointer (some ⟨gl, 0, none⟩)] #[], .func (Fn.func 43) #[.pointer (some ⟨gl, 0, none⟩)] #[]] w fun e w' =>
      e = .returned (.agg #[holdN (tkB H n) n, holdG (tkB H n) gl]) ∧ Led w' gl LedT B (tkH H n) (tkM H M n) ∧ Touch (fun b => b = gl) w w' := by
  have hgl := h.lt
  obtain ⟨b, hb⟩ : ∃ b, b = tkB H n := ⟨_, rfl⟩
  have HL := Lib.hid h
  have HFa := Lib.hid hF
  have HB := Lib.hid hb
  rw [← hb]
  clear h hF hb
  go_enter Tryd.func40, Tryd.ntmps40
  go_wp2_with fail
  have hA := HL.out.below (below_alloc w (.cells #[Value.int IntKind.i64 0, Value.nilFunc] 90)) hgl
  refine (Take_all gl LedT B H M (n : Int) _ hA HFa.out).mono ?_
  rintro e w1 ⟨rfl, hL1, hG1⟩
  rw [← HB.out]
  have hz1 : w.heap.size + 1 ≤ w1.heap.size := by have := hG1.size; simpa using this
  have hc1 : w1.heap[w.heap.size]? = some (.cells #[Value.int IntKind.i64 0, Value.nilFunc] 90 (0, 0)) := by
    rw [hG1.block _ (by simp) (fun e => by simp at e; omega)]
    exact heap_alloc_new w _
  have hT : Touch (fun b => b = gl) w w1 := ((Touch.refl _ w).alloc _).grown hG1 (.inl rfl)
  have f0 : w1.frozen? ⟨w.heap.size, 0, none⟩ = false := frozen_of_row w1 _ 0 _ _ hc1
  have f1 : w1.frozen? ⟨w.heap.size, 1, none⟩ = false := frozen_of_row w1 _ 1 _ _ hc1
  have k0 : w1.cell? ⟨w.heap.size, 0, none⟩ = some (.int .i64 0) := by rw [cell_of_row w1 _ 0 _ _ _ hc1]; rfl
  have k1 : w1.cell? ⟨w.heap.size, 1, none⟩ = some .nilFunc := by rw [cell_of_row w1 _ 1 _ _ _ hc1]; rfl
  have HL1 := Lib.hid hL1
  have HT := Lib.hid hT
  have HC1 := Lib.hid hc1
  clear hL1 hG1 hA hT hc1
  have hfin : ∀ x y : Value, ((w1.setCell ⟨w.heap.size, 0, none⟩ x).setCell ⟨w.heap.size, 1, none⟩ y).heap[w.heap.size]? = some (.cells #[x, y] 90 (0, 0)) := by
    intro x y
    rw [heap_setCell_same _ _ 1 _ _ _ (heap_setCell_same w1 w.heap.size 0 _ _ _ HC1.out)]; rfl
  have hled : ∀ x y : Value, Led ((w1.setCell ⟨w.heap.size, 0, none⟩ x).setCell ⟨w.heap.size, 1, none⟩ y) gl LedT B (tkH H n) (tkM H M n) := by
    intro x y
    refine HL1.out.same ?_
    rw [Below.heap_setCell _ _ _ _ (fun e => by have e2 : gl = w.heap.size := e; omega), Below.heap_setCell _ _ _ _ (fun e => by have e2 : gl = w.heap.size := e; omega)]
  have HFin := Lib.hid hfin
  have HLed := Lib.hid hled
  clear hfin hled
  cases b
  · go_wp2_with fail
    have e2 := HFin.out (.int .i64 0) .nilFunc
    have q0 := cell_of_row _ _ 0 _ _ _ e2
    have q1 := cell_of_row _ _ 1 _ _ _ e2
    refine bodyPost_ret (v := .agg #[.int .i64 0, .nilFunc]) (by simp [results, Tryd.results40, go_sem, q0, q1]) rfl ⟨rfl, HLed.out _ _, (HT.out.setCell (.inr (Nat.le_refl _)) _).setCell (.inr (Nat.le_refl _)) _⟩
  · go_wp2_with fail
    have e2 := HFin.out (.int .i64 ((n : Nat) : Int)) (.func (Fn.func 43) #[.pointer (some ⟨gl, 0, none⟩)] #[])
    have q0 := cell_of_row _ _ 0 _ _ _ e2
    have q1 := cell_of_row _ _ 1 _ _ _ e2
    refine bodyPost_ret (v := .agg #[.int .i64 ((n : Nat) : Int), .func (Fn.func 43) #[.pointer (some ⟨gl, 0, none⟩)] #[]]) (by simp [results, Tryd.results40, go_sem, q0, q1]) rfl ⟨rfl, HLed.out _ _, (HT.out.setCell (.inr (Nat.le_refl _)) _).setCell (.inr (Nat.le_refl _)) _⟩
/-- What the ledger holds once a hold is given back. -/
def backL (hb : Bool) (page : Nat) (L : Int × Int × Int) : Int × Int × Int := if hb then (L.1, gvH L.2.1 page, L.2.2) else L
theorem backL_fair {hb : Bool} {page : Nat} {L : Int × Int × Int} (h : Fair L.1 L.2.1) : Fair (backL hb page L).1 (backL hb page L).2.1 := by
  unfold backL
  cases hb
  · exact h
  · exact h.give _
set_option maxRecDepth 100000 in
set_option maxHeartbeats 1000000 in
theorem hold_end (b gl page : Nat) (hb : Bool) (T : TypeId) (d pv dv ct ov : Value) (L : Int × Int × Int) (w : World) (hO : Obj7 w b T d (holdN hb page) (holdG hb gl) pv dv ct ov) (h : Led w gl LedT L.1 L.2.1 L.2.2) (hF : Fair L.1 L.2.1) (hne : b ≠ gl) :
    Calls Tryd.prog 49 #[.pointer (some ⟨b, 1, none⟩)] w fun e w' => e = .returned (.tuple #[]) ∧ Obj7 w' b T d (.int .i64 0) .nilFunc pv dv ct ov ∧ Led w' gl LedT (backL hb page L).1 (backL hb page L).2.1 (backL hb page L).2.2 ∧ Touch (fun x => x = gl ∨ x = b) w w' := by
  have hneq := fun W : World => run_neq_func_nil (P := Tryd.prog) W Tryd.underlying63
  have hnn := fun W : World => run_neq_nil_nil (P := Tryd.prog) W Tryd.underlying63
  have hset : ∀ w1 : World, ∀ n gv, Obj7 w1 b T d n gv pv dv ct ov → Obj7 ((w1.setCell ⟨b, 1, none⟩ (.int .i64 0)).setCell ⟨b, 2, none⟩ .nilFunc) b T d (.int .i64 0) .nilFunc pv dv ct ov := fun w1 n gv h1 => (h1.s1 _).s2 _
  have HS := Lib.hid hset
  have HO := Lib.hid hO
  have HL := Lib.hid h
  have HFa := Lib.hid hF
  cases hb
  · have c1 : w.cell? ⟨b, 1, none⟩ = some (.int .i64 0) := hO.c1
    have c2 : w.cell? ⟨b, 2, none⟩ = some .nilFunc := hO.c2
    have f1 := hO.fr 1
    have f2 := hO.fr 2
    clear hO h hF hset
    go_enter Tryd.func49, Tryd.ntmps49
    go_wp2_with fail
    go_end0
    exact ⟨rfl, HS.out _ _ _ HO.out, HL.out.same (by rw [Below.heap_setCell _ _ _ _ (fun e => hne (Eq.symm e)), Below.heap_setCell _ _ _ _ (fun e => hne (Eq.symm e))]), ((Touch.refl _ _).setCell (.inl (.inr rfl)) _).setCell (.inl (.inr rfl)) _⟩
  · have c1 : w.cell? ⟨b, 1, none⟩ = some (.int .i64 ((page : Nat) : Int)) := hO.c1
    have c2 : w.cell? ⟨b, 2, none⟩ = some (.func (Fn.func 43) #[.pointer (some ⟨gl, 0, none⟩)] #[]) := hO.c2
    have f1 := hO.fr 1
    have f2 := hO.fr 2
    have hbl := hO.lt
    clear hO h hF hset
    go_enter Tryd.func49, Tryd.ntmps49
    go_wp2_with fail
    refine wp_region_still_tail 8 (by kernel_rfl) (by kernel_rfl) ?_
    simp only [List.take_succ_cons, List.take_zero, List.drop_succ_cons, List.drop_zero]
    iterate 8 still_step
    refine wpStill_nil ?_
    change wpList _ _ _ _ _ w.drew
    go_wp2_with fail
    refine (Give_all gl LedT L.1 L.2.1 L.2.2 (page : Int) _ HL.out.drew HFa.out).mono ?_
    rintro e w1 ⟨rfl, hL1, hG1⟩
    have hG2 : w.grownBy w1 (some gl) := ⟨hG1.os, hG1.tape, hG1.output, hG1.size, hG1.block⟩
    have hb1 : w1.heap[b]? = w.heap[b]? := hG2.block b hbl (by simpa using hne)
    have g1 : w1.frozen? ⟨b, 1, none⟩ = false := by rw [World.frozen?_of_block hb1]; exact f1
    have g2 : w1.frozen? ⟨b, 2, none⟩ = false := by rw [World.frozen?_of_block hb1]; exact f2
    have k1 : w1.cell? ⟨b, 1, none⟩ = some (.int .i64 ((page : Nat) : Int)) := by rw [World.cell?_of_block hb1]; exact c1
    have k2 : w1.cell? ⟨b, 2, none⟩ = some (.func (Fn.func 43) #[.pointer (some ⟨gl, 0, none⟩)] #[]) := by rw [World.cell?_of_block hb1]; exact c2
    have HL1 := Lib.hid hL1
    have HG := Lib.hid hG2
    have HO1 := Lib.hid (HO.out.same hb1)
    clear hL1 hG1 hG2 hb1 c1 c2 f1 f2
    go_wp2_with fail
    go_end0
    exact ⟨rfl, HS.out _ _ _ HO1.out, HL1.out.same (by rw [Below.heap_setCell _ _ _ _ (fun e => hne (Eq.symm e)), Below.heap_setCell _ _ _ _ (fun e => hne (Eq.symm e))]), (((Touch.refl _ _).grown HG.out (.inl (.inl rfl))).setCell (.inl (.inr rfl)) _).setCell (.inl (.inr rfl)) _⟩
/-- A block that is over: nothing is held, nothing lies in it. -/
def Over7 (w : World) (b : Nat) (T : TypeId) : Prop := Obj7 w b T (.pointer none) (.int .i64 0) .nilFunc (.slice none 0 0) (.slice none 0 0) (.int .i64 0) (.bool true)
theorem over_of {w : World} {b : Nat} {T : TypeId} {d n gv pv dv ct ov : Value} (h : Obj7 w b T d n gv pv dv ct ov) :
    Over7 (((((((w.setCell ⟨b, 0, none⟩ (.pointer none)).setCell ⟨b, 1, none⟩ (.int .i64 0)).setCell ⟨b, 2, none⟩ .nilFunc).setCell ⟨b, 3, none⟩ (.slice none 0 0)).setCell ⟨b, 4, none⟩ (.slice none 0 0)).setCell ⟨b, 5, none⟩ (.int .i64 0)).setCell ⟨b, 6, none⟩ (.bool true)) b T :=
  ((((((h.s0 _).s1 _).s2 _).s3 _).s4 _).s5 _).s6 _
theorem touch7 {P : Nat → Prop} {w0 w : World} {b : Nat} (h : Touch P w0 w) (hb : P b) (v0 v1 v2 v3 v4 v5 v6 : Value) :
    Touch P w0 (((((((w.setCell ⟨b, 0, none⟩ v0).setCell ⟨b, 1, none⟩ v1).setCell ⟨b, 2, none⟩ v2).setCell ⟨b, 3, none⟩ v3).setCell ⟨b, 4, none⟩ v4).setCell ⟨b, 5, none⟩ v5).setCell ⟨b, 6, none⟩ v6) :=
  ((((((h.setCell (.inl hb) _).setCell (.inl hb) _).setCell (.inl hb) _).setCell (.inl hb) _).setCell (.inl hb) _).setCell (.inl hb) _).setCell (.inl hb) _
theorem led7 {w : World} {gl b : Nat} {T : TypeId} {B H M : Int} (h : Led w gl T B H M) (hne : b ≠ gl) (v0 v1 v2 v3 v4 v5 v6 : Value) :
    Led (((((((w.setCell ⟨b, 0, none⟩ v0).setCell ⟨b, 1, none⟩ v1).setCell ⟨b, 2, none⟩ v2).setCell ⟨b, 3, none⟩ v3).setCell ⟨b, 4, none⟩ v4).setCell ⟨b, 5, none⟩ v5).setCell ⟨b, 6, none⟩ v6) gl T B H M := by
  have hn : ∀ o, gl ≠ (⟨b, o, none⟩ : Addr).block := fun o e => hne (Eq.symm e)
  refine h.same ?_
  rw [Below.heap_setCell _ _ _ _ (hn 6), Below.heap_setCell _ _ _ _ (hn 5), Below.heap_setCell _ _ _ _ (hn 4), Below.heap_setCell _ _ _ _ (hn 3), Below.heap_setCell _ _ _ _ (hn 2), Below.heap_setCell _ _ _ _ (hn 1), Below.heap_setCell _ _ _ _ (hn 0)]
set_option maxRecDepth 100000 in
set_option maxHeartbeats 1000000 in
theorem wend_any (b gl page : Nat) (hb : Bool) (d pv dv ct ov : Value) (L : Int × Int × Int) (w : World) (hO : Obj7 w b WrT d (holdN hb page) (holdG hb gl) pv dv ct ov) (h : Led w gl LedT L.1 L.2.1 L.2.2) (hF : Fair L.1 L.2.1) (hne : b ≠ gl) :
    Calls Tryd.prog 48 #[.pointer (some ⟨b, 0, none⟩)] w fun e w' => e = .returned (.tuple #[]) ∧ Over7 w' b WrT ∧ Led w' gl LedT (backL hb page L).1 (backL hb page L).2.1 (backL hb page L).2.2 ∧ Touch (fun x => x = gl ∨ x = b) w w' := by
  have C := Lib.hid (hold_end b gl page hb WrT d pv dv ct ov L w hO h hF hne)
  clear hO h hF
  go_enter Tryd.func48, Tryd.ntmps48
  go_wp2_with fail
  refine C.out.mono ?_
  rintro e w1 ⟨rfl, hO1, hL1, hT1⟩
  have c0 := hO1.c0
  have c1 := hO1.c1
  have c2 := hO1.c2
  have c3 := hO1.c3
  have c4 := hO1.c4
  have c5 := hO1.c5
  have c6 := hO1.c6
  have f0 := hO1.fr 0
  have f1 := hO1.fr 1
  have f2 := hO1.fr 2
  have f3 := hO1.fr 3
  have f4 := hO1.fr 4
  have f5 := hO1.fr 5
  have f6 := hO1.fr 6
  have HO1 := Lib.hid hO1
  have HL1 := Lib.hid hL1
  have HT1 := Lib.hid hT1
  clear hO1 hL1 hT1
  go_wp2_with fail
  go_end0
  exact ⟨rfl, over_of HO1.out, led7 HL1.out hne _ _ _ _ _ _ _, touch7 HT1.out (.inr rfl) _ _ _ _ _ _ _⟩
set_option maxRecDepth 100000 in
set_option maxHeartbeats 1000000 in
theorem rclose_any (b gl page : Nat) (hb : Bool) (d pv dv ct ov : Value) (L : Int × Int × Int) (w : World) (hO : Obj7 w b RdT d (holdN hb page) (holdG hb gl) pv dv ct ov) (h : Led w gl LedT L.1 L.2.1 L.2.2) (hF : Fair L.1 L.2.1) (hne : b ≠ gl) :
    Calls Tryd.prog 51 #[.pointer (some ⟨b, 0, none⟩)] w fun e w' => e = .returned (.tuple #[]) ∧ Over7 w' b RdT ∧ Led w' gl LedT (backL hb page L).1 (backL hb page L).2.1 (backL hb page L).2.2 ∧ Touch (fun x => x = gl ∨ x = b) w w' := by
  have C := Lib.hid (hold_end b gl page hb RdT d pv dv ct ov L w hO h hF hne)
  clear hO h hF
  go_enter Tryd.func51, Tryd.ntmps51
  go_wp2_with fail
  refine C.out.mono ?_
  rintro e w1 ⟨rfl, hO1, hL1, hT1⟩
  have c0 := hO1.c0
  have c1 := hO1.c1
  have c2 := hO1.c2
  have c3 := hO1.c3
  have c4 := hO1.c4
  have c5 := hO1.c5
  have c6 := hO1.c6
  have f0 := hO1.fr 0
  have f1 := hO1.fr 1
  have f2 := hO1.fr 2
  have f3 := hO1.fr 3
  have f4 := hO1.fr 4
  have f5 := hO1.fr 5
  have f6 := hO1.fr 6
  have HO1 := Lib.hid hO1
  have HL1 := Lib.hid hL1
  have HT1 := Lib.hid hT1
  clear hO1 hL1 hT1
  go_wp2_with fail
  go_end0
  exact ⟨rfl, over_of HO1.out, led7 HL1.out hne _ _ _ _ _ _ _, touch7 HT1.out (.inr rfl) _ _ _ _ _ _ _⟩
end Go.Proofs.YtbkiahnljklhpaaDoor
