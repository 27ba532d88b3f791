/- SixIs, ValByt, Boxed2, Boxes, KeyMark, KeySign. -/
import Derived.Deep.RegionWith
import Derived.IntWalk
import Derived.Deep.QuietTactic
import Derived.Test.YtpklnhmhbaakhaaDoorMk6
import Derived.Test.YtpklnhmhbaakhaaDoorMk7
import Derived.Test.YtpklnhmhbaakhaaDoorMk8
import Derived.Test.YtpklnhmhbaakhaaDoorMk5
import Derived.Test.YtpklnhmhbaakhaaDoorMk3
set_option maxRecDepth 100000
section
namespace Go.Proofs.YtpklnhmhbaakhaaDoor
open Go.RowKit
open Seal
def SixIs (W : World) (n : Nat) (c0 c1 c2 c3 c4 c5 : Value) : Prop := W.cell? ⟨n, 0, none⟩ = some c0 ∧ W.cell? ⟨n, 1, none⟩ = some c1 ∧ W.cell? ⟨n, 2, none⟩ = some c2 ∧ W.cell? ⟨n, 3, none⟩ = some c3 ∧ W.cell? ⟨n, 4, none⟩ = some c4 ∧ W.cell? ⟨n, 5, none⟩ = some c5
theorem SixIs.keep {W W' : World} {n : Nat} {c0 c1 c2 c3 c4 c5 : Value} (h : SixIs W n c0 c1 c2 c3 c4 c5) (hb : Below W.heap.size W W') : SixIs W' n c0 c1 c2 c3 c4 c5 := by
  obtain ⟨h0, h1, h2, h3, h4, h5⟩ := h
  exact ⟨cell_keep hb h0, cell_keep hb h1, cell_keep hb h2, cell_keep hb h3, cell_keep hb h4, cell_keep hb h5⟩
theorem SixIs.new (w : World) (c0 c1 c2 c3 c4 c5 : Value) (t : TypeId) : SixIs (w.alloc (.cells #[c0, c1, c2, c3, c4, c5] t)) w.heap.size c0 c1 c2 c3 c4 c5 := by
  have e := heap_alloc_new w (.cells #[c0, c1, c2, c3, c4, c5] t)
  exact ⟨(cell_of_row _ _ 0 _ _ _ e).trans rfl, (cell_of_row _ _ 1 _ _ _ e).trans rfl, (cell_of_row _ _ 2 _ _ _ e).trans rfl, (cell_of_row _ _ 3 _ _ _ e).trans rfl, (cell_of_row _ _ 4 _ _ _ e).trans rfl, (cell_of_row _ _ 5 _ _ _ e).trans rfl⟩
end Go.Proofs.YtpklnhmhbaakhaaDoor
end
section
namespace Go.Proofs.YtpklnhmhbaakhaaDoor
open Go.RowKit
open Seal
open Bson (Val)
theorem VIn.byt {w : World} {Q : Nat → Prop} {h : Nat} {x : Val} {k n : Int} {s : ByteArray} {ba fa la : Option Addr} {bn bc fn fc ln lc : Nat} (hv : VIn w Q (h + 1) x (.agg #[.int .i64 k, .int .i64 n, .string s, .slice ba bn bc, .slice fa fn fc, .slice la ln lc])) : Oct x.b ∧ SliceIs w ba x.b := by
  obtain ⟨ba', fa', la', bc', fc', lc', e, hL, _, _, _, hB, _⟩ := hv
  unfold agg at e
  injection e with e; injection e with e; injection e with _ e; injection e with _ e; injection e with _ e; injection e with e3 _
  injection e3 with e3 _ _
  subst e3
  refine ⟨hL.o, ?_⟩
  rcases hB with h | ⟨g, o, e, _, h⟩
  · exact .inl h
  · exact .inr ⟨g, o, e, h⟩
end Go.Proofs.YtpklnhmhbaakhaaDoor
end
section
namespace Go.Proofs.YtpklnhmhbaakhaaDoor
open Go.RowKit
open Seal
open Bson (Val)
/-- Two boxes were laid behind w, and since then nothing has turned of them or of what is older. -/
def Boxed2 (w : World) (ca cb : Array Value) (t : TypeId) (wr : World) : Prop := Below (w.heap.size + 2) ((w.alloc (.cells ca t)).alloc (.cells cb t)) wr
section
variable {w wr w' : World} {ca cb : Array Value} {t : TypeId}
theorem Boxed2.refl (w : World) (ca cb : Array Value) (t : TypeId) : Boxed2 w ca cb t ((w.alloc (.cells ca t)).alloc (.cells cb t)) := Below.refl _ _
theorem Boxed2.one (h : Boxed2 w ca cb t wr) (j : Nat) : wr.cell? ⟨w.heap.size, j, none⟩ = ca[j]? := by
  refine (Below.cell h (p := ⟨w.heap.size, j, none⟩) (by show w.heap.size < _; omega)).trans ?_
  refine (cell_of_row _ _ j ca t (0, 0) ?_)
  rw [Below.heap_alloc _ _ _ (by simp)]
  exact heap_alloc_new w _
theorem Boxed2.two (h : Boxed2 w ca cb t wr) (j : Nat) : wr.cell? ⟨w.heap.size + 1, j, none⟩ = cb[j]? := by
  refine (Below.cell h (p := ⟨w.heap.size + 1, j, none⟩) (by show w.heap.size + 1 < _; omega)).trans ?_
  refine (cell_of_row _ _ j cb t (0, 0) ?_)
  have := heap_alloc_new (w.alloc (.cells ca t)) (.cells cb t)
  simpa using this
theorem Boxed2.size (h : Boxed2 w ca cb t wr) : w.heap.size + 2 ≤ wr.heap.size := by have := Below.size h; simpa using this
theorem Boxed2.below (h : Boxed2 w ca cb t wr) : Below w.heap.size w wr := (((Below.refl _ w).alloc (Nat.le_refl _) _).alloc (by simp) _).trans (Below.mono h (by simp))
theorem Boxed2.step (h : Boxed2 w ca cb t wr) (hb : Below wr.heap.size wr w') : Boxed2 w ca cb t w' := Below.trans h (hb.mono h.size)
end
end Go.Proofs.YtpklnhmhbaakhaaDoor
end
section
namespace Go.Proofs.YtpklnhmhbaakhaaDoor
open Go.RowKit
open Seal
open Bson (Val)
def IsBox (W : World) (n : Nat) (c0 c1 c2 c3 c4 c5 : Value) : Prop := W.heap[n]? = some (.cells #[c0, c1, c2, c3, c4, c5] 27 (0, 0))
section
variable {W W' : World} {n : Nat} {c0 c1 c2 c3 c4 c5 : Value}
theorem IsBox.lt (h : IsBox W n c0 c1 c2 c3 c4 c5) : n < W.heap.size := (Array.getElem?_eq_some_iff.1 h).1
theorem IsBox.cells (h : IsBox W n c0 c1 c2 c3 c4 c5) : W.cell? ⟨n, 0, none⟩ = some c0 ∧ W.cell? ⟨n, 1, none⟩ = some c1 ∧ W.cell? ⟨n, 2, none⟩ = some c2 ∧ W.cell? ⟨n, 3, none⟩ = some c3 ∧ W.cell? ⟨n, 4, none⟩ = some c4 ∧ W.cell? ⟨n, 5, none⟩ = some c5 :=
  ⟨(cell_of_row W _ 0 _ _ _ h).trans rfl, (cell_of_row W _ 1 _ _ _ h).trans rfl, (cell_of_row W _ 2 _ _ _ h).trans rfl, (cell_of_row W _ 3 _ _ _ h).trans rfl, (cell_of_row W _ 4 _ _ _ h).trans rfl, (cell_of_row W _ 5 _ _ _ h).trans rfl⟩
theorem IsBox.thaw (h : IsBox W n c0 c1 c2 c3 c4 c5) : W.frozen? ⟨n, 0, none⟩ = false ∧ W.frozen? ⟨n, 1, none⟩ = false ∧ W.frozen? ⟨n, 2, none⟩ = false ∧ W.frozen? ⟨n, 3, none⟩ = false ∧ W.frozen? ⟨n, 4, none⟩ = false ∧ W.frozen? ⟨n, 5, none⟩ = false :=
  ⟨frozen_of_row W _ 0 _ _ h, frozen_of_row W _ 1 _ _ h, frozen_of_row W _ 2 _ _ h, frozen_of_row W _ 3 _ _ h, frozen_of_row W _ 4 _ _ h, frozen_of_row W _ 5 _ _ h⟩
theorem IsBox.keep (h : IsBox W n c0 c1 c2 c3 c4 c5) (hb : Below W.heap.size W W') : IsBox W' n c0 c1 c2 c3 c4 c5 := (hb.block _ h.lt).trans h
theorem IsBox.new (w : World) (c0 c1 c2 c3 c4 c5 : Value) : IsBox (w.alloc (.cells #[c0, c1, c2, c3, c4, c5] 27)) w.heap.size c0 c1 c2 c3 c4 c5 := heap_alloc_new w _
theorem IsBox.new2 (w : World) (o : Obj) (c0 c1 c2 c3 c4 c5 : Value) : IsBox ((w.alloc o).alloc (.cells #[c0, c1, c2, c3, c4, c5] 27)) (w.heap.size + 1) c0 c1 c2 c3 c4 c5 := by
  have := IsBox.new (w.alloc o) c0 c1 c2 c3 c4 c5
  simpa using this
theorem IsBox.other (h : IsBox W n c0 c1 c2 c3 c4 c5) {m : Nat} (hm : n ≠ m) (o : Nat) (vs : List Value) : IsBox (puts W m o vs) n c0 c1 c2 c3 c4 c5 := (puts_other m n hm vs W o).trans h
theorem IsBox.put (h : IsBox W n c0 c1 c2 c3 c4 c5) (d0 d1 d2 d3 d4 d5 : Value) : IsBox (puts W n 0 [d0, d1, d2, d3, d4, d5]) n d0 d1 d2 d3 d4 d5 := by
  obtain ⟨ds, h1, h2, _, _, h3⟩ := puts_same n 27 [d0, d1, d2, d3, d4, d5] W 0 _ h
  have e : ds = #[d0, d1, d2, d3, d4, d5] := by
    apply Array.ext_getElem?
    intro j
    by_cases hj : j < 6
    · have := h3 (by simp) j (by simpa using hj)
      rw [Nat.zero_add] at this
      rw [this]
      match j, hj with | 0, _ => rfl | 1, _ => rfl | 2, _ => rfl | 3, _ => rfl | 4, _ => rfl | 5, _ => rfl
    · rw [Array.getElem?_eq_none (by rw [h2]; simp; omega), Array.getElem?_eq_none (by simp; omega)]
  unfold IsBox
  rw [h1, e]
end
end Go.Proofs.YtpklnhmhbaakhaaDoor
end
section
namespace Go.Proofs.YtpklnhmhbaakhaaDoor
open Go.RowKit
open Seal
open Bson (Val)
theorem infoByte : (Tryd.prog.info? 5).map (fun i => (i.zero, i.size, i.bytes)) = some (some (.int .u8 0), 1, 1) := by kernel_rfl
/-- What a pen's operation leaves. -/
def PenPost (w : World) (gp base : Nat) (l add : List Nat) (v : Value) (e : Ending) (w' : World) : Prop := e = .returned (.tuple #[]) ∧ ∃ v', Pen w' gp base (l ++ add) v' ∧ PMv gp w w' v v'
/-- A byte that was just made is appended to the row. -/
theorem Pen.byte {w w1 : World} {gp base : Nat} {l : List Nat} {v : Value} (h : Pen w gp base l v) (hb : Below w.heap.size w w1) (b : Nat) (hbb : b < 256) (hl : l.length ≤ 2147483648) :
    ∃ v' w', (∀ ty, (Builtin.append_ #[23, 23] ty #[v, .slice (some ⟨w1.heap.size, 0, none⟩) 1 1]).run Tryd.prog (w1.alloc (.cells #[.int .u8 (b : Int)] 5)) = .ok v' w') ∧ w'.cell? ⟨gp, 0, none⟩ = some v ∧ w'.frozen? ⟨gp, 0, none⟩ = false ∧
      Pen (w'.setCell ⟨gp, 0, none⟩ v') gp base (l ++ [b]) v' ∧ PMv gp w (w'.setCell ⟨gp, 0, none⟩ v') v v' := by
  obtain ⟨i0, hi, hz0, hz1, hz2⟩ := info_parts infoByte
  have hb2 : Below w.heap.size w (w1.alloc (.cells #[.int .u8 (b : Int)] 5)) := hb.alloc hb.size _
  have h2 := h.keep hb2
  have hn : ∀ j u, ([.int .u8 (b : Int)] : List Value)[j]? = some u → (w1.alloc (.cells #[.int .u8 (b : Int)] 5)).cell? (Addr.add ⟨w1.heap.size, 0, none⟩ j) = some u := by
    intro j u hj
    cases j with
    | zero => simp at hj; subst hj; exact (cell_of_row _ _ 0 _ _ _ (heap_alloc_new w1 _)).trans rfl
    | succ j => simp at hj
  obtain ⟨v', w', hr, hown, hlies⟩ := run_append_sz (P := Tryd.prog) (w1.alloc (.cells #[.int .u8 (b : Int)] 5)) base 23 23 5 i0 (.int .u8 0) 1 1 Tryd.underlying23 hi hz0 hz1 hz2 rfl v l.length (u8s l) h2.own ⟨w1.heap.size, 0, none⟩ 1 1 [.int .u8 (b : Int)] rfl (by decide) (by decide) hn (by intro u hu; simp at hu; subst hu; rfl) (by unfold maxLen; omega) (by omega) h2.size
  have hw := Wrote.of_lies hlies
  have hown' : w'.ownsRow base 5 1 v' (l.length + 1) (u8s (l ++ [b])) := by
    have e : u8s (l ++ [b]) = u8s l ++ [.int .u8 (b : Int)] := by unfold u8s; rw [List.map_append]; rfl
    rw [e]; exact hown
  obtain ⟨p1, p2⟩ := h2.app hw hown' (by intro c hc; rw [List.mem_singleton.1 hc]; exact hbb)
  obtain ⟨c1, c2⟩ := h2.wrote hw
  exact ⟨v', w', fun ty => (show _ = _ from hr), c1, c2, p1, (PMv.of_below v hb2).trans p2⟩
set_option maxRecDepth 100000 in
set_option maxHeartbeats 1000000 in
theorem mark_any (w : World) (gp base : Nat) (l : List Nat) (v : Value) (k : Int) (hP : Pen w gp base l v) (hl : l.length ≤ 2147483648) :
    Calls Tryd.prog 55 #[.pointer (some ⟨gp, 0, none⟩), .int .i64 k] w (PenPost w gp base l [Key.markB k] v) := by
  have hd : Below w.heap.size w w.drew := (Below.refl _ w).drew
  obtain ⟨v', w', hr, c1, c2, p1, p2⟩ := hP.byte hd (Key.markB k) (Key.mark_lt k) hl
  have c0 := hP.c0
  have HE := Lib.hid (And.intro p1 p2)
  have hcl : -1 ≤ Order.cls k ∧ Order.cls k ≤ 11 := by unfold Order.cls; split <;> (try split) <;> omega
  have hm : (Key.markB k : Int) = 2 + Order.cls k := by unfold Key.markB; omega
  have HC := Lib.hid (class_any k)
  obtain ⟨a, c, hv⟩ := hP.shape
  obtain ⟨a2, c3, hv2⟩ := p1.shape
  rw [List.length_append, List.length_singleton] at hv2
  have c9 : (w.alloc (.cells #[.int .u8 (Key.markB k : Int)] 5)).cell? ⟨gp, 0, none⟩ = some v := cell_keep ((Below.refl _ w).alloc (Nat.le_refl _) _) c0
  rw [hm] at hr c9
  generalize Order.cls k = z at *
  generalize l.length = n at *
  subst hv
  subst hv2
  have hz1 : IntKind.i64.wrap (2 + z) = 2 + z := IntWalk.i64_in _ (by omega)
  have hz2 : IntKind.u8.wrap (2 + z) = 2 + z := by rw [IntKind.wrap_u8]; omega
  have hrd := hr 23
  clear hP p1 p2 hm hcl hl hr hd
  go_enter Tryd.func55, Tryd.ntmps55
  go_wp2_with fail
  refine wp_region_held_drew (S := fun _ => True) (by kernel_rfl) trivial (fun hHeld => ?_)
  refine wpAnyH_take (i := 0) (v := ?_) rfl (by kernel_rfl) (by kernel_rfl) (by kernel_rfl) (fun _ _ _ h => h) (Or.inl ⟨by kernel_rfl, ?_⟩) (by assumption) ?_
  rotate_left
  · intro wS hSw
    go_simp
    try (with_reducible rfl)
  try simp only [List.getElem_toArray, List.getElem_cons_zero, Act.put, List.setIfInBounds_toArray, List.set_cons_zero, List.set_cons_succ]
  refine wpAnyH_take (i := 1) (v := ?_) rfl (by kernel_rfl) (by kernel_rfl) (by kernel_rfl) (fun _ _ _ h => h) (Or.inl ⟨by kernel_rfl, ?_⟩) (by assumption) ?_
  rotate_left
  · intro wS hSw
    go_simp
    try (with_reducible rfl)
  try simp only [List.getElem_toArray, List.getElem_cons_succ, List.getElem_cons_zero, Act.put, List.setIfInBounds_toArray, List.set_cons_zero, List.set_cons_succ]
  refine wpAnyH_take (i := 2) (v := ?_) rfl (by kernel_rfl) (by kernel_rfl) (by kernel_rfl) (fun _ _ _ h => h) (Or.inl ⟨by kernel_rfl, ?_⟩) (by assumption) ?_
  rotate_left
  · intro wS hSw
    go_simp
    try (with_reducible rfl)
  try simp only [List.getElem_toArray, List.getElem_cons_succ, List.getElem_cons_zero, Act.put, List.setIfInBounds_toArray, List.set_cons_zero, List.set_cons_succ]
  refine wpAnyH_take (i := 3) (v := ?_) rfl (by kernel_rfl) (by kernel_rfl) (by kernel_rfl) (fun _ _ _ h => h) (Or.inl ⟨by kernel_rfl, ?_⟩) (by assumption) ?_
  rotate_left
  · intro wS hSw
    go_simp
    try (with_reducible rfl)
  try simp only [List.getElem_toArray, List.getElem_cons_succ, List.getElem_cons_zero, Act.put, List.setIfInBounds_toArray, List.set_cons_zero, List.set_cons_succ]
  refine wpAnyH_take (i := 5) (v := ?_) rfl (by kernel_rfl) (by kernel_rfl) (by kernel_rfl) (fun _ _ _ h => h) (Or.inl ⟨by kernel_rfl, ?_⟩) (by assumption) ?_
  rotate_left
  · intro wS hSw
    go_simp
    try (with_reducible rfl)
  try simp only [List.getElem_toArray, List.getElem_cons_succ, List.getElem_cons_zero, Act.put, List.setIfInBounds_toArray, List.set_cons_zero, List.set_cons_succ]
  refine wpAnyH_ready (rs := [4, 6]) (by kernel_rfl) (by simp) ?_
  refine AllReadyH.cons rfl (fun K hK => ?_) (AllReadyH.cons rfl (fun K hK => ?_) AllReadyH.nil)
  · go_simp
    refine hK.out _ _ trivial (fun hHeld => ?_)
    clear hK K
    try simp only [List.getElem_toArray, List.getElem_cons_succ, List.getElem_cons_zero, Act.put, List.setIfInBounds_toArray, List.set_cons_zero, List.set_cons_succ]
    refine wpAnyH_ready (rs := [6]) (by kernel_rfl) (by simp) ?_
    refine AllReadyH.cons rfl (fun K hK => ?_) AllReadyH.nil
    go_simp
    go_at_call 65
    refine (HC.out _).mono ?_
    rintro e wx ⟨rfl, rfl⟩
    refine hK.out _ _ trivial (fun hHeld => ?_)
    clear hK K
    try simp only [List.getElem_toArray, List.getElem_cons_succ, List.getElem_cons_zero, Act.put, List.setIfInBounds_toArray, List.set_cons_zero, List.set_cons_succ]
    refine wpAnyH_take (i := 7) (v := ?_) rfl (by kernel_rfl) (by kernel_rfl) (by kernel_rfl) (fun _ _ _ h => h) (Or.inl ⟨by kernel_rfl, ?_⟩) (by assumption) ?_
    rotate_left
    · intro wS hSw
      go_simp
      try (with_reducible rfl)
    try simp only [List.getElem_toArray, List.getElem_cons_succ, List.getElem_cons_zero, Act.put, List.setIfInBounds_toArray, List.set_cons_zero, List.set_cons_succ]
    refine wpAnyH_take (i := 8) (v := ?_) rfl (by kernel_rfl) (by kernel_rfl) (by kernel_rfl) (fun _ _ _ h => h) (Or.inl ⟨by kernel_rfl, ?_⟩) (by assumption) ?_
    rotate_left
    · intro wS hSw
      go_simp
      try (with_reducible rfl)
    try simp only [List.getElem_toArray, List.getElem_cons_succ, List.getElem_cons_zero, Act.put, List.setIfInBounds_toArray, List.set_cons_zero, List.set_cons_succ]
    refine wpAnyH_ready (rs := [9]) (by kernel_rfl) (by simp) ?_
    refine AllReadyH.cons rfl (fun K hK => ?_) AllReadyH.nil
    go_simp
    refine hK.out _ _ trivial (fun hHeld => ?_)
    clear hK K
    try simp only [List.getElem_toArray, List.getElem_cons_succ, List.getElem_cons_zero, Act.put, List.setIfInBounds_toArray, List.set_cons_zero, List.set_cons_succ]
    refine wpAnyH_ready (rs := [10]) (by kernel_rfl) (by simp) ?_
    refine AllReadyH.cons rfl (fun K hK => ?_) AllReadyH.nil
    refine step_run_append rfl (.tmp 8) (.tmp 13) 23 23 rfl _ _ _ w' rfl rfl hrd ?_
    refine hK.out _ _ trivial (fun hHeld => ?_)
    clear hK K
    try simp only [List.getElem_toArray, List.getElem_cons_succ, List.getElem_cons_zero, Act.put, List.setIfInBounds_toArray, List.set_cons_zero, List.set_cons_succ]
    refine wpAnyH_take (i := 11) (v := ?_) rfl (by kernel_rfl) (by kernel_rfl) (by kernel_rfl) (fun _ _ _ h => h) (Or.inl ⟨by kernel_rfl, ?_⟩) (by assumption) ?_
    rotate_left
    · intro wS hSw
      go_simp
      try (with_reducible rfl)
    try simp only [List.getElem_toArray, List.getElem_cons_succ, List.getElem_cons_zero, Act.put, List.setIfInBounds_toArray, List.set_cons_zero, List.set_cons_succ]
    refine wpAnyH_take (i := 12) (v := ?_) rfl (by kernel_rfl) (by kernel_rfl) (by kernel_rfl) (fun _ _ _ h => h) (Or.inl ⟨by kernel_rfl, ?_⟩) (by assumption) ?_
    rotate_left
    · intro wS hSw
      go_simp
      try (with_reducible rfl)
    try simp only [List.getElem_toArray, List.getElem_cons_succ, List.getElem_cons_zero, Act.put, List.setIfInBounds_toArray, List.set_cons_zero, List.set_cons_succ]
    refine wpAnyH_ready (rs := [13]) (by kernel_rfl) (by simp) ?_
    refine AllReadyH.cons rfl (fun K hK => ?_) AllReadyH.nil
    go_simp
    refine hK.out _ _ trivial (fun hHeld => ?_)
    clear hK K
    try simp only [List.getElem_toArray, List.getElem_cons_succ, List.getElem_cons_zero, Act.put, List.setIfInBounds_toArray, List.set_cons_zero, List.set_cons_succ]
    refine wpAnyH_done (by kernel_rfl) ?_ _
    go_wp2_with fail
    exact bodyPost_ret (results_none Tryd.results55 _ _ _) rfl ⟨rfl, _, HE.out.1, HE.out.2⟩
  · go_simp
    go_at_call 65
    refine (HC.out _).mono ?_
    rintro e wx ⟨rfl, rfl⟩
    refine hK.out _ _ trivial (fun hHeld => ?_)
    clear hK K
    try simp only [List.getElem_toArray, List.getElem_cons_succ, List.getElem_cons_zero, Act.put, List.setIfInBounds_toArray, List.set_cons_zero, List.set_cons_succ]
    refine wpAnyH_take (i := 7) (v := ?_) rfl (by kernel_rfl) (by kernel_rfl) (by kernel_rfl) (fun _ _ _ h => h) (Or.inl ⟨by kernel_rfl, ?_⟩) (by assumption) ?_
    rotate_left
    · intro wS hSw
      go_simp
      try (with_reducible rfl)
    try simp only [List.getElem_toArray, List.getElem_cons_succ, List.getElem_cons_zero, Act.put, List.setIfInBounds_toArray, List.set_cons_zero, List.set_cons_succ]
    refine wpAnyH_take (i := 8) (v := ?_) rfl (by kernel_rfl) (by kernel_rfl) (by kernel_rfl) (fun _ _ _ h => h) (Or.inl ⟨by kernel_rfl, ?_⟩) (by assumption) ?_
    rotate_left
    · intro wS hSw
      go_simp
      try (with_reducible rfl)
    try simp only [List.getElem_toArray, List.getElem_cons_succ, List.getElem_cons_zero, Act.put, List.setIfInBounds_toArray, List.set_cons_zero, List.set_cons_succ]
    refine wpAnyH_ready (rs := [4, 9]) (by kernel_rfl) (by simp) ?_
    refine AllReadyH.cons rfl (fun K hK => ?_) (AllReadyH.cons rfl (fun K hK => ?_) AllReadyH.nil)
    · go_simp
      refine hK.out _ _ trivial (fun hHeld => ?_)
      clear hK K
      try simp only [List.getElem_toArray, List.getElem_cons_succ, List.getElem_cons_zero, Act.put, List.setIfInBounds_toArray, List.set_cons_zero, List.set_cons_succ]
      refine wpAnyH_ready (rs := [9]) (by kernel_rfl) (by simp) ?_
      refine AllReadyH.cons rfl (fun K hK => ?_) AllReadyH.nil
      go_simp
      refine hK.out _ _ trivial (fun hHeld => ?_)
      clear hK K
      try simp only [List.getElem_toArray, List.getElem_cons_succ, List.getElem_cons_zero, Act.put, List.setIfInBounds_toArray, List.set_cons_zero, List.set_cons_succ]
      refine wpAnyH_ready (rs := [10]) (by kernel_rfl) (by simp) ?_
      refine AllReadyH.cons rfl (fun K hK => ?_) AllReadyH.nil
      refine step_run_append rfl (.tmp 8) (.tmp 13) 23 23 rfl _ _ _ w' rfl rfl hrd ?_
      refine hK.out _ _ trivial (fun hHeld => ?_)
      clear hK K
      try simp only [List.getElem_toArray, List.getElem_cons_succ, List.getElem_cons_zero, Act.put, List.setIfInBounds_toArray, List.set_cons_zero, List.set_cons_succ]
      refine wpAnyH_take (i := 11) (v := ?_) rfl (by kernel_rfl) (by kernel_rfl) (by kernel_rfl) (fun _ _ _ h => h) (Or.inl ⟨by kernel_rfl, ?_⟩) (by assumption) ?_
      rotate_left
      · intro wS hSw
        go_simp
        try (with_reducible rfl)
      try simp only [List.getElem_toArray, List.getElem_cons_succ, List.getElem_cons_zero, Act.put, List.setIfInBounds_toArray, List.set_cons_zero, List.set_cons_succ]
      refine wpAnyH_take (i := 12) (v := ?_) rfl (by kernel_rfl) (by kernel_rfl) (by kernel_rfl) (fun _ _ _ h => h) (Or.inl ⟨by kernel_rfl, ?_⟩) (by assumption) ?_
      rotate_left
      · intro wS hSw
        go_simp
        try (with_reducible rfl)
      try simp only [List.getElem_toArray, List.getElem_cons_succ, List.getElem_cons_zero, Act.put, List.setIfInBounds_toArray, List.set_cons_zero, List.set_cons_succ]
      refine wpAnyH_ready (rs := [13]) (by kernel_rfl) (by simp) ?_
      refine AllReadyH.cons rfl (fun K hK => ?_) AllReadyH.nil
      go_simp
      refine hK.out _ _ trivial (fun hHeld => ?_)
      clear hK K
      try simp only [List.getElem_toArray, List.getElem_cons_succ, List.getElem_cons_zero, Act.put, List.setIfInBounds_toArray, List.set_cons_zero, List.set_cons_succ]
      refine wpAnyH_done (by kernel_rfl) ?_ _
      go_wp2_with fail
      exact bodyPost_ret (results_none Tryd.results55 _ _ _) rfl ⟨rfl, _, HE.out.1, HE.out.2⟩
    · go_simp
      refine hK.out _ _ trivial (fun hHeld => ?_)
      clear hK K
      try simp only [List.getElem_toArray, List.getElem_cons_succ, List.getElem_cons_zero, Act.put, List.setIfInBounds_toArray, List.set_cons_zero, List.set_cons_succ]
      refine wpAnyH_ready (rs := [4]) (by kernel_rfl) (by simp) ?_
      refine AllReadyH.cons rfl (fun K hK => ?_) AllReadyH.nil
      go_simp
      refine hK.out _ _ trivial (fun hHeld => ?_)
      clear hK K
      try simp only [List.getElem_toArray, List.getElem_cons_succ, List.getElem_cons_zero, Act.put, List.setIfInBounds_toArray, List.set_cons_zero, List.set_cons_succ]
      refine wpAnyH_ready (rs := [10]) (by kernel_rfl) (by simp) ?_
      refine AllReadyH.cons rfl (fun K hK => ?_) AllReadyH.nil
      refine step_run_append rfl (.tmp 8) (.tmp 13) 23 23 rfl _ _ _ w' rfl rfl hrd ?_
      refine hK.out _ _ trivial (fun hHeld => ?_)
      clear hK K
      try simp only [List.getElem_toArray, List.getElem_cons_succ, List.getElem_cons_zero, Act.put, List.setIfInBounds_toArray, List.set_cons_zero, List.set_cons_succ]
      refine wpAnyH_take (i := 11) (v := ?_) rfl (by kernel_rfl) (by kernel_rfl) (by kernel_rfl) (fun _ _ _ h => h) (Or.inl ⟨by kernel_rfl, ?_⟩) (by assumption) ?_
      rotate_left
      · intro wS hSw
        go_simp
        try (with_reducible rfl)
      try simp only [List.getElem_toArray, List.getElem_cons_succ, List.getElem_cons_zero, Act.put, List.setIfInBounds_toArray, List.set_cons_zero, List.set_cons_succ]
      refine wpAnyH_take (i := 12) (v := ?_) rfl (by kernel_rfl) (by kernel_rfl) (by kernel_rfl) (fun _ _ _ h => h) (Or.inl ⟨by kernel_rfl, ?_⟩) (by assumption) ?_
      rotate_left
      · intro wS hSw
        go_simp
        try (with_reducible rfl)
      try simp only [List.getElem_toArray, List.getElem_cons_succ, List.getElem_cons_zero, Act.put, List.setIfInBounds_toArray, List.set_cons_zero, List.set_cons_succ]
      refine wpAnyH_ready (rs := [13]) (by kernel_rfl) (by simp) ?_
      refine AllReadyH.cons rfl (fun K hK => ?_) AllReadyH.nil
      go_simp
      refine hK.out _ _ trivial (fun hHeld => ?_)
      clear hK K
      try simp only [List.getElem_toArray, List.getElem_cons_succ, List.getElem_cons_zero, Act.put, List.setIfInBounds_toArray, List.set_cons_zero, List.set_cons_succ]
      refine wpAnyH_done (by kernel_rfl) ?_ _
      go_wp2_with fail
      exact bodyPost_ret (results_none Tryd.results55 _ _ _) rfl ⟨rfl, _, HE.out.1, HE.out.2⟩
end Go.Proofs.YtpklnhmhbaakhaaDoor
end
section
namespace Go.Proofs.YtpklnhmhbaakhaaDoor
open Go.RowKit
open Seal
def SGo (a b : List Nat) (k : Nat) : Prop := Order.octs a b = Order.lex Order.oct (a.drop k) (b.drop k)
theorem SGo.next {a b : List Nat} {k : Nat} (h : SGo a b k) (ha : k < a.length) (hb : k < b.length) (e : a.getD k 0 = b.getD k 0) : SGo a b (k + 1) := by
  unfold SGo at h ⊢
  rw [h]
  refine Order.lex_step ha hb ?_
  rw [List.getD_eq_getElem?_getD, List.getD_eq_getElem?_getD, List.getElem?_eq_getElem ha, List.getElem?_eq_getElem hb] at e
  simp only [Option.getD_some] at e
  rw [e]
  exact Order.sgn_self _
theorem SGo.here {a b : List Nat} {k : Nat} (h : SGo a b k) (ha : k < a.length) (hb : k < b.length) (e : ¬ a.getD k 0 = b.getD k 0) : Order.octs a b = Order.sgn (a.getD k 0 : Nat) (b.getD k 0 : Nat) := by
  unfold SGo at h
  rw [h]
  rw [List.getD_eq_getElem?_getD, List.getD_eq_getElem?_getD, List.getElem?_eq_getElem ha, List.getElem?_eq_getElem hb] at e ⊢
  simp only [Option.getD_some] at e ⊢
  refine (Order.lex_here ha hb ?_).trans rfl
  intro e2
  have := Order.sgn_zero.1 e2
  omega
theorem SGo.last {a b : List Nat} {k : Nat} (h : SGo a b k) (ha : k ≤ a.length) (hb : k ≤ b.length) (e : ¬ (k < a.length ∧ k < b.length)) : Order.octs a b = Order.sgn a.length b.length := by
  unfold SGo at h
  rw [h, Order.lex_end ha hb (by omega)]
theorem getD_256' {l : List Nat} (ho : Oct l) (k : Nat) : l.getD k 0 < 256 := by
  by_cases h : k < l.length
  · rw [List.getD_eq_getElem?_getD, List.getElem?_eq_getElem h]; exact ho _ (List.getElem_mem h)
  · rw [List.getD_eq_getElem?_getD, List.getElem?_eq_none (by omega)]; decide
set_option maxRecDepth 100000 in
set_option maxHeartbeats 4000000 in
theorem sign_key (w : World) (a b : Option Addr) (n c m d : Nat) (l l2 : List Nat) (hn : l.length = n) (hm : l2.length = m) (h1 : SliceIs w a l) (h2 : SliceIs w b l2) (hnb : n ≤ 140737488355328) (_ : m ≤ 140737488355328) :
    Calls Tryd.prog 25 #[.slice a n c, .slice b m d] w fun e w' => e = .returned (.int .i64 (Order.octs l l2)) ∧ ∃ q, w' = w.drewN q := by
  have HN := Lib.hid hn
  have HM := Lib.hid hm
  have HA := Lib.hid h1
  have HB := Lib.hid h2
  clear hn hm h1 h2
  go_enter Tryd.func25, Tryd.ntmps25
  go_wp2_with fail
  go_loopw [5] (fun i wr => ∃ k : Nat, i = .int .i64 k ∧ k ≤ n ∧ k ≤ m ∧ Hid (SGo l l2 k) ∧ Hid (∃ q, wr = w.drewN q)) (fun i _ => n - (intOf i).toNat)
  case atStart => exact ⟨0, rfl, Nat.zero_le _, Nat.zero_le _, rfl, ⟨0, rfl⟩⟩
  case round =>
    obtain ⟨k, rfl, hk, hk2, HT, HQ⟩ := hrel
    have hend : ¬ (k < n ∧ k < m) → Order.octs l l2 = Order.sgn n m := fun e => by
      have := HT.out.last (by rw [HN.out]; exact hk) (by rw [HM.out]; exact hk2) (by rw [HN.out, HM.out]; exact e)
      rw [this, HN.out, HM.out]
    have HEND := Lib.hid hend
    clear hend
    by_cases hka : k < n
    · by_cases hkb : k < m
      · have hka' : k < l.length := by rw [HN.out]; exact hka
        have hkb' : k < l2.length := by rw [HM.out]; exact hkb
        obtain ⟨g, o, hga, hr⟩ := HA.out.resolve_left (fun e => by rw [e] at hka'; cases hka')
        obtain ⟨g2, o2, hga2, hr2⟩ := HB.out.resolve_left (fun e => by rw [e] at hkb'; cases hkb')
        subst hga
        subst hga2
        have hc : wr.cell? ⟨g, o + k, none⟩ = some (.int .u8 ((l.getD k 0 : Nat) : Int)) := by obtain ⟨q, hq⟩ := HQ.out; rw [hq]; exact (hr.drewN q) k hka'
        have hc2 : wr.cell? ⟨g2, o2 + k, none⟩ = some (.int .u8 ((l2.getD k 0 : Nat) : Int)) := by obtain ⟨q, hq⟩ := HQ.out; rw [hq]; exact (hr2.drewN q) k hkb'
        by_cases e : l.getD k 0 = l2.getD k 0
        · have HNX := Lib.hid (HT.out.next hka' hkb' e)
          have he : (((l.getD k 0 : Nat) : Int) != ((l2.getD k 0 : Nat) : Int)) = false := by rw [bne_eq_false_iff_eq, e]
          generalize l.getD k 0 = x at *
          generalize l2.getD k 0 = y at *
          have hsub : IntKind.i64.wrap ((k : Int) + 1) = (k : Int) + 1 := IntWalk.i64_in _ (by omega)
          clear e hr hr2 hka' hkb'
          go_wp2_with fail
          go_quiet (fail)
          go_wp2_with fail
          go_roundw
          case rel => exact ⟨k + 1, by go_num, by omega, by omega, HNX, by obtain ⟨q, hq⟩ := HQ.out; exact ⟨_, by rw [hq, World.drewN_drewN]⟩⟩
          case measure => simp [intOf]; omega
        · have HNX := Lib.hid (HT.out.here hka' hkb' e)
          have he : (((l.getD k 0 : Nat) : Int) != ((l2.getD k 0 : Nat) : Int)) = true := by rw [bne_iff_ne]; omega
          generalize l.getD k 0 = x at *
          generalize l2.getD k 0 = y at *
          by_cases hlt : x < y
          · have HS : Hid (Order.sgn (x : Int) (y : Int) = -1) := Order.sgn_lt (by omega)
            have hd : decide ((x : Int) < (y : Int)) = true := decide_eq_true (by omega)
            clear e hr hr2 hka' hkb'
            go_wp2_with fail
            go_quiet (fail)
            go_wp2_with fail
            generalize hw1 : wr.drewN _ = w1
            have HW1 := Lib.hid hw1
            have hc' : w1.cell? ⟨g, o + k, none⟩ = some (.int .u8 (x : Int)) := by rw [← hw1, World.cell?_drewN]; exact hc
            have hc2' : w1.cell? ⟨g2, o2 + k, none⟩ = some (.int .u8 (y : Int)) := by rw [← hw1, World.cell?_drewN]; exact hc2
            clear hw1
            go_quiet (fail)
            go_wp2_with fail
            go_ret
            exact ⟨ret_i (by rw [HNX.out, HS.out]), by obtain ⟨q, hq⟩ := HQ.out; exact ⟨_, by rw [← HW1.out, hq, World.drewN_drewN, World.drewN_drewN]⟩⟩
          · have HS : Hid (Order.sgn (x : Int) (y : Int) = 1) := Order.sgn_gt (by omega)
            have hd : decide ((x : Int) < (y : Int)) = false := decide_eq_false (by omega)
            clear e hr hr2 hka' hkb'
            go_wp2_with fail
            go_quiet (fail)
            go_wp2_with fail
            generalize hw1 : wr.drewN _ = w1
            have HW1 := Lib.hid hw1
            have hc' : w1.cell? ⟨g, o + k, none⟩ = some (.int .u8 (x : Int)) := by rw [← hw1, World.cell?_drewN]; exact hc
            have hc2' : w1.cell? ⟨g2, o2 + k, none⟩ = some (.int .u8 (y : Int)) := by rw [← hw1, World.cell?_drewN]; exact hc2
            clear hw1
            go_quiet (fail)
            go_wp2_with fail
            go_ret
            exact ⟨ret_i (by rw [HNX.out, HS.out]), by obtain ⟨q, hq⟩ := HQ.out; exact ⟨_, by rw [← HW1.out, hq, World.drewN_drewN, World.drewN_drewN]⟩⟩
      · have HE := Lib.hid (HEND.out (by omega))
        have HS : Hid (Order.sgn (n : Int) (m : Int) = 1) := Order.sgn_gt (by omega)
        have hd : decide ((n : Int) < (m : Int)) = false := decide_eq_false (by omega)
        have hd2 : decide ((n : Int) > (m : Int)) = true := decide_eq_true (by omega)
        go_wp2_with fail
        go_ret
        exact ⟨ret_i (by rw [HE.out, HS.out]), HQ.out⟩
    · have HE := Lib.hid (HEND.out (by omega))
      by_cases hlt : n < m
      · have HS : Hid (Order.sgn (n : Int) (m : Int) = -1) := Order.sgn_lt (by omega)
        go_wp2_with fail
        go_ret
        exact ⟨ret_i (by rw [HE.out, HS.out]), HQ.out⟩
      · have HS : Hid (Order.sgn (n : Int) (m : Int) = 0) := by rw [show n = m by omega]; exact Order.sgn_self _
        go_wp2_with fail
        go_ret
        exact ⟨ret_i (by rw [HE.out, HS.out]), HQ.out⟩
end Go.Proofs.YtpklnhmhbaakhaaDoor
end
