/- A LEDGER IN MEMORY, AND THE WALKS OF ledger's FUNCTIONS. -/
import Derived.Test.YtbkiahnljklhpaaDoorLaw
import Derived.WalkLawsBesides
import Derived.Laws.Rows
import Derived.Laws.AppendOwn
import Derived.OwnWalk
import Derived.Lib.Hide
import Derived.RegionTactic
import Derived.StillTailTactics
import Derived.Deep.RegionWith
import Derived.Deep.QuietTactic
import Derived.BigQuiet
namespace Go.Proofs.YtbkiahnljklhpaaDoor
open Go.RowKit
/-- Block g of w is a ledger: its budget, what is held, the most that was. -/
def Led (w : World) (g : Nat) (T : TypeId) (B H M : Int) : Prop := w.heap[g]? = some (.cells #[.int .i64 B, .int .i64 H, .int .i64 M] T (0, 0))
section
variable {w w' : World} {g : Nat} {T : TypeId} {B H M : Int}
theorem Led.c0 (h : Led w g T B H M) : w.cell? ⟨g, 0, none⟩ = some (.int .i64 B) := by rw [cell_of_row w g 0 _ _ _ h]; rfl
theorem Led.c1 (h : Led w g T B H M) : w.cell? ⟨g, 1, none⟩ = some (.int .i64 H) := by rw [cell_of_row w g 1 _ _ _ h]; rfl
theorem Led.c2 (h : Led w g T B H M) : w.cell? ⟨g, 2, none⟩ = some (.int .i64 M) := by rw [cell_of_row w g 2 _ _ _ h]; rfl
theorem Led.fr (h : Led w g T B H M) (j : Nat) : w.frozen? ⟨g, j, none⟩ = false := frozen_of_row w g j _ _ h
theorem Led.setH (h : Led w g T B H M) (x : Int) : Led (w.setCell ⟨g, 1, none⟩ (.int .i64 x)) g T B x M := by
  unfold Led; rw [heap_setCell_same w g 1 _ _ _ h]; rfl
theorem Led.setM (h : Led w g T B H M) (x : Int) : Led (w.setCell ⟨g, 2, none⟩ (.int .i64 x)) g T B H x := by
  unfold Led; rw [heap_setCell_same w g 2 _ _ _ h]; rfl
theorem Led.lt (h : Led w g T B H M) : g < w.heap.size := by
  by_cases hg : g < w.heap.size
  · exact hg
  · unfold Led at h; rw [Array.getElem?_eq_none (by omega)] at h; simp at h
theorem Led.drew (h : Led w g T B H M) : Led w.drew g T B H M := h
theorem Led.drewN (h : Led w g T B H M) (n : Nat) : Led (w.drewN n) g T B H M := h
theorem Led.same (h : Led w g T B H M) (e : w'.heap[g]? = w.heap[g]?) : Led w' g T B H M := e.trans h
theorem Led.grown {k : Nat} (h : Led w g T B H M) (hg : w.grownBy w' (some k)) (hne : g ≠ k) : Led w' g T B H M := h.same (hg.block g h.lt (by simpa using hne))
theorem Led.below {N : Nat} (h : Led w g T B H M) (hb : Below N w w') (hg : g < N) : Led w' g T B H M := h.same (hb.block g hg)
theorem grown_set {u : World} (h : u.grownBy w (some g)) (j : Nat) (v : Value) : u.grownBy (w.setCell ⟨g, j, none⟩ v) (some g) :=
  ⟨h.os, h.tape, h.output, by simpa using h.size, fun k hk hne => (heap_setCell_other w ⟨g, j, none⟩ k v (fun e => hne (by simp [e]))).trans (h.block k hk hne)⟩
theorem grown_drew {u : World} {r : Option Nat} (h : u.grownBy w r) : u.grownBy w.drew r := ⟨h.os, h.tape, h.output, h.size, h.block⟩
end
theorem ret_bool {a b : Bool} (h : a = b) : Ending.returned (.bool a) = .returned (.bool b) := by rw [h]
theorem ret_int {k : IntKind} {a b : Int} (h : a = b) : Ending.returned (.int k a) = .returned (.int k b) := by rw [h]
/-- The nearest budget that may be. -/
def near (b : Int) : Int := if b < 0 then 0 else if 16777216 < b then 16777216 else b
theorem near_bounds (b : Int) : 0 ≤ near b ∧ near b ≤ 16777216 := by
  unfold near; split
  · omega
  · split <;> omega
def mx (a b : Int) : Int := if a < b then b else a
theorem mx_pos {a b : Int} (h : a < b) : mx a b = b := if_pos h
theorem mx_neg {a b : Int} (h : ¬ a < b) : mx a b = a := if_neg h
def tkB (H n : Int) : Bool := decide (0 ≤ n ∧ n ≤ 16777216 ∧ n ≤ 1099511627776 - H)
def tkH (H n : Int) : Int := if tkB H n then H + n else H
def tkM (H M n : Int) : Int := if tkB H n then mx M (H + n) else M
def gvB (H n : Int) : Bool := decide (0 ≤ n ∧ n ≤ H)
def gvH (H n : Int) : Int := if gvB H n then H - n else H
def ftB (B H n : Int) : Bool := decide (0 ≤ n ∧ n ≤ B - H)
/-- What a ledger may hold. -/
def Fair (B H : Int) : Prop := 0 ≤ B ∧ B ≤ 16777216 ∧ 0 ≤ H ∧ H ≤ 1099511627776
theorem Fair.take {B H : Int} (h : Fair B H) (n : Int) : Fair B (tkH H n) := by
  unfold Fair at *; unfold tkH tkB; split
  · rename_i h'; simp only [decide_eq_true_eq] at h'; omega
  · omega
theorem Fair.give {B H : Int} (h : Fair B H) (n : Int) : Fair B (gvH H n) := by
  unfold Fair at *; unfold gvH gvB; split
  · rename_i h'; simp only [decide_eq_true_eq] at h'; omega
  · omega
set_option maxRecDepth 100000 in
set_option maxHeartbeats 400000 in
theorem take_in (g : Nat) (T : TypeId) (B H M n : Int) (w : World) (h : Led w g T B H M) (h0 : 0 ≤ H) (h1 : H ≤ 1099511627776) (n0 : 0 ≤ n) (n1 : n ≤ 16777216) (n2 : n ≤ 1099511627776 - H) :
    Calls Tryd.prog 54 #[.pointer (some ⟨g, 0, none⟩), .int .i64 n] w fun e w' => e = .returned (.bool true) ∧ Led w' g T B (H + n) (mx M (H + n)) ∧ w.grownBy w' (some g) := by
  have c1 := h.c1
  have c2 := h.c2
  have f1 := h.fr 1
  have f2 := h.fr 2
  have b1 : ¬ 16777216 < n := by omega
  have b2 : ¬ 1099511627776 - H < n := by omega
  go_enter Tryd.func54, Tryd.ntmps54
  go_wp2_with fail
  have hs := h.setH (H + n)
  have hg : w.grownBy (w.setCell ⟨g, 1, none⟩ (.int .i64 (H + n))) (some g) := grown_set (World.grownBy.refl _ _) _ _
  generalize w.setCell ⟨g, 1, none⟩ (.int .i64 (H + n)) = w1 at *
  have d1 := hs.c1
  have d2 := hs.c2
  have e2 := hs.fr 2
  have Hs := Lib.hid hs
  have Hg := Lib.hid hg
  clear c1 c2 f1 f2 hs hg h
  refine wp_region_still_tail 12 (by kernel_rfl) (by kernel_rfl) ?_
  simp only [List.take_succ_cons, List.take_zero, List.drop_succ_cons, List.drop_zero]
  iterate 12 still_step
  refine wpStill_nil ?_
  change wpList _ _ _ _ _ w1.drew
  by_cases hm : M < H + n
  all_goals
    go_wp2_with fail
    go_ret
    refine ⟨rfl, ?_, grown_drew (grown_set Hg.out _ _)⟩
    first | rw [mx_pos hm] | rw [mx_neg (by omega)]
    exact (Hs.out.setM _).drew
set_option maxRecDepth 100000 in
set_option maxHeartbeats 400000 in
theorem take_out (g : Nat) (T : TypeId) (B H M n : Int) (w : World) (h : Led w g T B H M) (h0 : 0 ≤ H) (h1 : H ≤ 1099511627776) (n0 : 0 ≤ n) (n1 : ¬ (n ≤ 16777216 ∧ n ≤ 1099511627776 - H)) :
    Calls Tryd.prog 54 #[.pointer (some ⟨g, 0, none⟩), .int .i64 n] w fun e w' => e = .returned (.bool false) ∧ w = w' := by
  have c1 := h.c1
  clear h
  by_cases b1 : 16777216 < n
  · clear n1
    go_enter Tryd.func54, Tryd.ntmps54
    go_wp2_with fail
    go_ret
    exact ⟨rfl, rfl⟩
  · have b2 : 1099511627776 - H < n := by omega
    clear n1
    go_enter Tryd.func54, Tryd.ntmps54
    go_wp2_with fail
    go_ret
    exact ⟨rfl, rfl⟩
theorem take_any (g : Nat) (T : TypeId) (B H M n : Int) (w : World) (h : Led w g T B H M) (hF : Fair B H) (n0 : 0 ≤ n) :
    Calls Tryd.prog 54 #[.pointer (some ⟨g, 0, none⟩), .int .i64 n] w fun e w' => e = .returned (.bool (tkB H n)) ∧ Led w' g T B (tkH H n) (tkM H M n) ∧ w.grownBy w' (some g) := by
  unfold Fair at hF
  by_cases hb : n ≤ 16777216 ∧ n ≤ 1099511627776 - H
  · have e : tkB H n = true := by unfold tkB; simp; omega
    unfold tkH tkM
    rw [e]
    exact take_in g T B H M n w h (by omega) (by omega) n0 (by omega) (by omega)
  · have e : tkB H n = false := by unfold tkB; simp; omega
    unfold tkH tkM
    rw [e]
    refine (take_out g T B H M n w h (by omega) (by omega) n0 hb).mono ?_
    rintro e w' ⟨rfl, rfl⟩
    exact ⟨rfl, h, World.grownBy.refl _ _⟩
set_option maxRecDepth 100000 in
set_option maxHeartbeats 400000 in
theorem give_any (g : Nat) (T : TypeId) (B H M n : Int) (w : World) (h : Led w g T B H M) (hF : Fair B H) (n0 : 0 ≤ n) :
    Calls Tryd.prog 55 #[.pointer (some ⟨g, 0, none⟩), .int .i64 n] w fun e w' => e = .returned (.bool (gvB H n)) ∧ Led w' g T B (gvH H n) M ∧ w.grownBy w' (some g) := by
  unfold Fair at hF
  obtain ⟨hB0, hB1, hH0, hH1⟩ := hF
  have c1 := h.c1
  have f1 := h.fr 1
  by_cases b1 : H < n
  · have e : gvB H n = false := by unfold gvB; simp; omega
    unfold gvH
    rw [e]
    have Hh := Lib.hid h
    clear h e
    go_enter Tryd.func55, Tryd.ntmps55
    go_wp2_with fail
    go_ret
    exact ⟨rfl, Hh.out, World.grownBy.refl _ _⟩
  · have e : gvB H n = true := by unfold gvB; simp; omega
    unfold gvH
    rw [e]
    have Hs := Lib.hid (h.setH (H - n))
    clear h e
    go_enter Tryd.func55, Tryd.ntmps55
    go_wp2_with fail
    go_ret
    exact ⟨rfl, Hs.out, grown_set (World.grownBy.refl _ _) _ _⟩
theorem tkB_neg {H n : Int} (h : ¬ 0 ≤ n) : tkB H n = false := by unfold tkB; simp; omega
theorem gvB_neg {H n : Int} (h : ¬ 0 ≤ n) : gvB H n = false := by unfold gvB; simp; omega
theorem ftB_neg {B H n : Int} (h : ¬ 0 ≤ n) : ftB B H n = false := by unfold ftB; simp; omega
set_option maxRecDepth 100000 in
set_option maxHeartbeats 400000 in
theorem ask_neg (g : Nat) (f : Value) (n : Int) (w : World) (n0 : ¬ 0 ≤ n) :
    Calls Tryd.prog 53 #[.pointer (some ⟨g, 0, none⟩), f, .int .i64 n] w fun e w' => e = .returned (.bool false) ∧ w = w' := by
  have d0 : decide (0 ≤ n) = false := by simpa using n0
  clear n0
  go_enter Tryd.func53, Tryd.ntmps53
  go_wp2_with fail
  go_ret
  exact ⟨rfl, rfl⟩
set_option maxRecDepth 100000 in
set_option maxHeartbeats 400000 in
theorem ask_take (g : Nat) (b : Bool) (n : Int) (w : World) (R : World → Prop) (n0 : 0 ≤ n) (hc : Calls Tryd.prog 54 #[.pointer (some ⟨g, 0, none⟩), .int .i64 n] w fun e w' => e = .returned (.bool b) ∧ R w') :
    Calls Tryd.prog 53 #[.pointer (some ⟨g, 0, none⟩), .func (Fn.func 54) #[.pointer (some ⟨g, 0, none⟩)] #[], .int .i64 n] w fun e w' => e = .returned (.bool b) ∧ R w' := by
  have d0 : decide (0 ≤ n) = true := by simpa using n0
  have HC := Lib.hid hc
  clear hc
  go_enter Tryd.func53, Tryd.ntmps53
  go_wp2_with fail
  refine HC.out.mono ?_
  rintro e w1 ⟨rfl, hR⟩
  have HR := Lib.hid hR
  clear hR
  go_wp2_with fail
  go_ret
  exact ⟨rfl, HR.out⟩
set_option maxRecDepth 100000 in
set_option maxHeartbeats 400000 in
theorem ask_give (g : Nat) (b : Bool) (n : Int) (w : World) (R : World → Prop) (n0 : 0 ≤ n) (hc : Calls Tryd.prog 55 #[.pointer (some ⟨g, 0, none⟩), .int .i64 n] w fun e w' => e = .returned (.bool b) ∧ R w') :
    Calls Tryd.prog 53 #[.pointer (some ⟨g, 0, none⟩), .func (Fn.func 55) #[.pointer (some ⟨g, 0, none⟩)] #[], .int .i64 n] w fun e w' => e = .returned (.bool b) ∧ R w' := by
  have d0 : decide (0 ≤ n) = true := by simpa using n0
  have HC := Lib.hid hc
  clear hc
  go_enter Tryd.func53, Tryd.ntmps53
  go_wp2_with fail
  refine HC.out.mono ?_
  rintro e w1 ⟨rfl, hR⟩
  have HR := Lib.hid hR
  clear hR
  go_wp2_with fail
  go_ret
  exact ⟨rfl, HR.out⟩
set_option maxRecDepth 100000 in
set_option maxHeartbeats 400000 in
theorem Take_all (g : Nat) (T : TypeId) (B H M n : Int) (w : World) (h : Led w g T B H M) (hF : Fair B H) :
    Calls Tryd.prog 42 #[.pointer (some ⟨g, 0, none⟩), .int .i64 n] w fun e w' => e = .returned (.bool (tkB H n)) ∧ Led w' g T B (tkH H n) (tkM H M n) ∧ w.grownBy w' (some g) := by
  have hmf : ∀ (fn : Fn) (first cap : Array Value) (w : World), (Instr.makeFunc fn first cap).run Tryd.prog w = .ok (.func fn first cap) w := fun _ _ _ _ => rfl
  by_cases n0 : 0 ≤ n
  · have C := Lib.hid (ask_take g _ n w _ n0 (take_any g T B H M n w h hF n0))
    clear h hF
    go_enter Tryd.func42, Tryd.ntmps42
    go_wp2_with fail
    refine C.out.mono ?_
    rintro e w1 ⟨rfl, hR⟩
    have HR := Lib.hid hR
    clear hR
    go_wp2_with fail
    go_ret
    exact ⟨rfl, HR.out⟩
  · rw [tkB_neg n0]
    have H0 := Lib.hid h
    have N0 := Lib.hid n0
    clear h hF n0
    go_enter Tryd.func42, Tryd.ntmps42
    go_wp2_with fail
    refine (ask_neg _ _ _ _ (by have := N0.out; omega)).mono ?_
    rintro e w1 ⟨rfl, rfl⟩
    go_wp2_with fail
    go_ret
    have n0 : ¬ 0 ≤ n := by have := N0.out; omega
    exact ⟨rfl, by simpa [tkH, tkM, tkB_neg n0] using H0.out, World.grownBy.refl _ _⟩
set_option maxRecDepth 100000 in
set_option maxHeartbeats 400000 in
theorem Give_all (g : Nat) (T : TypeId) (B H M n : Int) (w : World) (h : Led w g T B H M) (hF : Fair B H) :
    Calls Tryd.prog 43 #[.pointer (some ⟨g, 0, none⟩), .int .i64 n] w fun e w' => e = .returned (.bool (gvB H n)) ∧ Led w' g T B (gvH H n) M ∧ w.grownBy w' (some g) := by
  have hmf : ∀ (fn : Fn) (first cap : Array Value) (w : World), (Instr.makeFunc fn first cap).run Tryd.prog w = .ok (.func fn first cap) w := fun _ _ _ _ => rfl
  by_cases n0 : 0 ≤ n
  · have C := Lib.hid (ask_give g _ n w _ n0 (give_any g T B H M n w h hF n0))
    clear h hF
    go_enter Tryd.func43, Tryd.ntmps43
    go_wp2_with fail
    refine C.out.mono ?_
    rintro e w1 ⟨rfl, hR⟩
    have HR := Lib.hid hR
    clear hR
    go_wp2_with fail
    go_ret
    exact ⟨rfl, HR.out⟩
  · rw [gvB_neg n0]
    have H0 := Lib.hid h
    have N0 := Lib.hid n0
    clear h hF n0
    go_enter Tryd.func43, Tryd.ntmps43
    go_wp2_with fail
    refine (ask_neg _ _ _ _ (by have := N0.out; omega)).mono ?_
    rintro e w1 ⟨rfl, rfl⟩
    go_wp2_with fail
    go_ret
    have n0 : ¬ 0 ≤ n := by have := N0.out; omega
    exact ⟨rfl, by simpa [gvH, gvB_neg n0] using H0.out, World.grownBy.refl _ _⟩
set_option maxRecDepth 100000 in
set_option maxHeartbeats 400000 in
theorem Held_all (g : Nat) (T : TypeId) (B H M : Int) (w : World) (h : Led w g T B H M) :
    Calls Tryd.prog 19 #[.pointer (some ⟨g, 0, none⟩)] w fun e w' => e = .returned (.int .i64 H) ∧ w = w' := by
  have c := h.c1
  clear h
  go_enter Tryd.func19, Tryd.ntmps19
  go_wp2_with fail
  go_ret
  exact ⟨rfl, rfl⟩
set_option maxRecDepth 100000 in
set_option maxHeartbeats 400000 in
theorem New_all (b : Int) (w : World) : Calls Tryd.prog 15 #[.int .i64 b] w fun e w' => e = .returned (.pointer (some ⟨w.heap.size, 0, none⟩)) ∧ w' = w.alloc (.cells #[.int .i64 (near b), .int .i64 0, .int .i64 0] 71) := by
  have hn : near b = if b < 0 then 0 else if 16777216 < b then 16777216 else b := rfl
  have HN := Lib.hid hn
  clear hn
  generalize near b = x at *
  by_cases h1 : b < 0
  · have e := HN.out
    rw [if_pos h1] at e
    subst e
    go_enter Tryd.func15, Tryd.ntmps15
    go_wp2_with fail
    go_ret
    exact ⟨rfl, rfl⟩
  · by_cases h2 : 16777216 < b
    · have e := HN.out
      rw [if_neg h1, if_pos h2] at e
      subst e
      go_enter Tryd.func15, Tryd.ntmps15
      go_wp2_with fail
      go_ret
      exact ⟨rfl, rfl⟩
    · have e := HN.out
      rw [if_neg h1, if_neg h2] at e
      subst e
      go_enter Tryd.func15, Tryd.ntmps15
      go_wp2_with fail
      go_ret
      exact ⟨rfl, rfl⟩
end Go.Proofs.YtbkiahnljklhpaaDoor
