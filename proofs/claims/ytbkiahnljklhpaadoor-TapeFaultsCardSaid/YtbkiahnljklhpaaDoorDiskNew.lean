/- THE WALKS OF New, happening AND Plan. -/
import Derived.Test.YtbkiahnljklhpaaDoorDiskTurn
import Derived.FnLit
namespace Go.Proofs.YtbkiahnljklhpaaDoor
open Go.RowKit Go.Maps
open Seal
theorem infoWord : (Tryd.prog.info? 62).map (fun i => (i.zero, i.size, i.bytes)) = some (some (.int .u64 0), 1, 8) := by kernel_rfl
theorem run_makeWords (n : Nat) (hn : n ≤ 16384) (u : World) : (Instr.makeSlice 55 (.int .i64 (n : Int)) (.int .i64 (n : Int))).run Tryd.prog u = .ok (.slice (some ⟨u.heap.size, 0, none⟩) n n) (u.alloc (.cells (madeCells #[.int .u64 0] n) 62)) := by
  obtain ⟨i0, hi, hz0, hz1, hz2⟩ := info_parts infoWord
  have h := run_make (P := Tryd.prog) u 55 62 i0 (.int .u64 0) Tryd.underlying55 hi hz0 .i64 .i64 (n : Int) (n : Int) (by omega) (Int.le_refl _) (by rw [hz2]; omega) (by omega)
  rw [Int.toNat_natCast] at h
  simpa [hz1, Value.cells] using h
/-- A new disk. -/
def new (page most : Nat) : Disk.St := { page := page, most := most, pages := [], ops := 0, writes := 0, begun := 0, plan := fun _ => [] }
def newOwn (n : Nat) : Nat → Nat := fun x => if x = n then 3 else if x = n + 1 then 1 else 0
theorem new_rep (w : World) (page most : Nat) (hp : pageOk page = true) (hm : most ≤ 16384) (w' : World)
    (hw : w' = (w.alloc (.cells (madeCells #[.int .u64 0] ((most + 63) / 64)) 62)).alloc (.cells #[.int .i64 (page : Int), .int .i64 (most : Int), .slice none 0 0, .slice (some ⟨w.heap.size, 0, none⟩) ((most + 63) / 64) ((most + 63) / 64), .int .i64 0, .int .i64 0, .int .i64 0, .int .i64 0, .map none] 58)) :
    DiskAt w' (w.heap.size + 1) (new page most) (newOwn w.heap.size) ∧ Below w.heap.size w w' ∧ ∀ b, b < w.heap.size → newOwn w.heap.size b = 0 := by
  have hz : (w.alloc (.cells (madeCells #[.int .u64 0] ((most + 63) / 64)) 62)).heap.size = w.heap.size + 1 := by simp
  have hz' : w'.heap.size = w.heap.size + 2 := by rw [hw]; simp
  refine ⟨⟨.slice none 0 0, w.heap.size, .map none, [], List.replicate ((most + 63) / 64) 0, ?_, ?_, ⟨World.ownsRow_nil _ _ _ _, fun b hb => by simp [Value.ownBlock] at hb, fun i hi => by simp [new] at hi⟩, ⟨?_, ?_, Disk.Words.made _⟩, .inl ⟨rfl, fun _ _ => rfl⟩, hp, Nat.zero_le _, hm, Nat.le_refl _, Nat.le_refl _, ?_⟩, ?_, ?_⟩
  · unfold DBlk
    rw [hw, ← hz]
    exact heap_alloc_new _ _
  · unfold newOwn; rw [if_neg (by omega), if_pos rfl]
  · unfold newOwn; rw [if_pos rfl]
  · rw [hw, Below.heap_alloc _ _ _ (by rw [hz]; omega), heap_alloc_new]
    congr 3
    apply Array.toList_inj.1
    rw [toList_madeCells_one]; simp [u64v]
  · intro b hb
    rw [hz'] at hb
    unfold newOwn; rw [if_neg (by omega), if_neg (by omega)]
  · rw [hw]
    exact ((Below.refl _ _).alloc (Nat.le_refl _) _).alloc (by simp) _
  · intro b hb
    unfold newOwn; rw [if_neg (by omega), if_neg (by omega)]
set_option maxRecDepth 100000 in
set_option maxHeartbeats 1000000 in
theorem new_ok (page most : Nat) (w : World) (hp : pageOk page = true) (hm : most ≤ 16384) :
    Calls Tryd.prog 6 #[.int .i64 (page : Int), .int .i64 (most : Int)] w fun e w' => e = .returned (.tuple #[.pointer (some ⟨w.heap.size + 1, 0, none⟩), .int .i64 0]) ∧ DiskAt w' (w.heap.size + 1) (new page most) (newOwn w.heap.size) ∧ Below w.heap.size w w' ∧ ∀ b, b < w.heap.size → newOwn w.heap.size b = 0 := by
  have hb := pageOk_bounds hp
  have hq := (pow_and page hb.1 hb.2).2 hp
  have ha : bits .and .i64 (page : Int) ((page : Int) - 1) = 0 := by
    rw [show ((page : Int) - 1) = ((page - 1 : Nat) : Int) by omega, i64_and_nat _ _ (by omega) (by omega), hq]; rfl
  obtain ⟨nw, hnw⟩ : ∃ nw, nw = (most + 63) / 64 := ⟨_, rfl⟩
  have hd : ((most : Int) + 63) / 64 = (nw : Int) := by omega
  have hmk := run_makeWords nw (by omega)
  have HE := Lib.hid (new_rep w page most hp hm)
  have HNW := Lib.hid hnw
  have d1 : ¬ ((page : Int) < 64) := by omega
  have d2 : ¬ ((4096 : Int) < (page : Int)) := by omega
  have d3 : ¬ ((most : Int) < 0) := by omega
  have d4 : ¬ ((16384 : Int) < (most : Int)) := by omega
  clear hq hnw hp
  go_enter Tryd.func6, Tryd.ntmps6
  go_wp2_with fail
  go_ret2
  refine ⟨rfl, HE.out _ ?_⟩
  rw [← HNW.out]
end Go.Proofs.YtbkiahnljklhpaaDoor
