/- THE WALKS OF Look AND Ops. -/
import Derived.Test.YtbkiahnljklhpaaDoorDiskRead
namespace Go.Proofs.YtbkiahnljklhpaaDoor
open Go.RowKit
open Seal
set_option maxRecDepth 100000 in
set_option maxHeartbeats 400000 in
theorem look_no (g : Nat) (s : Disk.St) (own : Nat → Nat) (n : Int) (w : World) (h : DiskAt w g s own) (hu : hasB s.pages n = false) :
    Calls Tryd.prog 11 #[.pointer (some ⟨g, 0, none⟩), .int .i64 n] w fun e w' => e = .returned (.tuple #[.slice none 0 0, .bool false]) ∧ w = w' := by
  have C := has_any g s own n w h
  rw [hu] at C
  have HC := Lib.hid C
  clear C h
  go_enter Tryd.func11, Tryd.ntmps11
  go_wp2_with fail
  refine HC.out.mono ?_
  rintro e w' ⟨rfl, rfl⟩
  go_wp2_with fail
  go_ret2
  exact ⟨rfl, rfl⟩
set_option maxRecDepth 100000 in
set_option maxHeartbeats 400000 in
theorem look_yes (g : Nat) (s : Disk.St) (own : Nat → Nat) (k : Nat) (bs : List Nat) (w : World) (h : DiskAt w g s own) (hp : s.pages.getD k none = some bs) :
    Calls Tryd.prog 11 #[.pointer (some ⟨g, 0, none⟩), .int .i64 (k : Int)] w fun e w' => ∃ v, e = .returned (.tuple #[v, .bool true]) ∧ w'.ownsRow w.heap.size 5 1 v s.page (u8s bs) ∧ Below w.heap.size w w' := by
  have C := has_any g s own (k : Int) w h
  rw [show hasB s.pages (k : Int) = true by rw [hasB_nat]; unfold Disk.used; rw [hp]; rfl] at C
  have HC := Lib.hid C
  obtain ⟨pv, gu, mv, xs, ws, R⟩ := h
  obtain ⟨a, cap, b, hk, rfl, hnc, hcell, _, hr, hl, _⟩ := page_at R hp
  have c2 := R.blk.c2
  have hpg := pageOk_bounds R.page
  have hrd := hr.reads 0 bs.length (by omega)
  rw [List.drop_zero, List.take_length] at hrd
  have C2 := clone_any b s.page bs w (by omega) (by omega) hrd
  rw [hl] at C2
  have HC2 := Lib.hid C2
  have d1 : (k : Int) < (s.pages.length : Int) := by omega
  clear C C2 R hr hrd hl hp
  generalize s.pages.length = m at *
  generalize s.page = p at *
  go_enter Tryd.func11, Tryd.ntmps11
  go_wp2_with fail
  refine HC.out.mono ?_
  rintro e w' ⟨rfl, rfl⟩
  go_wp2_with fail
  refine HC2.out.mono ?_
  rintro e w2 ⟨v, rfl, hO, hB⟩
  have HO := Lib.hid hO
  have HB := Lib.hid hB
  clear hO hB
  go_wp2_with fail
  go_ret2
  exact ⟨v, rfl, HO.out, HB.out⟩
set_option maxRecDepth 100000 in
set_option maxHeartbeats 400000 in
theorem ops_any (g : Nat) (s : Disk.St) (own : Nat → Nat) (w : World) (h : DiskAt w g s own) :
    Calls Tryd.prog 12 #[.pointer (some ⟨g, 0, none⟩)] w fun e w' => e = .returned (.int .i64 (s.ops : Nat)) ∧ w = w' := by
  obtain ⟨pv, gu, mv, xs, ws, R⟩ := h
  have c5 := R.blk.c5
  clear R
  go_enter Tryd.func12, Tryd.ntmps12
  go_wp2_with fail
  go_ret
  exact ⟨rfl, rfl⟩
end Go.Proofs.YtbkiahnljklhpaaDoor
