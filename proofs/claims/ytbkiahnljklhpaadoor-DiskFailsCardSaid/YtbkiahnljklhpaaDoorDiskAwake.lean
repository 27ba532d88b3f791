/- THE WALK OF disk's awake. -/
import Derived.Test.YtbkiahnljklhpaaDoorDiskNew
import Derived.Test.YtbkiahnljklhpaaDoorDiskAsk
import Derived.Test.YtbkiahnljklhpaaDoorBytesStr
namespace Go.Proofs.YtbkiahnljklhpaaDoor
open Go.RowKit
open Seal
theorem slice_of_row {w : World} {B n : Nat} {v : Value} {l : List Nat} (h : w.ownsRow B 5 1 v n (u8s l)) : l.length = n ∧ ∃ a c, v = .slice a n c ∧ SliceIs w a l ∧ (∀ p, a = some p → B ≤ p.block ∧ p.block < w.heap.size) ∧ n ≤ c ∧ c ≤ 9223372036854775807 := by
  have hl : l.length = n := by have := h.1; simpa [u8s] using this
  refine ⟨hl, ?_⟩
  rcases h.2 with ⟨rfl, rfl⟩ | ⟨g, cap, cur, rfl, hb, hg, hnc, hcm, hcs, htake⟩
  · have : l = [] := List.eq_nil_of_length_eq_zero hl
    subst this
    exact ⟨none, 0, rfl, .inl rfl, (fun p hp => by cases hp), Nat.le_refl _, by omega⟩
  · refine ⟨_, cap, rfl, .inr ⟨g, 0, rfl, fun j hj => ?_⟩, (fun p hp => by cases hp; exact ⟨hb, heap_lt hg⟩), hnc, hcm⟩
    rw [Nat.zero_add, h.cellAt j (by omega)]
    simp [u8s, u8, List.getD_eq_getElem?_getD, List.getElem?_eq_getElem hj]
theorem DiskAt.lt {w : World} {g : Nat} {s : Disk.St} {own : Nat → Nat} (h : DiskAt w g s own) : g < w.heap.size := by
  obtain ⟨pv, gu, mv, xs, ws, h⟩ := h
  exact heap_lt h.blk
def noughts (n : Nat) : List Nat := List.replicate n 0
def seven : List Nat := (noughts 64).set 3 7
theorem seven_len : seven.length = 64 := by decide
theorem seven_oct : Oct seven := by intro c hc; revert c; decide
def aw1 : Disk.St := { tick (new 64 2) with pages := Disk.put [] 0 (some (noughts 64)) }
def aw2 : Disk.St := { tick aw1 with pages := Disk.put aw1.pages 0 (some seven), writes := 1 }
theorem aw2_page : aw2.pages.getD 0 none = some seven := rfl
theorem seven_cells : (madeCells #[Value.int .u8 0] 64).setIfInBounds 3 (Value.int .u8 7) = (u8s seven).toArray := by kernel_rfl
theorem seven_same : seven.set 0 (seven.getD 0 0 ^^^ 0) = seven := by decide
theorem run_conv {w : World} {a : Option Addr} {n c : Nat} {l : List Nat} (hl : l.length = n) (h : SliceIs w a l) : (convert 29 9 (.slice a n c)).run Tryd.prog w = .ok (.string (strB l)) w := conv_str w a n c l hl h
set_option maxRecDepth 100000 in
set_option maxHeartbeats 2000000 in
theorem awake_any (w : World) (hT : Bruijn w) (h0 : 0 < w.heap.size) :
    Calls Tryd.prog 5 #[] w fun e w' => e = .returned (.bool true) ∧ Below w.heap.size w w' := by
  have hmk := run_makeBytes 64 (by decide)
  rw [show ((64 : Nat) : Int) = 64 from rfl] at hmk
  have C := new_ok 64 2 w (by decide) (by decide)
  rw [show ((64 : Nat) : Int) = 64 from rfl, show ((2 : Nat) : Int) = 2 from rfl] at C
  have HC := Lib.hid C
  have HT := Lib.hid hT
  clear C hT
  go_enter Tryd.func5, Tryd.ntmps5
  go_wp2_with fail
  refine HC.out.mono ?_
  rintro e w1 ⟨rfl, hD, hB, hz⟩
  have hT1 := HT.out.below hB h0
  obtain ⟨g, hg⟩ : ∃ g, g = w.heap.size + 1 := ⟨_, rfl⟩
  rw [← hg] at hD ⊢
  generalize newOwn w.heap.size = own0 at hD hz
  have C2 := alloc_ok g _ own0 w1 hD (by decide) hT1 (hz _ h0) 0 rfl (by decide)
  rw [show Disk.leastFree (new 64 2).pages = 0 from rfl, show ((0 : Nat) : Int) = 0 from rfl] at C2
  have HC2 := Lib.hid C2
  have HB := Lib.hid hB
  have HZ := Lib.hid hz
  clear C2 hD hB hz hT1 hg
  go_wp2_with fail
  refine HC2.out.mono ?_
  rintro e w2 ⟨rfl, own1, hD2', hO2, hs2⟩
  have hD2 : DiskAt w2 g aw1 own1 := hD2'
  have hB2 : Below w.heap.size w w2 := HB.out.trans (hO2.below HB.out.size (fun i hi => HZ.out i hi))
  have hz2 : ∀ i, i < w.heap.size → own1 i = 0 := fun i hi => by rw [hs2 i (Nat.lt_of_lt_of_le hi HB.out.size)]; exact HZ.out i hi
  have HD2 := Lib.hid hD2
  have HB2 := Lib.hid hB2
  have HZ2 := Lib.hid hz2
  clear hD2 hD2' hO2 hs2 hB2 hz2
  have hR3 : Row (w2.alloc (.cells (madeCells #[.int .u8 0] 64) 5)) w2.heap.size (noughts 64) := Row.made 64
  have k3 := hR3.cell (j := 3) (by decide)
  have f3 := hR3.frozen 3
  rw [show (((noughts 64).getD 3 0 : Nat) : Int) = 0 by decide] at k3
  have HR3 := Lib.hid hR3
  clear hR3
  go_wp2_with fail
  rw [seven_cells]
  have hR4 : Row (w2.alloc (.cells (u8s seven).toArray 5)) w2.heap.size seven := by unfold Row; exact heap_alloc_new _ _
  have hD4 := HD2.out.below (below_alloc w2 (.cells (u8s seven).toArray 5))
  have hB4 := HB2.out.alloc HB2.out.size (.cells (u8s seven).toArray 5)
  obtain ⟨w4, hw4⟩ : ∃ w4, w4 = w2.alloc (.cells (u8s seven).toArray 5) := ⟨_, rfl⟩
  rw [← hw4] at hR4 hD4 hB4 ⊢
  obtain ⟨b, hb⟩ : ∃ b, b = w2.heap.size := ⟨_, rfl⟩
  have hb0 : own1 b = 0 := by rw [hb]; exact HD2.out.fresh _ (Nat.le_refl _)
  rw [← hb] at hR4 ⊢
  have hrd4 := hR4.reads 0 64 (by decide)
  rw [List.drop_zero, List.take_of_length_le (by decide)] at hrd4
  have C4 := write_ok g aw1 own1 0 (some ⟨b, 0, none⟩) 64 seven w4 hD4 (by decide) 0 rfl rfl rfl ⟨.inr ⟨b, 0, rfl, hrd4⟩, seven_oct, fun p hp => by cases hp; exact hb0⟩
  rw [show ((0 : Nat) : Int) = 0 from rfl, show aw1.page = 64 from rfl] at C4
  have HC4 := Lib.hid C4
  have HB4 := Lib.hid hB4
  have HR4 := Lib.hid hR4
  have HB0 := Lib.hid hb0
  clear hw4 hb hb0 hR4 hrd4 hD4 hB4 C4 HR3 k3 f3
  refine HC4.out.mono ?_
  rintro e w5 ⟨rfl, hD5', hO5⟩
  have hD5 : DiskAt w5 g aw2 own1 := hD5'
  have hB5 : Below w.heap.size w w5 := HB4.out.trans (hO5.below HB4.out.size (fun i hi => HZ2.out i hi))
  have hR5 : Row w5 b seven := HR4.out.same (hO5.block b HR4.out.lt HB0.out)
  have C5 := read_ok g aw2 own1 0 seven w5 hD5 (by decide) 0 rfl aw2_page
  rw [show ((0 : Nat) : Int) = 0 from rfl, show aw2.page = 64 from rfl, seven_same] at C5
  have HC5 := Lib.hid C5
  have HB5 := Lib.hid hB5
  have HR5 := Lib.hid hR5
  clear hD5' hD5 hO5 hB5 hR5 C5
  go_wp2_with fail
  refine HC5.out.mono ?_
  rintro e w6 ⟨v, rfl, hO6, hD6, hN6⟩
  obtain ⟨_, a6, c6, rfl, hS6, _, _, _⟩ := slice_of_row hO6
  have hB6 : Below w.heap.size w w6 := HB5.out.trans (hN6.below HB5.out.size (fun i hi => HZ2.out i hi))
  have hR6 : Row w6 b seven := HR5.out.same (hN6.block b HR5.out.lt HB0.out)
  have hrd6 := hR6.reads 0 64 (by decide)
  rw [List.drop_zero, List.take_of_length_le (by decide)] at hrd6
  have v1 := run_conv (c := 64) seven_len (.inr ⟨b, 0, rfl, hrd6⟩ : SliceIs w6 (some ⟨b, 0, none⟩) seven)
  have v2 := run_conv (c := c6) seven_len hS6
  have C7 := live_any g _ own1 w6 hD6
  have C8 := ops_any g _ own1 w6 hD6
  rw [show ((Disk.live (tick aw2).pages : Nat) : Int) = 1 from rfl] at C7
  rw [show (((tick aw2).ops : Nat) : Int) = 3 from rfl] at C8
  have HC7 := Lib.hid C7
  have HC8 := Lib.hid C8
  have HB6 := Lib.hid hB6
  clear hO6 hS6 hD6 hN6 hB6 hR6 hrd6 C7 C8
  generalize strB seven = txt at v1 v2
  go_wp2_with fail
  refine HC7.out.mono ?_
  rintro e w7 ⟨rfl, rfl⟩
  go_wp2_with fail
  refine HC8.out.mono ?_
  rintro e w7 ⟨rfl, rfl⟩
  go_wp2_with fail
  go_ret
  exact ⟨rfl, HB6.out⟩
end Go.Proofs.YtbkiahnljklhpaaDoor
