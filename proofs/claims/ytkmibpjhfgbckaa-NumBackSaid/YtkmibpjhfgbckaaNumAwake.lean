/- aqueductlaw9.awake answers true (a walk). -/
import Derived.Test.YtkmibpjhfgbckaaNumOps
import Derived.Test.YtkmibpjhfgbckaaBoxes
namespace Go.Proofs.Ytkmibpjhfgbckaa
open Go.RowKit
open Seal
open Num
set_option maxRecDepth 100000 in
set_option maxHeartbeats 8000000 in
theorem awake9 (w : World) : Calls Try.prog 7 #[] w (BoolBe true w) := by
  have HC1 : Hid (∀ w : World, Calls Try.prog 9 #[.agg #[.int .i64 3, .int .i64 2147483647, .string ⟨#[]⟩, .slice none 0 0, .slice none 0 0, .slice none 0 0], .agg #[.int .i64 3, .int .i64 1, .string ⟨#[]⟩, .slice none 0 0, .slice none 0 0, .slice none 0 0]] w (ValE (4, 2147483648, 0) w)) := fun w => numAdd_any 3 2147483647 3 1 (.string ⟨#[]⟩) (.slice none 0 0) (.slice none 0 0) (.slice none 0 0) (.string ⟨#[]⟩) (.slice none 0 0) (.slice none 0 0) (.slice none 0 0) w (by decide) (by decide)
  have HC2 : Hid (∀ w : World, Calls Try.prog 12 #[.agg #[.int .i64 4, .int .i64 (-9223372036854775808), .string ⟨#[]⟩, .slice none 0 0, .slice none 0 0, .slice none 0 0], .agg #[.int .i64 4, .int .i64 (-1), .string ⟨#[]⟩, .slice none 0 0, .slice none 0 0, .slice none 0 0]] w (ValE (0, 0, 10) w)) := fun w => numDiv_any 4 (-9223372036854775808) 4 (-1) (.string ⟨#[]⟩) (.slice none 0 0) (.slice none 0 0) (.slice none 0 0) (.string ⟨#[]⟩) (.slice none 0 0) (.slice none 0 0) (.slice none 0 0) w (by decide) (by decide)
  have HC3 : Hid (∀ w : World, Calls Try.prog 18 #[.int .i64 5] w (ValBe 3 5 w)) := fun w => of_any 5 w
  have HB0 := Lib.hid (Below.refl w.heap.size w)
  go_enter Try.func7, Try.ntmps7
  go_wp2_with fail
  go_at_call 9
  refine (HC1.out _).mono ?_
  rintro e w1 ⟨rfl, hb⟩
  have HB1 := Lib.hid (HB0.out.trans (hb.mono HB0.out.size))
  clear hb
  go_wp2_with fail
  go_at_call 12
  refine (HC2.out _).mono ?_
  rintro e w2 ⟨rfl, hb⟩
  have hc : Below w1.heap.size w1 w2 := ((Below.refl _ w1).alloc (Nat.le_refl _) _).trans (hb.mono (by simp))
  have HB2 := Lib.hid (HB1.out.trans (hc.mono HB1.out.size))
  have Gx2 := Lib.hid ((IsBox.new w1 (.int .i64 4) (.int .i64 2147483648) (.string ⟨#[]⟩) (.slice none 0 0) (.slice none 0 0) (.slice none 0 0)).keep hb)
  clear hc
  clear hb
  obtain ⟨x0, x1, x2, x3, x4, x5⟩ := Gx2.out.cells
  have mx : w1.heap.size < w2.heap.size := Gx2.out.lt
  have nx : ¬ w1.heap.size = w2.heap.size := by omega
  go_wp2_with fail
  go_at_call 18
  refine (HC3.out _).mono ?_
  rintro e w3 ⟨rfl, hb⟩
  clear x0 x1 x2 x3 x4 x5 mx nx
  have hfd : (Instr.field 26 (.agg #[.int .i64 3, .int .i64 5, .string ⟨#[]⟩, .slice none 0 0, .slice none 0 0, .slice none 0 0]) 0).run Try.prog w3 = .ok (.int .i64 3) w3 := by kernel_rfl
  have HB3 := Lib.hid ((HB2.out.alloc HB2.out.size _).trans (hb.mono (HB2.out.alloc HB2.out.size _).size))
  clear hb
  go_wp2_with fail
  go_ret
  exact ⟨rfl, HB3.out⟩
end Go.Proofs.Ytkmibpjhfgbckaa
