/- aqueductlaw9.NumKnown answers true (a walk). -/
import Derived.Test.YtkmibpjhfgbckaaNumAwake
import Derived.Test.YtkmibpjhfgbckaaNumTwo
namespace Go.Proofs.Ytkmibpjhfgbckaa
open Go.RowKit
open Seal
open Num
theorem known1 (n : Int) (w : World) : Calls Try.prog 22 #[.int .i64 n] w (ValBe 3 n w) := by
  go_enter Try.func22, Try.ntmps22
  go_wp2_with fail
  exact bodyPost_ret (v := .agg #[.int .i64 3, .int .i64 n, .string ⟨#[]⟩, .slice none 0 0, .slice none 0 0, .slice none 0 0]) (by simp [results, Try.results22, go_sem]) rfl ⟨rfl, ((Below.refl _ _).alloc (Nat.le_refl _) _)⟩
theorem known2 (n : Int) (w : World) : Calls Try.prog 23 #[.int .i64 n] w (ValBe 4 n w) := by
  go_enter Try.func23, Try.ntmps23
  go_wp2_with fail
  exact bodyPost_ret (v := .agg #[.int .i64 4, .int .i64 n, .string ⟨#[]⟩, .slice none 0 0, .slice none 0 0, .slice none 0 0]) (by simp [results, Try.results23, go_sem]) rfl ⟨rfl, ((Below.refl _ _).alloc (Nat.le_refl _) _)⟩
set_option maxRecDepth 100000 in
set_option maxHeartbeats 8000000 in
theorem numKnown_any (w : World) : Calls Try.prog 6 #[] w (BoolBe true w) := by
  have HC0 : Hid (∀ w : World, Calls Try.prog 11 #[.agg #[.int .i64 3, .int .i64 65536, .string ⟨#[]⟩, .slice none 0 0, .slice none 0 0, .slice none 0 0], .agg #[.int .i64 3, .int .i64 65536, .string ⟨#[]⟩, .slice none 0 0, .slice none 0 0, .slice none 0 0]] w (ValE (4, 4294967296, 0) w)) := fun w => numMul_any 3 65536 3 65536 (.string ⟨#[]⟩) (.slice none 0 0) (.slice none 0 0) (.slice none 0 0) (.string ⟨#[]⟩) (.slice none 0 0) (.slice none 0 0) (.slice none 0 0) w (by decide) (by decide)
  have HC1 : Hid (∀ w : World, Calls Try.prog 12 #[.agg #[.int .i64 3, .int .i64 (-7), .string ⟨#[]⟩, .slice none 0 0, .slice none 0 0, .slice none 0 0], .agg #[.int .i64 3, .int .i64 2, .string ⟨#[]⟩, .slice none 0 0, .slice none 0 0, .slice none 0 0]] w (ValE (3, (-3), 0) w)) := fun w => numDiv_any 3 (-7) 3 2 (.string ⟨#[]⟩) (.slice none 0 0) (.slice none 0 0) (.slice none 0 0) (.string ⟨#[]⟩) (.slice none 0 0) (.slice none 0 0) (.slice none 0 0) w (by decide) (by decide)
  have HC2 : Hid (∀ w : World, Calls Try.prog 13 #[.agg #[.int .i64 3, .int .i64 (-7), .string ⟨#[]⟩, .slice none 0 0, .slice none 0 0, .slice none 0 0], .agg #[.int .i64 3, .int .i64 2, .string ⟨#[]⟩, .slice none 0 0, .slice none 0 0, .slice none 0 0]] w (ValE (3, (-1), 0) w)) := fun w => numMod_any 3 (-7) 3 2 (.string ⟨#[]⟩) (.slice none 0 0) (.slice none 0 0) (.slice none 0 0) (.string ⟨#[]⟩) (.slice none 0 0) (.slice none 0 0) (.slice none 0 0) w (by decide) (by decide)
  have HC3 : Hid (∀ w : World, Calls Try.prog 9 #[.agg #[.int .i64 4, .int .i64 9223372036854775807, .string ⟨#[]⟩, .slice none 0 0, .slice none 0 0, .slice none 0 0], .agg #[.int .i64 3, .int .i64 1, .string ⟨#[]⟩, .slice none 0 0, .slice none 0 0, .slice none 0 0]] w (ValE (0, 0, 10) w)) := fun w => numAdd_any 4 9223372036854775807 3 1 (.string ⟨#[]⟩) (.slice none 0 0) (.slice none 0 0) (.slice none 0 0) (.string ⟨#[]⟩) (.slice none 0 0) (.slice none 0 0) (.slice none 0 0) w (by decide) (by decide)
  have HC4 : Hid (∀ w : World, Calls Try.prog 10 #[.agg #[.int .i64 4, .int .i64 (-9223372036854775808), .string ⟨#[]⟩, .slice none 0 0, .slice none 0 0, .slice none 0 0], .agg #[.int .i64 3, .int .i64 1, .string ⟨#[]⟩, .slice none 0 0, .slice none 0 0, .slice none 0 0]] w (ValE (0, 0, 10) w)) := fun w => numSub_any 4 (-9223372036854775808) 3 1 (.string ⟨#[]⟩) (.slice none 0 0) (.slice none 0 0) (.slice none 0 0) (.string ⟨#[]⟩) (.slice none 0 0) (.slice none 0 0) (.slice none 0 0) w (by decide) (by decide)
  have HC5 : Hid (∀ w : World, Calls Try.prog 11 #[.agg #[.int .i64 4, .int .i64 (-9223372036854775808), .string ⟨#[]⟩, .slice none 0 0, .slice none 0 0, .slice none 0 0], .agg #[.int .i64 3, .int .i64 (-1), .string ⟨#[]⟩, .slice none 0 0, .slice none 0 0, .slice none 0 0]] w (ValE (0, 0, 10) w)) := fun w => numMul_any 4 (-9223372036854775808) 3 (-1) (.string ⟨#[]⟩) (.slice none 0 0) (.slice none 0 0) (.slice none 0 0) (.string ⟨#[]⟩) (.slice none 0 0) (.slice none 0 0) (.slice none 0 0) w (by decide) (by decide)
  have HC6 : Hid (∀ w : World, Calls Try.prog 13 #[.agg #[.int .i64 4, .int .i64 (-9223372036854775808), .string ⟨#[]⟩, .slice none 0 0, .slice none 0 0, .slice none 0 0], .agg #[.int .i64 3, .int .i64 (-1), .string ⟨#[]⟩, .slice none 0 0, .slice none 0 0, .slice none 0 0]] w (ValE (4, 0, 0) w)) := fun w => numMod_any 4 (-9223372036854775808) 3 (-1) (.string ⟨#[]⟩) (.slice none 0 0) (.slice none 0 0) (.slice none 0 0) (.string ⟨#[]⟩) (.slice none 0 0) (.slice none 0 0) (.slice none 0 0) w (by decide) (by decide)
  have HC7 : Hid (∀ w : World, Calls Try.prog 14 #[.agg #[.int .i64 4, .int .i64 (-9223372036854775808), .string ⟨#[]⟩, .slice none 0 0, .slice none 0 0, .slice none 0 0]] w (ValE (0, 0, 10) w)) := fun w => numAbs_any 4 (-9223372036854775808) (.string ⟨#[]⟩) (.slice none 0 0) (.slice none 0 0) (.slice none 0 0) w (by decide)
  have HC8 : Hid (∀ w : World, Calls Try.prog 14 #[.agg #[.int .i64 3, .int .i64 (-2147483648), .string ⟨#[]⟩, .slice none 0 0, .slice none 0 0, .slice none 0 0]] w (ValE (4, 2147483648, 0) w)) := fun w => numAbs_any 3 (-2147483648) (.string ⟨#[]⟩) (.slice none 0 0) (.slice none 0 0) (.slice none 0 0) w (by decide)
  have HC9 : Hid (∀ w : World, Calls Try.prog 12 #[.agg #[.int .i64 3, .int .i64 1, .string ⟨#[]⟩, .slice none 0 0, .slice none 0 0, .slice none 0 0], .agg #[.int .i64 3, .int .i64 0, .string ⟨#[]⟩, .slice none 0 0, .slice none 0 0, .slice none 0 0]] w (ValE (0, 0, 11) w)) := fun w => numDiv_any 3 1 3 0 (.string ⟨#[]⟩) (.slice none 0 0) (.slice none 0 0) (.slice none 0 0) (.string ⟨#[]⟩) (.slice none 0 0) (.slice none 0 0) (.slice none 0 0) w (by decide) (by decide)
  have HB0 := Lib.hid (Below.refl w.heap.size w)
  go_enter Try.func6, Try.ntmps6
  go_wp2_with fail
  go_at_call 7
  refine (awake9 _).mono ?_
  rintro e w1 ⟨rfl, hb⟩
  have HB1 := Lib.hid (HB0.out.trans (hb.mono HB0.out.size))
  clear hb
  go_wp2_with fail
  go_at_call 22
  refine (known1 _ _).mono ?_
  rintro e w2 ⟨rfl, hb⟩
  have HB2 := Lib.hid (HB1.out.trans (hb.mono HB1.out.size))
  clear hb
  go_wp2_with fail
  go_at_call 22
  refine (known1 _ _).mono ?_
  rintro e w3 ⟨rfl, hb⟩
  have HB3 := Lib.hid (HB2.out.trans (hb.mono HB2.out.size))
  clear hb
  go_wp2_with fail
  go_at_call 11
  refine (HC0.out _).mono ?_
  rintro e w4 ⟨rfl, hb⟩
  have HB4 := Lib.hid (HB3.out.trans (hb.mono HB3.out.size))
  clear hb
  go_wp2_with fail
  go_at_call 22
  refine (known1 _ _).mono ?_
  rintro e w5 ⟨rfl, hb⟩
  have hc : Below w4.heap.size w4 w5 := ((Below.refl _ w4).alloc (Nat.le_refl _) _).trans (hb.mono (by simp))
  have HB5 := Lib.hid (HB4.out.trans (hc.mono HB4.out.size))
  have Ga5 := Lib.hid ((IsBox.new w4 (.int .i64 4) (.int .i64 4294967296) (.string ⟨#[]⟩) (.slice none 0 0) (.slice none 0 0) (.slice none 0 0)).keep hb)
  clear hc
  clear hb
  go_wp2_with fail
  go_at_call 22
  refine (known1 _ _).mono ?_
  rintro e w6 ⟨rfl, hb⟩
  have HB6 := Lib.hid (HB5.out.trans (hb.mono HB5.out.size))
  have Ga6 := Lib.hid (Ga5.out.keep hb)
  clear hb
  go_wp2_with fail
  go_at_call 12
  refine (HC1.out _).mono ?_
  rintro e w7 ⟨rfl, hb⟩
  have HB7 := Lib.hid (HB6.out.trans (hb.mono HB6.out.size))
  have Ga7 := Lib.hid (Ga6.out.keep hb)
  clear hb
  go_wp2_with fail
  go_at_call 22
  refine (known1 _ _).mono ?_
  rintro e w8 ⟨rfl, hb⟩
  have hc : Below w7.heap.size w7 w8 := ((Below.refl _ w7).alloc (Nat.le_refl _) _).trans (hb.mono (by simp))
  have HB8 := Lib.hid (HB7.out.trans (hc.mono HB7.out.size))
  have Ga8 := Lib.hid (Ga7.out.keep hc)
  have Gb8 := Lib.hid ((IsBox.new w7 (.int .i64 3) (.int .i64 (-3)) (.string ⟨#[]⟩) (.slice none 0 0) (.slice none 0 0) (.slice none 0 0)).keep hb)
  clear hc
  clear hb
  go_wp2_with fail
  go_at_call 22
  refine (known1 _ _).mono ?_
  rintro e w9 ⟨rfl, hb⟩
  have HB9 := Lib.hid (HB8.out.trans (hb.mono HB8.out.size))
  have Ga9 := Lib.hid (Ga8.out.keep hb)
  have Gb9 := Lib.hid (Gb8.out.keep hb)
  clear hb
  go_wp2_with fail
  go_at_call 13
  refine (HC2.out _).mono ?_
  rintro e w10 ⟨rfl, hb⟩
  have HB10 := Lib.hid (HB9.out.trans (hb.mono HB9.out.size))
  have Ga10 := Lib.hid (Ga9.out.keep hb)
  have Gb10 := Lib.hid (Gb9.out.keep hb)
  clear hb
  go_wp2_with fail
  go_at_call 23
  refine (known2 _ _).mono ?_
  rintro e w11 ⟨rfl, hb⟩
  have hc : Below w10.heap.size w10 w11 := ((Below.refl _ w10).alloc (Nat.le_refl _) _).trans (hb.mono (by simp))
  have HB11 := Lib.hid (HB10.out.trans (hc.mono HB10.out.size))
  have Ga11 := Lib.hid (Ga10.out.keep hc)
  have Gb11 := Lib.hid (Gb10.out.keep hc)
  have Gc11 := Lib.hid ((IsBox.new w10 (.int .i64 3) (.int .i64 (-1)) (.string ⟨#[]⟩) (.slice none 0 0) (.slice none 0 0) (.slice none 0 0)).keep hb)
  clear hc
  clear hb
  go_wp2_with fail
  go_at_call 22
  refine (known1 _ _).mono ?_
  rintro e w12 ⟨rfl, hb⟩
  have HB12 := Lib.hid (HB11.out.trans (hb.mono HB11.out.size))
  have Ga12 := Lib.hid (Ga11.out.keep hb)
  have Gb12 := Lib.hid (Gb11.out.keep hb)
  have Gc12 := Lib.hid (Gc11.out.keep hb)
  clear hb
  go_wp2_with fail
  go_at_call 9
  refine (HC3.out _).mono ?_
  rintro e w13 ⟨rfl, hb⟩
  have HB13 := Lib.hid (HB12.out.trans (hb.mono HB12.out.size))
  have Ga13 := Lib.hid (Ga12.out.keep hb)
  have Gb13 := Lib.hid (Gb12.out.keep hb)
  have Gc13 := Lib.hid (Gc12.out.keep hb)
  clear hb
  go_wp2_with fail
  go_at_call 23
  refine (known2 _ _).mono ?_
  rintro e w14 ⟨rfl, hb⟩
  have hc : Below w13.heap.size w13 w14 := ((Below.refl _ w13).alloc (Nat.le_refl _) _).trans (hb.mono (by simp))
  have HB14 := Lib.hid (HB13.out.trans (hc.mono HB13.out.size))
  have Ga14 := Lib.hid (Ga13.out.keep hc)
  have Gb14 := Lib.hid (Gb13.out.keep hc)
  have Gc14 := Lib.hid (Gc13.out.keep hc)
  clear hc
  clear hb
  go_wp2_with fail
  go_at_call 22
  refine (known1 _ _).mono ?_
  rintro e w15 ⟨rfl, hb⟩
  have HB15 := Lib.hid (HB14.out.trans (hb.mono HB14.out.size))
  have Ga15 := Lib.hid (Ga14.out.keep hb)
  have Gb15 := Lib.hid (Gb14.out.keep hb)
  have Gc15 := Lib.hid (Gc14.out.keep hb)
  clear hb
  go_wp2_with fail
  go_at_call 10
  refine (HC4.out _).mono ?_
  rintro e w16 ⟨rfl, hb⟩
  have HB16 := Lib.hid (HB15.out.trans (hb.mono HB15.out.size))
  have Ga16 := Lib.hid (Ga15.out.keep hb)
  have Gb16 := Lib.hid (Gb15.out.keep hb)
  have Gc16 := Lib.hid (Gc15.out.keep hb)
  clear hb
  go_wp2_with fail
  go_at_call 23
  refine (known2 _ _).mono ?_
  rintro e w17 ⟨rfl, hb⟩
  have hc : Below w16.heap.size w16 w17 := ((Below.refl _ w16).alloc (Nat.le_refl _) _).trans (hb.mono (by simp))
  have HB17 := Lib.hid (HB16.out.trans (hc.mono HB16.out.size))
  have Ga17 := Lib.hid (Ga16.out.keep hc)
  have Gb17 := Lib.hid (Gb16.out.keep hc)
  have Gc17 := Lib.hid (Gc16.out.keep hc)
  clear hc
  clear hb
  go_wp2_with fail
  go_at_call 22
  refine (known1 _ _).mono ?_
  rintro e w18 ⟨rfl, hb⟩
  have HB18 := Lib.hid (HB17.out.trans (hb.mono HB17.out.size))
  have Ga18 := Lib.hid (Ga17.out.keep hb)
  have Gb18 := Lib.hid (Gb17.out.keep hb)
  have Gc18 := Lib.hid (Gc17.out.keep hb)
  clear hb
  go_wp2_with fail
  go_at_call 11
  refine (HC5.out _).mono ?_
  rintro e w19 ⟨rfl, hb⟩
  have HB19 := Lib.hid (HB18.out.trans (hb.mono HB18.out.size))
  have Ga19 := Lib.hid (Ga18.out.keep hb)
  have Gb19 := Lib.hid (Gb18.out.keep hb)
  have Gc19 := Lib.hid (Gc18.out.keep hb)
  clear hb
  go_wp2_with fail
  go_at_call 23
  refine (known2 _ _).mono ?_
  rintro e w20 ⟨rfl, hb⟩
  have hc : Below w19.heap.size w19 w20 := ((Below.refl _ w19).alloc (Nat.le_refl _) _).trans (hb.mono (by simp))
  have HB20 := Lib.hid (HB19.out.trans (hc.mono HB19.out.size))
  have Ga20 := Lib.hid (Ga19.out.keep hc)
  have Gb20 := Lib.hid (Gb19.out.keep hc)
  have Gc20 := Lib.hid (Gc19.out.keep hc)
  clear hc
  clear hb
  go_wp2_with fail
  go_at_call 22
  refine (known1 _ _).mono ?_
  rintro e w21 ⟨rfl, hb⟩
  have HB21 := Lib.hid (HB20.out.trans (hb.mono HB20.out.size))
  have Ga21 := Lib.hid (Ga20.out.keep hb)
  have Gb21 := Lib.hid (Gb20.out.keep hb)
  have Gc21 := Lib.hid (Gc20.out.keep hb)
  clear hb
  go_wp2_with fail
  go_at_call 13
  refine (HC6.out _).mono ?_
  rintro e w22 ⟨rfl, hb⟩
  have HB22 := Lib.hid (HB21.out.trans (hb.mono HB21.out.size))
  have Ga22 := Lib.hid (Ga21.out.keep hb)
  have Gb22 := Lib.hid (Gb21.out.keep hb)
  have Gc22 := Lib.hid (Gc21.out.keep hb)
  clear hb
  go_wp2_with fail
  go_at_call 23
  refine (known2 _ _).mono ?_
  rintro e w23 ⟨rfl, hb⟩
  have hc : Below w22.heap.size w22 w23 := ((Below.refl _ w22).alloc (Nat.le_refl _) _).trans (hb.mono (by simp))
  have HB23 := Lib.hid (HB22.out.trans (hc.mono HB22.out.size))
  have Ga23 := Lib.hid (Ga22.out.keep hc)
  have Gb23 := Lib.hid (Gb22.out.keep hc)
  have Gc23 := Lib.hid (Gc22.out.keep hc)
  have Gd23 := Lib.hid ((IsBox.new w22 (.int .i64 4) (.int .i64 0) (.string ⟨#[]⟩) (.slice none 0 0) (.slice none 0 0) (.slice none 0 0)).keep hb)
  clear hc
  clear hb
  go_wp2_with fail
  go_at_call 14
  refine (HC7.out _).mono ?_
  rintro e w24 ⟨rfl, hb⟩
  have HB24 := Lib.hid (HB23.out.trans (hb.mono HB23.out.size))
  have Ga24 := Lib.hid (Ga23.out.keep hb)
  have Gb24 := Lib.hid (Gb23.out.keep hb)
  have Gc24 := Lib.hid (Gc23.out.keep hb)
  have Gd24 := Lib.hid (Gd23.out.keep hb)
  clear hb
  go_wp2_with fail
  go_at_call 22
  refine (known1 _ _).mono ?_
  rintro e w25 ⟨rfl, hb⟩
  have hc : Below w24.heap.size w24 w25 := ((Below.refl _ w24).alloc (Nat.le_refl _) _).trans (hb.mono (by simp))
  have HB25 := Lib.hid (HB24.out.trans (hc.mono HB24.out.size))
  have Ga25 := Lib.hid (Ga24.out.keep hc)
  have Gb25 := Lib.hid (Gb24.out.keep hc)
  have Gc25 := Lib.hid (Gc24.out.keep hc)
  have Gd25 := Lib.hid (Gd24.out.keep hc)
  clear hc
  clear hb
  go_wp2_with fail
  go_at_call 14
  refine (HC8.out _).mono ?_
  rintro e w26 ⟨rfl, hb⟩
  have HB26 := Lib.hid (HB25.out.trans (hb.mono HB25.out.size))
  have Ga26 := Lib.hid (Ga25.out.keep hb)
  have Gb26 := Lib.hid (Gb25.out.keep hb)
  have Gc26 := Lib.hid (Gc25.out.keep hb)
  have Gd26 := Lib.hid (Gd25.out.keep hb)
  clear hb
  go_wp2_with fail
  go_at_call 22
  refine (known1 _ _).mono ?_
  rintro e w27 ⟨rfl, hb⟩
  have hc : Below w26.heap.size w26 w27 := ((Below.refl _ w26).alloc (Nat.le_refl _) _).trans (hb.mono (by simp))
  have HB27 := Lib.hid (HB26.out.trans (hc.mono HB26.out.size))
  have Ga27 := Lib.hid (Ga26.out.keep hc)
  have Gb27 := Lib.hid (Gb26.out.keep hc)
  have Gc27 := Lib.hid (Gc26.out.keep hc)
  have Gd27 := Lib.hid (Gd26.out.keep hc)
  have Go27 := Lib.hid ((IsBox.new w26 (.int .i64 4) (.int .i64 2147483648) (.string ⟨#[]⟩) (.slice none 0 0) (.slice none 0 0) (.slice none 0 0)).keep hb)
  clear hc
  clear hb
  go_wp2_with fail
  go_at_call 22
  refine (known1 _ _).mono ?_
  rintro e w28 ⟨rfl, hb⟩
  have HB28 := Lib.hid (HB27.out.trans (hb.mono HB27.out.size))
  have Ga28 := Lib.hid (Ga27.out.keep hb)
  have Gb28 := Lib.hid (Gb27.out.keep hb)
  have Gc28 := Lib.hid (Gc27.out.keep hb)
  have Gd28 := Lib.hid (Gd27.out.keep hb)
  have Go28 := Lib.hid (Go27.out.keep hb)
  clear hb
  go_wp2_with fail
  go_at_call 12
  refine (HC9.out _).mono ?_
  rintro e w29 ⟨rfl, hb⟩
  have HB29 := Lib.hid (HB28.out.trans (hb.mono HB28.out.size))
  have Ga29 := Lib.hid (Ga28.out.keep hb)
  have Gb29 := Lib.hid (Gb28.out.keep hb)
  have Gc29 := Lib.hid (Gc28.out.keep hb)
  have Gd29 := Lib.hid (Gd28.out.keep hb)
  have Go29 := Lib.hid (Go28.out.keep hb)
  clear hb
  obtain ⟨a0, a1, a2, a3, a4, a5⟩ := Ga29.out.cells
  obtain ⟨b0, b1, b2, b3, b4, b5⟩ := Gb29.out.cells
  obtain ⟨c0, c1, c2, c3, c4, c5⟩ := Gc29.out.cells
  obtain ⟨d0, d1, d2, d3, d4, d5⟩ := Gd29.out.cells
  obtain ⟨o0, o1, o2, o3, o4, o5⟩ := Go29.out.cells
  have ma : w4.heap.size < w29.heap.size := Ga29.out.lt
  have na : ¬ w4.heap.size = w29.heap.size := by omega
  have mb : w7.heap.size < w29.heap.size := Gb29.out.lt
  have nb : ¬ w7.heap.size = w29.heap.size := by omega
  have mc : w10.heap.size < w29.heap.size := Gc29.out.lt
  have nc : ¬ w10.heap.size = w29.heap.size := by omega
  have md : w22.heap.size < w29.heap.size := Gd29.out.lt
  have nd : ¬ w22.heap.size = w29.heap.size := by omega
  have mo : w26.heap.size < w29.heap.size := Go29.out.lt
  have no : ¬ w26.heap.size = w29.heap.size := by omega
  go_wp2_with fail
  go_at_call 18
  refine (of_any _ _).mono ?_
  rintro e v1 ⟨rfl, hb⟩
  clear a0 a1 a2 a3 a4 a5 b0 b1 b2 b3 b4 b5 c0 c1 c2 c3 c4 c5 d0 d1 d2 d3 d4 d5 o0 o1 o2 o3 o4 o5 ma na mb nb mc nc md nd mo no
  have hfd : (Instr.field 26 (.agg #[.int .i64 (ofK 2147483648), .int .i64 2147483648, .string ⟨#[]⟩, .slice none 0 0, .slice none 0 0, .slice none 0 0]) 0).run Try.prog v1 = .ok (.int .i64 4) v1 := by kernel_rfl
  have HV1 := Lib.hid ((HB29.out.alloc HB29.out.size _).trans (hb.mono (HB29.out.alloc HB29.out.size _).size))
  clear hb
  go_wp2_with fail
  go_ret
  exact ⟨rfl, HV1.out⟩
end Go.Proofs.Ytkmibpjhfgbckaa
