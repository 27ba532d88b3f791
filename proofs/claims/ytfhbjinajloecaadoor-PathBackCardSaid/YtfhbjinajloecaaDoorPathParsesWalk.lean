/- aqueductlaw6.PathParses. -/
import Derived.Test.YtfhbjinajloecaaDoorPathAwake
namespace Go.Proofs.YtfhbjinajloecaaDoor
open Go.RowKit
open Seal
open Path
theorem names_inj : ∀ {a b : List (List UInt8)}, names a = names b → a = b
  | [], [], _ => rfl
  | [], _ :: _, h => by cases h
  | _ :: _, [], h => by cases h
  | x :: a, y :: b, h => by
    have h1 : (⟨x.toArray⟩ : ByteArray) :: names a = ⟨y.toArray⟩ :: names b := h
    injection h1 with h2 h3
    injection h2 with h2
    have : x = y := by simpa using congrArg Array.toList h2
    rw [this, names_inj h3]
set_option maxRecDepth 100000 in
set_option maxHeartbeats 1000000 in
theorem parses_law (s : ByteArray) (w : World) (hG : Ground w) : Calls Tryd.prog 3 #[.string s] w fun e w' => e = .returned (.bool true) ∧ Below w.heap.size w w' := by
  have CA := Lib.hid (awake_any w hG)
  by_cases hlong : s.size ≤ 3000
  · have CP := Lib.hid (fun wx hg => Parse_any s wx (by omega) hg)
    have CQ := Lib.hid (fun wx hg => RefParse_any s wx (by omega))
    have HG := Lib.hid hG
    clear hG
    go_enter Tryd.func3, Tryd.ntmps3
    go_wp2_with fail
    refine CA.out.mono ?_
    rintro e w1 ⟨rfl, hb1⟩
    have HB1 := Lib.hid hb1
    clear hb1 CA
    go_wp2_with fail
    refine (CP.out w1 (HG.out.keep HB1.out)).mono ?_
    rintro e w2 ⟨v2, b2, rfl, hb2, hy2, hn2⟩
    have HB2 : Hid (Below w.heap.size w w2) := HB1.out.trans (hb2.mono HB1.out.size)
    have HY2 := Lib.hid hy2; have HN2 := Lib.hid hn2
    clear hb2 HB1 hy2 hn2
    go_wp2_with fail
    refine (RefParse_any s w2 (by omega)).mono ?_
    rintro e w3 ⟨v3, b3, rfl, hb3, hy3, hn3⟩
    have HB3 : Hid (Below w.heap.size w w3) := HB2.out.trans (hb3.mono HB2.out.size)
    cases hp : parse s.data.toList with
    | none =>
      obtain ⟨rfl, rfl⟩ := HN2.out hp
      obtain ⟨rfl, rfl⟩ := hn3 hp
      have CT := Lib.hid (fun wx => texts_any (.slice none 0 0) (.slice none 0 0) [] [] wx ⟨none, 0, 0, rfl, rfl, by omega, .inl rfl⟩ ⟨none, 0, 0, rfl, rfl, by omega, .inl rfl⟩)
      clear hy3 hn3 hp HB2 HY2 HN2 hb3
      go_wp2_with fail
      refine (CT.out _).mono ?_
      rintro e w4 ⟨rfl, hb4⟩
      have HB4 : Hid (Below w.heap.size w w4) := HB3.out.trans (hb4.mono HB3.out.size)
      clear hb4
      go_wp2_with fail
      go_ret
      exact ⟨rfl, HB4.out⟩
    | some p =>
      obtain ⟨rfl, hn2⟩ := HY2.out p hp
      obtain ⟨rfl, hn3'⟩ := hy3 p hp
      have CT := Lib.hid (texts_any v2 v3 (names p) (names p) w3 (hn2.in.keep hb3) hn3'.in)
      rw [decide_eq_true (rfl : names p = names p)] at CT
      clear hy3 hn3 hp HB2 HY2 HN2 hb3 hn2 hn3'
      go_wp2_with fail
      refine CT.out.mono ?_
      rintro e w4 ⟨rfl, hb4⟩
      have HB4 : Hid (Below w.heap.size w w4) := HB3.out.trans (hb4.mono HB3.out.size)
      clear hb4
      go_wp2_with fail
      go_ret
      exact ⟨rfl, HB4.out⟩
  · clear hG
    go_enter Tryd.func3, Tryd.ntmps3
    go_wp2_with fail
    refine CA.out.mono ?_
    rintro e w1 ⟨rfl, hb1⟩
    have HB1 := Lib.hid hb1
    clear hb1 CA
    go_wp2_with fail
    go_ret
    exact ⟨rfl, HB1.out⟩
end Go.Proofs.YtfhbjinajloecaaDoor
