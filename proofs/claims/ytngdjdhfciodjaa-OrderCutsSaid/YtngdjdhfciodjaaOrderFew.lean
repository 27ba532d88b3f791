/- aqueductlaw7.Few: some answer. -/
import Derived.Test.YtngdjdhfciodjaaPathSmall
import Derived.Test.YtngdjdhfciodjaaValByt
import Derived.Test.YtngdjdhfciodjaaPathMem
namespace Go.Proofs.Ytngdjdhfciodjaa
open Go.RowKit
open Seal
open Bson (Val)
theorem VIn.some_h {w : World} {Q : Nat → Prop} : ∀ {h : Nat} {x : Val} {v : Value}, VIn w Q h x v → ∃ h', h = h' + 1
  | 0, _, _, hv => hv.elim
  | h + 1, _, _, _ => ⟨h, rfl⟩
set_option maxRecDepth 100000 in
set_option maxHeartbeats 4000000 in
theorem few_any (Q : Nat → Prop) (h : Nat) (a : Option Addr) (n c : Nat) (l : List Val) (w : World) (hn : l.length = n) (hnb : n ≤ 1353245080339) (hI : ItemsIn w Q (VIn w Q (h + 1)) a l) :
    Calls Try.prog 10 #[.slice a n c] w (SomeBool w) := by
  have HI := Lib.hid hI
  have HN := Lib.hid hn
  clear hI hn
  go_enter Try.func10, Try.ntmps10
  go_wp2_with fail
  go_loopw [3, 4] (fun q i wr => ∃ (k : Nat) (m : Int), q = .int .i64 m ∧ i = .int .i64 k ∧ k ≤ n ∧ Hid (Below w.heap.size w wr)) (fun _ i _ => n - (intOf i).toNat)
  case atStart => exact ⟨0, 0, rfl, rfl, Nat.zero_le _, Below.refl _ _⟩
  case round =>
    obtain ⟨k, m, rfl, rfl, hk, HB⟩ := hrel
    by_cases hlt : k < n
    · obtain ⟨g, o, hla, _, hall⟩ := HI.out.resolve_left (fun e => by have := HN.out; rw [e] at this; simp at this; omega)
      obtain ⟨v1, hsix, hV⟩ := hall k (by have := HN.out; omega)
      obtain rfl := hla
      obtain ⟨ka, na, sa, ba, fa, la, bl, bc, fl, fc, ll, lc, rfl⟩ := VIn.shape (h := h + 1) hV
      have HV := Lib.hid (VIn.keep (h := h + 1) HB.out hV)
      have HSX := Lib.hid (hsix.keep HB.out)
      obtain ⟨s0, s1, s2, s3, s4, s5⟩ := HSX.out.cells
      clear hall hsix hV
      go_wp2_with fail
      go_at_call 22
      refine (small_any Q h _ _ wr HV.out).mono ?_
      rintro e w1 ⟨b, rfl, _, hb1⟩
      have HB1 : Hid (Below w.heap.size w w1) := HB.out.trans (hb1.mono HB.out.size)
      have HV1 := Lib.hid (VIn.keep hb1 HV.out)
      obtain ⟨z0, z1, z2, z3, z4, z5⟩ := (HSX.out.keep hb1).cells
      clear hb1 s0 s1 s2 s3 s4 s5
      cases b with
      | false =>
        go_wp2_with fail
        go_ret
        exact ⟨_, rfl, HB1.out⟩
      | true =>
        go_wp2_with fail
        go_at_call 23
        refine (weight_any Q (h + 1) _ _ 3000 w1 HV1.out (by decide) (by decide)).mono ?_
        rintro e w2 ⟨r, rfl, _, _, _, hb2⟩
        have HB2 : Hid (Below w.heap.size w w2) := HB1.out.trans (hb2.mono HB1.out.size)
        clear hb2
        go_wp2_with fail
        go_roundw
        case rel => exact ⟨k + 1, _, rfl, by go_num, by omega, HB2⟩
        case measure => simp [intOf]; omega
    · by_cases h30 : n ≤ 30
      · have hd : decide ((n : Int) ≤ 30) = true := by rw [decide_eq_true_eq]; omega
        go_wp2_with fail
        go_ret
        exact ⟨_, rfl, HB.out⟩
      · have hd : decide ((n : Int) ≤ 30) = false := by rw [decide_eq_false_iff_not]; omega
        go_wp2_with fail
        go_ret
        exact ⟨_, rfl, HB.out⟩
end Go.Proofs.Ytngdjdhfciodjaa
