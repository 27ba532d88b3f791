/- THE WALK OF SealOpens. -/
import Derived.Test.YteepbligpfljkaaDoorSealAwake
import Derived.Test.YteepbligpfljkaaDoorSealRefOpen
namespace Go.Proofs.YteepbligpfljkaaDoor
open Go.RowKit
open Seal
set_option maxHeartbeats 2000000 in
theorem opens_any (sa : Option Addr) (na ca : Nat) (la : List Nat) (w : World)
    (hla : la.length = na) (hoa : Oct la) (hsa : SliceIs w sa la) (hca : na ≤ ca) (hma : ca ≤ 9223372036854775807) (ht : Tab w) (h0 : 0 < w.heap.size) :
    Calls Tryd.prog 4 #[.slice sa na ca] w fun e w' => e = .returned (.bool true) ∧ Below w.heap.size w w' := by
  by_cases hbig : 5000 < na
  · go_enter Tryd.func4, Tryd.ntmps4
    go_wp2_with fail
    refine (awake_any _ ht h0).mono ?_
    rintro e w1 ⟨rfl, hB1⟩
    have HB1 := Lib.hid hB1
    go_wp2_with fail
    go_ret
    exact ⟨rfl, HB1.out⟩
  · go_enter Tryd.func4, Tryd.ntmps4
    go_wp2_with fail
    refine (awake_any _ ht h0).mono ?_
    rintro e w1 ⟨rfl, hB1⟩
    go_wp2_with fail
    refine (open_at sa na ca la w1 hla hca (by omega) hoa (hsa.keep hB1) (ht.below hB1 h0)).mono ?_
    generalize hr : openB la = r
    have Hr := Lib.hid hr
    clear hr
    rintro e w2 ⟨a2, c2, rfl, hS2, hA2, hB2⟩
    have hB02 : Below w.heap.size w w2 := hB1.trans (hB2.mono hB1.size)
    obtain ⟨r1, r2, r3⟩ := r
    simp only at hS2 ⊢
    clear hB2 hA2 hB1
    go_wp2_with fail
    refine (refopen_any sa na ca la w2 hla hca (by omega) hoa (hsa.keep hB02)).mono ?_
    rw [Hr.out]
    rintro e w3 ⟨a3, c3, rfl, hS3, hA3, hB3⟩
    have hB03 : Below w.heap.size w w3 := hB02.trans (hB3.mono hB02.size)
    have hS2' := hS2.keep hB3
    simp only at hS3 ⊢
    clear hS2 hB3 hA3 hB02
    obtain ⟨m, hm⟩ : ∃ m, m = r2.length := ⟨_, rfl⟩
    rw [← hm]
    have hc1 : ∀ n, (convert 22 9 (.slice a2 m c2)).run Tryd.prog (w3.drewN n) = .ok (.string (strB r2)) (w3.drewN n) := fun n => conv_str _ a2 m c2 r2 hm.symm (hS2'.drewN n)
    have hc2 : ∀ n, (convert 22 9 (.slice a3 m c3)).run Tryd.prog (w3.drewN n) = .ok (.string (strB r2)) (w3.drewN n) := fun n => conv_str _ a3 m c3 r2 hm.symm (hS3.drewN n)
    have hc1' := hc1 0
    have hc2' := hc2 0
    rw [World.drewN_zero] at hc1' hc2'
    have HB := Lib.hid hB03
    generalize strB r2 = txt at *
    clear hS2' hS3 hm hB03 hc1 hc2
    go_wp2_with fail
    go_ret
    exact ⟨rfl, HB.out⟩
end Go.Proofs.YteepbligpfljkaaDoor
