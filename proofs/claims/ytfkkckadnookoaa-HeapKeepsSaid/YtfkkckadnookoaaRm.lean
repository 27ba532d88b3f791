/- A WORLD AS ANOTHER, BUT FOR SOME BLOCKS (of no program). -/
import Derived.Test.YtfkkckadnookoaaRows
import Derived.WalkKit
import Derived.Laws.AppendOwn
import Derived.Below
namespace Go.Proofs.Ytfkkckadnookoaa
open Go.RowKit
/-- w' is as w, but for what F names, and new blocks. -/
structure RM (F : Nat → Prop) (w w' : World) : Prop where
  os : w'.os = w.os
  tape : w'.tape = w.tape
  output : w'.output = w.output
  size : w.heap.size ≤ w'.heap.size
  block : ∀ k, k < w.heap.size → ¬ F k → w'.heap[k]? = w.heap[k]?
section
variable {F G F' : Nat → Prop} {w w' w2 : World}
theorem RM.refl (F : Nat → Prop) (w : World) : RM F w w := ⟨rfl, rfl, rfl, Nat.le_refl _, fun _ _ _ => rfl⟩
theorem RM.trans (h : RM F w w') (h2 : RM G w' w2) (hG : ∀ k, k < w.heap.size → G k → F k) : RM F w w2 :=
  ⟨h2.os.trans h.os, h2.tape.trans h.tape, h2.output.trans h.output, Nat.le_trans h.size h2.size, fun k hk hn => (h2.block k (Nat.lt_of_lt_of_le hk h.size) (fun e => hn (hG k hk e))).trans (h.block k hk hn)⟩
theorem RM.of_below (hb : Below w.heap.size w w') : RM F w w' := ⟨hb.os, hb.tape, hb.output, hb.size, fun k hk _ => hb.block k hk⟩
theorem RM.of_grown {row : Option Nat} (h : w.grownBy w' row) : RM (fun k => row = some k) w w' := ⟨h.os, h.tape, h.output, h.size, fun k hk hn => h.block k hk (fun e => hn e.symm)⟩
theorem RM.below {B : Nat} (h : RM F w w') (hB : B ≤ w.heap.size) (hF : ∀ k, F k → B ≤ k) : Below B w w' := ⟨h.os, h.tape, h.output, h.size, fun k hk => h.block k (by omega) (fun e => by have := hF k e; omega)⟩
theorem RM.cell {b o : Nat} {v : Value} (h : RM F w w') (hc : w.cell? ⟨b, o, none⟩ = some v) (hn : ¬ F b) : w'.cell? ⟨b, o, none⟩ = some v :=
  (World.cell?_of_block (a := ⟨b, o, none⟩) (h.block b (World.block_lt_of_cell? w _ hc) hn)).trans hc
theorem RM.mono (h : RM F w w') (hF : ∀ k, k < w.heap.size → F k → G k) : RM G w w' := ⟨h.os, h.tape, h.output, h.size, fun k hk hn => h.block k hk (fun e => hn (hF k hk e))⟩
end
end Go.Proofs.Ytfkkckadnookoaa
