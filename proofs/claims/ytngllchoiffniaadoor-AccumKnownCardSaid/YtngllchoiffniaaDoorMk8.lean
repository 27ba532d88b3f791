/- BsonValid. -/
import Derived.Test.YtngllchoiffniaaDoorMk7
set_option maxRecDepth 100000
set_option maxHeartbeats 20000000
section
namespace Go.Proofs.YtngllchoiffniaaDoor
open Go.RowKit
open Seal
structure Tabs8 (w : World) : Prop where
 first : ∀ c, c < 256 → w.cell? ⟨1, c, none⟩ = some (.int .u8 ((Lib.firstT c : Nat) : Int))
 lo : ∀ i, i < 16 → w.cell? ⟨2, i * 2, none⟩ = some (.int .u8 ((Lib.accLo i : Nat) : Int))
 hi : ∀ i, i < 16 → w.cell? ⟨2, i * 2 + 1, none⟩ = some (.int .u8 ((Lib.accHi i : Nat) : Int))
theorem Tabs8.keep {w w' : World} (h : Tabs8 w) (hb : Below w.heap.size w w') : Tabs8 w' :=
 ⟨fun c hc => (hb.cell (World.block_lt_of_cell? w _ (h.first c hc))).trans (h.first c hc), fun i hi => (hb.cell (World.block_lt_of_cell? w _ (h.lo i hi))).trans (h.lo i hi), fun i hi => (hb.cell (World.block_lt_of_cell? w _ (h.hi i hi))).trans (h.hi i hi)⟩
theorem U_drop (l : List Nat) (k : Nat) : U (l.drop k) = (U l).drop k := by unfold U; rw [List.map_drop]
theorem U_take (l : List Nat) (k : Nat) : U (l.take k) = (U l).take k := by unfold U; rw [List.map_take]
theorem octDrop {l : List Nat} (h : Oct l) (k : Nat) : Oct (l.drop k) := fun c hc => h c (List.mem_of_mem_drop hc)
theorem octTake {l : List Nat} (h : Oct l) (k : Nat) : Oct (l.take k) := fun c hc => h c (List.mem_of_mem_take hc)
theorem skip_asc (l : List Nat) (h : Oct l) (k : Nat) (ha : ∀ c ∈ l.take k, c < 128) : Lib.validD (U (l.drop k)) = Lib.validD (U l) := by
 rw [U_drop]
 refine (Lib.validD_ascii k (U l) ?_).symm
 rw [← U_take]
 exact (asc_U _ (octTake h k)).2 ha
theorem reads_drop {w : World} {g o : Nat} {l : List Nat} (h : Reads w g o l) (k : Nat) : Reads w g (o + k) (l.drop k) := by
 intro j hj
 have h1 := h (k + j) (by simp at hj; omega)
 rw [Nat.add_assoc, h1]
 simp [List.getD_eq_getElem?_getD]
structure St8 (w0 wr : World) (ANS : Bool) (g o m : Nat) (r : List Nat) : Prop where
 len : r.length = m
 oct : Oct r
 rd : Reads wr g o r
 val : Lib.validD (U r) = ANS
 bel : Below w0.heap.size w0 wr
theorem St8.skip {w0 wr : World} {ANS : Bool} {g o m : Nat} {r : List Nat} (h : St8 w0 wr ANS g o m r) (k : Nat) (ha : ∀ c ∈ r.take k, c < 128) {m' : Nat} (hm : m = m' + k) : St8 w0 wr ANS g (o + k) m' (r.drop k) :=
 ⟨by rw [List.length_drop, h.len]; omega, octDrop h.oct k, reads_drop h.rd k, (skip_asc r h.oct k ha).trans h.val, h.bel⟩
theorem St8.world {w0 wr w2 : World} {ANS : Bool} {g o m : Nat} {r : List Nat} (h : St8 w0 wr ANS g o m r) (n : Nat) (he : w2 = wr.drewN n) : St8 w0 w2 ANS g o m r := by
 subst he
 exact ⟨h.len, h.oct, h.rd.drewN n, h.val, Go.below_drewN h.bel n⟩
end Go.Proofs.YtngllchoiffniaaDoor
end
