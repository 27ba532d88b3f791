/- BYTES AS A TEXT (no walk). -/
import Derived.Test.YtfkkckadnookoaaSealRow
import Derived.WalkLawsBesides
import Derived.Laws.BytesArg
namespace Go.Proofs.Ytfkkckadnookoaa
open Go.RowKit
open Seal
/-- The text that bytes make. -/
def strB (l : List Nat) : ByteArray := ⟨(l.map UInt8.ofNat).toArray⟩
theorem strB_inj {l m : List Nat} (hl : Oct l) (hm : Oct m) (h : strB l = strB m) : l = m := by
  have e : l.map UInt8.ofNat = m.map UInt8.ofNat := by
    have := congrArg (fun b : ByteArray => b.data.toList) h
    simpa [strB] using this
  have e2 : (l.map UInt8.ofNat).map UInt8.toNat = (m.map UInt8.ofNat).map UInt8.toNat := by rw [e]
  rw [List.map_map, List.map_map] at e2
  have id1 : ∀ l : List Nat, Oct l → l.map (UInt8.toNat ∘ UInt8.ofNat) = l := by
    intro l hl
    induction l with
    | nil => rfl
    | cons c r ih =>
      have hc : c < 256 := hl c (by simp)
      rw [List.map_cons, ih (fun x hx => hl x (by simp [hx]))]
      simp [Nat.mod_eq_of_lt hc]
  rw [id1 l hl, id1 m hm] at e2
  exact e2
/-- A block of bytes that was just made, whatever of it is frozen. -/
theorem reads_new (w : World) (l : List Nat) (t : TypeId) (fr : Nat × Nat) : Reads (w.alloc (.cells (u8s l).toArray t fr)) w.heap.size 0 l := by
  intro j hj
  rw [Nat.zero_add, cell_of_row _ w.heap.size j _ _ _ (heap_alloc_new w _)]
  simp [u8s, u8, List.getElem?_eq_getElem hj, List.getD_eq_getElem?_getD]
set_option maxRecDepth 100000 in
theorem conv_str (w : World) (a : Option Addr) (n c : Nat) (l : List Nat) (hl : l.length = n) (h : SliceIs w a l) : (convert 28 9 (.slice a n c)).run Try.prog w = .ok (.string (strB l)) w := by
  subst hl
  rcases h with rfl | ⟨b, off, rfl, h⟩
  · cases a with
    | none => exact run_convert_bytes_nil w 28 5 Try.underlying28 Try.underlying5 0 c 9 Try.underlying9
    | some a =>
      rw [List.length_nil, run_convert_bytes_string w 28 9 5 _ 0 c Try.underlying28 Try.underlying5 Try.underlying9, run_bytesToString w a 0 c [] (by simpa using run_loadCells_list (P := Try.prog) w a [] (by simp))]
      rfl
  · have := run_convert_bytes_arg w 28 5 Try.underlying28 Try.underlying5 b off l.length c (l.map fun n : Nat => (n : Int)) (by simp) (fun i hi => by
      rw [h i hi]; simp [List.getD_eq_getElem?_getD, List.getElem?_eq_getElem hi]) 9 Try.underlying9
    rw [this]
    congr 3
    unfold strOfNums strB; rw [List.map_map]; congr 3
end Go.Proofs.Ytfkkckadnookoaa
