/- WHAT THE LAWS OF tape SHARE (no walk). -/
import Derived.Test.YtbkiahnljklhpaaDoorTapeAwake
namespace Go.Proofs.YtbkiahnljklhpaaDoor
open Go.RowKit
open Seal
theorem few_true {rs : List (List Nat)} (h : fewB rs = true) : rs.length ≤ 100 ∧ total rs ≤ 10000 := by unfold fewB at h; simpa using h
theorem need_few {room n : Nat} (h : 54 ≤ room) (hn : n ≤ 10400) : Tape.need room n ≤ 193 := by
  rcases Nat.eq_zero_or_pos n with h0 | h0
  · subst h0; rw [Tape.need_zero (by omega)]; omega
  · have h1 := Tape.need_hi (room := room) (by omega) h0
    have h2 := Nat.mul_le_mul_left (Tape.need room n - 1) h
    omega
theorem few_stream {rs : List (List Nat)} (h : rs.length ≤ 100 ∧ total rs ≤ 10000) : (Tape.stream rs).length ≤ 10400 := by rw [length_stream]; omega
theorem few_len {rs : List (List Nat)} (h : rs.length ≤ 100 ∧ total rs ≤ 10000) : ∀ i, i < rs.length → (rs.getD i []).length ≤ 1048640 := fun i hi => Nat.le_trans (len_le_total hi) (by omega)
/-- Rows that came in, as a call that was begun in w sees them later. -/
theorem RowsIn.later {w w' : World} {a : Option Addr} {rs : List (List Nat)} {own : Nat → Nat} {B g gl : Nat} {s : Disk.St} {L : Int × Int × Int} (h : RowsIn w a rs fun b => b < w.heap.size) (hB : B = w.heap.size) (hb : Below w.heap.size w w') (hS : Sys B w' g gl s own L) : RowsIn w' a rs fun b => own b = 0 ∧ b ≠ gl :=
  h.keep (fun b hlt _ => hb.block b hlt) fun b hlt _ => ⟨hS.low b (by omega), by have := hS.glb; omega⟩
theorem RowsIn.later0 {w w' : World} {a : Option Addr} {rs : List (List Nat)} (h : RowsIn w a rs fun b => b < w.heap.size) (hb : Below w.heap.size w w') : RowsIn w' a rs fun b => b < w.heap.size := h.keep (fun b hlt _ => hb.block b hlt) fun _ hlt _ => hlt
theorem mx_zero (M : Int) (h : M = 0) (p : Int) (hp : 0 < p) : mx M p = p := by subst h; exact mx_pos hp
end Go.Proofs.YtbkiahnljklhpaaDoor
