/- key.turn: the bytes of a slice turned round, in their place. -/
import Derived.Test.YtdcfddiicclpeaaDoorKeyPen
import Derived.IntWalk
namespace Go.Proofs.YtdcfddiicclpeaaDoor
open Go.RowKit
open Seal
open Bson (Val)
theorem bits_all : ∀ b : Fin 256, bits .xor .u8 (if IntKind.u8.signed = true then -1 else IntKind.u8.max) ((b.val : Nat) : Int) = ((255 - b.val : Nat) : Int) := by decide +kernel
theorem bits_255 {b : Nat} (h : b < 256) : bits .xor .u8 (if IntKind.u8.signed = true then -1 else IntKind.u8.max) (b : Int) = ((255 - b : Nat) : Int) := bits_all ⟨b, h⟩
/-- The first k of the bytes from o on are turned. -/
def TurnedTo (cur cur' : Array Value) (o k : Nat) (l : List Nat) : Prop := cur'.size = cur.size ∧ ∀ j, cur'[j]? = if o ≤ j ∧ j < o + k then some (.int .u8 ((255 - l.getD (j - o) 0 : Nat) : Int)) else cur[j]?
theorem TurnedTo.step {cur cur' : Array Value} {o k : Nat} {l : List Nat} (h : TurnedTo cur cur' o k l) (hfit : o + k < cur.size) : TurnedTo cur (cur'.setIfInBounds (o + k) (.int .u8 ((255 - l.getD k 0 : Nat) : Int))) o (k + 1) l := by
  refine ⟨by rw [Array.size_setIfInBounds]; exact h.1, fun j => ?_⟩
  rw [Array.getElem?_setIfInBounds]
  by_cases e : o + k = j
  · subst e
    rw [if_pos rfl, if_pos (by rw [h.1]; exact hfit), if_pos (by omega), Nat.add_sub_cancel_left]
  · rw [if_neg e, h.2 j]
    by_cases e2 : o ≤ j ∧ j < o + k
    · rw [if_pos e2, if_pos (by omega)]
    · rw [if_neg e2, if_neg (by omega)]
set_option maxRecDepth 100000 in
set_option maxHeartbeats 2000000 in
theorem turn_any (w : World) (g o m c : Nat) (cur : Array Value) (l : List Nat) (hrow : w.heap[g]? = some (.cells cur 5 (0, 0))) (hl : l.length = m) (hr : ∀ j, j < m → cur[o + j]? = some (.int .u8 ((l.getD j 0 : Nat) : Int))) (ho : Oct l)
    (hfit : o + m ≤ cur.size) (hm : m ≤ 2147483648) :
    Calls Tryd.prog 45 #[.slice (some ⟨g, o, none⟩) m c] w fun e w' => e = .returned (.tuple #[]) ∧ (∃ cur', w'.heap[g]? = some (.cells cur' 5 (0, 0)) ∧ TurnedTo cur cur' o m l) ∧ w.grownBy w' (some g) := by
  have HR := Lib.hid hr
  have HO := Lib.hid ho
  have HL := Lib.hid hl
  have H0 : Hid (w.heap[g]? = some (.cells cur 5 (0, 0)) ∧ TurnedTo cur cur o 0 l) := ⟨hrow, rfl, fun j => by rw [if_neg (by omega)]⟩
  have HG0 : Hid (w.grownBy w (some g)) := World.grownBy.refl w _
  clear hr ho hl hrow
  go_enter Tryd.func45, Tryd.ntmps45
  go_wp2_with fail
  go_loopw [6] (fun i wr => ∃ k : Nat, i = .int .i64 k ∧ k ≤ m ∧ Hid (∃ cur', wr.heap[g]? = some (.cells cur' 5 (0, 0)) ∧ TurnedTo cur cur' o k l) ∧ Hid (w.grownBy wr (some g))) (fun i _ => m - (intOf i).toNat)
  case atStart => exact ⟨0, rfl, Nat.zero_le _, ⟨cur, H0.out⟩, HG0⟩
  case round =>
    clear H0 HG0
    obtain ⟨k, rfl, hk, HC, HG⟩ := hrel
    by_cases hlt : k < m
    · obtain ⟨cur', hrow, hT⟩ := HC.out
      obtain ⟨b, hb⟩ : ∃ b, b = l.getD k 0 := ⟨_, rfl⟩
      have hb256 : b < 256 := by
        have hkl : k < l.length := by rw [HL.out]; exact hlt
        rw [hb, List.getD_eq_getElem?_getD, List.getElem?_eq_getElem hkl]
        exact HO.out _ (List.getElem_mem _)
      have hc : wr.cell? ⟨g, o + k, none⟩ = some (.int .u8 (b : Int)) := by
        rw [cell_of_row wr g (o + k) _ _ _ hrow, hT.2, if_neg (by omega), HR.out k hlt, hb]
      have hf : wr.frozen? ⟨g, o + k, none⟩ = false := frozen_of_row wr g (o + k) _ _ hrow
      have HN : Hid (TurnedTo cur (cur'.setIfInBounds (o + k) (.int .u8 ((255 - b : Nat) : Int))) o (k + 1) l) := by rw [hb]; exact hT.step (by omega)
      have HW := Lib.hid hrow
      have hsub : IntKind.i64.wrap ((k : Int) + 1) = (k : Int) + 1 := IntWalk.i64_in _ (by omega)
      have HB256 := Lib.hid hb256
      clear hb hT HC hrow hb256
      have hx := bits_255 HB256.out
      go_wp2_with fail
      go_roundw
      case rel => exact ⟨k + 1, by go_num, by omega, ⟨_, heap_setCell_same wr g (o + k) _ _ _ HW.out, HN.out⟩, grown_setCell HG.out _ _⟩
      case measure => simp [intOf]; omega
    · obtain rfl : k = m := by omega
      go_wp2_with fail
      refine bodyPost_end (results_none Tryd.results45 _ _ _) rfl ?_
      exact ⟨rfl, HC.out, HG.out⟩
end Go.Proofs.YtdcfddiicclpeaaDoor
