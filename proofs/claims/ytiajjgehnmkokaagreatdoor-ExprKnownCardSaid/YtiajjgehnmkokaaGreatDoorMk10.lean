/- PathUtf8. -/
import Derived.Lib.ValidLaws
import Derived.Laws.BitsAllLaws
import Derived.Test.YtiajjgehnmkokaaGreatDoorMk9
import Derived.Test.YtiajjgehnmkokaaGreatDoorMk1
set_option maxRecDepth 100000
set_option maxHeartbeats 20000000
section
namespace Go.Proofs.YtiajjgehnmkokaaGreatDoor
open Go.RowKit
open Seal
open Bson (Val)
namespace Path
def byte (s : ByteArray) (k : Nat) : Nat := (s.data.toList.getD k 0).toNat
theorem byte_lt (s : ByteArray) (k : Nat) : byte s k < 256 := (s.data.toList.getD k 0).toNat_lt
theorem len_list (s : ByteArray) : s.data.toList.length = s.size := Array.length_toList
theorem run_byte (s : ByteArray) (k : Nat) (hk : k < s.size) (W : World) : (Instr.index 9 (.string s) (.int .i64 (k : Int))).run Tryz.prog W = .ok (.int .u8 ((byte s k : Nat) : Int)) W := by
 rw [run_index_string W 9 s .i64 (k : Int) (by kernel_rfl), dif_pos ⟨by omega, by omega⟩]
 have : (s[(k : Int).toNat]'(by omega)).toNat = byte s k := by
  unfold byte
  rw [List.getD_eq_getElem?_getD, List.getElem?_eq_getElem (by rw [len_list]; omega)]
  rfl
 rw [this]
end Path
open Path
end Go.Proofs.YtiajjgehnmkokaaGreatDoor
end
