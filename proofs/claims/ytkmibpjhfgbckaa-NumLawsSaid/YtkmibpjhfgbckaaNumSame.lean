/- aqueductref5.Same of a value of one number and itself (a walk). -/
import Derived.Test.YtkmibpjhfgbckaaNumBox
import Derived.Test.YtkmibpjhfgbckaaBytesStr
namespace Go.Proofs.Ytkmibpjhfgbckaa
open Go.RowKit
open Seal
set_option maxRecDepth 100000 in
set_option maxHeartbeats 4000000 in
theorem sameLeaf (k n : Int) (w : World) : Calls Try.prog 16 #[.agg #[.int .i64 k, .int .i64 n, .string ⟨#[]⟩, .slice none 0 0, .slice none 0 0, .slice none 0 0], .agg #[.int .i64 k, .int .i64 n, .string ⟨#[]⟩, .slice none 0 0, .slice none 0 0, .slice none 0 0]] w (BoolBe true w) := by
  go_enter Try.func16, Try.ntmps16
  have hcv : ∀ W : World, (convert 22 9 (.slice none 0 0)).run Try.prog W = .ok (.string ⟨#[]⟩) W := fun W => conv_str W none 0 0 [] rfl (.inl rfl)
  go_wp2_with fail
  clear hcv
  go_loop [5] (fun i => i = .int .i64 0) (fun _ => 0)
  case atStart => rfl
  case round =>
    obtain rfl := hrel
    go_wp2_with fail
    go_loop [6] (fun i => i = .int .i64 0) (fun _ => 0)
    case atStart => rfl
    case round =>
      obtain rfl := hrel
      go_wp2_with fail
      go_ret
      exact ⟨rfl, ((Below.refl _ w).alloc (Nat.le_refl _) _).alloc (by simp) _⟩
end Go.Proofs.Ytkmibpjhfgbckaa
