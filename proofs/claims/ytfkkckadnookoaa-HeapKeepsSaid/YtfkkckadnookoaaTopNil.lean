/- slices.SortFunc of no pile. -/
import Derived.Test.YtfkkckadnookoaaTopSort
namespace Go.Proofs.Ytfkkckadnookoaa
open Go.RowKit
open Seal
set_option maxRecDepth 100000 in
theorem insNil_any (w : World) : Calls Try.prog 37 #[.slice none 0 0, .int .i64 0, .int .i64 0, .func (.func 23) #[] #[]] w fun e w' => e = .returned (.tuple #[]) ∧ w' = w := by
  go_enter Try.func37, Try.ntmps37
  go_wp2
  go_loop [8] (fun i => i = .int .i64 1) (fun _ => 0)
  case atStart => rfl
  case round =>
    obtain rfl := hrel
    go_wp2
    go_end0
    exact ⟨rfl, rfl⟩
set_option maxRecDepth 100000 in
theorem pdqNil_any (w : World) : Calls Try.prog 29 #[.slice none 0 0, .int .i64 0, .int .i64 0, .int .i64 0, .func (.func 23) #[] #[]] w fun e w' => e = .returned (.tuple #[]) ∧ w' = w := by
  go_enter Try.func29, Try.ntmps29
  go_wp2
  go_loop [1, 2] (fun a b => a = .int .i64 0 ∧ b = .int .i64 0) (fun _ _ => 0)
  case atStart => exact ⟨rfl, rfl⟩
  case round =>
    obtain ⟨rfl, rfl⟩ := hrel
    go_wp2_with (go_at_call 37; refine (insNil_any _).mono ?_; rintro e w' ⟨rfl, rfl⟩)
    exact bodyPost_ret (results_none rfl _ _ _) rfl ⟨rfl, rfl⟩
set_option maxRecDepth 100000 in
theorem tsortNil_any (w : World) : Calls Try.prog 22 #[.slice none 0 0, .func (.func 23) #[] #[]] w fun e w' => e = .returned (.tuple #[]) ∧ w' = w := by
  have hl : Hid (Calls Try.prog 30 #[.int .u64 0] w fun e w' => e = .returned (.int .i64 0) ∧ w' = w) := (Try.bits_Len 0 w (by omega) (by omega)).mono fun e w' h => ⟨h.1.trans (by rfl), h.2⟩
  go_enter Try.func22, Try.ntmps22
  go_wp2_with (first | (go_at_call 30; refine hl.out.mono ?_; rintro e w' ⟨rfl, rfl⟩) | (go_at_call 29; refine (pdqNil_any _).mono ?_; rintro e w' ⟨rfl, rfl⟩))
  go_end0
  exact ⟨rfl, rfl⟩
end Go.Proofs.Ytfkkckadnookoaa
