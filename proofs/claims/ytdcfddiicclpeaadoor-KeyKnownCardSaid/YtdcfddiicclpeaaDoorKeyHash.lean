/- key.Hash, Part; aqueductref5.Hash. -/
import Derived.Test.YtdcfddiicclpeaaDoorSealRow
import Derived.IntWalk
import Derived.Laws.BitsAllLaws
namespace Go.Proofs.YtdcfddiicclpeaaDoor
open Go.RowKit
open Seal
/-- A step of the hash. -/
def hstep (h c : Int) : Int := IntKind.u64.wrap (bits .xor .u64 h c * 1099511628211)
def hfold (h : Int) : Int := bits .xor .u64 h (h / 2 ^ 33)
def hrun (h : Int) : List Nat → Int
  | [] => h
  | c :: r => hrun (hstep h (c : Int)) r
def hlow (lev : Int) : Int := IntKind.u8.wrap lev
def hbegin (lev : Int) : Int := hstep 14695981039346656037 (hlow lev)
def hash (l : List Nat) (lev : Int) : Int := hfold (IntKind.u64.wrap (hfold (hrun (hbegin lev) l) * 18397679294719823053))
theorem hrun_snoc (l : List Nat) (x : Int) (k : Nat) (hk : k < l.length) : hrun x (l.take (k + 1)) = hstep (hrun x (l.take k)) (l.getD k 0 : Nat) := by
  have g : ∀ (a : List Nat) (x : Int) (c : Nat), hrun x (a ++ [c]) = hstep (hrun x a) c := by
    intro a
    induction a with
    | nil => intro x c; rfl
    | cons b r ih => intro x c; exact ih _ c
  rw [List.take_succ_eq_append_getElem hk, g]
  congr 2
  simp [List.getD_eq_getElem?_getD, List.getElem?_eq_getElem hk]
set_option maxRecDepth 100000 in
theorem step_any (h c : Int) (hc : 0 ≤ c ∧ c < 256) (w : World) : Calls Tryd.prog 47 #[.int .u64 h, .int .u8 c] w fun e w' => e = .returned (.int .u64 (hstep h c)) ∧ w' = w := by
  have hw : IntKind.u64.wrap c = c := by rw [IntKind.wrap_u64]; omega
  go_enter Tryd.func47, Tryd.ntmps47
  go_wp2_with fail
  go_ret
  exact ⟨rfl, rfl⟩
set_option maxRecDepth 100000 in
theorem fold_any (h : Int) (w : World) : Calls Tryd.prog 48 #[.int .u64 h] w fun e w' => e = .returned (.int .u64 (hfold h)) ∧ w' = w := by
  go_enter Tryd.func48, Tryd.ntmps48
  go_wp2_with fail
  go_ret
  exact ⟨rfl, rfl⟩
theorem getD_256 {l : List Nat} (ho : Oct l) (k : Nat) : l.getD k 0 < 256 := by
  by_cases h : k < l.length
  · rw [List.getD_eq_getElem?_getD, List.getElem?_eq_getElem h]; exact ho _ (List.getElem_mem h)
  · rw [List.getD_eq_getElem?_getD, List.getElem?_eq_none (by omega)]; decide
set_option maxRecDepth 100000 in
set_option maxHeartbeats 1000000 in
theorem hash_any (w : World) (a : Option Addr) (n c : Nat) (l : List Nat) (lev : Int) (hn : l.length = n) (hS : SliceIs w a l) (ho : Oct l) (hnb : n ≤ 140737488355328) :
    Calls Tryd.prog 30 #[.slice a n c, .int .i64 lev] w fun e w' => e = .returned (.int .u64 (hash l lev)) ∧ w' = w := by
  have HN := Lib.hid hn
  have HS := Lib.hid hS
  have HO := Lib.hid ho
  have hlow2 : 0 ≤ hlow lev ∧ hlow lev < 256 := by unfold hlow; rw [IntKind.wrap_u8]; omega
  have HC0 := Lib.hid (step_any 14695981039346656037 (hlow lev) hlow2 w)
  obtain ⟨x0, hx0⟩ : ∃ x, x = hstep 14695981039346656037 (hlow lev) := ⟨_, rfl⟩
  rw [← hx0] at HC0
  have HBG : Hid (x0 = hrun (hbegin lev) (l.take 0)) := hx0
  have hlw : IntKind.u8.wrap lev = hlow lev := rfl
  generalize hlow lev = lw at *
  clear hn hS ho hlow2 hx0
  go_enter Tryd.func30, Tryd.ntmps30
  go_wp2_with fail
  try rw [hlw]
  refine HC0.out.mono ?_
  rintro e w1 ⟨rfl, rfl⟩
  go_wp2_with fail
  go_loopw [5, 13] (fun x i wr => ∃ k : Nat, i = .int .i64 k ∧ k ≤ n ∧ x = .int .u64 (hrun (hbegin lev) (l.take k)) ∧ wr = w1) (fun _ i _ => n - (intOf i).toNat)
  case atStart => exact ⟨0, rfl, Nat.zero_le _, by rw [HBG.out], rfl⟩
  case round =>
    obtain ⟨k, rfl, hk, rfl, rfl⟩ := hrel
    by_cases hlt : k < n
    · have hkl : k < l.length := by rw [HN.out]; exact hlt
      obtain ⟨g, o, hga, hr⟩ := HS.out.resolve_left (fun e => by rw [e] at hkl; cases hkl)
      obtain rfl := hga
      have hc := hr k hkl
      have hsn := hrun_snoc l (hbegin lev) k hkl
      have hb := getD_256 HO.out k
      obtain ⟨b, hbe⟩ : ∃ b, b = l.getD k 0 := ⟨_, rfl⟩
      rw [← hbe] at hc hsn hb
      have HSN := Lib.hid hsn
      have hsub : IntKind.i64.wrap ((k : Int) + 1) = (k : Int) + 1 := IntWalk.i64_in _ (by omega)
      have HC := Lib.hid (step_any (hrun (hbegin lev) (l.take k)) (b : Int) (by omega) wr)
      generalize hrun (hbegin lev) (l.take k) = x at *
      clear hr hkl hbe hsn hb HC0
      go_wp2_with fail
      go_at_call 47
      refine HC.out.mono ?_
      rintro e w2 ⟨rfl, rfl⟩
      go_wp2_with fail
      go_roundw
      case rel => exact ⟨k + 1, by go_num, by omega, by rw [HSN.out], trivial⟩
      case measure => simp [intOf]; omega
    · obtain rfl : k = n := by omega
      have HTK : Hid (l.take k = l) := List.take_of_length_le (by rw [HN.out]; exact Nat.le_refl _)
      rw [HTK.out]
      have HH : Hid (hash l lev = hfold (IntKind.u64.wrap (hfold (hrun (hbegin lev) l) * 18397679294719823053))) := rfl
      generalize hrun (hbegin lev) l = x at *
      clear HC0
      go_wp2_with fail
      go_at_call 48
      refine (fold_any x wr).mono ?_
      rintro e w2 ⟨rfl, rfl⟩
      go_wp2_with fail
      go_at_call 48
      refine (fold_any _ w2).mono ?_
      rintro e w3 ⟨rfl, rfl⟩
      go_wp2_with fail
      go_ret
      exact ⟨by rw [HH.out]; rfl, rfl⟩
set_option maxRecDepth 100000 in
set_option maxHeartbeats 1000000 in
theorem refHash_any (w : World) (a : Option Addr) (n c : Nat) (l : List Nat) (lev : Int) (hn : l.length = n) (hS : SliceIs w a l) (ho : Oct l) (hnb : n ≤ 140737488355328) :
    Calls Tryd.prog 29 #[.slice a n c, .int .i64 lev] w fun e w' => e = .returned (.int .u64 (hash l lev)) ∧ w' = w := by
  have HN := Lib.hid hn
  have HS := Lib.hid hS
  have HO := Lib.hid ho
  have hlow2 : 0 ≤ hlow lev ∧ hlow lev < 256 := by unfold hlow; rw [IntKind.wrap_u8]; omega
  have hlw : IntKind.u8.wrap lev = hlow lev := rfl
  have hlw2 : IntKind.u64.wrap (hlow lev) = hlow lev := by rw [IntKind.wrap_u64]; omega
  have HBG : Hid (hrun (hbegin lev) (l.take 0) = IntKind.u64.wrap (bits .xor .u64 14695981039346656037 (hlow lev) * 1099511628211)) := rfl
  generalize hlow lev = lw at *
  clear hn hS ho hlow2
  go_enter Tryd.func29, Tryd.ntmps29
  go_wp2_with fail
  generalize IntKind.u64.wrap (bits .xor .u64 14695981039346656037 lw * 1099511628211) = x0 at *
  go_loopw [5, 6] (fun x i wr => ∃ k : Nat, i = .int .i64 k ∧ k ≤ n ∧ x = .int .u64 (hrun (hbegin lev) (l.take k)) ∧ wr = w) (fun _ i _ => n - (intOf i).toNat)
  case atStart => exact ⟨0, rfl, Nat.zero_le _, by rw [HBG.out], rfl⟩
  case round =>
    obtain ⟨k, rfl, hk, rfl, rfl⟩ := hrel
    by_cases hlt : k < n
    · have hkl : k < l.length := by rw [HN.out]; exact hlt
      obtain ⟨g, o, hga, hr⟩ := HS.out.resolve_left (fun e => by rw [e] at hkl; cases hkl)
      obtain rfl := hga
      have hc := hr k hkl
      have hsn := hrun_snoc l (hbegin lev) k hkl
      have hb := getD_256 HO.out k
      obtain ⟨b, hbe⟩ : ∃ b, b = l.getD k 0 := ⟨_, rfl⟩
      rw [← hbe] at hc hsn hb
      have HSN := Lib.hid hsn
      have hwb : IntKind.u64.wrap (b : Int) = (b : Int) := by rw [IntKind.wrap_u64]; omega
      have hsub : IntKind.i64.wrap ((k : Int) + 1) = (k : Int) + 1 := IntWalk.i64_in _ (by omega)
      generalize hrun (hbegin lev) (l.take k) = x at *
      clear hr hkl hbe hsn hb
      go_wp2_with fail
      go_roundw
      case rel => exact ⟨k + 1, by go_num, by omega, by rw [HSN.out]; rfl, trivial⟩
      case measure => simp [intOf]; omega
    · obtain rfl : k = n := by omega
      have HTK : Hid (l.take k = l) := List.take_of_length_le (by rw [HN.out]; exact Nat.le_refl _)
      rw [HTK.out]
      have HH : Hid (hash l lev = hfold (IntKind.u64.wrap (hfold (hrun (hbegin lev) l) * 18397679294719823053))) := rfl
      generalize hrun (hbegin lev) l = x at *
      go_wp2_with fail
      go_ret
      exact ⟨by rw [HH.out]; rfl, rfl⟩
def hpart (h many : Int) : Int := if many < 1 then 0 else h % many
theorem hfold_nn (x : Int) : 0 ≤ hfold x := by
  show 0 ≤ IntKind.u64.wrap _
  rw [IntKind.wrap_u64]
  omega
set_option maxRecDepth 100000 in
set_option maxHeartbeats 1000000 in
theorem part_any (w : World) (a : Option Addr) (n c : Nat) (l : List Nat) (lev many : Int) (hn : l.length = n) (hS : SliceIs w a l) (ho : Oct l) (hnb : n ≤ 140737488355328) (hm : many ≤ 9223372036854775807) :
    Calls Tryd.prog 31 #[.slice a n c, .int .i64 lev, .int .i64 many] w fun e w' => e = .returned (.int .i64 (hpart (hash l lev) many)) ∧ w' = w := by
  have HC := Lib.hid (hash_any w a n c l lev hn hS ho hnb)
  clear hn hS ho hnb
  by_cases h1 : many < 1
  · have hd : decide (many < 1) = true := decide_eq_true h1
    have HR : Hid (hpart (hash l lev) many = 0) := if_pos h1
    clear HC
    go_enter Tryd.func31, Tryd.ntmps31
    go_wp2_with fail
    go_ret
    exact ⟨by rw [HR.out]; rfl, rfl⟩
  · have hd : decide (many < 1) = false := decide_eq_false h1
    have hw : IntKind.u64.wrap many = many := by rw [IntKind.wrap_u64]; omega
    have hnn : 0 ≤ hash l lev := hfold_nn _
    have HR : Hid (hpart (hash l lev) many = hash l lev % many) := if_neg h1
    generalize hash l lev = x at *
    have hne : (many == 0) = false := by rw [beq_eq_false_iff_ne]; omega
    have hm1 := Int.emod_nonneg x (show many ≠ 0 by omega)
    have hm2 := Int.emod_lt_of_pos x (show 0 < many by omega)
    have hw64 : wrap64 (x % many) = x % many := by unfold wrap64; omega
    clear hm1 hm2
    go_enter Tryd.func31, Tryd.ntmps31
    go_wp2_with fail
    go_at_call 30
    refine HC.out.mono ?_
    rintro e w2 ⟨rfl, rfl⟩
    go_wp2_with fail
    go_ret
    exact ⟨by rw [HR.out]; show Ending.returned (Value.int .i64 (wrap64 (x % many))) = _; rw [hw64], rfl⟩
end Go.Proofs.YtdcfddiicclpeaaDoor
