/- PathUtf8. -/
import Derived.Lib.ValidLaws
import Derived.Laws.BitsAllLaws
import Derived.Test.YtngllchoiffniaaGreatDoorMo20
import Derived.Test.YtngllchoiffniaaGreatDoorMo1
set_option maxRecDepth 100000
set_option maxHeartbeats 20000000
section
namespace Go.Proofs.YtngllchoiffniaaGreatDoor
open Go.RowKit
open Seal
open Bson (Val)
namespace Path
def byte (s : ByteArray) (k : Nat) : Nat := (s.data.toList.getD k 0).toNat
theorem byte_lt (s : ByteArray) (k : Nat) : byte s k < 256 := (s.data.toList.getD k 0).toNat_lt
theorem len_list (s : ByteArray) : s.data.toList.length = s.size := Array.length_toList
def Cls (c n lo hi : Nat) : Prop := Lib.firstT c % 8 = n + 1 ∧ Lib.accLo (Lib.firstT c / 16) = lo ∧ Lib.accHi (Lib.firstT c / 16) = hi ∧ (n = 1 ∨ n = 2 ∨ n = 3)
theorem getD_drop (l : List UInt8) (k j : Nat) : (l.drop k).getD j 0 = l.getD (k + j) 0 := by
 rw [List.getD_eq_getElem?_getD, List.getD_eq_getElem?_getD, List.getElem?_drop]
theorem low_step (s : ByteArray) (k : Nat) (hk : k < s.size) (h : byte s k < 128) : Lib.validD (s.data.toList.drop k) = Lib.validD (s.data.toList.drop (k + 1)) := by
 have hl := len_list s
 have e := List.drop_eq_getElem_cons (l := s.data.toList) (i := k) (by omega)
 rw [e]
 refine Lib.validD_cons _ _ ?_
 have : byte s k = (s.data.toList[k]'(by omega)).toNat := by unfold byte; rw [List.getD_eq_getElem?_getD, List.getElem?_eq_getElem (by omega)]; rfl
 omega
theorem lead_eq (s : ByteArray) (k : Nat) (hk : k < s.size) (h : 128 ≤ byte s k) :
  Lib.validD (s.data.toList.drop k) = match Lib.checkN (s.size - k) (byte s (k + 1)) (byte s (k + 2)) (byte s (k + 3)) (Lib.firstT (byte s k) % 8) (Lib.accLo (Lib.firstT (byte s k) / 16)) (Lib.accHi (Lib.firstT (byte s k) / 16)) with
   | none => false
   | some m => Lib.validD (s.data.toList.drop (k + m)) := by
 have hl := len_list s
 have hne : s.data.toList.drop k ≠ [] := fun e => by have := congrArg List.length e; rw [List.length_drop] at this; simp at this; omega
 have h0 := Lib.validD_lead (s.data.toList.drop k) hne (by rw [getD_drop]; exact h)
 rw [List.length_drop, hl, getD_drop, getD_drop, getD_drop, getD_drop, Nat.add_zero] at h0
 rw [h0]
 simp only [List.drop_drop]
 rfl
theorem bad_lead (s : ByteArray) (k : Nat) (hk : k < s.size) (h : 128 ≤ byte s k) (hb : byte s k < 194 ∨ 244 < byte s k) : Lib.validD (s.data.toList.drop k) = false := by
 rw [lead_eq s k hk h]
 have e : Lib.firstT (byte s k) = 241 := by unfold Lib.firstT; repeat' split
                                            all_goals omega
 rw [e]; rfl
theorem short_lead (s : ByteArray) (k n lo hi : Nat) (hk : k < s.size) (h : 128 ≤ byte s k) (hc : Cls (byte s k) n lo hi) (hb : s.size - k < n + 1) : Lib.validD (s.data.toList.drop k) = false := by
 obtain ⟨h1, h2, h3, h4⟩ := hc
 rw [lead_eq s k hk h, h1, h2, h3]
 rcases h4 with rfl | rfl | rfl <;> simp [Lib.checkN, hb]
theorem one_lead (s : ByteArray) (k n lo hi : Nat) (hk : k < s.size) (h : 128 ≤ byte s k) (hc : Cls (byte s k) n lo hi) (hb : byte s (k + 1) < lo ∨ hi < byte s (k + 1)) : Lib.validD (s.data.toList.drop k) = false := by
 obtain ⟨h1, h2, h3, h4⟩ := hc
 rw [lead_eq s k hk h, h1, h2, h3]
 rcases h4 with rfl | rfl | rfl <;> rcases hb with hb | hb <;> simp [Lib.checkN, hb]
theorem more_lead (s : ByteArray) (k n lo hi j : Nat) (hk : k < s.size) (h : 128 ≤ byte s k) (hc : Cls (byte s k) n lo hi) (hj : 2 ≤ j) (hjn : j ≤ n) (hb : byte s (k + j) < 128 ∨ 191 < byte s (k + j)) : Lib.validD (s.data.toList.drop k) = false := by
 obtain ⟨h1, h2, h3, h4⟩ := hc
 rw [lead_eq s k hk h, h1, h2, h3]
 rcases h4 with rfl | rfl | rfl
 ·omega
 ·obtain rfl : j = 2 := by omega
  rcases hb with hb | hb <;> simp [Lib.checkN, hb]
 ·obtain rfl | rfl : j = 2 ∨ j = 3 := by omega
  ·rcases hb with hb | hb <;> simp [Lib.checkN, hb]
  ·rcases hb with hb | hb <;> simp [Lib.checkN, hb]
theorem good_lead (s : ByteArray) (k n lo hi : Nat) (hk : k < s.size) (h : 128 ≤ byte s k) (hc : Cls (byte s k) n lo hi) (hb : ¬ s.size - k < n + 1) (hb1 : ¬ (byte s (k + 1) < lo ∨ hi < byte s (k + 1))) (hm : ∀ j, 2 ≤ j → j ≤ n → 128 ≤ byte s (k + j) ∧ byte s (k + j) ≤ 191) :
  Lib.validD (s.data.toList.drop k) = Lib.validD (s.data.toList.drop (k + n + 1)) := by
 obtain ⟨h1, h2, h3, h4⟩ := hc
 rw [lead_eq s k hk h, h1, h2, h3]
 have e : Lib.checkN (s.size - k) (byte s (k + 1)) (byte s (k + 2)) (byte s (k + 3)) (n + 1) lo hi = some (n + 1) := by
  rcases h4 with rfl | rfl | rfl
  ·unfold Lib.checkN; rw [if_pos rfl, if_neg (by omega)]
  ·have := hm 2 (by omega) (by omega)
   unfold Lib.checkN; rw [if_neg (by omega), if_pos rfl, if_neg (by omega)]
  ·have := hm 2 (by omega) (by omega)
   have := hm 3 (by omega) (by omega)
   unfold Lib.checkN; rw [if_neg (by omega), if_neg (by omega), if_pos rfl, if_neg (by omega)]
 rw [e]; rfl
theorem cls_a : ∀ c : Fin 256, 194 ≤ c.val → c.val ≤ 223 → Lib.firstT c.val % 8 = 1 + 1 ∧ Lib.accLo (Lib.firstT c.val / 16) = 128 ∧ Lib.accHi (Lib.firstT c.val / 16) = 191 := by decide +kernel
theorem cls_b : ∀ c : Fin 256, 225 ≤ c.val → c.val ≤ 239 → c.val ≠ 237 → Lib.firstT c.val % 8 = 2 + 1 ∧ Lib.accLo (Lib.firstT c.val / 16) = 128 ∧ Lib.accHi (Lib.firstT c.val / 16) = 191 := by decide +kernel
theorem cls_c : ∀ c : Fin 256, 241 ≤ c.val → c.val ≤ 243 → Lib.firstT c.val % 8 = 3 + 1 ∧ Lib.accLo (Lib.firstT c.val / 16) = 128 ∧ Lib.accHi (Lib.firstT c.val / 16) = 191 := by decide +kernel
theorem cls_of (c : Nat) (h1 : 194 ≤ c) (h2 : c ≤ 244) :
  (194 ≤ c ∧ c ≤ 223 ∧ Cls c 1 128 191) ∨ (c = 224 ∧ Cls c 2 160 191) ∨ (225 ≤ c ∧ c ≤ 239 ∧ c ≠ 237 ∧ Cls c 2 128 191) ∨ (c = 237 ∧ Cls c 2 128 159) ∨ (c = 240 ∧ Cls c 3 144 191) ∨ (241 ≤ c ∧ c ≤ 243 ∧ Cls c 3 128 191) ∨ (c = 244 ∧ Cls c 3 128 143) := by
 by_cases a1 : c ≤ 223
 ·obtain ⟨e1, e2, e3⟩ := cls_a ⟨c, by omega⟩ h1 a1
  exact .inl ⟨h1, a1, e1, e2, e3, .inl rfl⟩
 by_cases a2 : c = 224
 ·subst a2; exact .inr (.inl ⟨rfl, by decide, by decide, by decide, .inr (.inl rfl)⟩)
 by_cases a3 : c = 237
 ·subst a3; exact .inr (.inr (.inr (.inl ⟨rfl, by decide, by decide, by decide, .inr (.inl rfl)⟩)))
 by_cases a4 : c ≤ 239
 ·obtain ⟨e1, e2, e3⟩ := cls_b ⟨c, by omega⟩ (by show 225 ≤ c; omega) a4 a3
  exact .inr (.inr (.inl ⟨by omega, a4, a3, e1, e2, e3, .inr (.inl rfl)⟩))
 by_cases a5 : c = 240
 ·subst a5; exact .inr (.inr (.inr (.inr (.inl ⟨rfl, by decide, by decide, by decide, .inr (.inr rfl)⟩))))
 by_cases a6 : c = 244
 ·subst a6; exact .inr (.inr (.inr (.inr (.inr (.inr ⟨rfl, by decide, by decide, by decide, .inr (.inr rfl)⟩)))))
 ·obtain ⟨e1, e2, e3⟩ := cls_c ⟨c, by omega⟩ (by show 241 ≤ c; omega) (by show c ≤ 243; omega)
  exact .inr (.inr (.inr (.inr (.inr (.inl ⟨by omega, by omega, e1, e2, e3, .inr (.inr rfl)⟩)))))
theorem and_lead : ∀ c : Fin 256, (c.val &&& 192 = 128) ↔ (128 ≤ c.val ∧ c.val ≤ 191) := by decide +kernel
theorem run_byte (s : ByteArray) (k : Nat) (hk : k < s.size) (W : World) : (Instr.index 9 (.string s) (.int .i64 (k : Int))).run Tryz.prog W = .ok (.int .u8 ((byte s k : Nat) : Int)) W := by
 rw [run_index_string W 9 s .i64 (k : Int) (by kernel_rfl), dif_pos ⟨by omega, by omega⟩]
 have : (s[(k : Int).toNat]'(by omega)).toNat = byte s k := by
  unfold byte
  rw [List.getD_eq_getElem?_getD, List.getElem?_eq_getElem (by rw [len_list]; omega)]
  rfl
 rw [this]
end Path
open Path
theorem utf8ref_any (s : ByteArray) (w : World) (hs : s.size ≤ 140737488355328) :
  Calls Tryz.prog 71 #[.string s] w fun e w' => e = .returned (.bool (Lib.validD s.data.toList)) ∧ Below w.heap.size w w' := by
 obtain ⟨N, hN⟩ : ∃ N, N = s.size := ⟨_, rfl⟩
 have HRB := Lib.hid (run_byte s)
 go_enter Tryz.func71, Tryz.ntmps71
 go_wp2_with fail
 go_loopw [3] (fun i wr => ∃ k : Nat, i = .int .i64 k ∧ k ≤ s.size ∧ Hid (Lib.validD (s.data.toList.drop k) = Lib.validD s.data.toList) ∧ Hid (Below w.heap.size w wr)) (fun i _ => s.size - (intOf i).toNat)
 case atStart => exact ⟨0, rfl, Nat.zero_le _, rfl, Below.refl _ _⟩
 case round =>
  obtain ⟨k, rfl, hk, HE, HB⟩ := hrel
  by_cases hlt : k < s.size
  ·have i0 := HRB.out k hlt
   obtain ⟨c, hc⟩ : ∃ c, c = byte s k := ⟨_, rfl⟩
   rw [← hc] at i0
   have hc256 : c < 256 := by rw [hc]; exact byte_lt s k
   have HC := Lib.hid hc
   clear hc
   by_cases h128 : c < 128
   ·have HE2 : Hid (Lib.validD (s.data.toList.drop (k + 1)) = Lib.validD s.data.toList) := (low_step s k hlt (by rw [← HC.out]; exact h128)).symm.trans HE.out
    go_wp2_with fail
    go_roundw
    case rel => exact ⟨k + 1, by go_num, by omega, HE2, HB⟩
    case measure => simp [intOf]; omega
   ·by_cases hbad : c < 194 ∨ 244 < c
    ·have hres : Lib.validD s.data.toList = false := HE.out.symm.trans (bad_lead s k hlt (by rw [← HC.out]; omega) (by rw [← HC.out]; exact hbad))
     have HRES := Lib.hid hres
     clear hres
     rcases hbad with hbad | hbad
     ·go_wp2_with fail
      go_ret
      exact ⟨by rw [HRES.out]; rfl, HB.out⟩
     ·go_wp2_with fail
      go_ret
      exact ⟨by rw [HRES.out]; rfl, HB.out⟩
    ·have hcls := cls_of c (by omega) (by omega)
     clear hbad
     rcases hcls with ⟨ha, hb, hcl⟩ | ⟨ha, hcl⟩ | ⟨ha, hb, hne, hcl⟩ | ⟨ha, hcl⟩ | ⟨ha, hcl⟩ | ⟨ha, hb, hcl⟩ | ⟨ha, hcl⟩
     ·have HCL := Lib.hid hcl
      clear hcl
      have q1 : IntKind.i64.wrap ((s.size : Int) - (k : Int)) = (s.size : Int) - (k : Int) := IntWalk.i64_in _ (by omega)
      have q2 : IntKind.i64.wrap ((s.size : Int) - (k : Int) - 1) = (s.size : Int) - (k : Int) - 1 := IntWalk.i64_in _ (by omega)
      have q3 : IntKind.i64.wrap ((k : Int) + 1) = (k : Int) + 1 := IntWalk.i64_in _ (by omega)
      by_cases hsh : s.size - k < 2
      ·have q4 : decide ((s.size : Int) - (k : Int) - 1 < 1) = true := decide_eq_true (by omega)
       have q5 : (s.size : Int) - (k : Int) - 1 < 1 := by omega
       have HRES : Hid (Lib.validD s.data.toList = false) := HE.out.symm.trans (short_lead s k 1 128 191 hlt (by rw [← HC.out]; omega) (by rw [← HC.out]; exact HCL.out) hsh)
       go_wp2_with fail
       go_ret
       exact ⟨by rw [HRES.out]; rfl, HB.out⟩
      ·have q4 : decide ((s.size : Int) - (k : Int) - 1 < 1) = false := decide_eq_false (by omega)
       have q5 : ¬ (s.size : Int) - (k : Int) - 1 < 1 := by omega
       have i1 : ∀ W, (Instr.index 9 (.string s) (.int .i64 ((k : Int) + 1))).run Tryz.prog W = .ok (.int .u8 ((byte s (k + 1) : Nat) : Int)) W := HRB.out (k + 1) (by omega)
       obtain ⟨d, hd⟩ : ∃ d, d = byte s (k + 1) := ⟨_, rfl⟩
       have hd256 : d < 256 := by rw [hd]; exact byte_lt s _
       rw [← hd] at i1
       have HD := Lib.hid hd
       clear hd
       by_cases hlo : d < 128
       ·have d1 : decide ((d : Int) < 128) = true := decide_eq_true (by omega)
        have d2 : decide (d < 128) = true := decide_eq_true hlo
        have HRES : Hid (Lib.validD s.data.toList = false) := HE.out.symm.trans (one_lead s k 1 128 191 hlt (by rw [← HC.out]; omega) (by rw [← HC.out]; exact HCL.out) (.inl (by rw [← HD.out]; exact hlo)))
        go_wp2_with fail
        go_ret
        exact ⟨by rw [HRES.out]; rfl, HB.out⟩
       ·have d1 : decide ((d : Int) < 128) = false := decide_eq_false (by omega)
        have d2 : decide (d < 128) = false := decide_eq_false hlo
        by_cases hhi : 191 < d
        ·have d3 : decide (191 < (d : Int)) = true := decide_eq_true (by omega)
         have d4 : decide (191 < d) = true := decide_eq_true hhi
         have HRES : Hid (Lib.validD s.data.toList = false) := HE.out.symm.trans (one_lead s k 1 128 191 hlt (by rw [← HC.out]; omega) (by rw [← HC.out]; exact HCL.out) (.inr (by rw [← HD.out]; exact hhi)))
         go_wp2_with fail
         go_ret
         exact ⟨by rw [HRES.out]; rfl, HB.out⟩
        ·have d3 : decide (191 < (d : Int)) = false := decide_eq_false (by omega)
         have d4 : decide (191 < d) = false := decide_eq_false hhi
         go_wp2_with fail
         go_loopw [8] (fun i wr => ∃ j : Nat, i = .int .i64 j ∧ 2 ≤ j ∧ j ≤ 2 ∧ Hid (∀ x, 2 ≤ x → x < j → 128 ≤ byte s (k + x) ∧ byte s (k + x) ≤ 191) ∧ Hid (Below w.heap.size w wr)) (fun i _ => 5 - (intOf i).toNat)
         case atStart => exact ⟨2, rfl, Nat.le_refl _, by omega, fun x h1 h2 => by omega, HB⟩
         case round =>
          obtain ⟨j, rfl, hj2, hjn, HJ, HB3⟩ := hrel
          by_cases hj : j ≤ 1
          ·omega
          ·have HE2 : Hid (Lib.validD (s.data.toList.drop (k + 1 + 1)) = Lib.validD s.data.toList) := (good_lead s k 1 128 191 hlt (by rw [← HC.out]; omega) (by rw [← HC.out]; exact HCL.out) hsh (by rw [← HD.out]; omega) (fun y h1 h2 => HJ.out y h1 (by omega))).symm.trans HE.out
           have q7 : IntKind.i64.wrap ((k : Int) + 1) = (k : Int) + 1 := IntWalk.i64_in _ (by omega)
           have q8 : IntKind.i64.wrap ((k : Int) + 1 + 1) = (k : Int) + 1 + 1 := IntWalk.i64_in _ (by omega)
           go_wp2_with fail
           go_roundw
           case rel => exact ⟨k + 1 + 1, by go_num, by omega, HE2, HB3⟩
           case measure => simp [intOf]; omega
     ·have HCL := Lib.hid hcl
      clear hcl
      have q1 : IntKind.i64.wrap ((s.size : Int) - (k : Int)) = (s.size : Int) - (k : Int) := IntWalk.i64_in _ (by omega)
      have q2 : IntKind.i64.wrap ((s.size : Int) - (k : Int) - 1) = (s.size : Int) - (k : Int) - 1 := IntWalk.i64_in _ (by omega)
      have q3 : IntKind.i64.wrap ((k : Int) + 1) = (k : Int) + 1 := IntWalk.i64_in _ (by omega)
      by_cases hsh : s.size - k < 3
      ·have q4 : decide ((s.size : Int) - (k : Int) - 1 < 2) = true := decide_eq_true (by omega)
       have q5 : (s.size : Int) - (k : Int) - 1 < 2 := by omega
       have HRES : Hid (Lib.validD s.data.toList = false) := HE.out.symm.trans (short_lead s k 2 160 191 hlt (by rw [← HC.out]; omega) (by rw [← HC.out]; exact HCL.out) hsh)
       go_wp2_with fail
       go_ret
       exact ⟨by rw [HRES.out]; rfl, HB.out⟩
      ·have q4 : decide ((s.size : Int) - (k : Int) - 1 < 2) = false := decide_eq_false (by omega)
       have q5 : ¬ (s.size : Int) - (k : Int) - 1 < 2 := by omega
       have i1 : ∀ W, (Instr.index 9 (.string s) (.int .i64 ((k : Int) + 1))).run Tryz.prog W = .ok (.int .u8 ((byte s (k + 1) : Nat) : Int)) W := HRB.out (k + 1) (by omega)
       obtain ⟨d, hd⟩ : ∃ d, d = byte s (k + 1) := ⟨_, rfl⟩
       have hd256 : d < 256 := by rw [hd]; exact byte_lt s _
       rw [← hd] at i1
       have HD := Lib.hid hd
       clear hd
       by_cases hlo : d < 160
       ·have d1 : decide ((d : Int) < 160) = true := decide_eq_true (by omega)
        have d2 : decide (d < 160) = true := decide_eq_true hlo
        have HRES : Hid (Lib.validD s.data.toList = false) := HE.out.symm.trans (one_lead s k 2 160 191 hlt (by rw [← HC.out]; omega) (by rw [← HC.out]; exact HCL.out) (.inl (by rw [← HD.out]; exact hlo)))
        go_wp2_with fail
        go_ret
        exact ⟨by rw [HRES.out]; rfl, HB.out⟩
       ·have d1 : decide ((d : Int) < 160) = false := decide_eq_false (by omega)
        have d2 : decide (d < 160) = false := decide_eq_false hlo
        by_cases hhi : 191 < d
        ·have d3 : decide (191 < (d : Int)) = true := decide_eq_true (by omega)
         have d4 : decide (191 < d) = true := decide_eq_true hhi
         have HRES : Hid (Lib.validD s.data.toList = false) := HE.out.symm.trans (one_lead s k 2 160 191 hlt (by rw [← HC.out]; omega) (by rw [← HC.out]; exact HCL.out) (.inr (by rw [← HD.out]; exact hhi)))
         go_wp2_with fail
         go_ret
         exact ⟨by rw [HRES.out]; rfl, HB.out⟩
        ·have d3 : decide (191 < (d : Int)) = false := decide_eq_false (by omega)
         have d4 : decide (191 < d) = false := decide_eq_false hhi
         go_wp2_with fail
         go_loopw [8] (fun i wr => ∃ j : Nat, i = .int .i64 j ∧ 2 ≤ j ∧ j ≤ 3 ∧ Hid (∀ x, 2 ≤ x → x < j → 128 ≤ byte s (k + x) ∧ byte s (k + x) ≤ 191) ∧ Hid (Below w.heap.size w wr)) (fun i _ => 5 - (intOf i).toNat)
         case atStart => exact ⟨2, rfl, Nat.le_refl _, by omega, fun x h1 h2 => by omega, HB⟩
         case round =>
          obtain ⟨j, rfl, hj2, hjn, HJ, HB3⟩ := hrel
          by_cases hj : j ≤ 2
          ·have i2 : ∀ W, (Instr.index 9 (.string s) (.int .i64 ((k : Int) + (j : Int)))).run Tryz.prog W = .ok (.int .u8 ((byte s (k + j) : Nat) : Int)) W := HRB.out (k + j) (by omega)
           have q6 : IntKind.i64.wrap ((k : Int) + (j : Int)) = (k : Int) + (j : Int) := IntWalk.i64_in _ (by omega)
           obtain ⟨x, hx⟩ : ∃ x, x = byte s (k + j) := ⟨_, rfl⟩
           have hx256 : x < 256 := by rw [hx]; exact byte_lt s _
           rw [← hx] at i2
           have hand := and_lead ⟨x, hx256⟩
           have hbit : bits .and .u8 (x : Int) 192 = ((x &&& 192 : Nat) : Int) := u8_and_nat x 192 hx256 (by decide)
           have HX := Lib.hid hx
           clear hx
           by_cases hok : 128 ≤ x ∧ x ≤ 191
           ·have hand2 : x &&& 192 = 128 := hand.2 hok
            have HJ2 : Hid (∀ y, 2 ≤ y → y < j + 1 → 128 ≤ byte s (k + y) ∧ byte s (k + y) ≤ 191) := by
             intro y h1 h2
             rcases Nat.lt_or_ge y j with h3 | h3
             ·exact HJ.out y h1 h3
             ·obtain rfl : y = j := by omega
              rw [← HX.out]; exact hok
            have hb6 : (bits .and .u8 (x : Int) 192 != 128) = false := by rw [hbit, hand2]; rfl
            clear hand hbit hand2 hok
            go_wp2_with fail
            go_roundw
            case rel => exact ⟨j + 1, by go_num, by omega, by omega, HJ2, HB3⟩
            case measure => simp [intOf]; omega
           ·have hand2 : ¬ x &&& 192 = 128 := fun e => hok (hand.1 e)
            have hb6 : (bits .and .u8 (x : Int) 192 != 128) = true := by rw [hbit]; simp; omega
            have HRES : Hid (Lib.validD s.data.toList = false) := HE.out.symm.trans (more_lead s k 2 160 191 j hlt (by rw [← HC.out]; omega) (by rw [← HC.out]; exact HCL.out) hj2 hj (by rw [← HX.out]; omega))
            clear hand hbit hand2 hok
            go_wp2_with fail
            go_ret
            exact ⟨by rw [HRES.out]; rfl, HB3.out⟩
          ·have HE2 : Hid (Lib.validD (s.data.toList.drop (k + 2 + 1)) = Lib.validD s.data.toList) := (good_lead s k 2 160 191 hlt (by rw [← HC.out]; omega) (by rw [← HC.out]; exact HCL.out) hsh (by rw [← HD.out]; omega) (fun y h1 h2 => HJ.out y h1 (by omega))).symm.trans HE.out
           have q7 : IntKind.i64.wrap ((k : Int) + 2) = (k : Int) + 2 := IntWalk.i64_in _ (by omega)
           have q8 : IntKind.i64.wrap ((k : Int) + 2 + 1) = (k : Int) + 2 + 1 := IntWalk.i64_in _ (by omega)
           go_wp2_with fail
           go_roundw
           case rel => exact ⟨k + 2 + 1, by go_num, by omega, HE2, HB3⟩
           case measure => simp [intOf]; omega
     ·rcases Nat.lt_or_gt_of_ne hne with hne | hne
      ·have HCL := Lib.hid hcl
       clear hcl
       have q1 : IntKind.i64.wrap ((s.size : Int) - (k : Int)) = (s.size : Int) - (k : Int) := IntWalk.i64_in _ (by omega)
       have q2 : IntKind.i64.wrap ((s.size : Int) - (k : Int) - 1) = (s.size : Int) - (k : Int) - 1 := IntWalk.i64_in _ (by omega)
       have q3 : IntKind.i64.wrap ((k : Int) + 1) = (k : Int) + 1 := IntWalk.i64_in _ (by omega)
       by_cases hsh : s.size - k < 3
       ·have q4 : decide ((s.size : Int) - (k : Int) - 1 < 2) = true := decide_eq_true (by omega)
        have q5 : (s.size : Int) - (k : Int) - 1 < 2 := by omega
        have HRES : Hid (Lib.validD s.data.toList = false) := HE.out.symm.trans (short_lead s k 2 128 191 hlt (by rw [← HC.out]; omega) (by rw [← HC.out]; exact HCL.out) hsh)
        go_wp2_with fail
        go_ret
        exact ⟨by rw [HRES.out]; rfl, HB.out⟩
       ·have q4 : decide ((s.size : Int) - (k : Int) - 1 < 2) = false := decide_eq_false (by omega)
        have q5 : ¬ (s.size : Int) - (k : Int) - 1 < 2 := by omega
        have i1 : ∀ W, (Instr.index 9 (.string s) (.int .i64 ((k : Int) + 1))).run Tryz.prog W = .ok (.int .u8 ((byte s (k + 1) : Nat) : Int)) W := HRB.out (k + 1) (by omega)
        obtain ⟨d, hd⟩ : ∃ d, d = byte s (k + 1) := ⟨_, rfl⟩
        have hd256 : d < 256 := by rw [hd]; exact byte_lt s _
        rw [← hd] at i1
        have HD := Lib.hid hd
        clear hd
        by_cases hlo : d < 128
        ·have d1 : decide ((d : Int) < 128) = true := decide_eq_true (by omega)
         have d2 : decide (d < 128) = true := decide_eq_true hlo
         have HRES : Hid (Lib.validD s.data.toList = false) := HE.out.symm.trans (one_lead s k 2 128 191 hlt (by rw [← HC.out]; omega) (by rw [← HC.out]; exact HCL.out) (.inl (by rw [← HD.out]; exact hlo)))
         go_wp2_with fail
         go_ret
         exact ⟨by rw [HRES.out]; rfl, HB.out⟩
        ·have d1 : decide ((d : Int) < 128) = false := decide_eq_false (by omega)
         have d2 : decide (d < 128) = false := decide_eq_false hlo
         by_cases hhi : 191 < d
         ·have d3 : decide (191 < (d : Int)) = true := decide_eq_true (by omega)
          have d4 : decide (191 < d) = true := decide_eq_true hhi
          have HRES : Hid (Lib.validD s.data.toList = false) := HE.out.symm.trans (one_lead s k 2 128 191 hlt (by rw [← HC.out]; omega) (by rw [← HC.out]; exact HCL.out) (.inr (by rw [← HD.out]; exact hhi)))
          go_wp2_with fail
          go_ret
          exact ⟨by rw [HRES.out]; rfl, HB.out⟩
         ·have d3 : decide (191 < (d : Int)) = false := decide_eq_false (by omega)
          have d4 : decide (191 < d) = false := decide_eq_false hhi
          go_wp2_with fail
          go_loopw [8] (fun i wr => ∃ j : Nat, i = .int .i64 j ∧ 2 ≤ j ∧ j ≤ 3 ∧ Hid (∀ x, 2 ≤ x → x < j → 128 ≤ byte s (k + x) ∧ byte s (k + x) ≤ 191) ∧ Hid (Below w.heap.size w wr)) (fun i _ => 5 - (intOf i).toNat)
          case atStart => exact ⟨2, rfl, Nat.le_refl _, by omega, fun x h1 h2 => by omega, HB⟩
          case round =>
           obtain ⟨j, rfl, hj2, hjn, HJ, HB3⟩ := hrel
           by_cases hj : j ≤ 2
           ·have i2 : ∀ W, (Instr.index 9 (.string s) (.int .i64 ((k : Int) + (j : Int)))).run Tryz.prog W = .ok (.int .u8 ((byte s (k + j) : Nat) : Int)) W := HRB.out (k + j) (by omega)
            have q6 : IntKind.i64.wrap ((k : Int) + (j : Int)) = (k : Int) + (j : Int) := IntWalk.i64_in _ (by omega)
            obtain ⟨x, hx⟩ : ∃ x, x = byte s (k + j) := ⟨_, rfl⟩
            have hx256 : x < 256 := by rw [hx]; exact byte_lt s _
            rw [← hx] at i2
            have hand := and_lead ⟨x, hx256⟩
            have hbit : bits .and .u8 (x : Int) 192 = ((x &&& 192 : Nat) : Int) := u8_and_nat x 192 hx256 (by decide)
            have HX := Lib.hid hx
            clear hx
            by_cases hok : 128 ≤ x ∧ x ≤ 191
            ·have hand2 : x &&& 192 = 128 := hand.2 hok
             have HJ2 : Hid (∀ y, 2 ≤ y → y < j + 1 → 128 ≤ byte s (k + y) ∧ byte s (k + y) ≤ 191) := by
              intro y h1 h2
              rcases Nat.lt_or_ge y j with h3 | h3
              ·exact HJ.out y h1 h3
              ·obtain rfl : y = j := by omega
               rw [← HX.out]; exact hok
             have hb6 : (bits .and .u8 (x : Int) 192 != 128) = false := by rw [hbit, hand2]; rfl
             clear hand hbit hand2 hok
             go_wp2_with fail
             go_roundw
             case rel => exact ⟨j + 1, by go_num, by omega, by omega, HJ2, HB3⟩
             case measure => simp [intOf]; omega
            ·have hand2 : ¬ x &&& 192 = 128 := fun e => hok (hand.1 e)
             have hb6 : (bits .and .u8 (x : Int) 192 != 128) = true := by rw [hbit]; simp; omega
             have HRES : Hid (Lib.validD s.data.toList = false) := HE.out.symm.trans (more_lead s k 2 128 191 j hlt (by rw [← HC.out]; omega) (by rw [← HC.out]; exact HCL.out) hj2 hj (by rw [← HX.out]; omega))
             clear hand hbit hand2 hok
             go_wp2_with fail
             go_ret
             exact ⟨by rw [HRES.out]; rfl, HB3.out⟩
           ·have HE2 : Hid (Lib.validD (s.data.toList.drop (k + 2 + 1)) = Lib.validD s.data.toList) := (good_lead s k 2 128 191 hlt (by rw [← HC.out]; omega) (by rw [← HC.out]; exact HCL.out) hsh (by rw [← HD.out]; omega) (fun y h1 h2 => HJ.out y h1 (by omega))).symm.trans HE.out
            have q7 : IntKind.i64.wrap ((k : Int) + 2) = (k : Int) + 2 := IntWalk.i64_in _ (by omega)
            have q8 : IntKind.i64.wrap ((k : Int) + 2 + 1) = (k : Int) + 2 + 1 := IntWalk.i64_in _ (by omega)
            go_wp2_with fail
            go_roundw
            case rel => exact ⟨k + 2 + 1, by go_num, by omega, HE2, HB3⟩
            case measure => simp [intOf]; omega
      ·have HCL := Lib.hid hcl
       clear hcl
       have q1 : IntKind.i64.wrap ((s.size : Int) - (k : Int)) = (s.size : Int) - (k : Int) := IntWalk.i64_in _ (by omega)
       have q2 : IntKind.i64.wrap ((s.size : Int) - (k : Int) - 1) = (s.size : Int) - (k : Int) - 1 := IntWalk.i64_in _ (by omega)
       have q3 : IntKind.i64.wrap ((k : Int) + 1) = (k : Int) + 1 := IntWalk.i64_in _ (by omega)
       by_cases hsh : s.size - k < 3
       ·have q4 : decide ((s.size : Int) - (k : Int) - 1 < 2) = true := decide_eq_true (by omega)
        have q5 : (s.size : Int) - (k : Int) - 1 < 2 := by omega
        have HRES : Hid (Lib.validD s.data.toList = false) := HE.out.symm.trans (short_lead s k 2 128 191 hlt (by rw [← HC.out]; omega) (by rw [← HC.out]; exact HCL.out) hsh)
        go_wp2_with fail
        go_ret
        exact ⟨by rw [HRES.out]; rfl, HB.out⟩
       ·have q4 : decide ((s.size : Int) - (k : Int) - 1 < 2) = false := decide_eq_false (by omega)
        have q5 : ¬ (s.size : Int) - (k : Int) - 1 < 2 := by omega
        have i1 : ∀ W, (Instr.index 9 (.string s) (.int .i64 ((k : Int) + 1))).run Tryz.prog W = .ok (.int .u8 ((byte s (k + 1) : Nat) : Int)) W := HRB.out (k + 1) (by omega)
        obtain ⟨d, hd⟩ : ∃ d, d = byte s (k + 1) := ⟨_, rfl⟩
        have hd256 : d < 256 := by rw [hd]; exact byte_lt s _
        rw [← hd] at i1
        have HD := Lib.hid hd
        clear hd
        by_cases hlo : d < 128
        ·have d1 : decide ((d : Int) < 128) = true := decide_eq_true (by omega)
         have d2 : decide (d < 128) = true := decide_eq_true hlo
         have HRES : Hid (Lib.validD s.data.toList = false) := HE.out.symm.trans (one_lead s k 2 128 191 hlt (by rw [← HC.out]; omega) (by rw [← HC.out]; exact HCL.out) (.inl (by rw [← HD.out]; exact hlo)))
         go_wp2_with fail
         go_ret
         exact ⟨by rw [HRES.out]; rfl, HB.out⟩
        ·have d1 : decide ((d : Int) < 128) = false := decide_eq_false (by omega)
         have d2 : decide (d < 128) = false := decide_eq_false hlo
         by_cases hhi : 191 < d
         ·have d3 : decide (191 < (d : Int)) = true := decide_eq_true (by omega)
          have d4 : decide (191 < d) = true := decide_eq_true hhi
          have HRES : Hid (Lib.validD s.data.toList = false) := HE.out.symm.trans (one_lead s k 2 128 191 hlt (by rw [← HC.out]; omega) (by rw [← HC.out]; exact HCL.out) (.inr (by rw [← HD.out]; exact hhi)))
          go_wp2_with fail
          go_ret
          exact ⟨by rw [HRES.out]; rfl, HB.out⟩
         ·have d3 : decide (191 < (d : Int)) = false := decide_eq_false (by omega)
          have d4 : decide (191 < d) = false := decide_eq_false hhi
          go_wp2_with fail
          go_loopw [8] (fun i wr => ∃ j : Nat, i = .int .i64 j ∧ 2 ≤ j ∧ j ≤ 3 ∧ Hid (∀ x, 2 ≤ x → x < j → 128 ≤ byte s (k + x) ∧ byte s (k + x) ≤ 191) ∧ Hid (Below w.heap.size w wr)) (fun i _ => 5 - (intOf i).toNat)
          case atStart => exact ⟨2, rfl, Nat.le_refl _, by omega, fun x h1 h2 => by omega, HB⟩
          case round =>
           obtain ⟨j, rfl, hj2, hjn, HJ, HB3⟩ := hrel
           by_cases hj : j ≤ 2
           ·have i2 : ∀ W, (Instr.index 9 (.string s) (.int .i64 ((k : Int) + (j : Int)))).run Tryz.prog W = .ok (.int .u8 ((byte s (k + j) : Nat) : Int)) W := HRB.out (k + j) (by omega)
            have q6 : IntKind.i64.wrap ((k : Int) + (j : Int)) = (k : Int) + (j : Int) := IntWalk.i64_in _ (by omega)
            obtain ⟨x, hx⟩ : ∃ x, x = byte s (k + j) := ⟨_, rfl⟩
            have hx256 : x < 256 := by rw [hx]; exact byte_lt s _
            rw [← hx] at i2
            have hand := and_lead ⟨x, hx256⟩
            have hbit : bits .and .u8 (x : Int) 192 = ((x &&& 192 : Nat) : Int) := u8_and_nat x 192 hx256 (by decide)
            have HX := Lib.hid hx
            clear hx
            by_cases hok : 128 ≤ x ∧ x ≤ 191
            ·have hand2 : x &&& 192 = 128 := hand.2 hok
             have HJ2 : Hid (∀ y, 2 ≤ y → y < j + 1 → 128 ≤ byte s (k + y) ∧ byte s (k + y) ≤ 191) := by
              intro y h1 h2
              rcases Nat.lt_or_ge y j with h3 | h3
              ·exact HJ.out y h1 h3
              ·obtain rfl : y = j := by omega
               rw [← HX.out]; exact hok
             have hb6 : (bits .and .u8 (x : Int) 192 != 128) = false := by rw [hbit, hand2]; rfl
             clear hand hbit hand2 hok
             go_wp2_with fail
             go_roundw
             case rel => exact ⟨j + 1, by go_num, by omega, by omega, HJ2, HB3⟩
             case measure => simp [intOf]; omega
            ·have hand2 : ¬ x &&& 192 = 128 := fun e => hok (hand.1 e)
             have hb6 : (bits .and .u8 (x : Int) 192 != 128) = true := by rw [hbit]; simp; omega
             have HRES : Hid (Lib.validD s.data.toList = false) := HE.out.symm.trans (more_lead s k 2 128 191 j hlt (by rw [← HC.out]; omega) (by rw [← HC.out]; exact HCL.out) hj2 hj (by rw [← HX.out]; omega))
             clear hand hbit hand2 hok
             go_wp2_with fail
             go_ret
             exact ⟨by rw [HRES.out]; rfl, HB3.out⟩
           ·have HE2 : Hid (Lib.validD (s.data.toList.drop (k + 2 + 1)) = Lib.validD s.data.toList) := (good_lead s k 2 128 191 hlt (by rw [← HC.out]; omega) (by rw [← HC.out]; exact HCL.out) hsh (by rw [← HD.out]; omega) (fun y h1 h2 => HJ.out y h1 (by omega))).symm.trans HE.out
            have q7 : IntKind.i64.wrap ((k : Int) + 2) = (k : Int) + 2 := IntWalk.i64_in _ (by omega)
            have q8 : IntKind.i64.wrap ((k : Int) + 2 + 1) = (k : Int) + 2 + 1 := IntWalk.i64_in _ (by omega)
            go_wp2_with fail
            go_roundw
            case rel => exact ⟨k + 2 + 1, by go_num, by omega, HE2, HB3⟩
            case measure => simp [intOf]; omega
     ·have HCL := Lib.hid hcl
      clear hcl
      have q1 : IntKind.i64.wrap ((s.size : Int) - (k : Int)) = (s.size : Int) - (k : Int) := IntWalk.i64_in _ (by omega)
      have q2 : IntKind.i64.wrap ((s.size : Int) - (k : Int) - 1) = (s.size : Int) - (k : Int) - 1 := IntWalk.i64_in _ (by omega)
      have q3 : IntKind.i64.wrap ((k : Int) + 1) = (k : Int) + 1 := IntWalk.i64_in _ (by omega)
      by_cases hsh : s.size - k < 3
      ·have q4 : decide ((s.size : Int) - (k : Int) - 1 < 2) = true := decide_eq_true (by omega)
       have q5 : (s.size : Int) - (k : Int) - 1 < 2 := by omega
       have HRES : Hid (Lib.validD s.data.toList = false) := HE.out.symm.trans (short_lead s k 2 128 159 hlt (by rw [← HC.out]; omega) (by rw [← HC.out]; exact HCL.out) hsh)
       go_wp2_with fail
       go_ret
       exact ⟨by rw [HRES.out]; rfl, HB.out⟩
      ·have q4 : decide ((s.size : Int) - (k : Int) - 1 < 2) = false := decide_eq_false (by omega)
       have q5 : ¬ (s.size : Int) - (k : Int) - 1 < 2 := by omega
       have i1 : ∀ W, (Instr.index 9 (.string s) (.int .i64 ((k : Int) + 1))).run Tryz.prog W = .ok (.int .u8 ((byte s (k + 1) : Nat) : Int)) W := HRB.out (k + 1) (by omega)
       obtain ⟨d, hd⟩ : ∃ d, d = byte s (k + 1) := ⟨_, rfl⟩
       have hd256 : d < 256 := by rw [hd]; exact byte_lt s _
       rw [← hd] at i1
       have HD := Lib.hid hd
       clear hd
       by_cases hlo : d < 128
       ·have d1 : decide ((d : Int) < 128) = true := decide_eq_true (by omega)
        have d2 : decide (d < 128) = true := decide_eq_true hlo
        have HRES : Hid (Lib.validD s.data.toList = false) := HE.out.symm.trans (one_lead s k 2 128 159 hlt (by rw [← HC.out]; omega) (by rw [← HC.out]; exact HCL.out) (.inl (by rw [← HD.out]; exact hlo)))
        go_wp2_with fail
        go_ret
        exact ⟨by rw [HRES.out]; rfl, HB.out⟩
       ·have d1 : decide ((d : Int) < 128) = false := decide_eq_false (by omega)
        have d2 : decide (d < 128) = false := decide_eq_false hlo
        by_cases hhi : 159 < d
        ·have d3 : decide (159 < (d : Int)) = true := decide_eq_true (by omega)
         have d4 : decide (159 < d) = true := decide_eq_true hhi
         have HRES : Hid (Lib.validD s.data.toList = false) := HE.out.symm.trans (one_lead s k 2 128 159 hlt (by rw [← HC.out]; omega) (by rw [← HC.out]; exact HCL.out) (.inr (by rw [← HD.out]; exact hhi)))
         go_wp2_with fail
         go_ret
         exact ⟨by rw [HRES.out]; rfl, HB.out⟩
        ·have d3 : decide (159 < (d : Int)) = false := decide_eq_false (by omega)
         have d4 : decide (159 < d) = false := decide_eq_false hhi
         go_wp2_with fail
         go_loopw [8] (fun i wr => ∃ j : Nat, i = .int .i64 j ∧ 2 ≤ j ∧ j ≤ 3 ∧ Hid (∀ x, 2 ≤ x → x < j → 128 ≤ byte s (k + x) ∧ byte s (k + x) ≤ 191) ∧ Hid (Below w.heap.size w wr)) (fun i _ => 5 - (intOf i).toNat)
         case atStart => exact ⟨2, rfl, Nat.le_refl _, by omega, fun x h1 h2 => by omega, HB⟩
         case round =>
          obtain ⟨j, rfl, hj2, hjn, HJ, HB3⟩ := hrel
          by_cases hj : j ≤ 2
          ·have i2 : ∀ W, (Instr.index 9 (.string s) (.int .i64 ((k : Int) + (j : Int)))).run Tryz.prog W = .ok (.int .u8 ((byte s (k + j) : Nat) : Int)) W := HRB.out (k + j) (by omega)
           have q6 : IntKind.i64.wrap ((k : Int) + (j : Int)) = (k : Int) + (j : Int) := IntWalk.i64_in _ (by omega)
           obtain ⟨x, hx⟩ : ∃ x, x = byte s (k + j) := ⟨_, rfl⟩
           have hx256 : x < 256 := by rw [hx]; exact byte_lt s _
           rw [← hx] at i2
           have hand := and_lead ⟨x, hx256⟩
           have hbit : bits .and .u8 (x : Int) 192 = ((x &&& 192 : Nat) : Int) := u8_and_nat x 192 hx256 (by decide)
           have HX := Lib.hid hx
           clear hx
           by_cases hok : 128 ≤ x ∧ x ≤ 191
           ·have hand2 : x &&& 192 = 128 := hand.2 hok
            have HJ2 : Hid (∀ y, 2 ≤ y → y < j + 1 → 128 ≤ byte s (k + y) ∧ byte s (k + y) ≤ 191) := by
             intro y h1 h2
             rcases Nat.lt_or_ge y j with h3 | h3
             ·exact HJ.out y h1 h3
             ·obtain rfl : y = j := by omega
              rw [← HX.out]; exact hok
            have hb6 : (bits .and .u8 (x : Int) 192 != 128) = false := by rw [hbit, hand2]; rfl
            clear hand hbit hand2 hok
            go_wp2_with fail
            go_roundw
            case rel => exact ⟨j + 1, by go_num, by omega, by omega, HJ2, HB3⟩
            case measure => simp [intOf]; omega
           ·have hand2 : ¬ x &&& 192 = 128 := fun e => hok (hand.1 e)
            have hb6 : (bits .and .u8 (x : Int) 192 != 128) = true := by rw [hbit]; simp; omega
            have HRES : Hid (Lib.validD s.data.toList = false) := HE.out.symm.trans (more_lead s k 2 128 159 j hlt (by rw [← HC.out]; omega) (by rw [← HC.out]; exact HCL.out) hj2 hj (by rw [← HX.out]; omega))
            clear hand hbit hand2 hok
            go_wp2_with fail
            go_ret
            exact ⟨by rw [HRES.out]; rfl, HB3.out⟩
          ·have HE2 : Hid (Lib.validD (s.data.toList.drop (k + 2 + 1)) = Lib.validD s.data.toList) := (good_lead s k 2 128 159 hlt (by rw [← HC.out]; omega) (by rw [← HC.out]; exact HCL.out) hsh (by rw [← HD.out]; omega) (fun y h1 h2 => HJ.out y h1 (by omega))).symm.trans HE.out
           have q7 : IntKind.i64.wrap ((k : Int) + 2) = (k : Int) + 2 := IntWalk.i64_in _ (by omega)
           have q8 : IntKind.i64.wrap ((k : Int) + 2 + 1) = (k : Int) + 2 + 1 := IntWalk.i64_in _ (by omega)
           go_wp2_with fail
           go_roundw
           case rel => exact ⟨k + 2 + 1, by go_num, by omega, HE2, HB3⟩
           case measure => simp [intOf]; omega
     ·have HCL := Lib.hid hcl
      clear hcl
      have q1 : IntKind.i64.wrap ((s.size : Int) - (k : Int)) = (s.size : Int) - (k : Int) := IntWalk.i64_in _ (by omega)
      have q2 : IntKind.i64.wrap ((s.size : Int) - (k : Int) - 1) = (s.size : Int) - (k : Int) - 1 := IntWalk.i64_in _ (by omega)
      have q3 : IntKind.i64.wrap ((k : Int) + 1) = (k : Int) + 1 := IntWalk.i64_in _ (by omega)
      by_cases hsh : s.size - k < 4
      ·have q4 : decide ((s.size : Int) - (k : Int) - 1 < 3) = true := decide_eq_true (by omega)
       have q5 : (s.size : Int) - (k : Int) - 1 < 3 := by omega
       have HRES : Hid (Lib.validD s.data.toList = false) := HE.out.symm.trans (short_lead s k 3 144 191 hlt (by rw [← HC.out]; omega) (by rw [← HC.out]; exact HCL.out) hsh)
       go_wp2_with fail
       go_ret
       exact ⟨by rw [HRES.out]; rfl, HB.out⟩
      ·have q4 : decide ((s.size : Int) - (k : Int) - 1 < 3) = false := decide_eq_false (by omega)
       have q5 : ¬ (s.size : Int) - (k : Int) - 1 < 3 := by omega
       have i1 : ∀ W, (Instr.index 9 (.string s) (.int .i64 ((k : Int) + 1))).run Tryz.prog W = .ok (.int .u8 ((byte s (k + 1) : Nat) : Int)) W := HRB.out (k + 1) (by omega)
       obtain ⟨d, hd⟩ : ∃ d, d = byte s (k + 1) := ⟨_, rfl⟩
       have hd256 : d < 256 := by rw [hd]; exact byte_lt s _
       rw [← hd] at i1
       have HD := Lib.hid hd
       clear hd
       by_cases hlo : d < 144
       ·have d1 : decide ((d : Int) < 144) = true := decide_eq_true (by omega)
        have d2 : decide (d < 144) = true := decide_eq_true hlo
        have HRES : Hid (Lib.validD s.data.toList = false) := HE.out.symm.trans (one_lead s k 3 144 191 hlt (by rw [← HC.out]; omega) (by rw [← HC.out]; exact HCL.out) (.inl (by rw [← HD.out]; exact hlo)))
        go_wp2_with fail
        go_ret
        exact ⟨by rw [HRES.out]; rfl, HB.out⟩
       ·have d1 : decide ((d : Int) < 144) = false := decide_eq_false (by omega)
        have d2 : decide (d < 144) = false := decide_eq_false hlo
        by_cases hhi : 191 < d
        ·have d3 : decide (191 < (d : Int)) = true := decide_eq_true (by omega)
         have d4 : decide (191 < d) = true := decide_eq_true hhi
         have HRES : Hid (Lib.validD s.data.toList = false) := HE.out.symm.trans (one_lead s k 3 144 191 hlt (by rw [← HC.out]; omega) (by rw [← HC.out]; exact HCL.out) (.inr (by rw [← HD.out]; exact hhi)))
         go_wp2_with fail
         go_ret
         exact ⟨by rw [HRES.out]; rfl, HB.out⟩
        ·have d3 : decide (191 < (d : Int)) = false := decide_eq_false (by omega)
         have d4 : decide (191 < d) = false := decide_eq_false hhi
         go_wp2_with fail
         go_loopw [8] (fun i wr => ∃ j : Nat, i = .int .i64 j ∧ 2 ≤ j ∧ j ≤ 4 ∧ Hid (∀ x, 2 ≤ x → x < j → 128 ≤ byte s (k + x) ∧ byte s (k + x) ≤ 191) ∧ Hid (Below w.heap.size w wr)) (fun i _ => 5 - (intOf i).toNat)
         case atStart => exact ⟨2, rfl, Nat.le_refl _, by omega, fun x h1 h2 => by omega, HB⟩
         case round =>
          obtain ⟨j, rfl, hj2, hjn, HJ, HB3⟩ := hrel
          by_cases hj : j ≤ 3
          ·have i2 : ∀ W, (Instr.index 9 (.string s) (.int .i64 ((k : Int) + (j : Int)))).run Tryz.prog W = .ok (.int .u8 ((byte s (k + j) : Nat) : Int)) W := HRB.out (k + j) (by omega)
           have q6 : IntKind.i64.wrap ((k : Int) + (j : Int)) = (k : Int) + (j : Int) := IntWalk.i64_in _ (by omega)
           obtain ⟨x, hx⟩ : ∃ x, x = byte s (k + j) := ⟨_, rfl⟩
           have hx256 : x < 256 := by rw [hx]; exact byte_lt s _
           rw [← hx] at i2
           have hand := and_lead ⟨x, hx256⟩
           have hbit : bits .and .u8 (x : Int) 192 = ((x &&& 192 : Nat) : Int) := u8_and_nat x 192 hx256 (by decide)
           have HX := Lib.hid hx
           clear hx
           by_cases hok : 128 ≤ x ∧ x ≤ 191
           ·have hand2 : x &&& 192 = 128 := hand.2 hok
            have HJ2 : Hid (∀ y, 2 ≤ y → y < j + 1 → 128 ≤ byte s (k + y) ∧ byte s (k + y) ≤ 191) := by
             intro y h1 h2
             rcases Nat.lt_or_ge y j with h3 | h3
             ·exact HJ.out y h1 h3
             ·obtain rfl : y = j := by omega
              rw [← HX.out]; exact hok
            have hb6 : (bits .and .u8 (x : Int) 192 != 128) = false := by rw [hbit, hand2]; rfl
            clear hand hbit hand2 hok
            go_wp2_with fail
            go_roundw
            case rel => exact ⟨j + 1, by go_num, by omega, by omega, HJ2, HB3⟩
            case measure => simp [intOf]; omega
           ·have hand2 : ¬ x &&& 192 = 128 := fun e => hok (hand.1 e)
            have hb6 : (bits .and .u8 (x : Int) 192 != 128) = true := by rw [hbit]; simp; omega
            have HRES : Hid (Lib.validD s.data.toList = false) := HE.out.symm.trans (more_lead s k 3 144 191 j hlt (by rw [← HC.out]; omega) (by rw [← HC.out]; exact HCL.out) hj2 hj (by rw [← HX.out]; omega))
            clear hand hbit hand2 hok
            go_wp2_with fail
            go_ret
            exact ⟨by rw [HRES.out]; rfl, HB3.out⟩
          ·have HE2 : Hid (Lib.validD (s.data.toList.drop (k + 3 + 1)) = Lib.validD s.data.toList) := (good_lead s k 3 144 191 hlt (by rw [← HC.out]; omega) (by rw [← HC.out]; exact HCL.out) hsh (by rw [← HD.out]; omega) (fun y h1 h2 => HJ.out y h1 (by omega))).symm.trans HE.out
           have q7 : IntKind.i64.wrap ((k : Int) + 3) = (k : Int) + 3 := IntWalk.i64_in _ (by omega)
           have q8 : IntKind.i64.wrap ((k : Int) + 3 + 1) = (k : Int) + 3 + 1 := IntWalk.i64_in _ (by omega)
           go_wp2_with fail
           go_roundw
           case rel => exact ⟨k + 3 + 1, by go_num, by omega, HE2, HB3⟩
           case measure => simp [intOf]; omega
     ·have HCL := Lib.hid hcl
      clear hcl
      have q1 : IntKind.i64.wrap ((s.size : Int) - (k : Int)) = (s.size : Int) - (k : Int) := IntWalk.i64_in _ (by omega)
      have q2 : IntKind.i64.wrap ((s.size : Int) - (k : Int) - 1) = (s.size : Int) - (k : Int) - 1 := IntWalk.i64_in _ (by omega)
      have q3 : IntKind.i64.wrap ((k : Int) + 1) = (k : Int) + 1 := IntWalk.i64_in _ (by omega)
      by_cases hsh : s.size - k < 4
      ·have q4 : decide ((s.size : Int) - (k : Int) - 1 < 3) = true := decide_eq_true (by omega)
       have q5 : (s.size : Int) - (k : Int) - 1 < 3 := by omega
       have HRES : Hid (Lib.validD s.data.toList = false) := HE.out.symm.trans (short_lead s k 3 128 191 hlt (by rw [← HC.out]; omega) (by rw [← HC.out]; exact HCL.out) hsh)
       go_wp2_with fail
       go_ret
       exact ⟨by rw [HRES.out]; rfl, HB.out⟩
      ·have q4 : decide ((s.size : Int) - (k : Int) - 1 < 3) = false := decide_eq_false (by omega)
       have q5 : ¬ (s.size : Int) - (k : Int) - 1 < 3 := by omega
       have i1 : ∀ W, (Instr.index 9 (.string s) (.int .i64 ((k : Int) + 1))).run Tryz.prog W = .ok (.int .u8 ((byte s (k + 1) : Nat) : Int)) W := HRB.out (k + 1) (by omega)
       obtain ⟨d, hd⟩ : ∃ d, d = byte s (k + 1) := ⟨_, rfl⟩
       have hd256 : d < 256 := by rw [hd]; exact byte_lt s _
       rw [← hd] at i1
       have HD := Lib.hid hd
       clear hd
       by_cases hlo : d < 128
       ·have d1 : decide ((d : Int) < 128) = true := decide_eq_true (by omega)
        have d2 : decide (d < 128) = true := decide_eq_true hlo
        have HRES : Hid (Lib.validD s.data.toList = false) := HE.out.symm.trans (one_lead s k 3 128 191 hlt (by rw [← HC.out]; omega) (by rw [← HC.out]; exact HCL.out) (.inl (by rw [← HD.out]; exact hlo)))
        go_wp2_with fail
        go_ret
        exact ⟨by rw [HRES.out]; rfl, HB.out⟩
       ·have d1 : decide ((d : Int) < 128) = false := decide_eq_false (by omega)
        have d2 : decide (d < 128) = false := decide_eq_false hlo
        by_cases hhi : 191 < d
        ·have d3 : decide (191 < (d : Int)) = true := decide_eq_true (by omega)
         have d4 : decide (191 < d) = true := decide_eq_true hhi
         have HRES : Hid (Lib.validD s.data.toList = false) := HE.out.symm.trans (one_lead s k 3 128 191 hlt (by rw [← HC.out]; omega) (by rw [← HC.out]; exact HCL.out) (.inr (by rw [← HD.out]; exact hhi)))
         go_wp2_with fail
         go_ret
         exact ⟨by rw [HRES.out]; rfl, HB.out⟩
        ·have d3 : decide (191 < (d : Int)) = false := decide_eq_false (by omega)
         have d4 : decide (191 < d) = false := decide_eq_false hhi
         go_wp2_with fail
         go_loopw [8] (fun i wr => ∃ j : Nat, i = .int .i64 j ∧ 2 ≤ j ∧ j ≤ 4 ∧ Hid (∀ x, 2 ≤ x → x < j → 128 ≤ byte s (k + x) ∧ byte s (k + x) ≤ 191) ∧ Hid (Below w.heap.size w wr)) (fun i _ => 5 - (intOf i).toNat)
         case atStart => exact ⟨2, rfl, Nat.le_refl _, by omega, fun x h1 h2 => by omega, HB⟩
         case round =>
          obtain ⟨j, rfl, hj2, hjn, HJ, HB3⟩ := hrel
          by_cases hj : j ≤ 3
          ·have i2 : ∀ W, (Instr.index 9 (.string s) (.int .i64 ((k : Int) + (j : Int)))).run Tryz.prog W = .ok (.int .u8 ((byte s (k + j) : Nat) : Int)) W := HRB.out (k + j) (by omega)
           have q6 : IntKind.i64.wrap ((k : Int) + (j : Int)) = (k : Int) + (j : Int) := IntWalk.i64_in _ (by omega)
           obtain ⟨x, hx⟩ : ∃ x, x = byte s (k + j) := ⟨_, rfl⟩
           have hx256 : x < 256 := by rw [hx]; exact byte_lt s _
           rw [← hx] at i2
           have hand := and_lead ⟨x, hx256⟩
           have hbit : bits .and .u8 (x : Int) 192 = ((x &&& 192 : Nat) : Int) := u8_and_nat x 192 hx256 (by decide)
           have HX := Lib.hid hx
           clear hx
           by_cases hok : 128 ≤ x ∧ x ≤ 191
           ·have hand2 : x &&& 192 = 128 := hand.2 hok
            have HJ2 : Hid (∀ y, 2 ≤ y → y < j + 1 → 128 ≤ byte s (k + y) ∧ byte s (k + y) ≤ 191) := by
             intro y h1 h2
             rcases Nat.lt_or_ge y j with h3 | h3
             ·exact HJ.out y h1 h3
             ·obtain rfl : y = j := by omega
              rw [← HX.out]; exact hok
            have hb6 : (bits .and .u8 (x : Int) 192 != 128) = false := by rw [hbit, hand2]; rfl
            clear hand hbit hand2 hok
            go_wp2_with fail
            go_roundw
            case rel => exact ⟨j + 1, by go_num, by omega, by omega, HJ2, HB3⟩
            case measure => simp [intOf]; omega
           ·have hand2 : ¬ x &&& 192 = 128 := fun e => hok (hand.1 e)
            have hb6 : (bits .and .u8 (x : Int) 192 != 128) = true := by rw [hbit]; simp; omega
            have HRES : Hid (Lib.validD s.data.toList = false) := HE.out.symm.trans (more_lead s k 3 128 191 j hlt (by rw [← HC.out]; omega) (by rw [← HC.out]; exact HCL.out) hj2 hj (by rw [← HX.out]; omega))
            clear hand hbit hand2 hok
            go_wp2_with fail
            go_ret
            exact ⟨by rw [HRES.out]; rfl, HB3.out⟩
          ·have HE2 : Hid (Lib.validD (s.data.toList.drop (k + 3 + 1)) = Lib.validD s.data.toList) := (good_lead s k 3 128 191 hlt (by rw [← HC.out]; omega) (by rw [← HC.out]; exact HCL.out) hsh (by rw [← HD.out]; omega) (fun y h1 h2 => HJ.out y h1 (by omega))).symm.trans HE.out
           have q7 : IntKind.i64.wrap ((k : Int) + 3) = (k : Int) + 3 := IntWalk.i64_in _ (by omega)
           have q8 : IntKind.i64.wrap ((k : Int) + 3 + 1) = (k : Int) + 3 + 1 := IntWalk.i64_in _ (by omega)
           go_wp2_with fail
           go_roundw
           case rel => exact ⟨k + 3 + 1, by go_num, by omega, HE2, HB3⟩
           case measure => simp [intOf]; omega
     ·have HCL := Lib.hid hcl
      clear hcl
      have q1 : IntKind.i64.wrap ((s.size : Int) - (k : Int)) = (s.size : Int) - (k : Int) := IntWalk.i64_in _ (by omega)
      have q2 : IntKind.i64.wrap ((s.size : Int) - (k : Int) - 1) = (s.size : Int) - (k : Int) - 1 := IntWalk.i64_in _ (by omega)
      have q3 : IntKind.i64.wrap ((k : Int) + 1) = (k : Int) + 1 := IntWalk.i64_in _ (by omega)
      by_cases hsh : s.size - k < 4
      ·have q4 : decide ((s.size : Int) - (k : Int) - 1 < 3) = true := decide_eq_true (by omega)
       have q5 : (s.size : Int) - (k : Int) - 1 < 3 := by omega
       have HRES : Hid (Lib.validD s.data.toList = false) := HE.out.symm.trans (short_lead s k 3 128 143 hlt (by rw [← HC.out]; omega) (by rw [← HC.out]; exact HCL.out) hsh)
       go_wp2_with fail
       go_ret
       exact ⟨by rw [HRES.out]; rfl, HB.out⟩
      ·have q4 : decide ((s.size : Int) - (k : Int) - 1 < 3) = false := decide_eq_false (by omega)
       have q5 : ¬ (s.size : Int) - (k : Int) - 1 < 3 := by omega
       have i1 : ∀ W, (Instr.index 9 (.string s) (.int .i64 ((k : Int) + 1))).run Tryz.prog W = .ok (.int .u8 ((byte s (k + 1) : Nat) : Int)) W := HRB.out (k + 1) (by omega)
       obtain ⟨d, hd⟩ : ∃ d, d = byte s (k + 1) := ⟨_, rfl⟩
       have hd256 : d < 256 := by rw [hd]; exact byte_lt s _
       rw [← hd] at i1
       have HD := Lib.hid hd
       clear hd
       by_cases hlo : d < 128
       ·have d1 : decide ((d : Int) < 128) = true := decide_eq_true (by omega)
        have d2 : decide (d < 128) = true := decide_eq_true hlo
        have HRES : Hid (Lib.validD s.data.toList = false) := HE.out.symm.trans (one_lead s k 3 128 143 hlt (by rw [← HC.out]; omega) (by rw [← HC.out]; exact HCL.out) (.inl (by rw [← HD.out]; exact hlo)))
        go_wp2_with fail
        go_ret
        exact ⟨by rw [HRES.out]; rfl, HB.out⟩
       ·have d1 : decide ((d : Int) < 128) = false := decide_eq_false (by omega)
        have d2 : decide (d < 128) = false := decide_eq_false hlo
        by_cases hhi : 143 < d
        ·have d3 : decide (143 < (d : Int)) = true := decide_eq_true (by omega)
         have d4 : decide (143 < d) = true := decide_eq_true hhi
         have HRES : Hid (Lib.validD s.data.toList = false) := HE.out.symm.trans (one_lead s k 3 128 143 hlt (by rw [← HC.out]; omega) (by rw [← HC.out]; exact HCL.out) (.inr (by rw [← HD.out]; exact hhi)))
         go_wp2_with fail
         go_ret
         exact ⟨by rw [HRES.out]; rfl, HB.out⟩
        ·have d3 : decide (143 < (d : Int)) = false := decide_eq_false (by omega)
         have d4 : decide (143 < d) = false := decide_eq_false hhi
         go_wp2_with fail
         go_loopw [8] (fun i wr => ∃ j : Nat, i = .int .i64 j ∧ 2 ≤ j ∧ j ≤ 4 ∧ Hid (∀ x, 2 ≤ x → x < j → 128 ≤ byte s (k + x) ∧ byte s (k + x) ≤ 191) ∧ Hid (Below w.heap.size w wr)) (fun i _ => 5 - (intOf i).toNat)
         case atStart => exact ⟨2, rfl, Nat.le_refl _, by omega, fun x h1 h2 => by omega, HB⟩
         case round =>
          obtain ⟨j, rfl, hj2, hjn, HJ, HB3⟩ := hrel
          by_cases hj : j ≤ 3
          ·have i2 : ∀ W, (Instr.index 9 (.string s) (.int .i64 ((k : Int) + (j : Int)))).run Tryz.prog W = .ok (.int .u8 ((byte s (k + j) : Nat) : Int)) W := HRB.out (k + j) (by omega)
           have q6 : IntKind.i64.wrap ((k : Int) + (j : Int)) = (k : Int) + (j : Int) := IntWalk.i64_in _ (by omega)
           obtain ⟨x, hx⟩ : ∃ x, x = byte s (k + j) := ⟨_, rfl⟩
           have hx256 : x < 256 := by rw [hx]; exact byte_lt s _
           rw [← hx] at i2
           have hand := and_lead ⟨x, hx256⟩
           have hbit : bits .and .u8 (x : Int) 192 = ((x &&& 192 : Nat) : Int) := u8_and_nat x 192 hx256 (by decide)
           have HX := Lib.hid hx
           clear hx
           by_cases hok : 128 ≤ x ∧ x ≤ 191
           ·have hand2 : x &&& 192 = 128 := hand.2 hok
            have HJ2 : Hid (∀ y, 2 ≤ y → y < j + 1 → 128 ≤ byte s (k + y) ∧ byte s (k + y) ≤ 191) := by
             intro y h1 h2
             rcases Nat.lt_or_ge y j with h3 | h3
             ·exact HJ.out y h1 h3
             ·obtain rfl : y = j := by omega
              rw [← HX.out]; exact hok
            have hb6 : (bits .and .u8 (x : Int) 192 != 128) = false := by rw [hbit, hand2]; rfl
            clear hand hbit hand2 hok
            go_wp2_with fail
            go_roundw
            case rel => exact ⟨j + 1, by go_num, by omega, by omega, HJ2, HB3⟩
            case measure => simp [intOf]; omega
           ·have hand2 : ¬ x &&& 192 = 128 := fun e => hok (hand.1 e)
            have hb6 : (bits .and .u8 (x : Int) 192 != 128) = true := by rw [hbit]; simp; omega
            have HRES : Hid (Lib.validD s.data.toList = false) := HE.out.symm.trans (more_lead s k 3 128 143 j hlt (by rw [← HC.out]; omega) (by rw [← HC.out]; exact HCL.out) hj2 hj (by rw [← HX.out]; omega))
            clear hand hbit hand2 hok
            go_wp2_with fail
            go_ret
            exact ⟨by rw [HRES.out]; rfl, HB3.out⟩
          ·have HE2 : Hid (Lib.validD (s.data.toList.drop (k + 3 + 1)) = Lib.validD s.data.toList) := (good_lead s k 3 128 143 hlt (by rw [← HC.out]; omega) (by rw [← HC.out]; exact HCL.out) hsh (by rw [← HD.out]; omega) (fun y h1 h2 => HJ.out y h1 (by omega))).symm.trans HE.out
           have q7 : IntKind.i64.wrap ((k : Int) + 3) = (k : Int) + 3 := IntWalk.i64_in _ (by omega)
           have q8 : IntKind.i64.wrap ((k : Int) + 3 + 1) = (k : Int) + 3 + 1 := IntWalk.i64_in _ (by omega)
           go_wp2_with fail
           go_roundw
           case rel => exact ⟨k + 3 + 1, by go_num, by omega, HE2, HB3⟩
           case measure => simp [intOf]; omega
  ·have hkk : k = s.size := by omega
   have HRES : Hid (Lib.validD s.data.toList = true) := by
    have := HE.out
    rw [List.drop_eq_nil_of_le (by rw [len_list]; omega)] at this
    exact this.symm
   go_wp2_with fail
   go_ret
   exact ⟨by rw [HRES.out]; rfl, HB.out⟩
end Go.Proofs.YtngllchoiffniaaGreatDoor
end
