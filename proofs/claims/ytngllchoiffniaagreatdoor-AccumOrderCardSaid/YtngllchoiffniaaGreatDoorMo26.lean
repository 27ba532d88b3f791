/- RefSmall. -/
import Derived.Test.YtngllchoiffniaaGreatDoorMo20
import Derived.Test.YtngllchoiffniaaGreatDoorMo23
import Derived.Test.YtngllchoiffniaaGreatDoorMo1
import Derived.Test.YtngllchoiffniaaGreatDoorMo25
set_option maxRecDepth 100000
set_option maxHeartbeats 20000000
section
namespace Go.Proofs.YtngllchoiffniaaGreatDoor
open Go.RowKit
open Seal
open Bson (Val)
theorem code_some (k : Int) (w : World) : Calls Tryz.prog 90 #[.int .i64 k] w fun e w' => (∃ c : Nat, c < 256 ∧ e = .returned (.int .u8 (c : Int))) ∧ w' = w := by
 by_cases h1 : k = 1
 ·subst h1; go_enter Tryz.func90, Tryz.ntmps90
  go_wp2_with fail
  go_ret
  exact ⟨⟨255, by omega, rfl⟩, rfl⟩
 by_cases h2 : k = 2
 ·subst h2; go_enter Tryz.func90, Tryz.ntmps90
  go_wp2_with fail
  go_ret
  exact ⟨⟨10, by omega, rfl⟩, rfl⟩
 by_cases h3 : k = 3
 ·subst h3; go_enter Tryz.func90, Tryz.ntmps90
  go_wp2_with fail
  go_ret
  exact ⟨⟨16, by omega, rfl⟩, rfl⟩
 by_cases h4 : k = 4
 ·subst h4; go_enter Tryz.func90, Tryz.ntmps90
  go_wp2_with fail
  go_ret
  exact ⟨⟨18, by omega, rfl⟩, rfl⟩
 by_cases h5 : k = 5
 ·subst h5; go_enter Tryz.func90, Tryz.ntmps90
  go_wp2_with fail
  go_ret
  exact ⟨⟨2, by omega, rfl⟩, rfl⟩
 by_cases h6 : k = 6
 ·subst h6; go_enter Tryz.func90, Tryz.ntmps90
  go_wp2_with fail
  go_ret
  exact ⟨⟨3, by omega, rfl⟩, rfl⟩
 by_cases h7 : k = 7
 ·subst h7; go_enter Tryz.func90, Tryz.ntmps90
  go_wp2_with fail
  go_ret
  exact ⟨⟨4, by omega, rfl⟩, rfl⟩
 by_cases h8 : k = 8
 ·subst h8; go_enter Tryz.func90, Tryz.ntmps90
  go_wp2_with fail
  go_ret
  exact ⟨⟨5, by omega, rfl⟩, rfl⟩
 by_cases h9 : k = 9
 ·subst h9; go_enter Tryz.func90, Tryz.ntmps90
  go_wp2_with fail
  go_ret
  exact ⟨⟨7, by omega, rfl⟩, rfl⟩
 by_cases h10 : k = 10
 ·subst h10; go_enter Tryz.func90, Tryz.ntmps90
  go_wp2_with fail
  go_ret
  exact ⟨⟨8, by omega, rfl⟩, rfl⟩
 by_cases h11 : k = 11
 ·subst h11; go_enter Tryz.func90, Tryz.ntmps90
  go_wp2_with fail
  go_ret
  exact ⟨⟨9, by omega, rfl⟩, rfl⟩
 by_cases h12 : k = 12
 ·subst h12; go_enter Tryz.func90, Tryz.ntmps90
  go_wp2_with fail
  go_ret
  exact ⟨⟨127, by omega, rfl⟩, rfl⟩
 have b1 : (k == 1) = false := by simpa using h1
 have b2 : (k == 2) = false := by simpa using h2
 have b3 : (k == 3) = false := by simpa using h3
 have b4 : (k == 4) = false := by simpa using h4
 have b5 : (k == 5) = false := by simpa using h5
 have b6 : (k == 6) = false := by simpa using h6
 have b7 : (k == 7) = false := by simpa using h7
 have b8 : (k == 8) = false := by simpa using h8
 have b9 : (k == 9) = false := by simpa using h9
 have b10 : (k == 10) = false := by simpa using h10
 have b11 : (k == 11) = false := by simpa using h11
 have b12 : (k == 12) = false := by simpa using h12
 go_enter Tryz.func90, Tryz.ntmps90
 go_wp2_with fail
 go_ret
 exact ⟨⟨0, by omega, rfl⟩, rfl⟩
theorem infoU8 : (Tryz.prog.info? 5).map (fun i => (i.zero, i.size, i.bytes)) = some (some (.int .u8 0), 1, 1) := by kernel_rfl
def BytesAt (w : World) (Q : Nat → Prop) (v : Value) (n : Nat) : Prop := ∃ a c l, v = .slice a n c ∧ l.length = n ∧ Oct l ∧ BytesIn w Q a l
theorem owns_bytes {w : World} {base : Nat} {v : Value} {n : Nat} {l : List Nat} (h : w.ownsRow base 5 1 v n (u8s l)) (ho : Oct l) : BytesAt w (fun g => base ≤ g) v n := by
 obtain ⟨hxl, ⟨rfl, hn⟩ | ⟨g, cap, cur, rfl, hbg, hrow, hc, hm, hsz, htake⟩⟩ := h
 ·subst hn
  have : l = [] := List.eq_nil_of_length_eq_zero (by simpa [u8s] using hxl)
  subst this
  exact ⟨none, 0, [], rfl, rfl, ho, .inl rfl⟩
 ·have hl : l.length = n := by simpa [u8s] using hxl
  refine ⟨some ⟨g, 0, none⟩, cap, l, rfl, hl, ho, .inr ⟨g, 0, rfl, hbg, fun j hj => ?_⟩⟩
  rw [Nat.zero_add, cell_of_row w g j _ _ _ hrow, ← Array.getElem?_toList]
  have e : cur.toList[j]? = (u8s l)[j]? := by rw [← htake, List.getElem?_take_of_lt (by omega)]
  rw [e]
  simp [u8s, Go.Proofs.YtngllchoiffniaaGreatDoor.u8, List.getElem?_eq_getElem hj, List.getD_eq_getElem?_getD]
theorem num_own (z : Int) (n : Nat) (w : World) (hn : n ≤ 8) : Calls Tryz.prog 70 #[.int .i64 z, .int .i64 (n : Int)] w fun e w' => ∃ v l, e = .returned v ∧ w'.ownsRow w.heap.size 5 1 v n (u8s l) ∧ l.length = n ∧ Oct l ∧ Below w.heap.size w w' := by
 obtain ⟨i0, hi, hz0, hz1, hz2⟩ := info_parts infoU8
 go_enter Tryz.func70, Tryz.ntmps70
 go_wp2_with fail
 go_loopw [5, 6] (fun v i wr => ∃ (k : Nat) (l : List Nat) (v' : Value), i = .int .i64 k ∧ k ≤ n ∧ v' = v ∧ Hid (l.length = k ∧ Oct l) ∧ Hid (wr.ownsRow w.heap.size 5 1 v' k (u8s l)) ∧ Hid (Below w.heap.size w wr)) (fun _ i _ => n - (intOf i).toNat)
 case atStart => exact ⟨0, [], _, rfl, Nat.zero_le _, rfl, ⟨rfl, fun c hc => by cases hc⟩, World.ownsRow_nil _ _ _ _, Below.refl _ _⟩
 case round =>
  obtain ⟨k, l, v, rfl, hk, rfl, HL, HO, HB⟩ := hrel
  obtain ⟨a1, c1, hv1⟩ : ∃ a c, v = .slice a k c := owns_shape HO.out
  subst hv1
  by_cases hlt : k < n
  ·obtain ⟨cc, hcc⟩ : ∃ cc : Nat, IntKind.u64.wrap z / 2 ^ (8 * k) % 256 = (cc : Int) ∧ cc < 256 := ⟨(IntKind.u64.wrap z / 2 ^ (8 * k) % 256).toNat, by omega, by omega⟩
   have HCC := Lib.hid hcc.1
   have hc256 := hcc.2
   have HOWN : Hid ((wr.alloc (.cells #[.int .u8 (IntKind.u64.wrap z / 2 ^ (8 * k) % 256)] 5)).ownsRow w.heap.size 5 1 (.slice a1 k c1) k (u8s l)) := owns_below HO.out ((Below.refl _ _).alloc (Nat.le_refl _) _)
   have HNW : Hid (∀ j u, ([.int .u8 (IntKind.u64.wrap z / 2 ^ (8 * k) % 256)] : List Value)[j]? = some u → (wr.alloc (.cells #[.int .u8 (IntKind.u64.wrap z / 2 ^ (8 * k) % 256)] 5)).cell? (Addr.add ⟨wr.heap.size, 0, none⟩ j) = some u) := one_new wr _ _
   have HB2 : Hid (Below w.heap.size w (wr.alloc (.cells #[.int .u8 (IntKind.u64.wrap z / 2 ^ (8 * k) % 256)] 5))) := HB.out.alloc HB.out.size _
   have HSZ := Lib.hid HB2.out.size
   clear hcc HB HO
   go_wp2_with (at_builtin; refine wpList_append_sz _ rfl (.tmp 12) (.tmp 20) 32 rfl w.heap.size 5 i0 (.int .u8 0) 1 1 Tryz.underlying32 hi hz0 hz1 hz2 rfl (.slice a1 k c1) k (u8s l) rfl HOWN.out ⟨wr.heap.size, 0, none⟩ 1 1 [.int .u8 (IntKind.u64.wrap z / 2 ^ (8 * k) % 256)] rfl rfl (by decide) (by decide) HNW.out (by intro u hu; simp at hu; subst hu; rfl) (by unfold maxLen; omega) (by omega) HSZ.out ?_)
   intro v5 w5 hown5 hlies5
   have hw5 := Wrote.of_lies hlies5
   have HB5 : Hid (Below w.heap.size w w5) := HB2.out.grown hw5.1 HSZ.out (fun j hj => (owns_block HOWN.out hj).1)
   have HO5 : Hid (w5.ownsRow w.heap.size 5 1 v5 (k + 1) (u8s (l ++ [cc]))) := by
    have e : u8s (l ++ [cc]) = u8s l ++ [.int .u8 (IntKind.u64.wrap z / 2 ^ (8 * k) % 256)] := by rw [HCC.out]; simp [u8s, Go.Proofs.YtngllchoiffniaaGreatDoor.u8]
    rw [e]; exact hown5
   have HL5 : Hid ((l ++ [cc]).length = k + 1 ∧ Oct (l ++ [cc])) := ⟨by simp [HL.out.1], fun c hc => by
    rcases List.mem_append.1 hc with h | h
    ·exact HL.out.2 c h
    ·rw [List.mem_singleton.1 h]; exact hc256⟩
   clear hown5 hlies5 hw5 HOWN HNW HSZ HB2 HCC
   go_wp2_with fail
   go_roundw
   case rel => exact ⟨k + 1, l ++ [cc], v5, by go_num, by omega, rfl, HL5, HO5, HB5⟩
   case measure => simp [intOf]; omega
  ·have hkk : k = n := by omega
   subst hkk
   go_wp2_with fail
   go_ret
   exact ⟨_, _, rfl, HO.out, HL.out.1, HL.out.2, HB.out⟩
theorem num_some (z : Int) (n : Nat) (w : World) (hn : n ≤ 8) : Calls Tryz.prog 70 #[.int .i64 z, .int .i64 (n : Int)] w fun e w' => ∃ v, e = .returned v ∧ BytesAt w' (fun g => w.heap.size ≤ g) v n ∧ Below w.heap.size w w' := by
 refine (num_own z n w hn).mono ?_
 rintro e w' ⟨v, l, rfl, h1, _, h3, h4⟩
 exact ⟨v, rfl, owns_bytes h1 h3, h4⟩
theorem digits_some (n : Nat) (w : World) (hn : n ≤ 140737488355327) : Calls Tryz.prog 73 #[.int .i64 (n : Int)] w fun e w' => ∃ s, e = .returned (.string s) ∧ s.size ≤ n + 1 ∧ Below w.heap.size w w' := by
 go_enter Tryz.func73, Tryz.ntmps73
 go_wp2_with fail
 go_loopw [0, 3] (fun z t wr => ∃ (k : Nat) (s : ByteArray), z = .int .i64 k ∧ t = .string s ∧ s.size + k ≤ n ∧ Hid (Below w.heap.size w wr)) (fun z _ _ => (intOf z).toNat)
 case atStart => exact ⟨n, ⟨#[]⟩, rfl, rfl, Nat.le_of_eq (Nat.zero_add n), Below.refl _ _⟩
 case round =>
  obtain ⟨k, s, rfl, rfl, hs, HB⟩ := hrel
  have hcell : (wr.alloc (.cells #[.int .u8 (48 + (k : Int) % 10)] 5)).cell? ⟨wr.heap.size, 0, none⟩ = some (.int .u8 (48 + (k : Int) % 10)) := (cell_of_row _ _ 0 _ _ _ (heap_alloc_new wr _)).trans rfl
  have hcv := conv_str (wr.alloc (.cells #[.int .u8 (48 + (k : Int) % 10)] 5)) (some ⟨wr.heap.size, 0, none⟩) 1 1 [48 + k % 10] rfl (.inr ⟨_, 0, rfl, fun j hj => by
   obtain rfl : j = 0 := by simp at hj; omega
   rw [Nat.add_zero, hcell]
   congr 2⟩)
  have hsz : (strB [48 + k % 10]).size = 1 := rfl
  obtain ⟨d, hd⟩ : ∃ d, d = strB [48 + k % 10] := ⟨_, rfl⟩
  rw [← hd] at hcv hsz
  have HB2 : Hid (Below w.heap.size w (wr.alloc (.cells #[.int .u8 (48 + (k : Int) % 10)] 5))) := HB.out.alloc HB.out.size _
  have hds : (d ++ s).size = s.size + 1 := by
   rw [← Path.len_list, Path.app_list, List.length_append, Path.len_list, Path.len_list]; omega
  have HDS := Lib.hid hds
  clear hd hcell hds
  by_cases h10 : k < 10
  ·have hq : (k : Int) / 10 = 0 := by omega
   go_wp2_with fail
   go_ret
   exact ⟨_, rfl, by rw [HDS.out]; omega, HB2.out⟩
  ·have hq : ¬ (k : Int) / 10 = 0 := by omega
   have hqb : ((k : Int) / 10 == 0) = false := by rw [beq_eq_false_iff_ne]; exact hq
   go_wp2_with fail
   go_roundw
   case rel => exact ⟨k / 10, _, by go_num, rfl, by rw [HDS.out]; omega, HB2⟩
   case measure => simp [intOf]; omega
end Go.Proofs.YtngllchoiffniaaGreatDoor
end
