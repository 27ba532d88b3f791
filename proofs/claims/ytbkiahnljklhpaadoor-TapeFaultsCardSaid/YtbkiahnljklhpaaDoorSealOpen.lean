/- THE WALKS OF seal.Close's REFUSALS AND OF seal.Open. -/
import Derived.Test.YtbkiahnljklhpaaDoorSealClose
import Derived.Test.YtbkiahnljklhpaaDoorBytesStr
import Derived.Deep.RegionWith
import Derived.Laws.BytesArg
namespace Go.Proofs.YtbkiahnljklhpaaDoor
open Go.RowKit
open Seal
theorem add_plain (b off i : Nat) : (⟨b, off, none⟩ : Addr).add i = ⟨b, off + i, none⟩ := by (unfold Addr.add; split <;> simp_all)
theorem drewN_below (w : World) (n : Nat) : Below w.heap.size w (w.drewN n) := ⟨rfl, rfl, rfl, Nat.le_refl _, fun _ _ => rfl⟩
set_option maxRecDepth 100000 in
set_option maxHeartbeats 400000 in
theorem close_bad (page next : Int) (a : Option Addr) (n cap : Nat) (w : World) (hp0 : -9223372036854775808 ≤ page) (hp1 : page ≤ 9223372036854775807) 
    (hbad : pageB page = false ∨ next < -1 ∨ 16384 ≤ next ∨ page - 10 < (n : Int)) :
    Calls Tryd.prog 58 #[.int .i64 page, .int .i64 next, .slice a n cap] w fun e w' =>
      e = .returned (.tuple #[.slice none 0 0, .int .i64 1]) ∧ w = w' := by
  by_cases hp : pageB page = true
  · have hpb := pageB_bounds hp
    have hroom : roomOf page = page - 10 := by unfold roomOf; rw [if_pos hp]
    have Hroom := Lib.hid hroom
    have hbad' : next < -1 ∨ 16384 ≤ next ∨ page - 10 < (n : Int) := by
      rcases hbad with h | h
      · rw [hp] at h; cases h
      · exact h
    clear hroom hbad hp
    have hg1 : (page - 10 == 0) = false := by rw [beq_eq_false_iff_ne]; omega
    by_cases h1 : next < -1
    · go_enter Tryd.func58, Tryd.ntmps58
      go_wp2_with fail
      refine (room_any page _ (by omega) (by omega)).mono ?_
      rintro e w' ⟨rfl, rfl⟩
      rw [Hroom.out]
      go_wp2_with fail
      go_ret2
      exact ⟨rfl, rfl⟩
    · by_cases h2 : 16384 ≤ next
      · go_enter Tryd.func58, Tryd.ntmps58
        go_wp2_with fail
        refine (room_any page _ (by omega) (by omega)).mono ?_
        rintro e w' ⟨rfl, rfl⟩
        rw [Hroom.out]
        go_wp2_with fail
        go_ret2
        exact ⟨rfl, rfl⟩
      · have h3 : page - 10 < (n : Int) := by omega
        go_enter Tryd.func58, Tryd.ntmps58
        go_wp2_with fail
        refine (room_any page _ (by omega) (by omega)).mono ?_
        rintro e w' ⟨rfl, rfl⟩
        rw [Hroom.out]
        go_wp2_with fail
        go_ret2
        exact ⟨rfl, rfl⟩
  · have hroom : roomOf page = 0 := by unfold roomOf; rw [if_neg hp]
    have Hroom := Lib.hid hroom
    clear hroom hbad hp
    go_enter Tryd.func58, Tryd.ntmps58
    go_wp2_with fail
    refine (room_any page _ (by omega) (by omega)).mono ?_
    rintro e w' ⟨rfl, rfl⟩
    rw [Hroom.out]
    go_wp2_with fail
    go_ret2
    exact ⟨rfl, rfl⟩

set_option maxRecDepth 100000 in
set_option maxHeartbeats 400000 in
theorem open_len (a : Option Addr) (n cap : Nat) (w : World) (hm : n ≤ 9223372036854775807) (hp : pageOk n = false) :
    Calls Tryd.prog 64 #[.slice a n cap] w fun e w' => e = .returned (.tuple #[.int .i64 0, .slice none 0 0, .int .i64 1]) ∧ w = w' := by
  have hroom : roomOf n = 0 := by unfold roomOf pageB; rw [if_neg]; rw [Int.toNat_natCast, hp]; decide
  have Hroom := Lib.hid hroom
  clear hroom hp
  go_enter Tryd.func64, Tryd.ntmps64
  go_wp2_with fail
  refine (room_any n _ (by omega) (by omega)).mono ?_
  rintro e w' ⟨rfl, rfl⟩
  rw [Hroom.out]
  go_wp2_with fail
  go_ret3
  exact ⟨rfl, rfl⟩
set_option maxRecDepth 100000 in
set_option maxHeartbeats 400000 in
theorem open_sum (b off cap : Nat) (l : List Nat) (w : World) (hp : pageOk l.length = true) (hcap : l.length ≤ cap) (hb : Oct l) (hr : Reads w b off l) (ht : Tab w)
    (hs : num (l.drop (l.length - 4)) ≠ crc (l.take (l.length - 4))) :
    Calls Tryd.prog 64 #[.slice (some ⟨b, off, none⟩) l.length cap] w fun e w' => e = .returned (.tuple #[.int .i64 0, .slice none 0 0, .int .i64 18]) ∧ ∃ q, w' = w.drewN q := by
  have hpb := pageOk_bounds hp
  have hroom : roomOf l.length = l.length - 10 := by unfold roomOf pageB; rw [if_pos]; rw [Int.toNat_natCast, hp]
  have Hroom := Lib.hid hroom
  have hg1 : ((l.length : Int) - 10 == 0) = false := by rw [beq_eq_false_iff_ne]; omega
  clear hroom hp
  obtain ⟨N, hN⟩ : ∃ N, N = l.length := ⟨_, rfl⟩
  rw [← hN] at hs hcap hpb Hroom hg1 ⊢
  have hrt : Reads w b off (l.take (N - 4)) := by have := hr.part 0 (N - 4); rwa [List.drop_zero] at this
  have hrd : Reads w b (off + (N - 4)) (l.drop (N - 4)) := by have := hr.part (N - 4) 4; rwa [List.take_of_length_le (by simp; omega)] at this
  have hlt : (l.take (N - 4)).length = N - 4 := by simp; omega
  have hld : (l.drop (N - 4)).length = N - (N - 4) := by simp; omega
  have hbt := oct_take (N - 4) hb
  have hbd := oct_drop (N - 4) hb
  have HN := Lib.hid hN
  have Hlt := Lib.hid hlt
  have Hld := Lib.hid hld
  have hne : (((num (l.drop (N - 4)) : Nat) : Int) != ((crc (l.take (N - 4)) : Nat) : Int)) = true := by
    rw [bne_iff_ne]; intro h; exact hs (by omega)
  clear hN hr hlt hld hs
  go_enter Tryd.func64, Tryd.ntmps64
  go_wp2_with fail
  refine (room_any N _ (by omega) (by omega)).mono ?_
  rintro e w' ⟨rfl, rfl⟩
  rw [Hroom.out]
  go_wp2_with fail
  have q1 : (4 : Int) ≤ (N : Int) := by omega
  have q2 : (N : Int) - 4 ≤ (N : Int) := by omega
  have q2' : (0 : Int) ≤ (N : Int) - 4 := by omega
  have q2'' : (N : Int) - 4 ≤ (cap : Int) := by omega
  have q3 : ((N : Int) - 4).toNat = N - 4 := by omega
  have q4 : (cap = N - 4) = False := by apply eq_false; omega
  go_quiet ((first | (go_at_call 65; exact Calls.quiet_of_same ((get_any b (off + (N - 4)) _ _ (l.drop (N - 4)) _ Hld.out (by omega) hbd (hrd.drewN _)).mono fun _ _ h => ⟨h.1, h.2.symm⟩)) | (go_at_call 62; exact Calls.quiet_of_same ((sum_any _ _ _ (l.take (N - 4)) _ Hlt.out (by omega) hbt (.inr ⟨b, off, rfl, hrt.drewN _⟩) (ht.drewN _)).mono fun _ _ h => ⟨h.1, h.2.symm⟩))))
  go_wp2_with fail
  go_ret3
  exact ⟨rfl, ⟨_, rfl⟩⟩
set_option maxRecDepth 100000 in
set_option maxHeartbeats 1000000 in
theorem open_form (b off cap : Nat) (l : List Nat) (w : World) (hp : pageOk l.length = true) (hcap : l.length ≤ cap) (hb : Oct l) (hr : Reads w b off l) (ht : Tab w)
    (hs : num (l.drop (l.length - 4)) = crc (l.take (l.length - 4))) (hbad : 16384 < num (l.take 4) ∨ l.length - 10 < num ((l.drop 4).take 2)) :
    Calls Tryd.prog 64 #[.slice (some ⟨b, off, none⟩) l.length cap] w fun e w' => e = .returned (.tuple #[.int .i64 0, .slice none 0 0, .int .i64 4]) ∧ ∃ q, w' = w.drewN q := by
  have hpb := pageOk_bounds hp
  have hroom : roomOf l.length = l.length - 10 := by unfold roomOf pageB; rw [if_pos]; rw [Int.toNat_natCast, hp]
  have Hroom := Lib.hid hroom
  have hg1 : ((l.length : Int) - 10 == 0) = false := by rw [beq_eq_false_iff_ne]; omega
  clear hroom hp
  obtain ⟨N, hN⟩ : ∃ N, N = l.length := ⟨_, rfl⟩
  rw [← hN] at hs hcap hpb Hroom hg1 hbad ⊢
  have hrt : Reads w b off (l.take (N - 4)) := by have := hr.part 0 (N - 4); rwa [List.drop_zero] at this
  have hrd : Reads w b (off + (N - 4)) (l.drop (N - 4)) := by have := hr.part (N - 4) 4; rwa [List.take_of_length_le (by simp; omega)] at this
  have hlt : (l.take (N - 4)).length = N - 4 := by simp; omega
  have hld : (l.drop (N - 4)).length = N - (N - 4) := by simp; omega
  have hbt := oct_take (N - 4) hb
  have hbd := oct_drop (N - 4) hb
  have HN := Lib.hid hN
  have Hlt := Lib.hid hlt
  have Hld := Lib.hid hld
  have hne : (((num (l.drop (N - 4)) : Nat) : Int) != ((crc (l.take (N - 4)) : Nat) : Int)) = false := by
    rw [hs]; simp
  have hr4 : Reads w b off (l.take 4) := by have := hr.part 0 4; rwa [List.drop_zero] at this
  have hr2 : Reads w b (off + 4) ((l.drop 4).take 2) := hr.part 4 2
  have hl4 : (l.take 4).length = 4 := by simp; omega
  have hl2 : ((l.drop 4).take 2).length = 2 := by simp; omega
  have hb4 := oct_take 4 hb
  have hb2 := oct_take 2 (oct_drop 4 hb)
  have h32a := num_lt32 _ hb4 (by omega)
  have h32b := num_lt _ hb2
  rw [hl2] at h32b
  have Hl4 := Lib.hid hl4
  have Hl2 := Lib.hid hl2
  obtain ⟨x, hx⟩ : ∃ x, x = num (l.take 4) := ⟨_, rfl⟩
  obtain ⟨y, hy⟩ : ∃ y, y = num ((l.drop 4).take 2) := ⟨_, rfl⟩
  rw [← hx] at hbad h32a
  rw [← hy] at hbad h32b
  have Hx := Lib.hid hx
  have Hy := Lib.hid hy
  clear hx hy hl4 hl2
  clear hN hr hlt hld hs
  go_enter Tryd.func64, Tryd.ntmps64
  go_wp2_with fail
  refine (room_any N _ (by omega) (by omega)).mono ?_
  rintro e w' ⟨rfl, rfl⟩
  rw [Hroom.out]
  go_wp2_with fail
  have q1 : (4 : Int) ≤ (N : Int) := by omega
  have q2 : (N : Int) - 4 ≤ (N : Int) := by omega
  have q2' : (0 : Int) ≤ (N : Int) - 4 := by omega
  have q2'' : (N : Int) - 4 ≤ (cap : Int) := by omega
  have q3 : ((N : Int) - 4).toNat = N - 4 := by omega
  have q4 : (cap = N - 4) = False := by apply eq_false; omega
  go_quiet ((first | (go_at_call 65; exact Calls.quiet_of_same ((get_any b (off + (N - 4)) _ _ (l.drop (N - 4)) _ Hld.out (by omega) hbd (hrd.drewN _)).mono fun _ _ h => ⟨h.1, h.2.symm⟩)) | (go_at_call 62; exact Calls.quiet_of_same ((sum_any _ _ _ (l.take (N - 4)) _ Hlt.out (by omega) hbt (.inr ⟨b, off, rfl, hrt.drewN _⟩) (ht.drewN _)).mono fun _ _ h => ⟨h.1, h.2.symm⟩))))
  go_wp2_with fail
  clear q1 q2 q2' q2'' q3 q4 hrt hrd hbt hbd
  have hr4' := hr4.drewN nq
  have hr2' := hr2.drewN nq
  generalize hW : w.drewN nq = w2 at hr4' hr2' ⊢
  have HW := Lib.hid hW
  clear hW hr4 hr2
  have p1 : (4 : Int) ≤ (cap : Int) := by omega
  have p2 : (6 : Int) ≤ (cap : Int) := by omega
  have p4 : (cap = 4) = False := by apply eq_false; omega
  have c1 : ∀ n, Calls Tryd.prog 65 #[.slice (some ⟨b, off, none⟩) 4 cap] (w2.drewN n) fun e w' => e = .returned (.int .u32 (x : Int)) ∧ w' = w2.drewN n := by
    intro n
    rw [Hx.out]
    exact (get_any b off _ _ (l.take 4) _ Hl4.out (by omega) hb4 (hr4'.drewN _)).mono fun _ _ h => ⟨h.1, h.2.symm⟩
  have c2 : ∀ n, Calls Tryd.prog 65 #[.slice (some ⟨b, off + 4, none⟩) 2 (cap - 4)] (w2.drewN n) fun e w' => e = .returned (.int .u32 (y : Int)) ∧ w' = w2.drewN n := by
    intro n
    rw [Hy.out]
    exact (get_any b (off + 4) _ _ ((l.drop 4).take 2) _ Hl2.out (by omega) hb2 (hr2'.drewN _)).mono fun _ _ h => ⟨h.1, h.2.symm⟩
  have C1 := Lib.hid c1
  have C2 := Lib.hid c2
  clear c1 c2
  refine wp_region_quiet_lit (by kernel_rfl) (by kernel_rfl) ?_
  repeat (quiet_step (fail))
  refine wpQuiet_step (fun K hK => ?_)
  go_simp
  refine ⟨_, fun _ => Calls.quiet_of_same (C1.out _), hK _ ?_⟩
  clear hK K
  repeat (quiet_step (fail))
  refine wpQuiet_step (fun K hK => ?_)
  go_simp
  refine ⟨_, fun _ => Calls.quiet_of_same (C2.out _), hK _ ?_⟩
  clear hK K
  repeat (quiet_step (fail))
  refine wpQuiet_nil ?_
  intro _ hw'
  obtain ⟨nr, hw''⟩ := hw'
  subst hw''
  clear p1 p2 p4
  by_cases hb1 : 16384 < x
  · go_wp2_with fail
    go_ret3
    exact ⟨rfl, ⟨_, by rw [← HW.out, World.drewN_drewN]⟩⟩
  · have hb3 : N - 10 < y := by omega
    go_wp2_with fail
    go_ret3
    exact ⟨rfl, ⟨_, by rw [← HW.out, World.drewN_drewN]⟩⟩
set_option maxRecDepth 100000 in
set_option maxHeartbeats 1000000 in
theorem open_ok (b off cap : Nat) (l : List Nat) (w : World) (hp : pageOk l.length = true) (hcap : l.length ≤ cap) (hb : Oct l) (hr : Reads w b off l) (ht : Tab w)
    (hs : num (l.drop (l.length - 4)) = crc (l.take (l.length - 4))) (hbad : num (l.take 4) ≤ 16384 ∧ num ((l.drop 4).take 2) ≤ l.length - 10) (hbw : b < w.heap.size) :
    Calls Tryd.prog 64 #[.slice (some ⟨b, off, none⟩) l.length cap] w fun e w' => e = .returned (.tuple #[.int .i64 ((num (l.take 4) : Int) - 1), .slice (some ⟨w.heap.size, 0, none⟩) (num ((l.drop 4).take 2)) (num ((l.drop 4).take 2)), .int .i64 0]) ∧ Row w' w.heap.size ((l.drop 6).take (num ((l.drop 4).take 2))) ∧ Below w.heap.size w w' := by
  have hpb := pageOk_bounds hp
  have hroom : roomOf l.length = l.length - 10 := by unfold roomOf pageB; rw [if_pos]; rw [Int.toNat_natCast, hp]
  have Hroom := Lib.hid hroom
  have hg1 : ((l.length : Int) - 10 == 0) = false := by rw [beq_eq_false_iff_ne]; omega
  clear hroom hp
  obtain ⟨N, hN⟩ : ∃ N, N = l.length := ⟨_, rfl⟩
  rw [← hN] at hs hcap hpb Hroom hg1 hbad ⊢
  have hrt : Reads w b off (l.take (N - 4)) := by have := hr.part 0 (N - 4); rwa [List.drop_zero] at this
  have hrd : Reads w b (off + (N - 4)) (l.drop (N - 4)) := by have := hr.part (N - 4) 4; rwa [List.take_of_length_le (by simp; omega)] at this
  have hlt : (l.take (N - 4)).length = N - 4 := by simp; omega
  have hld : (l.drop (N - 4)).length = N - (N - 4) := by simp; omega
  have hbt := oct_take (N - 4) hb
  have hbd := oct_drop (N - 4) hb
  have HN := Lib.hid hN
  have Hlt := Lib.hid hlt
  have Hld := Lib.hid hld
  have hne : (((num (l.drop (N - 4)) : Nat) : Int) != ((crc (l.take (N - 4)) : Nat) : Int)) = false := by
    rw [hs]; simp
  have hr4 : Reads w b off (l.take 4) := by have := hr.part 0 4; rwa [List.drop_zero] at this
  have hr6 : Reads w b (off + 6) ((l.drop 6).take (num ((l.drop 4).take 2))) := hr.part 6 _
  have hr2 : Reads w b (off + 4) ((l.drop 4).take 2) := hr.part 4 2
  have hl4 : (l.take 4).length = 4 := by simp; omega
  have hl2 : ((l.drop 4).take 2).length = 2 := by simp; omega
  have hb4 := oct_take 4 hb
  have hb2 := oct_take 2 (oct_drop 4 hb)
  have h32a := num_lt32 _ hb4 (by omega)
  have h32b := num_lt _ hb2
  rw [hl2] at h32b
  have Hl4 := Lib.hid hl4
  have Hl2 := Lib.hid hl2
  obtain ⟨x, hx⟩ : ∃ x, x = num (l.take 4) := ⟨_, rfl⟩
  obtain ⟨y, hy⟩ : ∃ y, y = num ((l.drop 4).take 2) := ⟨_, rfl⟩
  rw [← hx] at hbad h32a ⊢
  rw [← hy] at hbad h32b hr6 ⊢
  have hl6 : ((l.drop 6).take y).length = y := by simp; omega
  have Hl6 := Lib.hid hl6
  clear hl6
  have Hx := Lib.hid hx
  have Hy := Lib.hid hy
  clear hx hy hl4 hl2
  clear hN hr hlt hld hs
  go_enter Tryd.func64, Tryd.ntmps64
  go_wp2_with fail
  refine (room_any N _ (by omega) (by omega)).mono ?_
  rintro e w' ⟨rfl, rfl⟩
  rw [Hroom.out]
  go_wp2_with fail
  have q1 : (4 : Int) ≤ (N : Int) := by omega
  have q2 : (N : Int) - 4 ≤ (N : Int) := by omega
  have q2' : (0 : Int) ≤ (N : Int) - 4 := by omega
  have q2'' : (N : Int) - 4 ≤ (cap : Int) := by omega
  have q3 : ((N : Int) - 4).toNat = N - 4 := by omega
  have q4 : (cap = N - 4) = False := by apply eq_false; omega
  go_quiet ((first | (go_at_call 65; exact Calls.quiet_of_same ((get_any b (off + (N - 4)) _ _ (l.drop (N - 4)) _ Hld.out (by omega) hbd (hrd.drewN _)).mono fun _ _ h => ⟨h.1, h.2.symm⟩)) | (go_at_call 62; exact Calls.quiet_of_same ((sum_any _ _ _ (l.take (N - 4)) _ Hlt.out (by omega) hbt (.inr ⟨b, off, rfl, hrt.drewN _⟩) (ht.drewN _)).mono fun _ _ h => ⟨h.1, h.2.symm⟩))))
  go_wp2_with fail
  clear q1 q2 q2' q2'' q3 q4 hrt hrd hbt hbd
  have hr4' := hr4.drewN nq
  have hr2' := hr2.drewN nq
  generalize hW : w.drewN nq = w2 at hr4' hr2' ⊢
  have HW := Lib.hid hW
  clear hW hr4 hr2
  have p1 : (4 : Int) ≤ (cap : Int) := by omega
  have p2 : (6 : Int) ≤ (cap : Int) := by omega
  have p4 : (cap = 4) = False := by apply eq_false; omega
  have c1 : ∀ n, Calls Tryd.prog 65 #[.slice (some ⟨b, off, none⟩) 4 cap] (w2.drewN n) fun e w' => e = .returned (.int .u32 (x : Int)) ∧ w' = w2.drewN n := by
    intro n
    rw [Hx.out]
    exact (get_any b off _ _ (l.take 4) _ Hl4.out (by omega) hb4 (hr4'.drewN _)).mono fun _ _ h => ⟨h.1, h.2.symm⟩
  have c2 : ∀ n, Calls Tryd.prog 65 #[.slice (some ⟨b, off + 4, none⟩) 2 (cap - 4)] (w2.drewN n) fun e w' => e = .returned (.int .u32 (y : Int)) ∧ w' = w2.drewN n := by
    intro n
    rw [Hy.out]
    exact (get_any b (off + 4) _ _ ((l.drop 4).take 2) _ Hl2.out (by omega) hb2 (hr2'.drewN _)).mono fun _ _ h => ⟨h.1, h.2.symm⟩
  have C1 := Lib.hid c1
  have C2 := Lib.hid c2
  clear c1 c2
  refine wp_region_quiet_lit (by kernel_rfl) (by kernel_rfl) ?_
  repeat (quiet_step (fail))
  refine wpQuiet_step (fun K hK => ?_)
  go_simp
  refine ⟨_, fun _ => Calls.quiet_of_same (C1.out _), hK _ ?_⟩
  clear hK K
  repeat (quiet_step (fail))
  refine wpQuiet_step (fun K hK => ?_)
  go_simp
  refine ⟨_, fun _ => Calls.quiet_of_same (C2.out _), hK _ ?_⟩
  clear hK K
  repeat (quiet_step (fail))
  refine wpQuiet_nil ?_
  intro _ hw'
  obtain ⟨nr, hw''⟩ := hw'
  subst hw''
  clear p1 p2 p4
  have hW := HW.out
  clear HW C1 C2 hr4' hr2'
  subst hW
  rw [World.drewN_drewN]
  generalize nq + nr = nn
  obtain ⟨hbx, hby⟩ := hbad
  obtain ⟨i0, hi, hz0, hz1, hz2⟩ := info_parts info5
  have hmk : ∀ u : World, (Instr.makeSlice 29 (.int .u32 (y : Int)) (.int .u32 (y : Int))).run Tryd.prog u =
      .ok (.slice (some ⟨u.heap.size, 0, none⟩) y y) (u.alloc (.cells (madeCells #[.int .u8 0] y) 5)) := fun u => by
    have h := run_make (P := Tryd.prog) u 29 5 i0 (.int .u8 0) Tryd.underlying29 hi hz0 .u32 .u32 (y : Int) (y : Int) (by omega) (Int.le_refl _) (by rw [hz2]; omega) (by omega)
    rw [Int.toNat_natCast] at h
    simpa [hz1, Value.cells] using h
  have hsz : (Tryd.prog.info? 5).map (·.size) = some 1 := by rw [hi]; simp [hz1]
  have Hsz := Lib.hid hsz
  clear hsz
  have p2 : (6 : Int) ≤ (cap : Int) := by omega
  have p5 : (cap = 6) = False := by apply eq_false; omega
  go_wp2_with (with_reducible refine wpList_copy_splice rfl (.tmp 43) (.tmp 45) 29 29 rfl 5 Tryd.underlying29 Hsz.out _ _ _ _ _ _ rfl rfl w.heap.size 0 (u8s (List.replicate y 0)) 5 ?c1 (u8s ((l.drop 6).take y)) ?c2 ?c3 ?c4 (one_u8s _) w.heap.size w ?c5 (Nat.le_refl _) ?_)
  case c1 => exact Row.made y (w := w.drewN nn)
  case c2 => rw [length_u8s, Hl6.out]; show y = min (N - 6) y; omega
  case c3 =>
    intro hpos
    have hs6 : SliceIs ((w.drewN nn).alloc (.cells (madeCells #[.int .u8 0] y) 5)) (some ⟨b, off + 6, none⟩) ((l.drop 6).take y) :=
      .inr ⟨b, off + 6, rfl, hr6.below (B := w.heap.size) ((drewN_below w nn).alloc (Nat.le_refl _) _) hbw⟩
    rw [length_u8s] at hpos
    obtain ⟨ad, s1, s2⟩ := hs6.src hpos
    obtain rfl : _ = ad := Option.some.inj s1
    intro j v hv
    have := s2 j v hv
    rwa [add_plain] at this
  case c4 => rw [length_u8s, length_u8s, Hl6.out]; simp
  case c5 => exact (drewN_below w nn).alloc (Nat.le_refl _) _
  intro w3 hR3 hB3
  have hR3' : Row w3 w.heap.size ((l.drop 6).take y) := by
    have := hR3.out
    rw [u8s_splice] at this
    have e : splice (List.replicate y 0) 0 ((l.drop 6).take y) = (l.drop 6).take y := by
      unfold splice; rw [Hl6.out]; simp
    rw [e] at this
    exact this
  clear hR3 hmk
  go_wp2_with fail
  go_ret3
  exact ⟨rfl, hR3', hB3⟩

/-- What Open answers, in whatever world: r is what the bytes say. -/
def OpenEnd (w : World) (r : Int × List Nat × Int) (e : Ending) (w' : World) : Prop :=
  ∃ a c, e = .returned (.tuple #[.int .i64 r.1, .slice a r.2.1.length c, .int .i64 r.2.2]) ∧ SliceIs w' a r.2.1 ∧ (∀ p, a = some p → w.heap.size ≤ p.block ∧ p.block < w'.heap.size) ∧ Below w.heap.size w w'
theorem open_any (a : Option Addr) (cap : Nat) (l : List Nat) (w : World) (hcap : l.length ≤ cap) (hm : l.length ≤ 9223372036854775807) (hb : Oct l) (hc : SliceIs w a l) (ht : Tab w) :
    Calls Tryd.prog 64 #[.slice a l.length cap] w (OpenEnd w (openB l)) := by
  by_cases hp : pageOk l.length = true
  · rcases hc with rfl | ⟨b, off, rfl, hr⟩
    · simp [pageOk] at hp
    · have hbw : b < w.heap.size := World.block_lt_of_cell? w _ (hr 0 (by have := pageOk_bounds hp; omega))
      by_cases hs : num (l.drop (l.length - 4)) = crc (l.take (l.length - 4))
      · by_cases hk : num (l.take 4) ≤ 16384 ∧ num ((l.drop 4).take 2) ≤ l.length - 10
        · refine (open_ok b off cap l w hp hcap hb hr ht hs hk hbw).mono ?_
          rintro e w' ⟨rfl, hR, hB⟩
          have ho : openB l = ((num (l.take 4) : Int) - 1, (l.drop 6).take (num ((l.drop 4).take 2)), 0) := by unfold openB; rw [if_pos hp, if_pos hs, if_pos hk]
          have hl : ((l.drop 6).take (num ((l.drop 4).take 2))).length = num ((l.drop 4).take 2) := by
            have := pageOk_bounds hp
            simp; omega
          rw [ho]
          refine ⟨_, _, by rw [hl], .inr ⟨_, 0, rfl, ?_⟩, fun p hp => ?_, hB⟩
          · have := hR.reads 0 _ (Nat.le_of_eq (Nat.zero_add _))
            rw [List.drop_zero, List.take_length] at this
            exact this
          · obtain rfl := Option.some.inj hp
            exact ⟨Nat.le_refl _, hR.lt⟩
        · refine (open_form b off cap l w hp hcap hb hr ht hs (by omega)).mono ?_
          rintro e w' ⟨rfl, q, rfl⟩
          have ho : openB l = (0, [], 4) := by unfold openB; rw [if_pos hp, if_pos hs, if_neg hk]
          rw [ho]
          exact ⟨none, 0, rfl, .inl rfl, fun p hp => (by cases hp), drewN_below w q⟩
      · refine (open_sum b off cap l w hp hcap hb hr ht hs).mono ?_
        rintro e w' ⟨rfl, q, rfl⟩
        have ho : openB l = (0, [], 18) := by unfold openB; rw [if_pos hp, if_neg hs]
        rw [ho]
        exact ⟨none, 0, rfl, .inl rfl, fun p hp => (by cases hp), drewN_below w q⟩
  · refine (open_len a l.length cap w hm (by simpa using hp)).mono ?_
    rintro e w' ⟨rfl, rfl⟩
    have ho : openB l = (0, [], 1) := by unfold openB; rw [if_neg hp]
    rw [ho]
    exact ⟨none, 0, rfl, .inl rfl, fun p hp => (by cases hp), Below.refl _ _⟩
theorem close_at (page next : Int) (a : Option Addr) (n cap : Nat) (data : List Nat) (w : World) (hl : data.length = n) (hp : pageB page = true) (hn0 : -1 ≤ next) (hn : next < 16384) (hd : (n : Int) + 10 ≤ page) (hb : Oct data) (hc : SliceIs w a data)
    (ht : Tab w) (h0 : 1 < w.heap.size) :
    Calls Tryd.prog 58 #[.int .i64 page, .int .i64 next, .slice a n cap] w fun e w' =>
      e = .returned (.tuple #[.slice (some ⟨w.heap.size, 0, none⟩) page.toNat page.toNat, .int .i64 0]) ∧ Row w' w.heap.size (closeB page.toNat (next + 1).toNat data) ∧ Below w.heap.size w w' := by
  subst hl
  have hpb := pageB_bounds hp
  obtain ⟨p, rfl⟩ := Int.eq_ofNat_of_zero_le (show 0 ≤ page by omega)
  obtain ⟨k, hk⟩ := Int.eq_ofNat_of_zero_le (show 0 ≤ next + 1 by omega)
  obtain rfl : next = (k : Int) - 1 := by omega
  have := close_ok p k a cap data w (by unfold pageB at hp; rwa [Int.toNat_natCast] at hp) (by omega) (by omega) hb hc ht h0
  rw [show ((k : Int) - 1 + 1).toNat = k by omega, Int.toNat_natCast]
  exact this
theorem open_at (a : Option Addr) (n cap : Nat) (l : List Nat) (w : World) (hl : l.length = n) (hcap : n ≤ cap) (hm : n ≤ 9223372036854775807) (hb : Oct l) (hc : SliceIs w a l) (ht : Tab w) :
    Calls Tryd.prog 64 #[.slice a n cap] w (OpenEnd w (openB l)) := by
  subst hl; exact open_any a cap l w hcap hm hb hc ht
end Go.Proofs.YtbkiahnljklhpaaDoor
