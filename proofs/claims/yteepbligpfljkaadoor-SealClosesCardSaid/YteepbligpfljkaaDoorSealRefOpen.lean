/- THE WALKS OF THE DOCUMENT's OWN PageMay, Room, Get, Open. -/
import Derived.Test.YteepbligpfljkaaDoorSealRefSum
import Derived.Laws.AppendOwn
import Derived.Laws.OwnMore
namespace Go.Proofs.YteepbligpfljkaaDoor
open Go.RowKit
open Seal
set_option maxHeartbeats 400000 in
theorem pagemay_any (p : Int) (w : World) (h0 : -9223372036854775808 ≤ p) (h1 : p ≤ 9223372036854775807) :
    Calls Tryd.prog 19 #[.int .i64 p] w fun e w' => e = .returned (.bool (pageB p)) ∧ w = w' := by
  by_cases hlo : p < 64
  · have hv : pageB p = false := by
      cases h : pageB p with
      | false => rfl
      | true => have := pageB_bounds h; omega
    rw [hv]
    clear hv
    go_enter Tryd.func19, Tryd.ntmps19
    go_wp2
    go_ret
    exact ⟨rfl, rfl⟩
  · by_cases hhi : 4096 < p
    · have hv : pageB p = false := by
        cases h : pageB p with
        | false => rfl
        | true => have := pageB_bounds h; omega
      rw [hv]
      clear hv
      go_enter Tryd.func19, Tryd.ntmps19
      go_wp2
      go_ret
      exact ⟨rfl, rfl⟩
    · obtain ⟨q, rfl⟩ := Int.eq_ofNat_of_zero_le (show 0 ≤ p by omega)
      have hq := pow_and q (by omega) (by omega)
      have ha : bits .and .i64 (q : Int) ((q : Int) - 1) = ((q &&& (q - 1) : Nat) : Int) := by
        rw [show ((q : Int) - 1) = ((q - 1 : Nat) : Int) by omega]
        exact i64_and_nat _ _ (by omega) (by omega)
      have hv : pageB (q : Int) = pageOk q := by unfold pageB; rw [Int.toNat_natCast]
      rw [hv]
      have hne : (bits .and .i64 (q : Int) ((q : Int) - 1) == 0) = pageOk q := by
        cases hk : pageOk q with
        | true => rw [ha, hq.2 hk]; rfl
        | false =>
          rw [ha, beq_eq_false_iff_ne]
          intro h
          have := hq.1 (by omega)
          rw [hk] at this; cases this
      generalize pageOk q = r at *
      clear hq hv ha
      go_enter Tryd.func19, Tryd.ntmps19
      go_wp2
      go_ret
      exact ⟨rfl, rfl⟩
set_option maxHeartbeats 400000 in
theorem refroom_any (p : Int) (w : World) (h0 : -9223372036854775808 ≤ p) (h1 : p ≤ 9223372036854775807) :
    Calls Tryd.prog 13 #[.int .i64 p] w fun e w' => e = .returned (.int .i64 (roomOf p)) ∧ w = w' := by
  by_cases hp : pageB p = true
  · have hv : roomOf p = p - 10 := by unfold roomOf; rw [if_pos hp]
    have hb := pageB_bounds hp
    have Hp := Lib.hid hp
    rw [hv]
    clear hv hp
    go_enter Tryd.func13, Tryd.ntmps13
    go_wp2_with fail
    refine (pagemay_any p _ h0 h1).mono ?_
    rintro e w' ⟨rfl, rfl⟩
    rw [Hp.out]
    go_wp2_with fail
    go_ret
    exact ⟨rfl, rfl⟩
  · have hv : roomOf p = 0 := by unfold roomOf; rw [if_neg hp]
    have hf : pageB p = false := by simpa using hp
    have Hp := Lib.hid hf
    rw [hv]
    clear hv hp hf
    go_enter Tryd.func13, Tryd.ntmps13
    go_wp2_with fail
    refine (pagemay_any p _ h0 h1).mono ?_
    rintro e w' ⟨rfl, rfl⟩
    rw [Hp.out]
    go_wp2_with fail
    go_ret
    exact ⟨rfl, rfl⟩
theorem num_drop (l : List Nat) (k : Nat) (hk : k < l.length) : num (l.drop k) = l.getD k 0 + 256 * num (l.drop (k + 1)) := by
  rw [List.drop_eq_getElem_cons hk]
  simp [num, List.getD_eq_getElem?_getD, List.getElem?_eq_getElem hk]
set_option maxHeartbeats 400000 in
theorem refget_any (b off n cap at_ : Nat) (l : List Nat) (wd : Nat) (w : World) (hl : l.length = wd) (hw : wd ≤ 4) (hat : at_ + wd ≤ n) (hn : n ≤ 9223372036854775800) (hb : Oct l) (hc : Reads w b (off + at_) l) :
    Calls Tryd.prog 22 #[.slice (some ⟨b, off, none⟩) n cap, .int .i64 at_, .int .i64 wd] w fun e w' => e = .returned (.int .i64 (num l : Nat)) ∧ w = w' := by
  subst hl
  go_enter Tryd.func22, Tryd.ntmps22
  go_wp2
  go_loop [7, 8] (fun s i => ∃ k x : Nat, k ≤ l.length ∧ i = .int .i64 ((k : Int) - 1) ∧ s = .int .i64 x ∧ x = num (l.drop k) ∧ x < 256 ^ (l.length - k)) (fun _ i => (intOf i + 1).toNat)
  case atStart => exact ⟨l.length, 0, Nat.le_refl _, rfl, rfl, by simp [num], by simp⟩
  case round =>
    obtain ⟨k, x, hk, rfl, rfl, hxe, hx⟩ := hrel
    have Hxe := Lib.hid hxe; clear hxe
    by_cases h0 : k = 0
    · subst h0
      go_wp2
      go_ret
      exact ⟨ret_val (by show Value.int .i64 (x : Int) = _; rw [Hxe.out, List.drop_zero]), rfl⟩
    · obtain ⟨m, rfl⟩ : ∃ m, k = m + 1 := ⟨k - 1, by omega⟩
      have hcell := hc m (by omega)
      have hcl : l.getD m 0 < 256 := hb _ (by rw [List.getD_eq_getElem?_getD, List.getElem?_eq_getElem (show m < l.length by omega)]; simp)
      have hfin : l.getD m 0 + 256 * x = num (l.drop m) := by rw [num_drop l m (by omega), ← Hxe.out]
      have Hfin := Lib.hid hfin
      clear hfin hc hb
      generalize l.getD m 0 = c at *
      rw [Nat.add_assoc] at hcell
      have hx2 : x < 16777216 ∧ c + 256 * x < 256 ^ (l.length - m) := by
        have h3 : 256 ^ (l.length - (m + 1)) ≤ 256 ^ 3 := Nat.pow_le_pow_right (by decide) (by omega)
        have h4 : 256 ^ (l.length - m) = 256 * 256 ^ (l.length - (m + 1)) := by
          rw [show l.length - m = (l.length - (m + 1)) + 1 by omega, Nat.pow_succ, Nat.mul_comm]
        omega
      obtain ⟨hx3, hx4⟩ := hx2
      have ev : bits .or .i64 ((x : Int) * 256) (c : Int) = ((c + 256 * x : Nat) : Int) := by
        have e1 : ((x : Int) * 256) = ((256 * x : Nat) : Int) := by omega
        rw [e1, (bits_nat .i64 63 (by decide) (fun n h0 h1 => by rw [IntKind.wrap_i64]; omega) (256 * x) c (by omega) (by omega)).2]
        congr 1
        rw [show (256 : Nat) = 2 ^ 8 from rfl, ← Nat.two_pow_add_eq_or_of_lt (by omega), Nat.add_comm]
      clear hx
      generalize c + 256 * x = z at *
      go_wp2
      go_round
      case rel => exact ⟨m, z, by omega, rfl, rfl, Hfin.out, hx4⟩
      case measure => simp [intOf]
set_option maxHeartbeats 400000 in
theorem refopen_len (a : Option Addr) (n cap : Nat) (w : World) (hm : n ≤ 9223372036854775807) (hp : pageOk n = false) :
    Calls Tryd.prog 17 #[.slice a n cap] w fun e w' => e = .returned (.tuple #[.int .i64 0, .slice none 0 0, .int .i64 1]) ∧ w = w' := by
  have hr : pageB (n : Int) = false := by unfold pageB; rw [Int.toNat_natCast, hp]
  have Hr := Lib.hid hr
  clear hr hp
  go_enter Tryd.func17, Tryd.ntmps17
  go_wp2_with fail
  refine (pagemay_any n _ (by omega) (by omega)).mono ?_
  rintro e w' ⟨rfl, rfl⟩
  rw [Hr.out]
  go_wp2_with fail
  go_ret3
  exact ⟨rfl, rfl⟩
/-- A row of the call's own, read as a slice. -/
theorem owns_slice {w : World} {B : Nat} {v : Value} {l : List Nat} (h : w.ownsRow B 5 1 v l.length (u8s l)) :
    ∃ a c, v = .slice a l.length c ∧ SliceIs w a l ∧ (∀ p, a = some p → B ≤ p.block ∧ p.block < w.heap.size) := by
  have h0 := h
  obtain ⟨_, ⟨rfl, hn⟩ | ⟨g, cap, cur, rfl, hBg, hg, hcap, _, hsz, htake⟩⟩ := h
  · exact ⟨none, 0, by rw [hn], .inl (List.eq_nil_of_length_eq_zero hn), fun p hp => by cases hp⟩
  · refine ⟨some ⟨g, 0, none⟩, cap, rfl, .inr ⟨g, 0, rfl, fun j hj => ?_⟩, fun p hp => ?_⟩
    · rw [Nat.zero_add, h0.cellAt j (by omega)]
      simp [u8s, u8, List.getElem?_eq_getElem hj, List.getD_eq_getElem?_getD]
    · obtain rfl := Option.some.inj hp
      exact ⟨hBg, (Array.getElem?_eq_some_iff.1 hg).1⟩
set_option maxHeartbeats 1000000 in
theorem refopen_page (b off cap : Nat) (l : List Nat) (w : World) (hp : pageOk l.length = true) (hcap : l.length ≤ cap) (hb : Oct l) (hr : Reads w b off l) :
    Calls Tryd.prog 17 #[.slice (some ⟨b, off, none⟩) l.length cap] w (OpenEnd w (openB l)) := by
  obtain ⟨i0, hi, hz0, hz1, hz2⟩ := info_parts info5
  have hpb := pageOk_bounds hp
  have hpB : pageB (l.length : Int) = true := by unfold pageB; rw [Int.toNat_natCast, hp]
  have HpB := Lib.hid hpB
  have hroom : roomOf l.length = l.length - 10 := by unfold roomOf; rw [if_pos hpB]
  have Hroom := Lib.hid hroom
  have Hp := Lib.hid hp
  clear hp hpB hroom
  obtain ⟨N, hN⟩ : ∃ N, N = l.length := ⟨_, rfl⟩
  rw [← hN] at hcap hpb Hroom HpB Hp ⊢
  have hrt : Reads w b off (l.take (N - 4)) := by have := hr.part 0 (N - 4); rwa [List.drop_zero] at this
  have hrd : Reads w b (off + (N - 4)) (l.drop (N - 4)) := by have := hr.part (N - 4) 4; rwa [List.take_of_length_le (by simp; omega)] at this
  have hr4 : Reads w b (off + 0) (l.take 4) := by have := hr.part 0 4; rwa [List.drop_zero] at this
  have hr2 : Reads w b (off + 4) ((l.drop 4).take 2) := hr.part 4 2
  have hlt : (l.take (N - 4)).length = N - 4 := by simp; omega
  have hld : (l.drop (N - 4)).length = 4 := by simp; omega
  have hl4 : (l.take 4).length = 4 := by simp; omega
  have hl2 : ((l.drop 4).take 2).length = 2 := by simp; omega
  have c1 : ∀ n, Calls Tryd.prog 22 #[.slice (some ⟨b, off, none⟩) N cap, .int .i64 ((N : Int) - 4), .int .i64 4] (w.drewN n) fun e w' => e = .returned (.int .i64 (num (l.drop (N - 4)) : Nat)) ∧ w' = w.drewN n := fun n => by
    have := refget_any b off N cap (N - 4) (l.drop (N - 4)) 4 (w.drewN n) hld (by omega) (by omega) (by omega) (oct_drop _ hb) (hrd.drewN n)
    rw [show (((N - 4 : Nat)) : Int) = (N : Int) - 4 by omega] at this
    exact this.mono fun _ _ h => ⟨h.1, h.2.symm⟩
  have c2 : ∀ n, Calls Tryd.prog 15 #[.slice (some ⟨b, off, none⟩) (N - 4) cap] (w.drewN n) fun e w' => e = .returned (.int .u32 (crc (l.take (N - 4)) : Nat)) ∧ w' = w.drewN n := fun n =>
    (refsum_any _ _ _ (l.take (N - 4)) _ hlt (by omega) (oct_take _ hb) (.inr ⟨b, off, rfl, hrt.drewN n⟩)).mono fun _ _ h => ⟨h.1, h.2.symm⟩
  have c3 : ∀ n, Calls Tryd.prog 22 #[.slice (some ⟨b, off, none⟩) N cap, .int .i64 0, .int .i64 4] (w.drewN n) fun e w' => e = .returned (.int .i64 (num (l.take 4) : Nat)) ∧ w' = w.drewN n := fun n =>
    (refget_any b off N cap 0 (l.take 4) 4 (w.drewN n) hl4 (by omega) (by omega) (by omega) (oct_take _ hb) (hr4.drewN n)).mono fun _ _ h => ⟨h.1, h.2.symm⟩
  have c4 : ∀ n, Calls Tryd.prog 22 #[.slice (some ⟨b, off, none⟩) N cap, .int .i64 4, .int .i64 2] (w.drewN n) fun e w' => e = .returned (.int .i64 (num ((l.drop 4).take 2) : Nat)) ∧ w' = w.drewN n := fun n =>
    (refget_any b off N cap 4 ((l.drop 4).take 2) 2 (w.drewN n) hl2 (by omega) (by omega) (by omega) (oct_take _ (oct_drop _ hb)) (hr2.drewN n)).mono fun _ _ h => ⟨h.1, h.2.symm⟩
  have hcl := crc_lt _ (oct_take (N - 4) hb)
  have hn1 := num_lt32 _ (oct_drop (N - 4) hb) (by omega)
  have hn2 := num_lt32 _ (oct_take 4 hb) (by omega)
  have hn3 := num_lt32 _ (oct_take 2 (oct_drop 4 hb)) (by omega)
  have hob : openB l = if num (l.drop (N - 4)) = crc (l.take (N - 4)) then (if num (l.take 4) ≤ 16384 ∧ num ((l.drop 4).take 2) ≤ N - 10 then ((num (l.take 4) : Int) - 1, (l.drop 6).take (num ((l.drop 4).take 2)), 0) else (0, [], 4)) else (0, [], 18) := by
    unfold openB; rw [← hN, if_pos Hp.out]
  have HN := Lib.hid hN
  clear hN hrt hrd hr4 hr2 hlt hld hl4 hl2
  have C1 := Lib.hid c1
  have C2 := Lib.hid c2
  have C3 := Lib.hid c3
  have C4 := Lib.hid c4
  clear c1 c2 c3 c4
  have hr6 : Reads w b (off + 6) ((l.drop 6).take (num ((l.drop 4).take 2))) := hr.part 6 _
  have hd6 : num ((l.drop 4).take 2) ≤ N - 10 → ((l.drop 6).take (num ((l.drop 4).take 2))).length = num ((l.drop 4).take 2) := fun h => by
    have := HN.out; simp; omega
  have ho6 : Oct ((l.drop 6).take (num ((l.drop 4).take 2))) := oct_take _ (oct_drop _ hb)
  clear hr hb
  generalize num (l.drop (N - 4)) = s1 at *
  generalize crc (l.take (N - 4)) = s2 at *
  generalize num (l.take 4) = x at *
  generalize num ((l.drop 4).take 2) = y at *
  generalize (l.drop 6).take y = D at *
  rw [hob]
  clear hob HN
  have q1 : (4 : Int) ≤ (N : Int) := by omega
  have q2 : (N : Int) - 4 ≤ (N : Int) := by omega
  have q2' : (0 : Int) ≤ (N : Int) - 4 := by omega
  have q2'' : (N : Int) - 4 ≤ (cap : Int) := by omega
  have q3 : ((N : Int) - 4).toNat = N - 4 := by omega
  by_cases hs : s1 = s2
  · subst hs
    rw [if_pos rfl]
    obtain ⟨r, hr⟩ : ∃ r : Int × List Nat × Int, r = if x ≤ 16384 ∧ y ≤ N - 10 then ((x : Int) - 1, D, 0) else (0, [], 4) := ⟨_, rfl⟩
    rw [← hr]
    have Hr := Lib.hid hr
    clear hr
    go_enter Tryd.func17, Tryd.ntmps17
    go_wp2_with fail
    refine (pagemay_any N _ (by omega) (by omega)).mono ?_
    rintro e w' ⟨rfl, rfl⟩
    rw [HpB.out]
    go_wp2_with fail
    go_quiet ((first | (go_at_call 22; exact Calls.quiet_of_same (C1.out _)) | (go_at_call 15; exact Calls.quiet_of_same (C2.out _))))
    go_wp2_with fail
    clear q1 q2 q2' q2'' q3
    refine (C3.out _).mono ?_
    rintro e w' ⟨rfl, rfl⟩
    go_wp2_with fail
    refine (C4.out _).mono ?_
    rintro e w' ⟨rfl, rfl⟩
    by_cases hbx : x ≤ 16384
    · have hx1 : (x : Int) - 1 < 16384 := by omega
      go_wp2_with fail
      refine (refroom_any N _ (by omega) (by omega)).mono ?_
      rintro e w' ⟨rfl, rfl⟩
      rw [Hroom.out]
      by_cases hby : y ≤ N - 10
      · have hy1 : (y : Int) ≤ (N : Int) - 10 := by omega
        have hlD := hd6 hby
        have p1 : (6 : Int) + (y : Int) ≤ (cap : Int) := by omega
        have p2 : (cap = 6) = False := by apply eq_false; omega
        have hr : r = ((x : Int) - 1, D, 0) := by rw [Hr.out, if_pos ⟨hbx, hby⟩]
        have HlD := Lib.hid hlD
        have Hrr := Lib.hid hr
        clear hr hlD hd6
        go_wp2_with (at_builtin; refine wpList_append_own _ rfl _ _ 22 rfl w.heap.size 5 i0 (.int .u8 0) 1 1 Tryd.underlying22 hi hz0 hz1 hz2 rfl (by decide) (.slice none 0 0) 0 [] rfl (World.ownsRow_nil _ _ _ _) ⟨b, off + 6, none⟩ (6 + y - 6) (cap - 6) (u8s D) rfl ?c1 ?c2 (one_u8s D) ?c4 ?c5 ?c6 ?_)
        case c1 => rw [length_u8s, HlD.out]; omega
        case c2 =>
          intro j u hj
          by_cases hy0 : D.length = 0
          · obtain rfl := List.eq_nil_of_length_eq_zero hy0; simp [u8s] at hj
          · obtain ⟨ad, s1, s2⟩ := (SliceIs.drewN (.inr ⟨b, off + 6, rfl, hr6⟩ : SliceIs w (some ⟨b, off + 6, none⟩) D) nq).src (by omega)
            obtain rfl : _ = ad := Option.some.inj s1
            exact s2 j u hj
        case c4 => unfold maxLen; omega
        case c5 => omega
        case c6 => exact Nat.le_refl _
        intro v' w5 hown5 hgrow5 _
        go_wp2_with fail
        go_ret3
        rw [Hrr.out]
        have hB5 : Below w.heap.size w w5 := (drewN_below w nq).grown hgrow5 (Nat.le_refl _) (fun k hk => by cases hk)
        have hown : w5.ownsRow w.heap.size 5 1 v' D.length (u8s D) := by
          have := hown5
          rw [← HlD.out] at this
          exact this
        obtain ⟨a, c, rfl, hS, hlo⟩ := owns_slice hown
        exact ⟨a, c, rfl, hS, hlo, hB5⟩
      · have hr : r = (0, [], 4) := by rw [Hr.out, if_neg (by omega)]
        have hy1 : (N : Int) - 10 < (y : Int) := by omega
        have Hrr := Lib.hid hr
        clear hr
        go_wp2_with fail
        go_ret3
        rw [Hrr.out]
        exact ⟨none, 0, rfl, .inl rfl, fun p hp => (by cases hp), drewN_below w _⟩
    · have hr : r = (0, [], 4) := by rw [Hr.out, if_neg (by omega)]
      have hx1 : 16384 ≤ (x : Int) - 1 := by omega
      have Hrr := Lib.hid hr
      clear hr
      go_wp2_with fail
      go_ret3
      rw [Hrr.out]
      exact ⟨none, 0, rfl, .inl rfl, fun p hp => (by cases hp), drewN_below w _⟩
  · have hne : (((s1 : Nat) : Int) != ((s2 : Nat) : Int)) = true := by rw [bne_iff_ne]; omega
    rw [if_neg hs]
    clear hs
    go_enter Tryd.func17, Tryd.ntmps17
    go_wp2_with fail
    refine (pagemay_any N _ (by omega) (by omega)).mono ?_
    rintro e w' ⟨rfl, rfl⟩
    rw [HpB.out]
    go_wp2_with fail
    go_quiet ((first | (go_at_call 22; exact Calls.quiet_of_same (C1.out _)) | (go_at_call 15; exact Calls.quiet_of_same (C2.out _))))
    go_wp2_with fail
    go_ret3
    exact ⟨none, 0, rfl, .inl rfl, fun p hp => (by cases hp), drewN_below w _⟩
theorem refopen_any (a : Option Addr) (n cap : Nat) (l : List Nat) (w : World) (hl : l.length = n) (hcap : n ≤ cap) (hm : n ≤ 9223372036854775807) (hb : Oct l) (hc : SliceIs w a l) :
    Calls Tryd.prog 17 #[.slice a n cap] w (OpenEnd w (openB l)) := by
  subst hl
  by_cases hp : pageOk l.length = true
  · rcases hc with rfl | ⟨b, off, rfl, hr⟩
    · simp [pageOk] at hp
    · exact refopen_page b off cap l w hp hcap hb hr
  · refine (refopen_len a l.length cap w hm (by simpa using hp)).mono ?_
    rintro e w' ⟨rfl, rfl⟩
    have ho : openB l = (0, [], 1) := by unfold openB; rw [if_neg hp]
    rw [ho]
    exact ⟨none, 0, rfl, .inl rfl, fun p hp => (by cases hp), Below.refl _ _⟩
end Go.Proofs.YteepbligpfljkaaDoor
