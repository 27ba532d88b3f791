/- RefOwnAll, PathTouchesWalk. -/
import Derived.Test.YtdcfddiicclpeaaDoorMg34
import Derived.Test.YtdcfddiicclpeaaDoorMg33
import Derived.Test.YtdcfddiicclpeaaDoorMg30
import Derived.Test.YtdcfddiicclpeaaDoorMg23
import Derived.Test.YtdcfddiicclpeaaDoorMg16
import Derived.Test.YtdcfddiicclpeaaDoorMg19
import Derived.Test.YtdcfddiicclpeaaDoorMg22
import Derived.Test.YtdcfddiicclpeaaDoorMg31
import Derived.Test.YtdcfddiicclpeaaDoorMg11
import Derived.Test.YtdcfddiicclpeaaDoorMg9
set_option maxRecDepth 100000
section
namespace Go.Proofs.YtdcfddiicclpeaaDoor
open Go.RowKit
open Seal
open Bson (Val)
/-- own does, of whatever. -/
theorem own_any (h : Nat) : OwnDo h := own_all (fun h HO d h0 h1 f => fields_do h HO d h0 h1 f) h
/-- What Valid says true of is small. -/
theorem valid_does (Q : Nat → Prop) (h : Nat) (x : Val) (v : Value) (w : World) (hv : VIn w Q (h + 1) x v) :
    Calls Tryd.prog 12 #[v] w (SmallPost w (h + 1) x) := valid_any Q h (own_any (h + 2)) x v w hv
end Go.Proofs.YtdcfddiicclpeaaDoor
end
section
namespace Go.Proofs.YtdcfddiicclpeaaDoor
open Go.RowKit
open Seal
open Bson (Val)
open Path
theorem reach_with (n : Nat) (x : Val) (y : Val) (a b : ByteArray) (r : List ByteArray) (hk : x.kind = 6) (hne : a ≠ b) (hn : 1 ≤ n) : Bson.reach n (.mk 6 x.n x.s x.b (withF a y x.f) x.l) (b :: r) = Bson.reach n x (b :: r) := by
  obtain ⟨n, rfl⟩ : ∃ k, n = k + 1 := ⟨n - 1, by omega⟩
  rw [Bson.reach, Bson.reach, if_pos hk]
  show (if (6 : Int) = 6 then Bson.reach n (Bson.fieldIn (withF a y x.f) b) r else _) = _
  rw [if_pos rfl, fieldIn_withF hne]
theorem all_with (n : Nat) (x : Val) (y : Val) (a b : ByteArray) (r : List ByteArray) (hk : x.kind = 6) (hne : a ≠ b) (hn : 1 ≤ n) : Bson.all n (.mk 6 x.n x.s x.b (withF a y x.f) x.l) (b :: r) = Bson.all n x (b :: r) := by
  obtain ⟨n, rfl⟩ : ∃ k, n = k + 1 := ⟨n - 1, by omega⟩
  rw [Bson.all, Bson.all, if_pos hk]
  show (if (6 : Int) = 6 then (if (Bson.fieldIn (withF a y x.f) b).kind = 0 then [Bson.zero] else Bson.all n (Bson.fieldIn (withF a y x.f) b) r) else _) = _
  rw [if_pos rfl, fieldIn_withF hne]
theorem fields_le_wt : ∀ (h : Nat) (x : Val), Hgt h x → x.f.length ≤ wt h x
  | 0, x, hx => hx.elim
  | h + 1, x, hx => by
    have := length_le_sum (fun p : ByteArray × Val => p.1.size + wt h p.2) x.f (fun p hp => by have := wt_pos (hx.1 p hp); omega)
    rw [wt]; omega
theorem touch_heads {a b : ByteArray} {p q : List ByteArray} (h : a ≠ b) : touchB (a :: p) (b :: q) = false := by
  unfold touchB
  rw [decide_eq_false_iff_not]
  simp only [List.length_cons]
  rw [show min (p.length + 1) (q.length + 1) = min p.length q.length + 1 by omega, List.take_succ_cons, List.take_succ_cons]
  intro e
  exact h (List.cons.inj e).1
set_option maxRecDepth 100000 in
set_option maxHeartbeats 8000000 in
theorem touches_any (Q : Nat → Prop) (h : Nat) (x : Val) (u : Value) (p q : List ByteArray) (va vb : Value) (w : World) (hv : VIn w Q (h + 2) x u) (hp : NamesAt w va p) (hq : NamesAt w vb q) (hs : Short p) (hs2 : Short q) (hG : Ground w) :
    Calls Tryd.prog 4 #[va, vb, u] w fun e w' => e = .returned (.bool true) ∧ Below w.heap.size w w' := by
  obtain ⟨ka, na, sa, ba, fa, la, bl, bc, fl, fc, ll, lc, rfl⟩ := hv.shape
  have hka : ka = x.kind := by obtain ⟨xk, xn, xs, ba', fa', la', bn, bc', fn, fc', ln, lc', e, hxk, -⟩ := hv.letters; injection e with e; injection e with e; injection e with e _; injection e with _ e; rw [e, hxk]
  obtain ⟨pa, pc, rfl, hpc, hpc2, hst⟩ := hp
  obtain ⟨qa, qc, rfl, hqc, hqc2, hsq⟩ := hq
  obtain ⟨pn, hpn⟩ : ∃ n, n = p.length := ⟨_, rfl⟩
  obtain ⟨qn, hqn⟩ : ∃ n, n = q.length := ⟨_, rfl⟩
  rw [← hpn] at hpc ⊢
  rw [← hqn] at hqc ⊢
  have hb0 : Below w.heap.size w (w.alloc (.cells #[.int .i64 ka, .int .i64 na, .string sa, .slice ba bl bc, .slice fa fl fc, .slice la ll lc] 26)) := (Below.refl _ w).alloc (Nat.le_refl _) _
  have HB0 := Lib.hid hb0
  have HV0 := Lib.hid (VIn.keep hb0 hv)
  have HVL := Lib.hid (VIn.keep (h := h + 2) hb0 (VIn.lt (h := h + 2) hv))
  have HS0 := Lib.hid (SixIs.new w (.int .i64 ka) (.int .i64 na) (.string sa) (.slice ba bl bc) (.slice fa fl fc) (.slice la ll lc) 26)
  have HP0 := Lib.hid (StrsIn.keep hst hb0)
  have HQ0 := Lib.hid (StrsIn.keep hsq hb0)
  have HG0 := Lib.hid (hG.keep hb0)
  have HKA := Lib.hid hka
  have HPN := Lib.hid (And.intro hpn.symm (And.intro hpc (And.intro hpc2 hs)))
  have HQN := Lib.hid (And.intro hqn.symm (And.intro hqc (And.intro hqc2 hs2)))
  clear hb0 hv hst hsq hG hpn hqn hpc hqc hs hs2 hka
  go_enter Tryd.func4, Tryd.ntmps4
  go_wp2_with fail
  generalize w.alloc (.cells #[.int .i64 ka, .int .i64 na, .string sa, .slice ba bl bc, .slice fa fl fc, .slice la ll lc] 26) = w0 at *
  go_at_call 11
  refine (awake_any _ HG0.out).mono ?_
  rintro e w1 ⟨rfl, hb1⟩
  have HB1 := Lib.hid hb1
  clear hb1
  have HGO : Hid (∀ W, Below w0.heap.size w0 W → Below w.heap.size w W) := fun W hb => HB0.out.trans (hb.mono HB0.out.size)
  have HSK : Hid (∀ W, Below w0.heap.size w0 W → SixIs W w.heap.size (.int .i64 ka) (.int .i64 na) (.string sa) (.slice ba bl bc) (.slice fa fl fc) (.slice la ll lc)) := fun W hb => HS0.out.keep hb
  have HVK : Hid (∀ W, Below w0.heap.size w0 W → VIn W Q (h + 2) x (.agg #[.int .i64 ka, .int .i64 na, .string sa, .slice ba bl bc, .slice fa fl fc, .slice la ll lc])) := fun W hb => VIn.keep hb HV0.out
  have HPK : Hid (∀ W, Below w0.heap.size w0 W → StrsIn W pa p) := fun W hb => StrsIn.keep HP0.out hb
  have HQK : Hid (∀ W, Below w0.heap.size w0 W → StrsIn W qa q) := fun W hb => StrsIn.keep HQ0.out hb
  have HAP : Hid (∀ W, Below w0.heap.size w0 W → NamesAt W (.slice pa pn pc) p) := fun W hb => ⟨pa, pc, by rw [HPN.out.1], by rw [HPN.out.1]; exact HPN.out.2.1, HPN.out.2.2.1, HPK.out W hb⟩
  have HAQ : Hid (∀ W, Below w0.heap.size w0 W → NamesAt W (.slice qa qn qc) q) := fun W hb => ⟨qa, qc, by rw [HQN.out.1], by rw [HQN.out.1]; exact HQN.out.2.1, HQN.out.2.2.1, HQK.out W hb⟩
  have HVW : Hid (VIn w0 (fun g => Q g ∧ g < w.heap.size) (h + 2) x (.agg #[.int .i64 ka, .int .i64 na, .string sa, .slice ba bl bc, .slice fa fl fc, .slice la ll lc])) := HVL.out
  have HWL := Lib.hid HB0.out.size
  clear HS0 HP0 HQ0 HG0 HV0 HB0 HVL
  go_wp2_with fail
  go_at_call 13
  refine (few_any _ p w1 (HAP.out w1 HB1.out).in HPN.out.2.2.2).mono ?_
  rintro e w2 ⟨rfl, hb2⟩
  have HB2 : Hid (Below w0.heap.size w0 w2) := HB1.out.trans (hb2.mono HB1.out.size)
  clear hb2 HB1
  obtain ⟨bf, hbf⟩ : ∃ bf, bf = few p := ⟨_, rfl⟩
  rw [← hbf]
  clear hbf
  cases bf with
  | false =>
    go_wp2_with fail
    go_ret
    exact ⟨rfl, HGO.out _ HB2.out⟩
  | true =>
  go_wp2_with fail
  go_at_call 13
  refine (few_any _ q w2 (HAQ.out w2 HB2.out).in HQN.out.2.2.2).mono ?_
  rintro e w3 ⟨rfl, hb3⟩
  have HB3 : Hid (Below w0.heap.size w0 w3) := HB2.out.trans (hb3.mono HB2.out.size)
  clear hb3 HB2
  obtain ⟨bf, hbf⟩ : ∃ bf, bf = few q := ⟨_, rfl⟩
  rw [← hbf]
  clear hbf
  cases bf with
  | false =>
    go_wp2_with fail
    go_ret
    exact ⟨rfl, HGO.out _ HB3.out⟩
  | true =>
  obtain ⟨s0, s1, s2, s3, s4, s5⟩ := HSK.out w3 HB3.out
  go_wp2_with fail
  go_at_call 12
  refine (valid_does Q (h + 1) x _ w3 (HVK.out w3 HB3.out)).mono ?_
  rintro e w4 ⟨b, rfl, hwt, hb4⟩
  have HB4 : Hid (Below w0.heap.size w0 w4) := HB3.out.trans (hb4.mono HB3.out.size)
  clear hb4 s0 s1 s2 s3 s4 s5 HB3
  cases b with
  | false =>
    go_wp2_with fail
    go_ret
    exact ⟨rfl, HGO.out _ HB4.out⟩
  | true =>
  have HWT := Lib.hid (hwt rfl)
  clear hwt
  obtain ⟨t, ht⟩ : ∃ t, t = touchB p q := ⟨_, rfl⟩
  have HT := Lib.hid ht
  clear ht
  go_wp2_with fail
  go_at_call 20
  refine (touch_any _ _ p q w4 (HAP.out w4 HB4.out) (HAQ.out w4 HB4.out)).mono ?_
  rw [← HT.out]
  rintro e w5 ⟨rfl, hb5⟩
  have HB5 : Hid (Below w0.heap.size w0 w5) := HB4.out.trans (hb5.mono HB4.out.size)
  clear hb5 HB4
  go_wp2_with fail
  go_at_call 21
  refine (refTouch_any _ _ p q w5 (HAP.out w5 HB5.out) (HAQ.out w5 HB5.out)).mono ?_
  rw [← HT.out]
  rintro e w6 ⟨rfl, hb6⟩
  have HB6 : Hid (Below w0.heap.size w0 w6) := HB5.out.trans (hb6.mono HB5.out.size)
  clear hb6 HB5
  have htt : (t != t) = false := by cases t <;> rfl
  go_wp2_with fail
  go_at_call 20
  refine (touch_any _ _ q p w6 (HAQ.out w6 HB6.out) (HAP.out w6 HB6.out)).mono ?_
  rw [← touchB_comm p q, ← HT.out]
  rintro e w7 ⟨rfl, hb7⟩
  have HB7 : Hid (Below w0.heap.size w0 w7) := HB6.out.trans (hb7.mono HB6.out.size)
  clear hb7 HB6
  obtain ⟨s0, s1, s2, s3, s4, s5⟩ := HSK.out w7 HB7.out
  by_cases hp0 : pn = 0
  · subst hp0
    go_wp2_with fail
    go_quiet (fail)
    go_wp2_with fail
    go_ret
    exact ⟨rfl, below_dr (HGO.out _ HB7.out) _⟩
  have hpz : ((pn : Int) == 0) = false := by rw [beq_eq_false_iff_ne]; omega
  by_cases hq0 : qn = 0
  · subst hq0
    go_wp2_with fail
    go_quiet (fail)
    go_wp2_with fail
    go_ret
    exact ⟨rfl, below_dr (HGO.out _ HB7.out) _⟩
  have hqz : ((qn : Int) == 0) = false := by rw [beq_eq_false_iff_ne]; omega
  obtain ⟨a, pr, hpe⟩ : ∃ a pr, p = a :: pr := by cases p with
    | nil => exact absurd HPN.out.1.symm hp0
    | cons a pr => exact ⟨a, pr, rfl⟩
  obtain ⟨b, qr, hqe⟩ : ∃ b qr, q = b :: qr := by cases q with
    | nil => exact absurd HQN.out.1.symm hq0
    | cons b qr => exact ⟨b, qr, rfl⟩
  subst hpe
  subst hqe
  obtain ⟨gp, op, hpa, hpr⟩ := (HPK.out w0 (Below.refl _ _)).resolve_left nofun
  obtain ⟨gq, oq, hqa, hqr⟩ := (HQK.out w0 (Below.refl _ _)).resolve_left nofun
  subst hpa
  subst hqa
  have HN0 : Hid (∀ W, Below w0.heap.size w0 W → W.cell? ⟨gp, op, none⟩ = some (.string a) ∧ W.cell? ⟨gq, oq, none⟩ = some (.string b)) := fun W hb => ⟨cell_keep hb (hpr 0 (by simp)), cell_keep hb (hqr 0 (by simp))⟩
  obtain ⟨n0, n1⟩ := HN0.out w7 HB7.out
  have hp1 : (0 : Nat) < pn := by omega
  have hq1 : (0 : Nat) < qn := by omega
  have hp2 : (0 : Int) < (pn : Int) := by omega
  have hq2 : (0 : Int) < (qn : Int) := by omega
  clear hpr hqr
  by_cases hab : a = b
  · subst hab
    have he : (a.toList == a.toList) = true := by simp
    go_wp2_with fail
    go_quiet (fail)
    go_wp2_with fail
    go_ret
    exact ⟨rfl, below_dr (HGO.out _ HB7.out) _⟩
  have he : (a.toList == b.toList) = false := str_ne hab
  have HAB := Lib.hid hab
  clear hab
  by_cases hk6 : ¬ ka = 6
  · have hkn : (ka != 6) = true := by rw [bne_iff_ne]; exact hk6
    go_wp2_with fail
    go_quiet (fail)
    go_wp2_with fail
    go_ret
    exact ⟨rfl, below_dr (HGO.out _ HB7.out) _⟩
  obtain rfl : ka = 6 := by omega
  obtain rfl : t = false := by rw [HT.out]; exact touch_heads HAB.out
  go_wp2_with fail
  go_quiet (fail)
  go_wp2_with fail
  generalize hw8 : w7.drewN _ = w8
  have HB8 : Hid (Below w0.heap.size w0 w8) := by rw [← hw8]; exact below_dr HB7.out _
  clear hw8 HB7 n0 n1 s0 s1 s2 s3 s4 s5
  have HS1 : Hid (∀ W, Below w0.heap.size w0 W → (W.cell? ⟨w.heap.size, 0, none⟩ = some (.int .i64 6) ∧ W.cell? ⟨w.heap.size, 1, none⟩ = some (.int .i64 na) ∧ W.cell? ⟨w.heap.size, 2, none⟩ = some (.string sa) ∧ W.cell? ⟨w.heap.size, 3, none⟩ = some (.slice ba bl bc) ∧ W.cell? ⟨w.heap.size, 4, none⟩ = some (.slice fa fl fc) ∧ W.cell? ⟨w.heap.size, 5, none⟩ = some (.slice la ll lc)) ∧ W.cell? ⟨gp, op, none⟩ = some (.string a)) := fun W hb => ⟨HSK.out W hb, (HN0.out W hb).1⟩
  have HWI : Hid (∀ W, Below w0.heap.size w0 W → Calls Tryd.prog 22 #[.agg #[.int .i64 6, .int .i64 na, .string sa, .slice ba bl bc, .slice fa fl fc, .slice la ll lc], .string a, .agg #[.int .i64 3, .int .i64 77, .string ⟨#[]⟩, .slice none 0 0, .slice none 0 0, .slice none 0 0]] W (ValPost (fun g => (Q g ∧ g < w.heap.size) ∨ W.heap.size ≤ g) W (h + 2) (.mk 6 x.n x.s x.b (withF a (.mk 3 77 ⟨#[]⟩ [] [] []) x.f) x.l))) := fun W hb => by
    have hv0 : VIn W (fun g => Q g ∧ g < w.heap.size) (h + 2) x (.agg #[.int .i64 6, .int .i64 na, .string sa, .slice ba bl bc, .slice fa fl fc, .slice la ll lc]) := VIn.keep (h := h + 2) hb HVW.out
    refine (with_any (fun g => Q g ∧ g < w.heap.size) h x _ a 3 77 W hv0 HKA.out.symm (Nat.le_trans (fields_le_wt _ _ hv0.hgt) HWT.out) (HPN.out.2.2.2 0 (by simp)) (by decide) (by decide)).mono ?_
    rintro e W2 ⟨v2, he, hv2, hb2⟩
    exact ⟨v2, he, VIn.kept (h := h + 2) (Kept.of_below (Below.refl _ _)) (fun g hg => hg.imp (fun z => z.1) id) hv2, hb2⟩
  have HD : Hid (Below w0.heap.size w0 w8.drew) := HB8.out.drew
  have hkeep := HS1.out _ HD.out
  refine wp_region_held_drew (S := fun W => (W.cell? ⟨w.heap.size, 0, none⟩ = some (.int .i64 6) ∧ W.cell? ⟨w.heap.size, 1, none⟩ = some (.int .i64 na) ∧ W.cell? ⟨w.heap.size, 2, none⟩ = some (.string sa) ∧ W.cell? ⟨w.heap.size, 3, none⟩ = some (.slice ba bl bc) ∧ W.cell? ⟨w.heap.size, 4, none⟩ = some (.slice fa fl fc) ∧ W.cell? ⟨w.heap.size, 5, none⟩ = some (.slice la ll lc)) ∧ W.cell? ⟨gp, op, none⟩ = some (.string a)) (by kernel_rfl) (by exact hkeep) (fun hHeld => ?_)
  clear hkeep HB8
  generalize w8.drew = wd at *
  refine wpAnyH_take (i := 0) (v := ?_) rfl (by kernel_rfl) (by kernel_rfl) (by kernel_rfl) (fun _ _ _ h => h) (Or.inl ⟨by kernel_rfl, ?_⟩) (by assumption) ?_
  rotate_left
  · intro wS hSw
    (try dsimp only at hSw)
    go_simp
    try (with_reducible rfl)
  try simp only [List.getElem_toArray, List.getElem_cons_zero, Act.put, List.setIfInBounds_toArray, List.set_cons_zero, List.set_cons_succ]
  refine wpAnyH_take (i := 1) (v := ?_) rfl (by kernel_rfl) (by kernel_rfl) (by kernel_rfl) (fun _ _ _ h => h) (Or.inl ⟨by kernel_rfl, ?_⟩) (by assumption) ?_
  rotate_left
  · intro wS hSw
    (try dsimp only at hSw)
    go_simp
    try (with_reducible rfl)
  try simp only [List.getElem_toArray, List.getElem_cons_succ, List.getElem_cons_zero, Act.put, List.setIfInBounds_toArray, List.set_cons_zero, List.set_cons_succ]
  refine wpAnyH_take (i := 2) (v := ?_) rfl (by kernel_rfl) (by kernel_rfl) (by kernel_rfl) (fun _ _ _ h => h) (Or.inl ⟨by kernel_rfl, ?_⟩) (by assumption) ?_
  rotate_left
  · intro wS hSw
    (try dsimp only at hSw)
    go_simp
    try (with_reducible rfl)
  try simp only [List.getElem_toArray, List.getElem_cons_succ, List.getElem_cons_zero, Act.put, List.setIfInBounds_toArray, List.set_cons_zero, List.set_cons_succ]
  refine wpAnyH_take (i := 3) (v := ?_) rfl (by kernel_rfl) (by kernel_rfl) (by kernel_rfl) (fun _ _ _ h => h) (Or.inl ⟨by kernel_rfl, ?_⟩) (by assumption) ?_
  rotate_left
  · intro wS hSw
    (try dsimp only at hSw)
    go_simp
    try (with_reducible rfl)
  try simp only [List.getElem_toArray, List.getElem_cons_succ, List.getElem_cons_zero, Act.put, List.setIfInBounds_toArray, List.set_cons_zero, List.set_cons_succ]
  refine wpAnyH_take (i := 4) (v := ?_) rfl (by kernel_rfl) (by kernel_rfl) (by kernel_rfl) (fun _ _ _ h => h) (Or.inl ⟨by kernel_rfl, ?_⟩) (by assumption) ?_
  rotate_left
  · intro wS hSw
    (try dsimp only at hSw)
    go_simp
    try (with_reducible rfl)
  try simp only [List.getElem_toArray, List.getElem_cons_succ, List.getElem_cons_zero, Act.put, List.setIfInBounds_toArray, List.set_cons_zero, List.set_cons_succ]
  refine wpAnyH_ready (rs := [5, 6]) (by kernel_rfl) (by simp) ?_
  refine AllReadyH.cons rfl (fun K hK => ?_) (AllReadyH.cons rfl (fun K hK => ?_) (AllReadyH.nil))
  · go_simp
    go_at_call 22
    refine (HWI.out wd HD.out).mono ?_
    rintro e w9 ⟨v9, rfl, hv9, hb9⟩
    obtain ⟨xk, xn, xs, b2, f2, l2, bl2, bc2, fl2, fc2, ll2, lc2, rfl⟩ := VIn.shape (h := h + 2) hv9
    have HD9 : Hid (Below w0.heap.size w0 w9) := HD.out.trans (hb9.mono HD.out.size)
    have HV9 := Lib.hid (VIn.lt (h := h + 2) hv9)
    clear hb9 hv9 HD HWI
    refine hK.out _ _ (by exact HS1.out _ HD9.out) (fun hHeld => ?_)
    clear hK K
    try simp only [List.getElem_toArray, List.getElem_cons_succ, List.getElem_cons_zero, Act.put, List.setIfInBounds_toArray, List.set_cons_zero, List.set_cons_succ]
    refine wpAnyH_ready (rs := [6]) (by kernel_rfl) (by simp) ?_
    refine AllReadyH.cons rfl (fun K hK => ?_) (AllReadyH.nil)
    go_simp
    have hbz : Below w9.heap.size w9 (w9.alloc (.cells #[.int .i64 0, .int .i64 0, .string ⟨#[]⟩, .slice none 0 0, .slice none 0 0, .slice none 0 0] 26)) := (Below.refl _ _).alloc (Nat.le_refl _) _
    have HZ : Hid (IsBox (w9.alloc (.cells #[.int .i64 0, .int .i64 0, .string ⟨#[]⟩, .slice none 0 0, .slice none 0 0, .slice none 0 0] 26)) w9.heap.size (.int .i64 0) (.int .i64 0) (.string ⟨#[]⟩) (.slice none 0 0) (.slice none 0 0) (.slice none 0 0)) := IsBox.new w9 _ _ _ _ _ _
    have HDZ : Hid (Below w0.heap.size w0 (w9.alloc (.cells #[.int .i64 0, .int .i64 0, .string ⟨#[]⟩, .slice none 0 0, .slice none 0 0, .slice none 0 0] 26))) := HD9.out.trans (hbz.mono HD9.out.size)
    have hVZ := VIn.keep (h := h + 2) hbz HV9.out
    obtain ⟨P, hP⟩ : ∃ P : Nat → Prop, P = fun g => ((Q g ∧ g < w.heap.size) ∨ wd.heap.size ≤ g) ∧ g < w9.heap.size := ⟨_, rfl⟩
    rw [← hP] at hVZ
    have HVZ := Lib.hid hVZ
    obtain ⟨n8, hn8⟩ : ∃ z, z = w9.heap.size := ⟨_, rfl⟩
    have HN8 : Hid (∀ g, P g → g ≠ n8) := fun g hg => by rw [hP] at hg; have := hg.2; omega
    have HNL : Hid (w0.heap.size ≤ n8) := by rw [hn8]; exact HD9.out.size
    rw [← hn8] at HZ ⊢
    clear hn8 hbz hVZ hP HV9
    generalize w9.alloc (.cells #[.int .i64 0, .int .i64 0, .string ⟨#[]⟩, .slice none 0 0, .slice none 0 0, .slice none 0 0] 26) = wz at *
    refine hK.out _ _ (by exact HS1.out _ HDZ.out) (fun hHeld => ?_)
    clear hK K
    try simp only [List.getElem_toArray, List.getElem_cons_succ, List.getElem_cons_zero, Act.put, List.setIfInBounds_toArray, List.set_cons_zero, List.set_cons_succ]
    refine wpAnyH_ready (rs := [7]) (by kernel_rfl) (by simp) ?_
    refine AllReadyH.cons rfl (fun K hK => ?_) (AllReadyH.nil)
    obtain ⟨z0, z1, z2, z3, z4, z5⟩ := HZ.out.cells
    obtain ⟨r0, r1, r2, r3, r4, r5⟩ := HZ.out.thaw
    go_simp
    obtain ⟨wx, hwx⟩ : ∃ W, W = puts wz n8 0 [.int .i64 xk, .int .i64 xn, .string xs, .slice b2 bl2 bc2, .slice f2 fl2 fc2, .slice l2 ll2 lc2] := ⟨_, rfl⟩
    have HX8 : Hid (IsBox wx n8 (.int .i64 xk) (.int .i64 xn) (.string xs) (.slice b2 bl2 bc2) (.slice f2 fl2 fc2) (.slice l2 ll2 lc2)) := by rw [hwx]; exact HZ.out.put _ _ _ _ _ _
    have HDX : Hid (Below w0.heap.size w0 wx) := by rw [hwx]; exact puts_below HDZ.out HNL.out _ _
    have HVX : Hid (VIn wx P (h + 2) (.mk 6 x.n x.s x.b (withF a (.mk 3 77 ⟨#[]⟩ [] [] []) x.f) x.l) (.agg #[.int .i64 xk, .int .i64 xn, .string xs, .slice b2 bl2 bc2, .slice f2 fl2 fc2, .slice l2 ll2 lc2])) := by rw [hwx]; exact VIn.kept (h := h + 2) (puts_kept P (fun z => HN8.out n8 z rfl) 0 _) (fun _ z => z) HVZ.out
    refine hK.out _ (puts wz n8 0 [.int .i64 xk, .int .i64 xn, .string xs, .slice b2 bl2 bc2, .slice f2 fl2 fc2, .slice l2 ll2 lc2]) (by rw [← hwx]; exact HS1.out _ HDX.out) (fun hHeld => ?_)
    clear hK K
    rw [← hwx]
    clear hwx z0 z1 z2 z3 z4 z5 r0 r1 r2 r3 r4 r5 HZ HDZ HVZ HN8 HNL
    try simp only [List.getElem_toArray, List.getElem_cons_succ, List.getElem_cons_zero, Act.put, List.setIfInBounds_toArray, List.set_cons_zero, List.set_cons_succ]
    refine wpAnyH_done (by kernel_rfl) ?_ _
    go_wp2_with fail
    have HK2 : Hid (∀ W, Below wx.heap.size wx W → (W.cell? ⟨w.heap.size, 0, none⟩ = some (.int .i64 6) ∧ W.cell? ⟨w.heap.size, 1, none⟩ = some (.int .i64 na) ∧ W.cell? ⟨w.heap.size, 2, none⟩ = some (.string sa) ∧ W.cell? ⟨w.heap.size, 3, none⟩ = some (.slice ba bl bc) ∧ W.cell? ⟨w.heap.size, 4, none⟩ = some (.slice fa fl fc) ∧ W.cell? ⟨w.heap.size, 5, none⟩ = some (.slice la ll lc)) ∧ (W.cell? ⟨n8, 0, none⟩ = some (.int .i64 xk) ∧ W.cell? ⟨n8, 1, none⟩ = some (.int .i64 xn) ∧ W.cell? ⟨n8, 2, none⟩ = some (.string xs) ∧ W.cell? ⟨n8, 3, none⟩ = some (.slice b2 bl2 bc2) ∧ W.cell? ⟨n8, 4, none⟩ = some (.slice f2 fl2 fc2) ∧ W.cell? ⟨n8, 5, none⟩ = some (.slice l2 ll2 lc2))) := fun W hb => ⟨HSK.out W (HDX.out.trans (hb.mono HDX.out.size)), (HX8.out.keep hb).cells⟩
    have HXV : Hid (∀ W, Below wx.heap.size wx W → VIn W P (h + 2) (.mk 6 x.n x.s x.b (withF a (.mk 3 77 ⟨#[]⟩ [] [] []) x.f) x.l) (.agg #[.int .i64 xk, .int .i64 xn, .string xs, .slice b2 bl2 bc2, .slice f2 fl2 fc2, .slice l2 ll2 lc2])) := fun W hb => VIn.keep (h := h + 2) hb HVX.out
    have HVV : Hid (∀ W, Below wx.heap.size wx W → VIn W Q (h + 2) x (.agg #[.int .i64 6, .int .i64 na, .string sa, .slice ba bl bc, .slice fa fl fc, .slice la ll lc])) := fun W hb => HVK.out W (HDX.out.trans (hb.mono HDX.out.size))
    have HQQ : Hid (∀ W, Below wx.heap.size wx W → StrsIn W (some ⟨gq, oq, none⟩) (b :: qr)) := fun W hb => HQK.out W (HDX.out.trans (hb.mono HDX.out.size))
    have HRE : Hid (Bson.reach ((b :: qr).length + (h + 1)) x (b :: qr) = Bson.reach ((b :: qr).length + (h + 1)) (.mk 6 x.n x.s x.b (withF a (.mk 3 77 ⟨#[]⟩ [] [] []) x.f) x.l) (b :: qr)) := (reach_with _ x _ a b qr HKA.out.symm HAB.out (by simp only [List.length_cons]; omega)).symm
    have HAE : Hid (Bson.all ((b :: qr).length + (h + 1)) x (b :: qr) = Bson.all ((b :: qr).length + (h + 1)) (.mk 6 x.n x.s x.b (withF a (.mk 3 77 ⟨#[]⟩ [] [] []) x.f) x.l) (b :: qr)) := (all_with _ x _ a b qr HKA.out.symm HAB.out (by simp only [List.length_cons]; omega)).symm
    have HAL : Hid ((Bson.all ((b :: qr).length + (h + 1)) x (b :: qr)).length ≤ 3000) := Nat.le_trans (all_le _ _ _ _ (HVV.out wx (Below.refl _ _)).hgt) HWT.out
    have HAL2 : Hid ((Bson.all ((b :: qr).length + (h + 1)) (.mk 6 x.n x.s x.b (withF a (.mk 3 77 ⟨#[]⟩ [] [] []) x.f) x.l) (b :: qr)).length ≤ 3000) := by rw [← HAE.out]; exact HAL.out
    have HGX : Hid (∀ W, Below wx.heap.size wx W → Below w.heap.size w W) := fun W hb => HGO.out W (HDX.out.trans (hb.mono HDX.out.size))
    have hkeep := HK2.out _ (Below.refl _ wx).drew
    refine wp_region_held_drew (S := fun W => (W.cell? ⟨w.heap.size, 0, none⟩ = some (.int .i64 6) ∧ W.cell? ⟨w.heap.size, 1, none⟩ = some (.int .i64 na) ∧ W.cell? ⟨w.heap.size, 2, none⟩ = some (.string sa) ∧ W.cell? ⟨w.heap.size, 3, none⟩ = some (.slice ba bl bc) ∧ W.cell? ⟨w.heap.size, 4, none⟩ = some (.slice fa fl fc) ∧ W.cell? ⟨w.heap.size, 5, none⟩ = some (.slice la ll lc)) ∧ (W.cell? ⟨n8, 0, none⟩ = some (.int .i64 xk) ∧ W.cell? ⟨n8, 1, none⟩ = some (.int .i64 xn) ∧ W.cell? ⟨n8, 2, none⟩ = some (.string xs) ∧ W.cell? ⟨n8, 3, none⟩ = some (.slice b2 bl2 bc2) ∧ W.cell? ⟨n8, 4, none⟩ = some (.slice f2 fl2 fc2) ∧ W.cell? ⟨n8, 5, none⟩ = some (.slice l2 ll2 lc2))) (by kernel_rfl) (by exact hkeep) (fun hHeld => ?_)
    clear hkeep
    have HE : Hid (Below wx.heap.size wx wx.drew) := (Below.refl _ wx).drew
    generalize wx.drew = y4 at *
    refine wpAnyH_take (i := 0) (v := ?_) rfl (by kernel_rfl) (by kernel_rfl) (by kernel_rfl) (fun _ _ _ h => h) (Or.inl ⟨by kernel_rfl, ?_⟩) (by assumption) ?_
    rotate_left
    · intro wS hSw
      (try dsimp only at hSw)
      go_simp
      try (with_reducible rfl)
    try simp only [List.getElem_toArray, List.getElem_cons_zero, Act.put, List.setIfInBounds_toArray, List.set_cons_zero, List.set_cons_succ]
    refine wpAnyH_take (i := 1) (v := ?_) rfl (by kernel_rfl) (by kernel_rfl) (by kernel_rfl) (fun _ _ _ h => h) (Or.inl ⟨by kernel_rfl, ?_⟩) (by assumption) ?_
    rotate_left
    · intro wS hSw
      (try dsimp only at hSw)
      go_simp
      try (with_reducible rfl)
    try simp only [List.getElem_toArray, List.getElem_cons_succ, List.getElem_cons_zero, Act.put, List.setIfInBounds_toArray, List.set_cons_zero, List.set_cons_succ]
    refine wpAnyH_take (i := 2) (v := ?_) rfl (by kernel_rfl) (by kernel_rfl) (by kernel_rfl) (fun _ _ _ h => h) (Or.inl ⟨by kernel_rfl, ?_⟩) (by assumption) ?_
    rotate_left
    · intro wS hSw
      (try dsimp only at hSw)
      go_simp
      try (with_reducible rfl)
    try simp only [List.getElem_toArray, List.getElem_cons_succ, List.getElem_cons_zero, Act.put, List.setIfInBounds_toArray, List.set_cons_zero, List.set_cons_succ]
    refine wpAnyH_take (i := 3) (v := ?_) rfl (by kernel_rfl) (by kernel_rfl) (by kernel_rfl) (fun _ _ _ h => h) (Or.inl ⟨by kernel_rfl, ?_⟩) (by assumption) ?_
    rotate_left
    · intro wS hSw
      (try dsimp only at hSw)
      go_simp
      try (with_reducible rfl)
    try simp only [List.getElem_toArray, List.getElem_cons_succ, List.getElem_cons_zero, Act.put, List.setIfInBounds_toArray, List.set_cons_zero, List.set_cons_succ]
    refine wpAnyH_take (i := 4) (v := ?_) rfl (by kernel_rfl) (by kernel_rfl) (by kernel_rfl) (fun _ _ _ h => h) (Or.inl ⟨by kernel_rfl, ?_⟩) (by assumption) ?_
    rotate_left
    · intro wS hSw
      (try dsimp only at hSw)
      go_simp
      try (with_reducible rfl)
    try simp only [List.getElem_toArray, List.getElem_cons_succ, List.getElem_cons_zero, Act.put, List.setIfInBounds_toArray, List.set_cons_zero, List.set_cons_succ]
    refine wpAnyH_take (i := 6) (v := ?_) rfl (by kernel_rfl) (by kernel_rfl) (by kernel_rfl) (fun _ _ _ h => h) (Or.inl ⟨by kernel_rfl, ?_⟩) (by assumption) ?_
    rotate_left
    · intro wS hSw
      (try dsimp only at hSw)
      go_simp
      try (with_reducible rfl)
    try simp only [List.getElem_toArray, List.getElem_cons_succ, List.getElem_cons_zero, Act.put, List.setIfInBounds_toArray, List.set_cons_zero, List.set_cons_succ]
    refine wpAnyH_take (i := 7) (v := ?_) rfl (by kernel_rfl) (by kernel_rfl) (by kernel_rfl) (fun _ _ _ h => h) (Or.inl ⟨by kernel_rfl, ?_⟩) (by assumption) ?_
    rotate_left
    · intro wS hSw
      (try dsimp only at hSw)
      go_simp
      try (with_reducible rfl)
    try simp only [List.getElem_toArray, List.getElem_cons_succ, List.getElem_cons_zero, Act.put, List.setIfInBounds_toArray, List.set_cons_zero, List.set_cons_succ]
    refine wpAnyH_ready (rs := [5]) (by kernel_rfl) (by simp) ?_
    refine AllReadyH.cons rfl (fun K hK => ?_) (AllReadyH.nil)
    go_simp
    go_at_call 15
    refine (Reach_any ((b :: qr).length + (h + 1)) (h + 1) (b :: qr) (some ⟨gq, oq, none⟩) qn qc (Nat.le_refl _) HQN.out.1 HQN.out.2.1 Q x _ y4 (HVV.out _ HE.out) (HQQ.out _ HE.out)).mono ?_
    rintro e y5 ⟨r1, rfl, hr1, hb5⟩
    have HE5 : Hid (Below wx.heap.size wx y5) := HE.out.trans (hb5.mono HE.out.size)
    have HR1 := Lib.hid hr1
    clear hb5 hr1 HE
    refine hK.out _ _ (by exact HK2.out _ HE5.out) (fun hHeld => ?_)
    clear hK K
    try simp only [List.getElem_toArray, List.getElem_cons_succ, List.getElem_cons_zero, Act.put, List.setIfInBounds_toArray, List.set_cons_zero, List.set_cons_succ]
    refine wpAnyH_ready (rs := [8]) (by kernel_rfl) (by simp) ?_
    refine AllReadyH.cons rfl (fun K hK => ?_) (AllReadyH.nil)
    go_simp
    go_at_call 15
    refine (Reach_any ((b :: qr).length + (h + 1)) (h + 1) (b :: qr) (some ⟨gq, oq, none⟩) qn qc (Nat.le_refl _) HQN.out.1 HQN.out.2.1 P (.mk 6 x.n x.s x.b (withF a (.mk 3 77 ⟨#[]⟩ [] [] []) x.f) x.l) _ y5 (HXV.out _ HE5.out) (HQQ.out _ HE5.out)).mono ?_
    rintro e y6 ⟨r2, rfl, hr2, hb6⟩
    have HE6 : Hid (Below wx.heap.size wx y6) := HE5.out.trans (hb6.mono HE5.out.size)
    have HR2 := Lib.hid hr2
    have HR1b := Lib.hid (VIn.keep (h := h + 2) hb6 HR1.out)
    clear hb6 hr2 HE5 HR1
    refine hK.out _ _ (by exact HK2.out _ HE6.out) (fun hHeld => ?_)
    clear hK K
    try simp only [List.getElem_toArray, List.getElem_cons_succ, List.getElem_cons_zero, Act.put, List.setIfInBounds_toArray, List.set_cons_zero, List.set_cons_succ]
    refine wpAnyH_ready (rs := [9]) (by kernel_rfl) (by simp) ?_
    refine AllReadyH.cons rfl (fun K hK => ?_) (AllReadyH.nil)
    go_simp
    go_at_call 14
    refine (same_any _ _ _ _ _ _ _ _ y6 HR1b.out HR2.out).mono ?_
    rintro e y7 ⟨b7, rfl, hb7, hw7⟩
    obtain rfl := hb7.2 HRE.out
    have HE7 : Hid (Below wx.heap.size wx y7) := HE6.out.trans (hw7.mono HE6.out.size)
    clear hb7 hw7 HE6 HR1b HR2
    refine hK.out _ _ (by exact HK2.out _ HE7.out) (fun hHeld => ?_)
    clear hK K
    try simp only [List.getElem_toArray, List.getElem_cons_succ, List.getElem_cons_zero, Act.put, List.setIfInBounds_toArray, List.set_cons_zero, List.set_cons_succ]
    refine wpAnyH_take (i := 10) (v := ?_) rfl (by kernel_rfl) (by kernel_rfl) (by kernel_rfl) (fun _ _ _ h => h) (Or.inl ⟨by kernel_rfl, ?_⟩) (by assumption) ?_
    rotate_left
    · intro wS hSw
      (try dsimp only at hSw)
      go_simp
      try (with_reducible rfl)
    try simp only [List.getElem_toArray, List.getElem_cons_succ, List.getElem_cons_zero, Act.put, List.setIfInBounds_toArray, List.set_cons_zero, List.set_cons_succ]
    refine wpAnyH_take (i := 11) (v := ?_) rfl (by kernel_rfl) (by kernel_rfl) (by kernel_rfl) (fun _ _ _ h => h) (Or.inl ⟨by kernel_rfl, ?_⟩) (by assumption) ?_
    rotate_left
    · intro wS hSw
      (try dsimp only at hSw)
      go_simp
      try (with_reducible rfl)
    try simp only [List.getElem_toArray, List.getElem_cons_succ, List.getElem_cons_zero, Act.put, List.setIfInBounds_toArray, List.set_cons_zero, List.set_cons_succ]
    refine wpAnyH_take (i := 12) (v := ?_) rfl (by kernel_rfl) (by kernel_rfl) (by kernel_rfl) (fun _ _ _ h => h) (Or.inl ⟨by kernel_rfl, ?_⟩) (by assumption) ?_
    rotate_left
    · intro wS hSw
      (try dsimp only at hSw)
      go_simp
      try (with_reducible rfl)
    try simp only [List.getElem_toArray, List.getElem_cons_succ, List.getElem_cons_zero, Act.put, List.setIfInBounds_toArray, List.set_cons_zero, List.set_cons_succ]
    refine wpAnyH_take (i := 13) (v := ?_) rfl (by kernel_rfl) (by kernel_rfl) (by kernel_rfl) (fun _ _ _ h => h) (Or.inl ⟨by kernel_rfl, ?_⟩) (by assumption) ?_
    rotate_left
    · intro wS hSw
      (try dsimp only at hSw)
      go_simp
      try (with_reducible rfl)
    try simp only [List.getElem_toArray, List.getElem_cons_succ, List.getElem_cons_zero, Act.put, List.setIfInBounds_toArray, List.set_cons_zero, List.set_cons_succ]
    refine wpAnyH_take (i := 15) (v := ?_) rfl (by kernel_rfl) (by kernel_rfl) (by kernel_rfl) (fun _ _ _ h => h) (Or.inl ⟨by kernel_rfl, ?_⟩) (by assumption) ?_
    rotate_left
    · intro wS hSw
      (try dsimp only at hSw)
      go_simp
      try (with_reducible rfl)
    try simp only [List.getElem_toArray, List.getElem_cons_succ, List.getElem_cons_zero, Act.put, List.setIfInBounds_toArray, List.set_cons_zero, List.set_cons_succ]
    refine wpAnyH_take (i := 16) (v := ?_) rfl (by kernel_rfl) (by kernel_rfl) (by kernel_rfl) (fun _ _ _ h => h) (Or.inl ⟨by kernel_rfl, ?_⟩) (by assumption) ?_
    rotate_left
    · intro wS hSw
      (try dsimp only at hSw)
      go_simp
      try (with_reducible rfl)
    try simp only [List.getElem_toArray, List.getElem_cons_succ, List.getElem_cons_zero, Act.put, List.setIfInBounds_toArray, List.set_cons_zero, List.set_cons_succ]
    refine wpAnyH_ready (rs := [14]) (by kernel_rfl) (by simp) ?_
    refine AllReadyH.cons rfl (fun K hK => ?_) (AllReadyH.nil)
    go_simp
    go_at_call 18
    refine (All_any ((b :: qr).length + (h + 1)) (h + 1) (b :: qr) (some ⟨gq, oq, none⟩) qn qc (Nat.le_refl _) HQN.out.1 HQN.out.2.1 Q x _ y7 (HVV.out _ HE7.out) (HQQ.out _ HE7.out) (Nat.le_trans HAL.out (by decide))).mono ?_
    rintro e y8 ⟨a8, c8, rfl, _, hi8, hw8⟩
    have HE8 : Hid (Below wx.heap.size wx y8) := HE7.out.trans (hw8.mono HE7.out.size)
    have HI8 := Lib.hid hi8
    clear hw8 hi8 HE7
    refine hK.out _ _ (by exact HK2.out _ HE8.out) (fun hHeld => ?_)
    clear hK K
    try simp only [List.getElem_toArray, List.getElem_cons_succ, List.getElem_cons_zero, Act.put, List.setIfInBounds_toArray, List.set_cons_zero, List.set_cons_succ]
    refine wpAnyH_ready (rs := [17]) (by kernel_rfl) (by simp) ?_
    refine AllReadyH.cons rfl (fun K hK => ?_) (AllReadyH.nil)
    go_simp
    go_at_call 18
    refine (All_any ((b :: qr).length + (h + 1)) (h + 1) (b :: qr) (some ⟨gq, oq, none⟩) qn qc (Nat.le_refl _) HQN.out.1 HQN.out.2.1 P (.mk 6 x.n x.s x.b (withF a (.mk 3 77 ⟨#[]⟩ [] [] []) x.f) x.l) _ y8 (HXV.out _ HE8.out) (HQQ.out _ HE8.out) (Nat.le_trans HAL2.out (by decide))).mono ?_
    rintro e y9 ⟨a9, c9, rfl, _, hi9, hw9⟩
    have HE9 : Hid (Below wx.heap.size wx y9) := HE8.out.trans (hw9.mono HE8.out.size)
    have HI8b := Lib.hid (HI8.out.kept (Kept.of_below hw9) (fun _ z => z) (fun _ _ z => VIn.keep (h := h + 2) hw9 z))
    have HI9 := Lib.hid hi9
    clear hw9 hi9 HE8 HI8
    refine hK.out _ _ (by exact HK2.out _ HE9.out) (fun hHeld => ?_)
    clear hK K
    try simp only [List.getElem_toArray, List.getElem_cons_succ, List.getElem_cons_zero, Act.put, List.setIfInBounds_toArray, List.set_cons_zero, List.set_cons_succ]
    refine wpAnyH_ready (rs := [18]) (by kernel_rfl) (by simp) ?_
    refine AllReadyH.cons rfl (fun K hK => ?_) (AllReadyH.nil)
    go_simp
    go_at_call 17
    refine (sameAll_any (h + 2) (h + 2) _ _ _ _ a8 a9 _ c8 _ c9 y9 rfl rfl (by have := HAL.out; omega) (by have := HAL2.out; omega) HI8b.out HI9.out).mono ?_
    rintro e yA ⟨b10, rfl, hb10, hw10⟩
    obtain rfl := hb10.2 HAE.out
    have HEA : Hid (Below wx.heap.size wx yA) := HE9.out.trans (hw10.mono HE9.out.size)
    clear hb10 hw10 HE9 HI8b HI9
    refine hK.out _ _ (by exact HK2.out _ HEA.out) (fun hHeld => ?_)
    clear hK K
    try simp only [List.getElem_toArray, List.getElem_cons_succ, List.getElem_cons_zero, Act.put, List.setIfInBounds_toArray, List.set_cons_zero, List.set_cons_succ]
    refine wpAnyH_take (i := 19) (v := ?_) rfl (by kernel_rfl) (by kernel_rfl) (by kernel_rfl) (fun _ _ _ h => h) (Or.inl ⟨by kernel_rfl, ?_⟩) (by assumption) ?_
    rotate_left
    · intro wS hSw
      (try dsimp only at hSw)
      go_simp
      try (with_reducible rfl)
    try simp only [List.getElem_toArray, List.getElem_cons_succ, List.getElem_cons_zero, Act.put, List.setIfInBounds_toArray, List.set_cons_zero, List.set_cons_succ]
    refine wpAnyH_take (i := 20) (v := ?_) rfl (by kernel_rfl) (by kernel_rfl) (by kernel_rfl) (fun _ _ _ h => h) (Or.inl ⟨by kernel_rfl, ?_⟩) (by assumption) ?_
    rotate_left
    · intro wS hSw
      (try dsimp only at hSw)
      go_simp
      try (with_reducible rfl)
    try simp only [List.getElem_toArray, List.getElem_cons_succ, List.getElem_cons_zero, Act.put, List.setIfInBounds_toArray, List.set_cons_zero, List.set_cons_succ]
    refine wpAnyH_done (by kernel_rfl) ?_ _
    go_wp2_with fail
    go_ret
    exact ⟨rfl, HGX.out _ HEA.out⟩
  · go_simp
    have hbz : Below wd.heap.size wd (wd.alloc (.cells #[.int .i64 0, .int .i64 0, .string ⟨#[]⟩, .slice none 0 0, .slice none 0 0, .slice none 0 0] 26)) := (Below.refl _ _).alloc (Nat.le_refl _) _
    have HZ0 : Hid (IsBox (wd.alloc (.cells #[.int .i64 0, .int .i64 0, .string ⟨#[]⟩, .slice none 0 0, .slice none 0 0, .slice none 0 0] 26)) wd.heap.size (.int .i64 0) (.int .i64 0) (.string ⟨#[]⟩) (.slice none 0 0) (.slice none 0 0) (.slice none 0 0)) := IsBox.new wd _ _ _ _ _ _
    have HDY : Hid (Below w0.heap.size w0 (wd.alloc (.cells #[.int .i64 0, .int .i64 0, .string ⟨#[]⟩, .slice none 0 0, .slice none 0 0, .slice none 0 0] 26))) := HD.out.trans (hbz.mono HD.out.size)
    obtain ⟨n8, hn8⟩ : ∃ z, z = wd.heap.size := ⟨_, rfl⟩
    have HNL : Hid (w0.heap.size ≤ n8) := by rw [hn8]; exact HD.out.size
    rw [← hn8] at HZ0 ⊢
    clear hn8 hbz HD
    generalize wd.alloc (.cells #[.int .i64 0, .int .i64 0, .string ⟨#[]⟩, .slice none 0 0, .slice none 0 0, .slice none 0 0] 26) = wy at *
    refine hK.out _ _ (by exact HS1.out _ HDY.out) (fun hHeld => ?_)
    clear hK K
    try simp only [List.getElem_toArray, List.getElem_cons_succ, List.getElem_cons_zero, Act.put, List.setIfInBounds_toArray, List.set_cons_zero, List.set_cons_succ]
    refine wpAnyH_ready (rs := [5]) (by kernel_rfl) (by simp) ?_
    refine AllReadyH.cons rfl (fun K hK => ?_) (AllReadyH.nil)
    go_simp
    go_at_call 22
    refine (HWI.out wy HDY.out).mono ?_
    rintro e wz ⟨v9, rfl, hv9, hb9⟩
    obtain ⟨xk, xn, xs, b2, f2, l2, bl2, bc2, fl2, fc2, ll2, lc2, rfl⟩ := VIn.shape (h := h + 2) hv9
    have HDZ : Hid (Below w0.heap.size w0 wz) := HDY.out.trans (hb9.mono HDY.out.size)
    have HZ := Lib.hid (HZ0.out.keep hb9)
    obtain ⟨P, hP⟩ : ∃ P : Nat → Prop, P = fun g => (Q g ∧ g < w.heap.size) ∨ wy.heap.size ≤ g := ⟨_, rfl⟩
    rw [← hP] at hv9
    have HVZ := Lib.hid hv9
    have HN8 : Hid (∀ g, P g → g ≠ n8) := fun g hg => by rw [hP] at hg; have h1 := HZ0.out.lt; have h2 := HNL.out; have h3 := HWL.out; rcases hg with hg | hg; have := hg.2; omega; omega
    clear hb9 hv9 hP HZ0 HDY HWI
    refine hK.out _ _ (by exact HS1.out _ HDZ.out) (fun hHeld => ?_)
    clear hK K
    try simp only [List.getElem_toArray, List.getElem_cons_succ, List.getElem_cons_zero, Act.put, List.setIfInBounds_toArray, List.set_cons_zero, List.set_cons_succ]
    refine wpAnyH_ready (rs := [7]) (by kernel_rfl) (by simp) ?_
    refine AllReadyH.cons rfl (fun K hK => ?_) (AllReadyH.nil)
    obtain ⟨z0, z1, z2, z3, z4, z5⟩ := HZ.out.cells
    obtain ⟨r0, r1, r2, r3, r4, r5⟩ := HZ.out.thaw
    go_simp
    obtain ⟨wx, hwx⟩ : ∃ W, W = puts wz n8 0 [.int .i64 xk, .int .i64 xn, .string xs, .slice b2 bl2 bc2, .slice f2 fl2 fc2, .slice l2 ll2 lc2] := ⟨_, rfl⟩
    have HX8 : Hid (IsBox wx n8 (.int .i64 xk) (.int .i64 xn) (.string xs) (.slice b2 bl2 bc2) (.slice f2 fl2 fc2) (.slice l2 ll2 lc2)) := by rw [hwx]; exact HZ.out.put _ _ _ _ _ _
    have HDX : Hid (Below w0.heap.size w0 wx) := by rw [hwx]; exact puts_below HDZ.out HNL.out _ _
    have HVX : Hid (VIn wx P (h + 2) (.mk 6 x.n x.s x.b (withF a (.mk 3 77 ⟨#[]⟩ [] [] []) x.f) x.l) (.agg #[.int .i64 xk, .int .i64 xn, .string xs, .slice b2 bl2 bc2, .slice f2 fl2 fc2, .slice l2 ll2 lc2])) := by rw [hwx]; exact VIn.kept (h := h + 2) (puts_kept P (fun z => HN8.out n8 z rfl) 0 _) (fun _ z => z) HVZ.out
    refine hK.out _ (puts wz n8 0 [.int .i64 xk, .int .i64 xn, .string xs, .slice b2 bl2 bc2, .slice f2 fl2 fc2, .slice l2 ll2 lc2]) (by rw [← hwx]; exact HS1.out _ HDX.out) (fun hHeld => ?_)
    clear hK K
    rw [← hwx]
    clear hwx z0 z1 z2 z3 z4 z5 r0 r1 r2 r3 r4 r5 HZ HDZ HVZ HN8 HNL
    try simp only [List.getElem_toArray, List.getElem_cons_succ, List.getElem_cons_zero, Act.put, List.setIfInBounds_toArray, List.set_cons_zero, List.set_cons_succ]
    refine wpAnyH_done (by kernel_rfl) ?_ _
    go_wp2_with fail
    have HK2 : Hid (∀ W, Below wx.heap.size wx W → (W.cell? ⟨w.heap.size, 0, none⟩ = some (.int .i64 6) ∧ W.cell? ⟨w.heap.size, 1, none⟩ = some (.int .i64 na) ∧ W.cell? ⟨w.heap.size, 2, none⟩ = some (.string sa) ∧ W.cell? ⟨w.heap.size, 3, none⟩ = some (.slice ba bl bc) ∧ W.cell? ⟨w.heap.size, 4, none⟩ = some (.slice fa fl fc) ∧ W.cell? ⟨w.heap.size, 5, none⟩ = some (.slice la ll lc)) ∧ (W.cell? ⟨n8, 0, none⟩ = some (.int .i64 xk) ∧ W.cell? ⟨n8, 1, none⟩ = some (.int .i64 xn) ∧ W.cell? ⟨n8, 2, none⟩ = some (.string xs) ∧ W.cell? ⟨n8, 3, none⟩ = some (.slice b2 bl2 bc2) ∧ W.cell? ⟨n8, 4, none⟩ = some (.slice f2 fl2 fc2) ∧ W.cell? ⟨n8, 5, none⟩ = some (.slice l2 ll2 lc2))) := fun W hb => ⟨HSK.out W (HDX.out.trans (hb.mono HDX.out.size)), (HX8.out.keep hb).cells⟩
    have HXV : Hid (∀ W, Below wx.heap.size wx W → VIn W P (h + 2) (.mk 6 x.n x.s x.b (withF a (.mk 3 77 ⟨#[]⟩ [] [] []) x.f) x.l) (.agg #[.int .i64 xk, .int .i64 xn, .string xs, .slice b2 bl2 bc2, .slice f2 fl2 fc2, .slice l2 ll2 lc2])) := fun W hb => VIn.keep (h := h + 2) hb HVX.out
    have HVV : Hid (∀ W, Below wx.heap.size wx W → VIn W Q (h + 2) x (.agg #[.int .i64 6, .int .i64 na, .string sa, .slice ba bl bc, .slice fa fl fc, .slice la ll lc])) := fun W hb => HVK.out W (HDX.out.trans (hb.mono HDX.out.size))
    have HQQ : Hid (∀ W, Below wx.heap.size wx W → StrsIn W (some ⟨gq, oq, none⟩) (b :: qr)) := fun W hb => HQK.out W (HDX.out.trans (hb.mono HDX.out.size))
    have HRE : Hid (Bson.reach ((b :: qr).length + (h + 1)) x (b :: qr) = Bson.reach ((b :: qr).length + (h + 1)) (.mk 6 x.n x.s x.b (withF a (.mk 3 77 ⟨#[]⟩ [] [] []) x.f) x.l) (b :: qr)) := (reach_with _ x _ a b qr HKA.out.symm HAB.out (by simp only [List.length_cons]; omega)).symm
    have HAE : Hid (Bson.all ((b :: qr).length + (h + 1)) x (b :: qr) = Bson.all ((b :: qr).length + (h + 1)) (.mk 6 x.n x.s x.b (withF a (.mk 3 77 ⟨#[]⟩ [] [] []) x.f) x.l) (b :: qr)) := (all_with _ x _ a b qr HKA.out.symm HAB.out (by simp only [List.length_cons]; omega)).symm
    have HAL : Hid ((Bson.all ((b :: qr).length + (h + 1)) x (b :: qr)).length ≤ 3000) := Nat.le_trans (all_le _ _ _ _ (HVV.out wx (Below.refl _ _)).hgt) HWT.out
    have HAL2 : Hid ((Bson.all ((b :: qr).length + (h + 1)) (.mk 6 x.n x.s x.b (withF a (.mk 3 77 ⟨#[]⟩ [] [] []) x.f) x.l) (b :: qr)).length ≤ 3000) := by rw [← HAE.out]; exact HAL.out
    have HGX : Hid (∀ W, Below wx.heap.size wx W → Below w.heap.size w W) := fun W hb => HGO.out W (HDX.out.trans (hb.mono HDX.out.size))
    have hkeep := HK2.out _ (Below.refl _ wx).drew
    refine wp_region_held_drew (S := fun W => (W.cell? ⟨w.heap.size, 0, none⟩ = some (.int .i64 6) ∧ W.cell? ⟨w.heap.size, 1, none⟩ = some (.int .i64 na) ∧ W.cell? ⟨w.heap.size, 2, none⟩ = some (.string sa) ∧ W.cell? ⟨w.heap.size, 3, none⟩ = some (.slice ba bl bc) ∧ W.cell? ⟨w.heap.size, 4, none⟩ = some (.slice fa fl fc) ∧ W.cell? ⟨w.heap.size, 5, none⟩ = some (.slice la ll lc)) ∧ (W.cell? ⟨n8, 0, none⟩ = some (.int .i64 xk) ∧ W.cell? ⟨n8, 1, none⟩ = some (.int .i64 xn) ∧ W.cell? ⟨n8, 2, none⟩ = some (.string xs) ∧ W.cell? ⟨n8, 3, none⟩ = some (.slice b2 bl2 bc2) ∧ W.cell? ⟨n8, 4, none⟩ = some (.slice f2 fl2 fc2) ∧ W.cell? ⟨n8, 5, none⟩ = some (.slice l2 ll2 lc2))) (by kernel_rfl) (by exact hkeep) (fun hHeld => ?_)
    clear hkeep
    have HE : Hid (Below wx.heap.size wx wx.drew) := (Below.refl _ wx).drew
    generalize wx.drew = y4 at *
    refine wpAnyH_take (i := 0) (v := ?_) rfl (by kernel_rfl) (by kernel_rfl) (by kernel_rfl) (fun _ _ _ h => h) (Or.inl ⟨by kernel_rfl, ?_⟩) (by assumption) ?_
    rotate_left
    · intro wS hSw
      (try dsimp only at hSw)
      go_simp
      try (with_reducible rfl)
    try simp only [List.getElem_toArray, List.getElem_cons_zero, Act.put, List.setIfInBounds_toArray, List.set_cons_zero, List.set_cons_succ]
    refine wpAnyH_take (i := 1) (v := ?_) rfl (by kernel_rfl) (by kernel_rfl) (by kernel_rfl) (fun _ _ _ h => h) (Or.inl ⟨by kernel_rfl, ?_⟩) (by assumption) ?_
    rotate_left
    · intro wS hSw
      (try dsimp only at hSw)
      go_simp
      try (with_reducible rfl)
    try simp only [List.getElem_toArray, List.getElem_cons_succ, List.getElem_cons_zero, Act.put, List.setIfInBounds_toArray, List.set_cons_zero, List.set_cons_succ]
    refine wpAnyH_take (i := 2) (v := ?_) rfl (by kernel_rfl) (by kernel_rfl) (by kernel_rfl) (fun _ _ _ h => h) (Or.inl ⟨by kernel_rfl, ?_⟩) (by assumption) ?_
    rotate_left
    · intro wS hSw
      (try dsimp only at hSw)
      go_simp
      try (with_reducible rfl)
    try simp only [List.getElem_toArray, List.getElem_cons_succ, List.getElem_cons_zero, Act.put, List.setIfInBounds_toArray, List.set_cons_zero, List.set_cons_succ]
    refine wpAnyH_take (i := 3) (v := ?_) rfl (by kernel_rfl) (by kernel_rfl) (by kernel_rfl) (fun _ _ _ h => h) (Or.inl ⟨by kernel_rfl, ?_⟩) (by assumption) ?_
    rotate_left
    · intro wS hSw
      (try dsimp only at hSw)
      go_simp
      try (with_reducible rfl)
    try simp only [List.getElem_toArray, List.getElem_cons_succ, List.getElem_cons_zero, Act.put, List.setIfInBounds_toArray, List.set_cons_zero, List.set_cons_succ]
    refine wpAnyH_take (i := 4) (v := ?_) rfl (by kernel_rfl) (by kernel_rfl) (by kernel_rfl) (fun _ _ _ h => h) (Or.inl ⟨by kernel_rfl, ?_⟩) (by assumption) ?_
    rotate_left
    · intro wS hSw
      (try dsimp only at hSw)
      go_simp
      try (with_reducible rfl)
    try simp only [List.getElem_toArray, List.getElem_cons_succ, List.getElem_cons_zero, Act.put, List.setIfInBounds_toArray, List.set_cons_zero, List.set_cons_succ]
    refine wpAnyH_take (i := 6) (v := ?_) rfl (by kernel_rfl) (by kernel_rfl) (by kernel_rfl) (fun _ _ _ h => h) (Or.inl ⟨by kernel_rfl, ?_⟩) (by assumption) ?_
    rotate_left
    · intro wS hSw
      (try dsimp only at hSw)
      go_simp
      try (with_reducible rfl)
    try simp only [List.getElem_toArray, List.getElem_cons_succ, List.getElem_cons_zero, Act.put, List.setIfInBounds_toArray, List.set_cons_zero, List.set_cons_succ]
    refine wpAnyH_take (i := 7) (v := ?_) rfl (by kernel_rfl) (by kernel_rfl) (by kernel_rfl) (fun _ _ _ h => h) (Or.inl ⟨by kernel_rfl, ?_⟩) (by assumption) ?_
    rotate_left
    · intro wS hSw
      (try dsimp only at hSw)
      go_simp
      try (with_reducible rfl)
    try simp only [List.getElem_toArray, List.getElem_cons_succ, List.getElem_cons_zero, Act.put, List.setIfInBounds_toArray, List.set_cons_zero, List.set_cons_succ]
    refine wpAnyH_ready (rs := [5]) (by kernel_rfl) (by simp) ?_
    refine AllReadyH.cons rfl (fun K hK => ?_) (AllReadyH.nil)
    go_simp
    go_at_call 15
    refine (Reach_any ((b :: qr).length + (h + 1)) (h + 1) (b :: qr) (some ⟨gq, oq, none⟩) qn qc (Nat.le_refl _) HQN.out.1 HQN.out.2.1 Q x _ y4 (HVV.out _ HE.out) (HQQ.out _ HE.out)).mono ?_
    rintro e y5 ⟨r1, rfl, hr1, hb5⟩
    have HE5 : Hid (Below wx.heap.size wx y5) := HE.out.trans (hb5.mono HE.out.size)
    have HR1 := Lib.hid hr1
    clear hb5 hr1 HE
    refine hK.out _ _ (by exact HK2.out _ HE5.out) (fun hHeld => ?_)
    clear hK K
    try simp only [List.getElem_toArray, List.getElem_cons_succ, List.getElem_cons_zero, Act.put, List.setIfInBounds_toArray, List.set_cons_zero, List.set_cons_succ]
    refine wpAnyH_ready (rs := [8]) (by kernel_rfl) (by simp) ?_
    refine AllReadyH.cons rfl (fun K hK => ?_) (AllReadyH.nil)
    go_simp
    go_at_call 15
    refine (Reach_any ((b :: qr).length + (h + 1)) (h + 1) (b :: qr) (some ⟨gq, oq, none⟩) qn qc (Nat.le_refl _) HQN.out.1 HQN.out.2.1 P (.mk 6 x.n x.s x.b (withF a (.mk 3 77 ⟨#[]⟩ [] [] []) x.f) x.l) _ y5 (HXV.out _ HE5.out) (HQQ.out _ HE5.out)).mono ?_
    rintro e y6 ⟨r2, rfl, hr2, hb6⟩
    have HE6 : Hid (Below wx.heap.size wx y6) := HE5.out.trans (hb6.mono HE5.out.size)
    have HR2 := Lib.hid hr2
    have HR1b := Lib.hid (VIn.keep (h := h + 2) hb6 HR1.out)
    clear hb6 hr2 HE5 HR1
    refine hK.out _ _ (by exact HK2.out _ HE6.out) (fun hHeld => ?_)
    clear hK K
    try simp only [List.getElem_toArray, List.getElem_cons_succ, List.getElem_cons_zero, Act.put, List.setIfInBounds_toArray, List.set_cons_zero, List.set_cons_succ]
    refine wpAnyH_ready (rs := [9]) (by kernel_rfl) (by simp) ?_
    refine AllReadyH.cons rfl (fun K hK => ?_) (AllReadyH.nil)
    go_simp
    go_at_call 14
    refine (same_any _ _ _ _ _ _ _ _ y6 HR1b.out HR2.out).mono ?_
    rintro e y7 ⟨b7, rfl, hb7, hw7⟩
    obtain rfl := hb7.2 HRE.out
    have HE7 : Hid (Below wx.heap.size wx y7) := HE6.out.trans (hw7.mono HE6.out.size)
    clear hb7 hw7 HE6 HR1b HR2
    refine hK.out _ _ (by exact HK2.out _ HE7.out) (fun hHeld => ?_)
    clear hK K
    try simp only [List.getElem_toArray, List.getElem_cons_succ, List.getElem_cons_zero, Act.put, List.setIfInBounds_toArray, List.set_cons_zero, List.set_cons_succ]
    refine wpAnyH_take (i := 10) (v := ?_) rfl (by kernel_rfl) (by kernel_rfl) (by kernel_rfl) (fun _ _ _ h => h) (Or.inl ⟨by kernel_rfl, ?_⟩) (by assumption) ?_
    rotate_left
    · intro wS hSw
      (try dsimp only at hSw)
      go_simp
      try (with_reducible rfl)
    try simp only [List.getElem_toArray, List.getElem_cons_succ, List.getElem_cons_zero, Act.put, List.setIfInBounds_toArray, List.set_cons_zero, List.set_cons_succ]
    refine wpAnyH_take (i := 11) (v := ?_) rfl (by kernel_rfl) (by kernel_rfl) (by kernel_rfl) (fun _ _ _ h => h) (Or.inl ⟨by kernel_rfl, ?_⟩) (by assumption) ?_
    rotate_left
    · intro wS hSw
      (try dsimp only at hSw)
      go_simp
      try (with_reducible rfl)
    try simp only [List.getElem_toArray, List.getElem_cons_succ, List.getElem_cons_zero, Act.put, List.setIfInBounds_toArray, List.set_cons_zero, List.set_cons_succ]
    refine wpAnyH_take (i := 12) (v := ?_) rfl (by kernel_rfl) (by kernel_rfl) (by kernel_rfl) (fun _ _ _ h => h) (Or.inl ⟨by kernel_rfl, ?_⟩) (by assumption) ?_
    rotate_left
    · intro wS hSw
      (try dsimp only at hSw)
      go_simp
      try (with_reducible rfl)
    try simp only [List.getElem_toArray, List.getElem_cons_succ, List.getElem_cons_zero, Act.put, List.setIfInBounds_toArray, List.set_cons_zero, List.set_cons_succ]
    refine wpAnyH_take (i := 13) (v := ?_) rfl (by kernel_rfl) (by kernel_rfl) (by kernel_rfl) (fun _ _ _ h => h) (Or.inl ⟨by kernel_rfl, ?_⟩) (by assumption) ?_
    rotate_left
    · intro wS hSw
      (try dsimp only at hSw)
      go_simp
      try (with_reducible rfl)
    try simp only [List.getElem_toArray, List.getElem_cons_succ, List.getElem_cons_zero, Act.put, List.setIfInBounds_toArray, List.set_cons_zero, List.set_cons_succ]
    refine wpAnyH_take (i := 15) (v := ?_) rfl (by kernel_rfl) (by kernel_rfl) (by kernel_rfl) (fun _ _ _ h => h) (Or.inl ⟨by kernel_rfl, ?_⟩) (by assumption) ?_
    rotate_left
    · intro wS hSw
      (try dsimp only at hSw)
      go_simp
      try (with_reducible rfl)
    try simp only [List.getElem_toArray, List.getElem_cons_succ, List.getElem_cons_zero, Act.put, List.setIfInBounds_toArray, List.set_cons_zero, List.set_cons_succ]
    refine wpAnyH_take (i := 16) (v := ?_) rfl (by kernel_rfl) (by kernel_rfl) (by kernel_rfl) (fun _ _ _ h => h) (Or.inl ⟨by kernel_rfl, ?_⟩) (by assumption) ?_
    rotate_left
    · intro wS hSw
      (try dsimp only at hSw)
      go_simp
      try (with_reducible rfl)
    try simp only [List.getElem_toArray, List.getElem_cons_succ, List.getElem_cons_zero, Act.put, List.setIfInBounds_toArray, List.set_cons_zero, List.set_cons_succ]
    refine wpAnyH_ready (rs := [14]) (by kernel_rfl) (by simp) ?_
    refine AllReadyH.cons rfl (fun K hK => ?_) (AllReadyH.nil)
    go_simp
    go_at_call 18
    refine (All_any ((b :: qr).length + (h + 1)) (h + 1) (b :: qr) (some ⟨gq, oq, none⟩) qn qc (Nat.le_refl _) HQN.out.1 HQN.out.2.1 Q x _ y7 (HVV.out _ HE7.out) (HQQ.out _ HE7.out) (Nat.le_trans HAL.out (by decide))).mono ?_
    rintro e y8 ⟨a8, c8, rfl, _, hi8, hw8⟩
    have HE8 : Hid (Below wx.heap.size wx y8) := HE7.out.trans (hw8.mono HE7.out.size)
    have HI8 := Lib.hid hi8
    clear hw8 hi8 HE7
    refine hK.out _ _ (by exact HK2.out _ HE8.out) (fun hHeld => ?_)
    clear hK K
    try simp only [List.getElem_toArray, List.getElem_cons_succ, List.getElem_cons_zero, Act.put, List.setIfInBounds_toArray, List.set_cons_zero, List.set_cons_succ]
    refine wpAnyH_ready (rs := [17]) (by kernel_rfl) (by simp) ?_
    refine AllReadyH.cons rfl (fun K hK => ?_) (AllReadyH.nil)
    go_simp
    go_at_call 18
    refine (All_any ((b :: qr).length + (h + 1)) (h + 1) (b :: qr) (some ⟨gq, oq, none⟩) qn qc (Nat.le_refl _) HQN.out.1 HQN.out.2.1 P (.mk 6 x.n x.s x.b (withF a (.mk 3 77 ⟨#[]⟩ [] [] []) x.f) x.l) _ y8 (HXV.out _ HE8.out) (HQQ.out _ HE8.out) (Nat.le_trans HAL2.out (by decide))).mono ?_
    rintro e y9 ⟨a9, c9, rfl, _, hi9, hw9⟩
    have HE9 : Hid (Below wx.heap.size wx y9) := HE8.out.trans (hw9.mono HE8.out.size)
    have HI8b := Lib.hid (HI8.out.kept (Kept.of_below hw9) (fun _ z => z) (fun _ _ z => VIn.keep (h := h + 2) hw9 z))
    have HI9 := Lib.hid hi9
    clear hw9 hi9 HE8 HI8
    refine hK.out _ _ (by exact HK2.out _ HE9.out) (fun hHeld => ?_)
    clear hK K
    try simp only [List.getElem_toArray, List.getElem_cons_succ, List.getElem_cons_zero, Act.put, List.setIfInBounds_toArray, List.set_cons_zero, List.set_cons_succ]
    refine wpAnyH_ready (rs := [18]) (by kernel_rfl) (by simp) ?_
    refine AllReadyH.cons rfl (fun K hK => ?_) (AllReadyH.nil)
    go_simp
    go_at_call 17
    refine (sameAll_any (h + 2) (h + 2) _ _ _ _ a8 a9 _ c8 _ c9 y9 rfl rfl (by have := HAL.out; omega) (by have := HAL2.out; omega) HI8b.out HI9.out).mono ?_
    rintro e yA ⟨b10, rfl, hb10, hw10⟩
    obtain rfl := hb10.2 HAE.out
    have HEA : Hid (Below wx.heap.size wx yA) := HE9.out.trans (hw10.mono HE9.out.size)
    clear hb10 hw10 HE9 HI8b HI9
    refine hK.out _ _ (by exact HK2.out _ HEA.out) (fun hHeld => ?_)
    clear hK K
    try simp only [List.getElem_toArray, List.getElem_cons_succ, List.getElem_cons_zero, Act.put, List.setIfInBounds_toArray, List.set_cons_zero, List.set_cons_succ]
    refine wpAnyH_take (i := 19) (v := ?_) rfl (by kernel_rfl) (by kernel_rfl) (by kernel_rfl) (fun _ _ _ h => h) (Or.inl ⟨by kernel_rfl, ?_⟩) (by assumption) ?_
    rotate_left
    · intro wS hSw
      (try dsimp only at hSw)
      go_simp
      try (with_reducible rfl)
    try simp only [List.getElem_toArray, List.getElem_cons_succ, List.getElem_cons_zero, Act.put, List.setIfInBounds_toArray, List.set_cons_zero, List.set_cons_succ]
    refine wpAnyH_take (i := 20) (v := ?_) rfl (by kernel_rfl) (by kernel_rfl) (by kernel_rfl) (fun _ _ _ h => h) (Or.inl ⟨by kernel_rfl, ?_⟩) (by assumption) ?_
    rotate_left
    · intro wS hSw
      (try dsimp only at hSw)
      go_simp
      try (with_reducible rfl)
    try simp only [List.getElem_toArray, List.getElem_cons_succ, List.getElem_cons_zero, Act.put, List.setIfInBounds_toArray, List.set_cons_zero, List.set_cons_succ]
    refine wpAnyH_done (by kernel_rfl) ?_ _
    go_wp2_with fail
    go_ret
    exact ⟨rfl, HGX.out _ HEA.out⟩
end Go.Proofs.YtdcfddiicclpeaaDoor
end
