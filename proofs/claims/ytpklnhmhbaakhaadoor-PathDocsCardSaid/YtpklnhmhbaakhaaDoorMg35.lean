/- PathDocsWalk. -/
import Derived.Deep.DeepCutAuto
import Derived.Deep.CutBlock
import Derived.Test.YtpklnhmhbaakhaaDoorMg22
import Derived.Test.YtpklnhmhbaakhaaDoorMg23
import Derived.Test.YtpklnhmhbaakhaaDoorMg34
import Derived.Test.YtpklnhmhbaakhaaDoorMg16
import Derived.Test.YtpklnhmhbaakhaaDoorMg19
import Derived.Test.YtpklnhmhbaakhaaDoorMg11
import Derived.Test.YtpklnhmhbaakhaaDoorMg9
import Derived.Test.YtpklnhmhbaakhaaDoorMg7
import Derived.Test.YtpklnhmhbaakhaaDoorMg14
set_option maxRecDepth 100000
section
namespace Go.Proofs.YtpklnhmhbaakhaaDoor
open Go.RowKit
open Seal
open Bson (Val)
open Path
theorem ne_x (a : ByteArray) : (fun a : ByteArray => a ++ (⟨#[120]⟩ : ByteArray)) a ≠ a := fun e => by
  have := congrArg ByteArray.size e
  simp only [ByteArray.size_append] at this
  have h1 : (⟨#[120]⟩ : ByteArray).size = 1 := rfl
  omega
set_option maxRecDepth 100000 in
set_option maxHeartbeats 4000000 in
theorem docs_any (Q : Nat → Prop) (h : Nat) (x : Val) (u : Value) (p : List ByteArray) (va : Value) (m : Nat) (w : World) (hv : VIn w Q (h + 2) x u) (hp : NamesAt w va p) (hs : Short p) (hm : m < 256) (hG : Ground w) :
    Calls Tryd.prog 3 #[va, u, .int .u8 m] w fun e w' => e = .returned (.bool true) ∧ Below w.heap.size w w' := by
  obtain ⟨ka, na, sa, ba, fa, la, bl, bc, fl, fc, ll, lc, rfl⟩ := hv.shape
  have hka : ka = x.kind := by obtain ⟨xk, xn, xs, ba', fa', la', bn, bc', fn, fc', ln, lc', e, hxk, -⟩ := hv.letters; injection e with e; injection e with e; injection e with e _; injection e with _ e; rw [e, hxk]
  obtain ⟨pa, pc, rfl, hpc, hpc2, hst⟩ := hp
  obtain ⟨pn, hpn⟩ : ∃ n, n = p.length := ⟨_, rfl⟩
  rw [← hpn] at hpc ⊢
  have hb0 : Below w.heap.size w (w.alloc (.cells #[.int .i64 ka, .int .i64 na, .string sa, .slice ba bl bc, .slice fa fl fc, .slice la ll lc] 27)) := (Below.refl _ w).alloc (Nat.le_refl _) _
  have HB0 := Lib.hid hb0
  have HV0 := Lib.hid (VIn.keep hb0 hv)
  have HVL := Lib.hid (VIn.keep (h := h + 2) hb0 (VIn.lt (h := h + 2) hv))
  have HS0 := Lib.hid (SixIs.new w (.int .i64 ka) (.int .i64 na) (.string sa) (.slice ba bl bc) (.slice fa fl fc) (.slice la ll lc) 27)
  have HP0 := Lib.hid (StrsIn.keep hst hb0)
  have HG0 := Lib.hid (hG.keep hb0)
  have HKA := Lib.hid hka
  have HPN := Lib.hid (And.intro hpn.symm (And.intro hpc (And.intro hpc2 hs)))
  clear hb0 hv hst hG hpn hpc hs hka
  go_enter Tryd.func3, Tryd.ntmps3
  go_wp2_with fail
  generalize w.alloc (.cells #[.int .i64 ka, .int .i64 na, .string sa, .slice ba bl bc, .slice fa fl fc, .slice la ll lc] 27) = w0 at *
  go_at_call 6
  refine (awake_any _ HG0.out).mono ?_
  rintro e w1 ⟨rfl, hb1⟩
  have HB1 := Lib.hid hb1
  clear hb1
  have HGO : Hid (∀ W, Below w0.heap.size w0 W → Below w.heap.size w W) := fun W hb => HB0.out.trans (hb.mono HB0.out.size)
  have HSK : Hid (∀ W, Below w0.heap.size w0 W → SixIs W w.heap.size (.int .i64 ka) (.int .i64 na) (.string sa) (.slice ba bl bc) (.slice fa fl fc) (.slice la ll lc)) := fun W hb => HS0.out.keep hb
  have HVK : Hid (∀ W, Below w0.heap.size w0 W → VIn W Q (h + 2) x (.agg #[.int .i64 ka, .int .i64 na, .string sa, .slice ba bl bc, .slice fa fl fc, .slice la ll lc])) := fun W hb => VIn.keep hb HV0.out
  have HPK : Hid (∀ W, Below w0.heap.size w0 W → StrsIn W pa p) := fun W hb => StrsIn.keep HP0.out hb
  have HAP : Hid (∀ W, Below w0.heap.size w0 W → NamesAt W (.slice pa pn pc) p) := fun W hb => ⟨pa, pc, by rw [HPN.out.1], by rw [HPN.out.1]; exact HPN.out.2.1, HPN.out.2.2.1, HPK.out W hb⟩
  have HVW : Hid (VIn w0 (fun g => Q g ∧ g < w.heap.size) (h + 2) x (.agg #[.int .i64 ka, .int .i64 na, .string sa, .slice ba bl bc, .slice fa fl fc, .slice la ll lc])) := HVL.out
  have HWL := Lib.hid HB0.out.size
  clear HS0 HP0 HG0 HV0 HB0 HVL
  go_wp2_with fail
  go_at_call 7
  refine (few_any _ p w1 (HAP.out w1 HB1.out).in HPN.out.2.2.2).mono ?_
  rintro e w2 ⟨rfl, hb2⟩
  have HB2 : Hid (Below w0.heap.size w0 w2) := HB1.out.trans (hb2.mono HB1.out.size)
  clear hb2 HB1
  obtain ⟨bf, hbf⟩ : ∃ bf, bf = few p := ⟨_, rfl⟩
  rw [← hbf]
  have HFW := Lib.hid hbf
  clear hbf
  cases bf with
  | false =>
    go_wp2_with fail
    go_ret
    exact ⟨rfl, HGO.out _ HB2.out⟩
  | true =>
  obtain ⟨s0, s1, s2, s3, s4, s5⟩ := HSK.out w2 HB2.out
  by_cases h12 : (12 : Int) < (pn : Int)
  · go_wp2_with fail
    go_ret
    exact ⟨rfl, HGO.out _ HB2.out⟩
  have H12 : Hid (pn ≤ 12) := by show pn ≤ 12; omega
  go_wp2_with fail
  go_at_call 8
  refine (valid_does Q (h + 1) x _ w2 (HVK.out w2 HB2.out)).mono ?_
  rintro e w4 ⟨b, rfl, hwt, hb4⟩
  have HB4 : Hid (Below w0.heap.size w0 w4) := HB2.out.trans (hb4.mono HB2.out.size)
  clear hb4 s0 s1 s2 s3 s4 s5 HB2
  cases b with
  | false =>
    go_wp2_with fail
    go_ret
    exact ⟨rfl, HGO.out _ HB4.out⟩
  | true =>
  have HWT := Lib.hid (hwt rfl)
  clear hwt
  obtain ⟨s0, s1, s2, s3, s4, s5⟩ := HSK.out w4 HB4.out
  have hw4 : w.heap.size < w4.heap.size := by
    have h1 := World.block_lt_of_cell? w4 _ s0
    exact h1
  have hw4' : ¬ w.heap.size = w4.heap.size := by omega
  have hsub : IntKind.i64.wrap ((pn : Int) - 1) = (pn : Int) - 1 := IntWalk.i64_in _ (by have := H12.out; omega)
  go_wp2_with fail
  have hbd : Below w4.heap.size w4 (w4.alloc (.cells #[.int .i64 ka, .int .i64 na, .string sa, .slice ba bl bc, .slice fa fl fc, .slice la ll lc] 27)) := (Below.refl _ w4).alloc (Nat.le_refl _) _
  have HN0 : Hid (NSt w4 (w4.alloc (.cells #[.int .i64 ka, .int .i64 na, .string sa, .slice ba bl bc, .slice fa fl fc, .slice la ll lc] 27)) w4.heap.size h x (.int .i64 ka) (.int .i64 na) (.string sa) (.slice ba bl bc) (.slice fa fl fc) (.slice la ll lc)) :=
    ⟨hbd, IsBox.new w4 _ _ _ _ _ _, VIn.kept (Kept.of_below hbd) (fun g hg => by have := HB4.out.size; have := HWL.out; omega) (VIn.keep (h := h + 2) HB4.out HVW.out)⟩
  clear hbd s0 s1 s2 s3 s4 s5 hw4 hw4'
  generalize w4.alloc (.cells #[.int .i64 ka, .int .i64 na, .string sa, .slice ba bl bc, .slice fa fl fc, .slice la ll lc] 27) = wd0 at *
  clear hsub
  go_loopw [8] (fun i wr => ∃ (r : Nat) (k : Nat) (c0 c1 c2 c3 c4 c5 : Value), i = .int .i64 ((r : Int) - 1) ∧ r + k = pn ∧ Hid (NSt w4 wr w4.heap.size (h + k) (Bson.nest (fun a => a ++ ⟨#[120]⟩) (.mk 2 0 ⟨#[]⟩ [] [] []) x (p.drop r)) c0 c1 c2 c3 c4 c5)) (fun i _ => ((intOf i) + 1).toNat)
  case atStart => exact ⟨pn, 0, _, _, _, _, _, _, rfl, rfl, by rw [← HPN.out.1, List.drop_length, Bson.nest]; exact HN0⟩
  case round =>
    clear HN0
    obtain ⟨r, k, c0, c1, c2, c3, c4, c5, rfl, hrk, HS⟩ := hrel
    match r, hrk, HS with
    | 0, hrk, HS =>
      obtain rfl : k = pn := by omega
      rw [List.drop_zero] at HS
      have hbw : Below w0.heap.size w0 wr := HB4.out.trans (HS.out.below.mono HB4.out.size)
      have HBW := Lib.hid hbw
      clear hbw
      obtain ⟨s0, s1, s2, s3, s4, s5⟩ := HSK.out wr HBW.out
      obtain ⟨b0, b1, b2, b3, b4, b5⟩ := HS.out.box.cells
      by_cases hmiss : (0 : Int) < (k : Int) ∧ ka = 0
      · obtain ⟨hm1, rfl⟩ := hmiss
        go_wp2_with fail
        go_ret
        exact ⟨rfl, HGO.out _ HBW.out⟩
      have HMS : Hid (p ≠ [] → x.kind ≠ 0) := fun h1 h2 => hmiss ⟨by have := HPN.out.1; have := List.length_pos_iff.2 h1; omega, by rw [HKA.out]; exact h2⟩
      have HALL : Hid (Bson.all (p.length + (h + k + 1)) (Bson.nest (fun a => a ++ ⟨#[120]⟩) (.mk 2 0 ⟨#[]⟩ [] [] []) x p) p = Bson.itself x) := Bson.all_nest ne_x _ x p _ (by omega) HMS.out
      have HREA : Hid (Bson.reach (p.length + (h + k + 1)) (Bson.nest (fun a => a ++ ⟨#[120]⟩) (.mk 2 0 ⟨#[]⟩ [] [] []) x p) p = x) := Bson.reach_nest ne_x _ x p _ (by omega)
      have HIL : Hid ((Bson.itself x).length ≤ 3000) := by
        have h1 := all_le 0 (h + 2) x [] (VIn.hgt HVW.out)
        rw [Bson.all_nil] at h1
        exact Nat.le_trans h1 HWT.out
      by_cases hm1 : (0 : Int) < (k : Int)
      · have hkz : (ka == 0) = false := by
          rw [beq_eq_false_iff_ne]; exact fun e => hmiss ⟨hm1, e⟩
        go_wp2_with fail
        go_at_call 9
        refine (All_any (p.length + (h + k + 1)) (h + k + 1) p pa k pc (Nat.le_refl _) HPN.out.1 HPN.out.2.1 (fun b => b ≠ w4.heap.size) _ _ wr HS.out.val (HPK.out wr HBW.out) (by rw [HALL.out]; exact Nat.le_trans HIL.out (by decide))).mono ?_
        rw [HALL.out]
        rintro e wa ⟨a1, cq, rfl, hc1, hi1, hb1⟩
        have HBA : Hid (Below w0.heap.size w0 wa) := HBW.out.trans (hb1.mono HBW.out.size)
        have HI1 := Lib.hid hi1
        have HDA := Lib.hid (VIn.keep (h := h + k + 2) hb1 HS.out.val)
        have HDB1 := Lib.hid (HS.out.box.keep hb1)
        have HVA : Hid (VIn wa (fun g => Q g ∧ g < w.heap.size) (h + 2) x (.agg #[.int .i64 ka, .int .i64 na, .string sa, .slice ba bl bc, .slice fa fl fc, .slice la ll lc])) := VIn.keep (h := h + 2) HBA.out HVW.out
        clear hc1 hi1 hb1 s0 s1 s2 s3 s4 s5 b0 b1 b2 b3 b4 b5 HS
        obtain ⟨s0, s1, s2, s3, s4, s5⟩ := HSK.out wa HBA.out
        have hl1 : w.heap.size < wa.heap.size := World.block_lt_of_cell? wa _ s0
        have hl2 : ¬ w.heap.size = wa.heap.size := by omega
        go_upto_if 67 with fail
        clear s0 s1 s2 s3 s4 s5 hl1 hl2
        have HACC : Hid (Acc (wa.alloc (.cells #[Value.int .i64 ka, .int .i64 na, .string sa, .slice ba bl bc, .slice fa fl fc, .slice la ll lc] 27)) wa.heap.size (.slice (some ⟨wa.heap.size, 0, none⟩) 1 1) (fun g => Q g ∧ g < w.heap.size) (h + 2) [x] [Value.int .i64 ka, .int .i64 na, .string sa, .slice ba bl bc, .slice fa fl fc, .slice la ll lc]) := acc_one HVA.out (fun g hg => by have := HWL.out; have := HBA.out.size; have := hg.2; omega)
        have HBN : Hid (Below wa.heap.size wa (wa.alloc (.cells #[Value.int .i64 ka, .int .i64 na, .string sa, .slice ba bl bc, .slice fa fl fc, .slice la ll lc] 27))) := (Below.refl _ wa).alloc (Nat.le_refl _) _
        have HVN : Hid (VIn (wa.alloc (.cells #[Value.int .i64 ka, .int .i64 na, .string sa, .slice ba bl bc, .slice fa fl fc, .slice la ll lc] 27)) (fun g => (Q g ∧ g < w.heap.size) ∧ (Value.slice (some ⟨wa.heap.size, 0, none⟩) 1 1).ownBlock ≠ some g) (h + 2) x (.agg #[.int .i64 ka, .int .i64 na, .string sa, .slice ba bl bc, .slice fa fl fc, .slice la ll lc])) := (VIn.keep (h := h + 2) HBN.out HVA.out).kept (h := h + 2) (Kept.of_below (Below.refl _ _)) (fun g hg => ⟨hg, fun e => by have := HWL.out; have := HBA.out.size; have := hg.2; have e2 : wa.heap.size = g := (by simpa [Value.ownBlock] using e); omega⟩)
        generalize wa.alloc (.cells #[Value.int .i64 ka, .int .i64 na, .string sa, .slice ba bl bc, .slice fa fl fc, .slice la ll lc] 27) = wb at *
        go_cut [10] (fun u W => Hid (WantIs wa x (h + 2) u W))
        case first =>
          by_cases h7 : ka = 7
          · obtain ⟨hln, hI5⟩ := VIn.items (h := h + 1) HVN.out
            obtain ⟨news, hn1, hn2, hn3, hn4⟩ := items_src' hI5 (show h + 1 ≤ h + 2 by omega)
            obtain ⟨i0, hi, hz0, hz1, hz2⟩ := info_parts infoV6
            have hit : Bson.itself x = [x] ++ x.l := by unfold Bson.itself; rw [if_pos (by rw [← HKA.out]; exact h7)]; rfl
            have hNl : 1 + ll ≤ 3000 := by have h1 := HIL.out; rw [hit, List.length_append, ← hln] at h1; exact h1
            rw [← hln] at hn1 hn2
            have HN1 := Lib.hid hn1
            have HN2 := Lib.hid hn2
            have HN3 := Lib.hid hn3
            have HN4 := Lib.hid hn4
            have HLN := Lib.hid hln
            have HIT := Lib.hid hit
            have HNL := Lib.hid hNl
            clear hn1 hn2 hn3 hn4 hln hI5 hit hNl
            obtain ⟨s0, s1, s2, s3, s4, s5⟩ := HSK.out wb (HBA.out.trans (HBN.out.mono HBA.out.size))
            subst h7
            go_wp2_with (at_builtin; refine wpList_append_any rfl (.tmp 68) (.tmp 70) 25 rfl wa.heap.size 27 i0 (.agg #[.int .i64 0, .int .i64 0, .string ⟨#[]⟩, .slice none 0 0, .slice none 0 0, .slice none 0 0]) 6 104 Tryd.underlying25 hi hz0 hz1 hz2 rfl (.slice (some ⟨wa.heap.size, 0, none⟩) 1 1) 1 _ rfl HACC.out.own la ll lc news rfl HN1.out (by decide) HN2.out HN3.out (by have := HNL.out; unfold maxLen; omega) (by have := HNL.out; omega) HBN.out.size ?_)
            intro v6 w6 hown6 hw6
            have HA6 : Hid (Acc w6 wa.heap.size v6 (fun g => Q g ∧ g < w.heap.size) (h + 2) ([x] ++ x.l) _) := HACC.out.append hw6 (by rw [← HLN.out]; exact hown6) HN4.out (by rw [← HLN.out]; exact HN1.out)
            have HB6 : Hid (Below wa.heap.size wa w6) := wrote_below HBN.out (Nat.le_refl _) hw6 (fun g e => Nat.le_of_eq (by simpa [Value.ownBlock] using e))
            clear hown6 hw6 s0 s1 s2 s3 s4 s5
            go_wp2_with fail
            go_meet
            exact want_of (by rw [HIT.out]; exact HA6.out) HB6.out
          · have hit : Bson.itself x = [x] := by unfold Bson.itself; rw [if_neg (by rw [← HKA.out]; exact h7)]
            have HIT := Lib.hid hit
            clear hit
            go_wp2_with fail
            go_meet
            exact want_of (by rw [HIT.out]; exact HACC.out) HBN.out
        case rest =>
        clear HACC HVN HBN HVA
        obtain ⟨aw, cw, rfl, hiw, hbw⟩ := hcut.out
        have HB2 : Hid (Below w0.heap.size w0 wc) := HBA.out.trans (hbw.mono HBA.out.size)
        have HI2 := Lib.hid (HI1.out.kept (Kept.of_below hbw) (fun _ z => z) (fun _ _ z => VIn.keep hbw z))
        have HW2 := Lib.hid hiw
        have HD2 := Lib.hid (VIn.keep (h := h + k + 2) hbw HDA.out)
        have HDB2 := Lib.hid (HDB1.out.keep hbw)
        clear hiw hbw hcut HI1 HDA HDB1 HBA
        obtain ⟨iS, gi, gz0, gz1, gz2⟩ := info_parts infoS
        have HBC : Hid (Below w0.heap.size w0 (wc.alloc (.cells #[] 9))) := HB2.out.alloc HB2.out.size _
        have HST := Lib.hid (strs_src (HPK.out _ HBC.out))
        rw [HPN.out.1] at HST
        have HOW : Hid ((wc.alloc (.cells #[] 9)).ownsRow wc.heap.size 9 1 (.slice (some ⟨wc.heap.size, 0, none⟩) 0 0) 0 []) := World.ownsRow_made wc #[] 0 (Nat.le_refl _) (by unfold maxLen; omega) rfl
        have HBD : Hid (Below wc.heap.size wc (wc.alloc (.cells #[] 9))) := (Below.refl _ wc).alloc (Nat.le_refl _) _
        have hk12 := H12.out
        go_wp2_with (at_builtin; refine wpList_append_any rfl (.tmp 72) (.tmp 73) 22 rfl wc.heap.size 9 iS (.string ⟨#[]⟩) 1 16 Tryd.underlying22 gi gz0 gz1 gz2 rfl (.slice (some ⟨wc.heap.size, 0, none⟩) 0 0) 0 [] rfl HOW.out pa k pc (p.map Value.string) rfl (by rw [List.length_map, HPN.out.1]; omega) (by decide) HST.out (strs_one p) (by unfold maxLen; omega) (by omega) HBD.out.size ?_)
        intro v7 w7 hown7 hw7
        have hbc7 : Below wc.heap.size wc w7 := wrote_below HBD.out (Nat.le_refl _) hw7 (fun g e => Nat.le_of_eq (by simpa [Value.ownBlock] using e))
        clear hw7 HST HOW HBC HBD
        have HC7 := Lib.hid hbc7
        clear hbc7
        obtain ⟨g7, c7, rfl, hg7, hkc, hc7, ho7⟩ := (strs_row hown7).resolve_left (fun e => by have := e.2; omega)
        clear hown7
        obtain ⟨kk, hkk⟩ : ∃ kk, kk = m % k := ⟨_, rfl⟩
        have hk0 : 0 < k := by omega
        have hkl : kk < k := by rw [hkk]; exact Nat.mod_lt _ hk0
        have hkp : kk < p.length := by rw [HPN.out.1]; exact hkl
        have hrem : (m : Int) % (k : Int) = (kk : Int) := by rw [hkk]; rfl
        obtain ⟨nm, hnm⟩ : ∃ z, z = p[kk] := ⟨_, rfl⟩
        obtain ⟨nb, hnb⟩ : ∃ z, z = nm ++ (⟨#[120, 120]⟩ : ByteArray) := ⟨_, rfl⟩
        have hnms : nm.size ≤ 1000 := by
          have h1 : bulk p ≤ 1000 := by have := HFW.out; unfold few at this; simp at this; exact this.2
          have h2 : nm.size ≤ bulk p := by rw [hnm]; exact mem_le_sum (fun z : ByteArray => z.size) p p[kk] (List.getElem_mem hkp)
          omega
        have hnz : nb.size = nm.size + 2 := by rw [hnb, ByteArray.size_append]; rfl
        have hn1 : p[kk] ≠ nb := fun e => by have := congrArg ByteArray.size e; rw [← hnm] at this; omega
        have hn2 : (fun a : ByteArray => a ++ (⟨#[120]⟩ : ByteArray)) p[kk] ≠ nb := fun e => by
          have h3 := congrArg ByteArray.size e
          simp only [ByteArray.size_append, ← hnm] at h3
          have h4 : (⟨#[120]⟩ : ByteArray).size = 1 := rfl
          omega
        have HALL2 : Hid (Bson.all (p.length + (h + k + 1)) (Bson.nest (fun a => a ++ ⟨#[120]⟩) (.mk 2 0 ⟨#[]⟩ [] [] []) x p) (p.set kk nb) = [Bson.zero]) := Bson.all_lost ne_x _ x (HMS.out (fun e => by rw [e] at hkp; simp at hkp)) p kk _ nb hkp (by omega) hn1 hn2
        have HREA2 : Hid (Bson.reach (p.length + (h + k + 1)) (Bson.nest (fun a => a ++ ⟨#[120]⟩) (.mk 2 0 ⟨#[]⟩ [] [] []) x p) (p.set kk nb) = Bson.zero) := Bson.reach_lost ne_x _ x p kk _ nb hkp (by omega) hn1 hn2
        have HO7 := Lib.hid ho7
        have HG7 := Lib.hid hg7
        have HKC := Lib.hid (And.intro hkc hc7)
        have HNB := Lib.hid hnb
        have q0 : w7.cell? ⟨g7, kk, none⟩ = some (.string nm) := by rw [HO7.out.cellAt kk (by omega), List.getElem?_map, List.getElem?_eq_getElem hkp, hnm]; rfl
        have q1 : w7.frozen? ⟨g7, kk, none⟩ = false := HO7.out.frozenAt kk
        have HKP := Lib.hid (And.intro hkp hkl)
        have hki : (kk : Int) < (k : Int) := by omega
        have hnl : ¬ 9223372036854775807 < nm.size + 2 := by omega
        clear hn1 hn2 hnz hnms ho7 hg7 hkc hc7 hnm hnb hkk hkp
        go_upto_region 20 with fail
        rw [← HNB.out]
        clear q0 q1 hki hnl hk12 hrem
        have ho8 := HO7.out.stored kk (.string nb)
        have HB8 : Hid (Below wc.heap.size wc (w7.setCell ⟨g7, kk, none⟩ (.string nb))) := HC7.out.setCell HG7.out _
        have HS8 : Hid (StrsIn (w7.setCell ⟨g7, kk, none⟩ (.string nb)) (some ⟨g7, 0, none⟩) (p.set kk nb)) := strs_in (n := k) (c := c7) (base := wc.heap.size) (by rw [List.map_set]; exact ho8.1)
        clear ho8 HO7
        generalize w7.setCell ⟨g7, kk, none⟩ (.string nb) = w8 at *
        have HB9 : Hid (Below w0.heap.size w0 w8) := HB2.out.trans (HB8.out.mono HB2.out.size)
        have HI8 := Lib.hid (HI2.out.kept (Kept.of_below HB8.out) (fun _ z => z) (fun _ _ z => VIn.keep HB8.out z))
        have HW8 := Lib.hid (HW2.out.kept (Kept.of_below HB8.out) (fun _ z => z) (fun _ _ z => VIn.keep HB8.out z))
        have HD8 := Lib.hid (VIn.keep (h := h + k + 2) HB8.out HD2.out)
        have HDB8 := Lib.hid (HDB2.out.keep HB8.out)
        clear HI2 HW2 HD2 HDB2 HB2 HC7 HB8
        have HPL : Hid ((p.set kk nb).length = k) := by show _ = _; rw [List.length_set]; exact HPN.out.1
        obtain ⟨b0, b1, b2, b3, b4, b5⟩ := HDB8.out.cells
        go_wp2_with fail
        go_at_call 9
        refine (All_any (p.length + (h + k + 1)) (h + k + 1) (p.set kk nb) _ k c7 (by rw [List.length_set]; exact Nat.le_refl _) HPL.out HKC.out.1 _ _ _ w8 HD8.out HS8.out (by rw [HALL2.out]; decide)).mono ?_
        rw [HALL2.out]
        rintro e w9 ⟨a3, c3q, rfl, -, hi3, hb9⟩
        have HB10 : Hid (Below w0.heap.size w0 w9) := HB9.out.trans (hb9.mono HB9.out.size)
        have HI9 := Lib.hid (HI8.out.kept (Kept.of_below hb9) (fun _ z => z) (fun _ _ z => VIn.keep hb9 z))
        have HW9 := Lib.hid (HW8.out.kept (Kept.of_below hb9) (fun _ z => z) (fun _ _ z => VIn.keep hb9 z))
        have HD9 := Lib.hid (VIn.keep (h := h + k + 2) hb9 HD8.out)
        have HDB9 := Lib.hid (HDB8.out.keep hb9)
        have HS9 := Lib.hid (HS8.out.keep hb9)
        have HI3 := Lib.hid hi3
        clear b0 b1 b2 b3 b4 b5 HI8 HW8 HD8 HDB8 HS8 hi3 hb9 HB9
        obtain ⟨b0, b1, b2, b3, b4, b5⟩ := HDB9.out.cells
        go_wp2_with fail
        go_at_call 10
        refine (Reach_any (p.length + (h + k + 1)) (h + k + 1) (p.set kk nb) _ k c7 (by rw [List.length_set]; exact Nat.le_refl _) HPL.out HKC.out.1 _ _ _ w9 HD9.out HS9.out).mono ?_
        rw [HREA2.out]
        rintro e w10 ⟨v10, rfl, hv10, hb10⟩
        have HB : Hid (Below w0.heap.size w0 w10) := HB10.out.trans (hb10.mono HB10.out.size)
        have HI := Lib.hid (HI9.out.kept (Kept.of_below hb10) (fun _ z => z) (fun _ _ z => VIn.keep hb10 z))
        have HW := Lib.hid (HW9.out.kept (Kept.of_below hb10) (fun _ z => z) (fun _ _ z => VIn.keep hb10 z))
        have HD := Lib.hid (VIn.keep (h := h + k + 2) hb10 HD9.out)
        have HDB := Lib.hid (HDB9.out.keep hb10)
        obtain ⟨g3, o3, hg3, _, hall3⟩ := HI3.out.resolve_left (by simp)
        obtain ⟨v3, hsix3, hv3⟩ := hall3 0 (by simp)
        obtain ⟨zk, zn, zs, zb, zf, zl, zbn, zbc, zfn, zfc, zln, zlc, rfl, hzk, -⟩ := VIn.letters (h := h + k + 1) hv3
        obtain ⟨yk, yn, ys, yb, yf, yl, ybn, ybc, yfn, yfc, yln, ylc, rfl, hyk, -⟩ := VIn.letters (h := h + k + 1) hv10
        have hzk0 : zk = 0 := hzk
        have hyk0 : yk = 0 := hyk
        subst hzk0
        subst hyk0
        subst hg3
        obtain ⟨z0p, -, -, -, -, -⟩ := (hsix3.keep hb10).cells
        have z0 : w10.cell? ⟨g3, o3, none⟩ = some (.int .i64 0) := z0p
        clear z0p
        have hfd : (Instr.field 27 (.agg #[.int .i64 0, .int .i64 yn, .string ys, .slice yb ybn ybc, .slice yf yfn yfc, .slice yl yln ylc]) 0).run Tryd.prog w10 = .ok (.int .i64 0) w10 := by kernel_rfl
        clear b0 b1 b2 b3 b4 b5 HI9 HW9 HD9 HDB9 HS9 HB10 hb10 hv10 hall3 hsix3 hv3 HI3 hzk hyk
        go_wp2_with fail
        clear z0 hfd
        have HK2 : Hid (∀ W, Below w10.heap.size w10 W → (W.cell? ⟨w4.heap.size, 0, none⟩ = some (c0) ∧ W.cell? ⟨w4.heap.size, 1, none⟩ = some (c1) ∧ W.cell? ⟨w4.heap.size, 2, none⟩ = some (c2) ∧ W.cell? ⟨w4.heap.size, 3, none⟩ = some (c3) ∧ W.cell? ⟨w4.heap.size, 4, none⟩ = some (c4) ∧ W.cell? ⟨w4.heap.size, 5, none⟩ = some (c5)) ∧ (W.cell? ⟨w.heap.size, 0, none⟩ = some (Value.int .i64 ka) ∧ W.cell? ⟨w.heap.size, 1, none⟩ = some (.int .i64 na) ∧ W.cell? ⟨w.heap.size, 2, none⟩ = some (.string sa) ∧ W.cell? ⟨w.heap.size, 3, none⟩ = some (.slice ba bl bc) ∧ W.cell? ⟨w.heap.size, 4, none⟩ = some (.slice fa fl fc) ∧ W.cell? ⟨w.heap.size, 5, none⟩ = some (.slice la ll lc))) := fun W hb => ⟨(HDB.out.keep hb).cells, HSK.out W (HB.out.trans (hb.mono HB.out.size))⟩
        have hkeep := HK2.out _ (Below.refl _ w10).drew
        refine wp_region_held_drew (S := fun W => (W.cell? ⟨w4.heap.size, 0, none⟩ = some (c0) ∧ W.cell? ⟨w4.heap.size, 1, none⟩ = some (c1) ∧ W.cell? ⟨w4.heap.size, 2, none⟩ = some (c2) ∧ W.cell? ⟨w4.heap.size, 3, none⟩ = some (c3) ∧ W.cell? ⟨w4.heap.size, 4, none⟩ = some (c4) ∧ W.cell? ⟨w4.heap.size, 5, none⟩ = some (c5)) ∧ (W.cell? ⟨w.heap.size, 0, none⟩ = some (Value.int .i64 ka) ∧ W.cell? ⟨w.heap.size, 1, none⟩ = some (.int .i64 na) ∧ W.cell? ⟨w.heap.size, 2, none⟩ = some (.string sa) ∧ W.cell? ⟨w.heap.size, 3, none⟩ = some (.slice ba bl bc) ∧ W.cell? ⟨w.heap.size, 4, none⟩ = some (.slice fa fl fc) ∧ W.cell? ⟨w.heap.size, 5, none⟩ = some (.slice la ll lc))) (by kernel_rfl) (by exact hkeep) (fun hHeld => ?_)
        clear hkeep
        have HE : Hid (Below w10.heap.size w10 w10.drew) := (Below.refl _ w10).drew
        generalize w10.drew = y4 at *
        refine wpAnyH_take (i := 0) (v := ?_) rfl (by kernel_rfl) (by kernel_rfl) (by kernel_rfl) (fun _ _ _ h => h) (Or.inl ⟨by kernel_rfl, ?_⟩) (by assumption) ?_
        rotate_left
        · intro wS hSw
          (try dsimp only at hSw)
          go_simp
          try (with_reducible rfl)
        try simp only [List.getElem_toArray, List.getElem_cons_zero, Act.put, List.setIfInBounds_toArray, List.set_cons_zero, List.set_cons_succ]
        refine wpAnyH_take (i := 1) (v := ?_) rfl (by kernel_rfl) (by kernel_rfl) (by kernel_rfl) (fun _ _ _ h => h) (Or.inl ⟨by kernel_rfl, ?_⟩) (by assumption) ?_
        rotate_left
        · intro wS hSw
          (try dsimp only at hSw)
          go_simp
          try (with_reducible rfl)
        try simp only [List.getElem_toArray, List.getElem_cons_succ, List.getElem_cons_zero, Act.put, List.setIfInBounds_toArray, List.set_cons_zero, List.set_cons_succ]
        refine wpAnyH_take (i := 3) (v := ?_) rfl (by kernel_rfl) (by kernel_rfl) (by kernel_rfl) (fun _ _ _ h => h) (Or.inl ⟨by kernel_rfl, ?_⟩) (by assumption) ?_
        rotate_left
        · intro wS hSw
          (try dsimp only at hSw)
          go_simp
          try (with_reducible rfl)
        try simp only [List.getElem_toArray, List.getElem_cons_succ, List.getElem_cons_zero, Act.put, List.setIfInBounds_toArray, List.set_cons_zero, List.set_cons_succ]
        refine wpAnyH_ready (rs := [2]) (by kernel_rfl) (by simp) ?_
        refine AllReadyH.cons rfl (fun K hK => ?_) (AllReadyH.nil)
        go_simp
        go_at_call 10
        refine (Reach_any (p.length + (h + k + 1)) (h + k + 1) p pa k pc (Nat.le_refl _) HPN.out.1 HPN.out.2.1 _ _ _ y4 (VIn.keep (h := h + k + 2) HE.out HD.out) (HPK.out y4 (HB.out.trans (HE.out.mono HB.out.size)))).mono ?_
        rintro e y5 ⟨r1, rfl, hr1, hb5⟩
        have HE5 : Hid (Below w10.heap.size w10 y5) := HE.out.trans (hb5.mono HE.out.size)
        rw [HREA.out] at hr1
        have HR1 := Lib.hid hr1
        clear hb5 hr1 HE
        refine hK.out _ _ (by exact HK2.out _ HE5.out) (fun hHeld => ?_)
        clear hK K
        try simp only [List.getElem_toArray, List.getElem_cons_succ, List.getElem_cons_zero, Act.put, List.setIfInBounds_toArray, List.set_cons_zero, List.set_cons_succ]
        refine wpAnyH_ready (rs := [4]) (by kernel_rfl) (by simp) ?_
        refine AllReadyH.cons rfl (fun K hK => ?_) (AllReadyH.nil)
        go_simp
        go_at_call 11
        refine (same_any _ _ _ _ _ _ _ _ y5 HR1.out (HVK.out y5 (HB.out.trans (HE5.out.mono HB.out.size)))).mono ?_
        rintro e y6 ⟨b6, rfl, hb6, hw6⟩
        obtain rfl := hb6.2 rfl
        have HE6 : Hid (Below w10.heap.size w10 y6) := HE5.out.trans (hw6.mono HE5.out.size)
        clear hb6 hw6 HE5 HR1
        refine hK.out _ _ (by exact HK2.out _ HE6.out) (fun hHeld => ?_)
        clear hK K
        try simp only [List.getElem_toArray, List.getElem_cons_succ, List.getElem_cons_zero, Act.put, List.setIfInBounds_toArray, List.set_cons_zero, List.set_cons_succ]
        refine wpAnyH_take (i := 5) (v := ?_) rfl (by kernel_rfl) (by kernel_rfl) (by kernel_rfl) (fun _ _ _ h => h) (Or.inl ⟨by kernel_rfl, ?_⟩) (by assumption) ?_
        rotate_left
        · intro wS hSw
          (try dsimp only at hSw)
          go_simp
          try (with_reducible rfl)
        try simp only [List.getElem_toArray, List.getElem_cons_succ, List.getElem_cons_zero, Act.put, List.setIfInBounds_toArray, List.set_cons_zero, List.set_cons_succ]
        refine wpAnyH_take (i := 6) (v := ?_) rfl (by kernel_rfl) (by kernel_rfl) (by kernel_rfl) (fun _ _ _ h => h) (Or.inl ⟨by kernel_rfl, ?_⟩) (by assumption) ?_
        rotate_left
        · intro wS hSw
          (try dsimp only at hSw)
          go_simp
          try (with_reducible rfl)
        try simp only [List.getElem_toArray, List.getElem_cons_succ, List.getElem_cons_zero, Act.put, List.setIfInBounds_toArray, List.set_cons_zero, List.set_cons_succ]
        refine wpAnyH_take (i := 7) (v := ?_) rfl (by kernel_rfl) (by kernel_rfl) (by kernel_rfl) (fun _ _ _ h => h) (Or.inl ⟨by kernel_rfl, ?_⟩) (by assumption) ?_
        rotate_left
        · intro wS hSw
          (try dsimp only at hSw)
          go_simp
          try (with_reducible rfl)
        try simp only [List.getElem_toArray, List.getElem_cons_succ, List.getElem_cons_zero, Act.put, List.setIfInBounds_toArray, List.set_cons_zero, List.set_cons_succ]
        refine wpAnyH_ready (rs := [8]) (by kernel_rfl) (by simp) ?_
        refine AllReadyH.cons rfl (fun K hK => ?_) (AllReadyH.nil)
        go_simp
        go_at_call 12
        refine (sameAll_any _ _ _ _ _ _ a1 aw _ cq _ cw y6 rfl rfl (by have := HIL.out; omega) (by have := HIL.out; omega) (HI.out.kept (Kept.of_below HE6.out) (fun _ z => z) (fun _ _ z => VIn.keep HE6.out z)) (HW.out.kept (Kept.of_below HE6.out) (fun _ z => z) (fun _ _ z => VIn.keep HE6.out z))).mono ?_
        rintro e y7 ⟨b7, rfl, hb7, hw7⟩
        obtain rfl := hb7.2 rfl
        have HE7 : Hid (Below w10.heap.size w10 y7) := HE6.out.trans (hw7.mono HE6.out.size)
        clear hb7 hw7 HE6
        refine hK.out _ _ (by exact HK2.out _ HE7.out) (fun hHeld => ?_)
        clear hK K
        try simp only [List.getElem_toArray, List.getElem_cons_succ, List.getElem_cons_zero, Act.put, List.setIfInBounds_toArray, List.set_cons_zero, List.set_cons_succ]
        refine wpAnyH_take (i := 9) (v := ?_) rfl (by kernel_rfl) (by kernel_rfl) (by kernel_rfl) (fun _ _ _ h => h) (Or.inl ⟨by kernel_rfl, ?_⟩) (by assumption) ?_
        rotate_left
        · intro wS hSw
          (try dsimp only at hSw)
          go_simp
          try (with_reducible rfl)
        try simp only [List.getElem_toArray, List.getElem_cons_succ, List.getElem_cons_zero, Act.put, List.setIfInBounds_toArray, List.set_cons_zero, List.set_cons_succ]
        refine wpAnyH_take (i := 10) (v := ?_) rfl (by kernel_rfl) (by kernel_rfl) (by kernel_rfl) (fun _ _ _ h => h) (Or.inl ⟨by kernel_rfl, ?_⟩) (by assumption) ?_
        rotate_left
        · intro wS hSw
          (try dsimp only at hSw)
          go_simp
          try (with_reducible rfl)
        try simp only [List.getElem_toArray, List.getElem_cons_succ, List.getElem_cons_zero, Act.put, List.setIfInBounds_toArray, List.set_cons_zero, List.set_cons_succ]
        refine wpAnyH_done (by kernel_rfl) ?_ _
        go_wp2_with fail
        go_ret
        exact ⟨rfl, HGO.out _ (HB.out.trans (HE7.out.mono HB.out.size))⟩
      ·
        go_wp2_with fail
        go_at_call 9
        refine (All_any (p.length + (h + k + 1)) (h + k + 1) p pa k pc (Nat.le_refl _) HPN.out.1 HPN.out.2.1 (fun b => b ≠ w4.heap.size) _ _ wr HS.out.val (HPK.out wr HBW.out) (by rw [HALL.out]; exact Nat.le_trans HIL.out (by decide))).mono ?_
        rw [HALL.out]
        rintro e wa ⟨a1, cq, rfl, hc1, hi1, hb1⟩
        have HBA : Hid (Below w0.heap.size w0 wa) := HBW.out.trans (hb1.mono HBW.out.size)
        have HI1 := Lib.hid hi1
        have HDA := Lib.hid (VIn.keep (h := h + k + 2) hb1 HS.out.val)
        have HDB1 := Lib.hid (HS.out.box.keep hb1)
        have HVA : Hid (VIn wa (fun g => Q g ∧ g < w.heap.size) (h + 2) x (.agg #[.int .i64 ka, .int .i64 na, .string sa, .slice ba bl bc, .slice fa fl fc, .slice la ll lc])) := VIn.keep (h := h + 2) HBA.out HVW.out
        clear hc1 hi1 hb1 s0 s1 s2 s3 s4 s5 b0 b1 b2 b3 b4 b5 HS
        obtain ⟨s0, s1, s2, s3, s4, s5⟩ := HSK.out wa HBA.out
        have hl1 : w.heap.size < wa.heap.size := World.block_lt_of_cell? wa _ s0
        have hl2 : ¬ w.heap.size = wa.heap.size := by omega
        go_upto_if 67 with fail
        clear s0 s1 s2 s3 s4 s5 hl1 hl2
        have HACC : Hid (Acc (wa.alloc (.cells #[Value.int .i64 ka, .int .i64 na, .string sa, .slice ba bl bc, .slice fa fl fc, .slice la ll lc] 27)) wa.heap.size (.slice (some ⟨wa.heap.size, 0, none⟩) 1 1) (fun g => Q g ∧ g < w.heap.size) (h + 2) [x] [Value.int .i64 ka, .int .i64 na, .string sa, .slice ba bl bc, .slice fa fl fc, .slice la ll lc]) := acc_one HVA.out (fun g hg => by have := HWL.out; have := HBA.out.size; have := hg.2; omega)
        have HBN : Hid (Below wa.heap.size wa (wa.alloc (.cells #[Value.int .i64 ka, .int .i64 na, .string sa, .slice ba bl bc, .slice fa fl fc, .slice la ll lc] 27))) := (Below.refl _ wa).alloc (Nat.le_refl _) _
        have HVN : Hid (VIn (wa.alloc (.cells #[Value.int .i64 ka, .int .i64 na, .string sa, .slice ba bl bc, .slice fa fl fc, .slice la ll lc] 27)) (fun g => (Q g ∧ g < w.heap.size) ∧ (Value.slice (some ⟨wa.heap.size, 0, none⟩) 1 1).ownBlock ≠ some g) (h + 2) x (.agg #[.int .i64 ka, .int .i64 na, .string sa, .slice ba bl bc, .slice fa fl fc, .slice la ll lc])) := (VIn.keep (h := h + 2) HBN.out HVA.out).kept (h := h + 2) (Kept.of_below (Below.refl _ _)) (fun g hg => ⟨hg, fun e => by have := HWL.out; have := HBA.out.size; have := hg.2; have e2 : wa.heap.size = g := (by simpa [Value.ownBlock] using e); omega⟩)
        generalize wa.alloc (.cells #[Value.int .i64 ka, .int .i64 na, .string sa, .slice ba bl bc, .slice fa fl fc, .slice la ll lc] 27) = wb at *
        go_cut [10] (fun u W => Hid (WantIs wa x (h + 2) u W))
        case first =>
          by_cases h7 : ka = 7
          · obtain ⟨hln, hI5⟩ := VIn.items (h := h + 1) HVN.out
            obtain ⟨news, hn1, hn2, hn3, hn4⟩ := items_src' hI5 (show h + 1 ≤ h + 2 by omega)
            obtain ⟨i0, hi, hz0, hz1, hz2⟩ := info_parts infoV6
            have hit : Bson.itself x = [x] ++ x.l := by unfold Bson.itself; rw [if_pos (by rw [← HKA.out]; exact h7)]; rfl
            have hNl : 1 + ll ≤ 3000 := by have h1 := HIL.out; rw [hit, List.length_append, ← hln] at h1; exact h1
            rw [← hln] at hn1 hn2
            have HN1 := Lib.hid hn1
            have HN2 := Lib.hid hn2
            have HN3 := Lib.hid hn3
            have HN4 := Lib.hid hn4
            have HLN := Lib.hid hln
            have HIT := Lib.hid hit
            have HNL := Lib.hid hNl
            clear hn1 hn2 hn3 hn4 hln hI5 hit hNl
            obtain ⟨s0, s1, s2, s3, s4, s5⟩ := HSK.out wb (HBA.out.trans (HBN.out.mono HBA.out.size))
            subst h7
            go_wp2_with (at_builtin; refine wpList_append_any rfl (.tmp 68) (.tmp 70) 25 rfl wa.heap.size 27 i0 (.agg #[.int .i64 0, .int .i64 0, .string ⟨#[]⟩, .slice none 0 0, .slice none 0 0, .slice none 0 0]) 6 104 Tryd.underlying25 hi hz0 hz1 hz2 rfl (.slice (some ⟨wa.heap.size, 0, none⟩) 1 1) 1 _ rfl HACC.out.own la ll lc news rfl HN1.out (by decide) HN2.out HN3.out (by have := HNL.out; unfold maxLen; omega) (by have := HNL.out; omega) HBN.out.size ?_)
            intro v6 w6 hown6 hw6
            have HA6 : Hid (Acc w6 wa.heap.size v6 (fun g => Q g ∧ g < w.heap.size) (h + 2) ([x] ++ x.l) _) := HACC.out.append hw6 (by rw [← HLN.out]; exact hown6) HN4.out (by rw [← HLN.out]; exact HN1.out)
            have HB6 : Hid (Below wa.heap.size wa w6) := wrote_below HBN.out (Nat.le_refl _) hw6 (fun g e => Nat.le_of_eq (by simpa [Value.ownBlock] using e))
            clear hown6 hw6 s0 s1 s2 s3 s4 s5
            go_wp2_with fail
            go_meet
            exact want_of (by rw [HIT.out]; exact HA6.out) HB6.out
          · have hit : Bson.itself x = [x] := by unfold Bson.itself; rw [if_neg (by rw [← HKA.out]; exact h7)]
            have HIT := Lib.hid hit
            clear hit
            go_wp2_with fail
            go_meet
            exact want_of (by rw [HIT.out]; exact HACC.out) HBN.out
        case rest =>
        clear HACC HVN HBN HVA
        obtain ⟨aw, cw, rfl, hiw, hbw⟩ := hcut.out
        have HB2 : Hid (Below w0.heap.size w0 wc) := HBA.out.trans (hbw.mono HBA.out.size)
        have HI2 := Lib.hid (HI1.out.kept (Kept.of_below hbw) (fun _ z => z) (fun _ _ z => VIn.keep hbw z))
        have HW2 := Lib.hid hiw
        have HD2 := Lib.hid (VIn.keep (h := h + k + 2) hbw HDA.out)
        have HDB2 := Lib.hid (HDB1.out.keep hbw)
        clear hiw hbw hcut HI1 HDA HDB1 HBA
        obtain ⟨iS, gi, gz0, gz1, gz2⟩ := info_parts infoS
        have HBC : Hid (Below w0.heap.size w0 (wc.alloc (.cells #[] 9))) := HB2.out.alloc HB2.out.size _
        have HST := Lib.hid (strs_src (HPK.out _ HBC.out))
        rw [HPN.out.1] at HST
        have HOW : Hid ((wc.alloc (.cells #[] 9)).ownsRow wc.heap.size 9 1 (.slice (some ⟨wc.heap.size, 0, none⟩) 0 0) 0 []) := World.ownsRow_made wc #[] 0 (Nat.le_refl _) (by unfold maxLen; omega) rfl
        have HBD : Hid (Below wc.heap.size wc (wc.alloc (.cells #[] 9))) := (Below.refl _ wc).alloc (Nat.le_refl _) _
        have hk12 := H12.out
        go_wp2_with (at_builtin; refine wpList_append_any rfl (.tmp 72) (.tmp 73) 22 rfl wc.heap.size 9 iS (.string ⟨#[]⟩) 1 16 Tryd.underlying22 gi gz0 gz1 gz2 rfl (.slice (some ⟨wc.heap.size, 0, none⟩) 0 0) 0 [] rfl HOW.out pa k pc (p.map Value.string) rfl (by rw [List.length_map, HPN.out.1]; omega) (by decide) HST.out (strs_one p) (by unfold maxLen; omega) (by omega) HBD.out.size ?_)
        intro v7 w7 hown7 hw7
        have hbc7 : Below wc.heap.size wc w7 := wrote_below HBD.out (Nat.le_refl _) hw7 (fun g e => Nat.le_of_eq (by simpa [Value.ownBlock] using e))
        clear hw7 HST HOW HBC HBD
        have HC7 := Lib.hid hbc7
        clear hbc7
        obtain ⟨a7, c7, hv7⟩ : ∃ a c, v7 = .slice a k c := by
          rcases strs_row (p := p) hown7 with ⟨e, e2⟩ | ⟨g, c, e, _⟩
          · exact ⟨none, 0, by rw [e, e2]⟩
          · exact ⟨_, _, e⟩
        subst hv7
        clear hown7 hk12
        have HB : Hid (Below w0.heap.size w0 w7) := HB2.out.trans (HC7.out.mono HB2.out.size)
        have HI := Lib.hid (HI2.out.kept (Kept.of_below HC7.out) (fun _ z => z) (fun _ _ z => VIn.keep HC7.out z))
        have HW := Lib.hid (HW2.out.kept (Kept.of_below HC7.out) (fun _ z => z) (fun _ _ z => VIn.keep HC7.out z))
        have HD := Lib.hid (VIn.keep (h := h + k + 2) HC7.out HD2.out)
        have HDB := Lib.hid (HDB2.out.keep HC7.out)
        clear HI2 HW2 HD2 HDB2 HB2 HC7
        go_wp2_with fail
        have HK2 : Hid (∀ W, Below w7.heap.size w7 W → (W.cell? ⟨w4.heap.size, 0, none⟩ = some (c0) ∧ W.cell? ⟨w4.heap.size, 1, none⟩ = some (c1) ∧ W.cell? ⟨w4.heap.size, 2, none⟩ = some (c2) ∧ W.cell? ⟨w4.heap.size, 3, none⟩ = some (c3) ∧ W.cell? ⟨w4.heap.size, 4, none⟩ = some (c4) ∧ W.cell? ⟨w4.heap.size, 5, none⟩ = some (c5)) ∧ (W.cell? ⟨w.heap.size, 0, none⟩ = some (Value.int .i64 ka) ∧ W.cell? ⟨w.heap.size, 1, none⟩ = some (.int .i64 na) ∧ W.cell? ⟨w.heap.size, 2, none⟩ = some (.string sa) ∧ W.cell? ⟨w.heap.size, 3, none⟩ = some (.slice ba bl bc) ∧ W.cell? ⟨w.heap.size, 4, none⟩ = some (.slice fa fl fc) ∧ W.cell? ⟨w.heap.size, 5, none⟩ = some (.slice la ll lc))) := fun W hb => ⟨(HDB.out.keep hb).cells, HSK.out W (HB.out.trans (hb.mono HB.out.size))⟩
        have hkeep := HK2.out _ (Below.refl _ w7).drew
        refine wp_region_held_drew (S := fun W => (W.cell? ⟨w4.heap.size, 0, none⟩ = some (c0) ∧ W.cell? ⟨w4.heap.size, 1, none⟩ = some (c1) ∧ W.cell? ⟨w4.heap.size, 2, none⟩ = some (c2) ∧ W.cell? ⟨w4.heap.size, 3, none⟩ = some (c3) ∧ W.cell? ⟨w4.heap.size, 4, none⟩ = some (c4) ∧ W.cell? ⟨w4.heap.size, 5, none⟩ = some (c5)) ∧ (W.cell? ⟨w.heap.size, 0, none⟩ = some (Value.int .i64 ka) ∧ W.cell? ⟨w.heap.size, 1, none⟩ = some (.int .i64 na) ∧ W.cell? ⟨w.heap.size, 2, none⟩ = some (.string sa) ∧ W.cell? ⟨w.heap.size, 3, none⟩ = some (.slice ba bl bc) ∧ W.cell? ⟨w.heap.size, 4, none⟩ = some (.slice fa fl fc) ∧ W.cell? ⟨w.heap.size, 5, none⟩ = some (.slice la ll lc))) (by kernel_rfl) (by exact hkeep) (fun hHeld => ?_)
        clear hkeep
        have HE : Hid (Below w7.heap.size w7 w7.drew) := (Below.refl _ w7).drew
        generalize w7.drew = y4 at *
        refine wpAnyH_take (i := 0) (v := ?_) rfl (by kernel_rfl) (by kernel_rfl) (by kernel_rfl) (fun _ _ _ h => h) (Or.inl ⟨by kernel_rfl, ?_⟩) (by assumption) ?_
        rotate_left
        · intro wS hSw
          (try dsimp only at hSw)
          go_simp
          try (with_reducible rfl)
        try simp only [List.getElem_toArray, List.getElem_cons_zero, Act.put, List.setIfInBounds_toArray, List.set_cons_zero, List.set_cons_succ]
        refine wpAnyH_take (i := 1) (v := ?_) rfl (by kernel_rfl) (by kernel_rfl) (by kernel_rfl) (fun _ _ _ h => h) (Or.inl ⟨by kernel_rfl, ?_⟩) (by assumption) ?_
        rotate_left
        · intro wS hSw
          (try dsimp only at hSw)
          go_simp
          try (with_reducible rfl)
        try simp only [List.getElem_toArray, List.getElem_cons_succ, List.getElem_cons_zero, Act.put, List.setIfInBounds_toArray, List.set_cons_zero, List.set_cons_succ]
        refine wpAnyH_take (i := 3) (v := ?_) rfl (by kernel_rfl) (by kernel_rfl) (by kernel_rfl) (fun _ _ _ h => h) (Or.inl ⟨by kernel_rfl, ?_⟩) (by assumption) ?_
        rotate_left
        · intro wS hSw
          (try dsimp only at hSw)
          go_simp
          try (with_reducible rfl)
        try simp only [List.getElem_toArray, List.getElem_cons_succ, List.getElem_cons_zero, Act.put, List.setIfInBounds_toArray, List.set_cons_zero, List.set_cons_succ]
        refine wpAnyH_ready (rs := [2]) (by kernel_rfl) (by simp) ?_
        refine AllReadyH.cons rfl (fun K hK => ?_) (AllReadyH.nil)
        go_simp
        go_at_call 10
        refine (Reach_any (p.length + (h + k + 1)) (h + k + 1) p pa k pc (Nat.le_refl _) HPN.out.1 HPN.out.2.1 _ _ _ y4 (VIn.keep (h := h + k + 2) HE.out HD.out) (HPK.out y4 (HB.out.trans (HE.out.mono HB.out.size)))).mono ?_
        rintro e y5 ⟨r1, rfl, hr1, hb5⟩
        have HE5 : Hid (Below w7.heap.size w7 y5) := HE.out.trans (hb5.mono HE.out.size)
        rw [HREA.out] at hr1
        have HR1 := Lib.hid hr1
        clear hb5 hr1 HE
        refine hK.out _ _ (by exact HK2.out _ HE5.out) (fun hHeld => ?_)
        clear hK K
        try simp only [List.getElem_toArray, List.getElem_cons_succ, List.getElem_cons_zero, Act.put, List.setIfInBounds_toArray, List.set_cons_zero, List.set_cons_succ]
        refine wpAnyH_ready (rs := [4]) (by kernel_rfl) (by simp) ?_
        refine AllReadyH.cons rfl (fun K hK => ?_) (AllReadyH.nil)
        go_simp
        go_at_call 11
        refine (same_any _ _ _ _ _ _ _ _ y5 HR1.out (HVK.out y5 (HB.out.trans (HE5.out.mono HB.out.size)))).mono ?_
        rintro e y6 ⟨b6, rfl, hb6, hw6⟩
        obtain rfl := hb6.2 rfl
        have HE6 : Hid (Below w7.heap.size w7 y6) := HE5.out.trans (hw6.mono HE5.out.size)
        clear hb6 hw6 HE5 HR1
        refine hK.out _ _ (by exact HK2.out _ HE6.out) (fun hHeld => ?_)
        clear hK K
        try simp only [List.getElem_toArray, List.getElem_cons_succ, List.getElem_cons_zero, Act.put, List.setIfInBounds_toArray, List.set_cons_zero, List.set_cons_succ]
        refine wpAnyH_take (i := 5) (v := ?_) rfl (by kernel_rfl) (by kernel_rfl) (by kernel_rfl) (fun _ _ _ h => h) (Or.inl ⟨by kernel_rfl, ?_⟩) (by assumption) ?_
        rotate_left
        · intro wS hSw
          (try dsimp only at hSw)
          go_simp
          try (with_reducible rfl)
        try simp only [List.getElem_toArray, List.getElem_cons_succ, List.getElem_cons_zero, Act.put, List.setIfInBounds_toArray, List.set_cons_zero, List.set_cons_succ]
        refine wpAnyH_take (i := 6) (v := ?_) rfl (by kernel_rfl) (by kernel_rfl) (by kernel_rfl) (fun _ _ _ h => h) (Or.inl ⟨by kernel_rfl, ?_⟩) (by assumption) ?_
        rotate_left
        · intro wS hSw
          (try dsimp only at hSw)
          go_simp
          try (with_reducible rfl)
        try simp only [List.getElem_toArray, List.getElem_cons_succ, List.getElem_cons_zero, Act.put, List.setIfInBounds_toArray, List.set_cons_zero, List.set_cons_succ]
        refine wpAnyH_take (i := 7) (v := ?_) rfl (by kernel_rfl) (by kernel_rfl) (by kernel_rfl) (fun _ _ _ h => h) (Or.inl ⟨by kernel_rfl, ?_⟩) (by assumption) ?_
        rotate_left
        · intro wS hSw
          (try dsimp only at hSw)
          go_simp
          try (with_reducible rfl)
        try simp only [List.getElem_toArray, List.getElem_cons_succ, List.getElem_cons_zero, Act.put, List.setIfInBounds_toArray, List.set_cons_zero, List.set_cons_succ]
        refine wpAnyH_ready (rs := [8]) (by kernel_rfl) (by simp) ?_
        refine AllReadyH.cons rfl (fun K hK => ?_) (AllReadyH.nil)
        go_simp
        go_at_call 12
        refine (sameAll_any _ _ _ _ _ _ a1 aw _ cq _ cw y6 rfl rfl (by have := HIL.out; omega) (by have := HIL.out; omega) (HI.out.kept (Kept.of_below HE6.out) (fun _ z => z) (fun _ _ z => VIn.keep HE6.out z)) (HW.out.kept (Kept.of_below HE6.out) (fun _ z => z) (fun _ _ z => VIn.keep HE6.out z))).mono ?_
        rintro e y7 ⟨b7, rfl, hb7, hw7⟩
        obtain rfl := hb7.2 rfl
        have HE7 : Hid (Below w7.heap.size w7 y7) := HE6.out.trans (hw7.mono HE6.out.size)
        clear hb7 hw7 HE6
        refine hK.out _ _ (by exact HK2.out _ HE7.out) (fun hHeld => ?_)
        clear hK K
        try simp only [List.getElem_toArray, List.getElem_cons_succ, List.getElem_cons_zero, Act.put, List.setIfInBounds_toArray, List.set_cons_zero, List.set_cons_succ]
        refine wpAnyH_take (i := 9) (v := ?_) rfl (by kernel_rfl) (by kernel_rfl) (by kernel_rfl) (fun _ _ _ h => h) (Or.inl ⟨by kernel_rfl, ?_⟩) (by assumption) ?_
        rotate_left
        · intro wS hSw
          (try dsimp only at hSw)
          go_simp
          try (with_reducible rfl)
        try simp only [List.getElem_toArray, List.getElem_cons_succ, List.getElem_cons_zero, Act.put, List.setIfInBounds_toArray, List.set_cons_zero, List.set_cons_succ]
        refine wpAnyH_take (i := 10) (v := ?_) rfl (by kernel_rfl) (by kernel_rfl) (by kernel_rfl) (fun _ _ _ h => h) (Or.inl ⟨by kernel_rfl, ?_⟩) (by assumption) ?_
        rotate_left
        · intro wS hSw
          (try dsimp only at hSw)
          go_simp
          try (with_reducible rfl)
        try simp only [List.getElem_toArray, List.getElem_cons_succ, List.getElem_cons_zero, Act.put, List.setIfInBounds_toArray, List.set_cons_zero, List.set_cons_succ]
        refine wpAnyH_done (by kernel_rfl) ?_ _
        go_wp2_with fail
        go_ret
        exact ⟨rfl, HGO.out _ (HB.out.trans (HE7.out.mono HB.out.size))⟩
    | r + 1, hrk, HS =>
      rw [show (((r + 1 : Nat) : Int) - 1) = (r : Int) by omega]
      have hge : (0 : Int) ≤ (r : Int) := by omega
      have hrp : r < p.length := by have := HPN.out.1; omega
      have hbw : Below w0.heap.size w0 wr := HB4.out.trans (HS.out.below.mono HB4.out.size)
      obtain ⟨g, o, rfl, hnames⟩ := (HPK.out wr hbw).resolve_left (fun e => by rw [e] at hrp; simp at hrp)
      have hnm := hnames r hrp
      obtain ⟨nm, hnmE⟩ : ∃ z, z = p[r] := ⟨_, rfl⟩
      rw [← hnmE] at hnm
      have HNM := Lib.hid hnmE
      have hnl : ¬ 9223372036854775807 < nm.size + 1 := by
        have := HPN.out.2.2.2 r hrp
        rw [← hnmE] at this
        omega
      have hny0 : nm.size ≤ 1000 := by
        have h1 : bulk p ≤ 1000 := by have := HFW.out; unfold few at this; simp at this; exact this.2
        have h2 : nm.size ≤ bulk p := by rw [hnmE]; exact mem_le_sum (fun z : ByteArray => z.size) p p[r] (List.getElem_mem hrp)
        omega
      have hny : nm.size ≤ 140737488355328 := by omega
      have hnx : (nm ++ (⟨#[120]⟩ : ByteArray)).size ≤ 140737488355328 := by rw [ByteArray.size_append]; show nm.size + 1 ≤ _; omega
      have hE : Below wr.heap.size wr wr.drew := (Below.refl _ wr).drew
      have HS2 : Hid (NSt w4 wr.drew w4.heap.size (h + k) (Bson.nest (fun a => a ++ ⟨#[120]⟩) (.mk 2 0 ⟨#[]⟩ [] [] []) x (p.drop (r + 1))) c0 c1 c2 c3 c4 c5) := ⟨HS.out.below.drew, HS.out.box.keep hE, VIn.keep hE HS.out.val⟩
      have hnw : wr.drew.cell? ⟨g, o + r, none⟩ = some (.string nm) := hnm
      have hrn : (r : Int) < (pn : Int) := by omega
      have hszd := HS2.out.box.lt
      have hnd : ¬ w4.heap.size = wr.drew.heap.size := by omega
      have hnd' : ¬ wr.drew.heap.size = w4.heap.size := by omega
      have hga : ¬ g = w4.heap.size := by
        have h1 := (HPK.out w0 (Below.refl _ _)).resolve_left (fun e => by rw [e] at hrp; simp at hrp)
        obtain ⟨g', o', h1, h2⟩ := h1
        injection h1 with h1; injection h1 with h1 _ _; subst h1
        have h3 := World.block_lt_of_cell? w0 _ (h2 r hrp)
        have h4 := HB4.out.size
        intro h5
        simp only at h3
        omega
      clear hnmE hbw hnames
      obtain ⟨b0, b1, b2, b3, b4, b5⟩ := HS2.out.box.cells
      obtain ⟨t0, t1, t2, t3, t4, t5⟩ := HS2.out.box.thaw
      go_wp2_with fail
      refine wp_region_held_drew (S := fun W => W.cell? ⟨g, o + r, none⟩ = some (.string nm)) (by kernel_rfl) (by exact hnm) (fun hHeld => ?_)
      generalize wr.drew = wd at *
      refine wpAnyH_take (i := 0) (v := ?_) rfl (by kernel_rfl) (by kernel_rfl) (by kernel_rfl) (fun _ _ _ h => h) (Or.inl ⟨by kernel_rfl, ?_⟩) (by assumption) ?_
      rotate_left
      · intro wS hSw
        (try dsimp only at hSw)
        go_simp
        try (with_reducible rfl)
      try simp only [List.getElem_toArray, List.getElem_cons_zero, Act.put, List.setIfInBounds_toArray, List.set_cons_zero, List.set_cons_succ]
      refine wpAnyH_take (i := 1) (v := ?_) rfl (by kernel_rfl) (by kernel_rfl) (by kernel_rfl) (fun _ _ _ h => h) (Or.inl ⟨by kernel_rfl, ?_⟩) (by assumption) ?_
      rotate_left
      · intro wS hSw
        (try dsimp only at hSw)
        go_simp
        try (with_reducible rfl)
      try simp only [List.getElem_toArray, List.getElem_cons_succ, List.getElem_cons_zero, Act.put, List.setIfInBounds_toArray, List.set_cons_zero, List.set_cons_succ]
      refine wpAnyH_take (i := 2) (v := ?_) rfl (by kernel_rfl) (by kernel_rfl) (by kernel_rfl) (fun _ _ _ h => h) (Or.inl ⟨by kernel_rfl, ?_⟩) (by assumption) ?_
      rotate_left
      · intro wS hSw
        (try dsimp only at hSw)
        go_simp
        try (with_reducible rfl)
      try simp only [List.getElem_toArray, List.getElem_cons_succ, List.getElem_cons_zero, Act.put, List.setIfInBounds_toArray, List.set_cons_zero, List.set_cons_succ]
      refine wpAnyH_take (i := 3) (v := ?_) rfl (by kernel_rfl) (by kernel_rfl) (by kernel_rfl) (fun _ _ _ h => h) (Or.inl ⟨by kernel_rfl, ?_⟩) (by assumption) ?_
      rotate_left
      · intro wS hSw
        (try dsimp only at hSw)
        go_simp
        try (with_reducible rfl)
      try simp only [List.getElem_toArray, List.getElem_cons_succ, List.getElem_cons_zero, Act.put, List.setIfInBounds_toArray, List.set_cons_zero, List.set_cons_succ]
      refine wpAnyH_take (i := 4) (v := ?_) rfl (by kernel_rfl) (by kernel_rfl) (by kernel_rfl) (fun _ _ _ h => h) (Or.inl ⟨by kernel_rfl, ?_⟩) (by assumption) ?_
      rotate_left
      · intro wS hSw
        (try dsimp only at hSw)
        go_simp
        try (with_reducible rfl)
      try simp only [List.getElem_toArray, List.getElem_cons_succ, List.getElem_cons_zero, Act.put, List.setIfInBounds_toArray, List.set_cons_zero, List.set_cons_succ]
      refine wpAnyH_take (i := 5) (v := ?_) rfl (by kernel_rfl) (by kernel_rfl) (by kernel_rfl) (fun _ _ _ h => h) (Or.inl ⟨by kernel_rfl, ?_⟩) (by assumption) ?_
      rotate_left
      · intro wS hSw
        (try dsimp only at hSw)
        go_simp
        try (with_reducible rfl)
      try simp only [List.getElem_toArray, List.getElem_cons_succ, List.getElem_cons_zero, Act.put, List.setIfInBounds_toArray, List.set_cons_zero, List.set_cons_succ]
      refine wpAnyH_take (i := 6) (v := ?_) rfl (by kernel_rfl) (by kernel_rfl) (by kernel_rfl) (fun _ _ _ h => h) (Or.inl ⟨by kernel_rfl, ?_⟩) (by assumption) ?_
      rotate_left
      · intro wS hSw
        (try dsimp only at hSw)
        go_simp
        try (with_reducible rfl)
      try simp only [List.getElem_toArray, List.getElem_cons_succ, List.getElem_cons_zero, Act.put, List.setIfInBounds_toArray, List.set_cons_zero, List.set_cons_succ]
      refine wpAnyH_take (i := 7) (v := ?_) rfl (by kernel_rfl) (by kernel_rfl) (by kernel_rfl) (fun _ _ _ h => h) (Or.inl ⟨by kernel_rfl, ?_⟩) (by assumption) ?_
      rotate_left
      · intro wS hSw
        (try dsimp only at hSw)
        go_simp
        try (with_reducible rfl)
      try simp only [List.getElem_toArray, List.getElem_cons_succ, List.getElem_cons_zero, Act.put, List.setIfInBounds_toArray, List.set_cons_zero, List.set_cons_succ]
      refine wpAnyH_take (i := 8) (v := ?_) rfl (by kernel_rfl) (by kernel_rfl) (by kernel_rfl) (fun _ _ _ h => h) (Or.inl ⟨by kernel_rfl, ?_⟩) (by assumption) ?_
      rotate_left
      · intro wS hSw
        (try dsimp only at hSw)
        go_simp
        try (with_reducible rfl)
      try simp only [List.getElem_toArray, List.getElem_cons_succ, List.getElem_cons_zero, Act.put, List.setIfInBounds_toArray, List.set_cons_zero, List.set_cons_succ]
      refine wpAnyH_take (i := 9) (v := ?_) rfl (by kernel_rfl) (by kernel_rfl) (by kernel_rfl) (fun _ _ _ h => h) (Or.inl ⟨by kernel_rfl, ?_⟩) (by assumption) ?_
      rotate_left
      · intro wS hSw
        (try dsimp only at hSw)
        go_simp
        try (with_reducible rfl)
      try simp only [List.getElem_toArray, List.getElem_cons_succ, List.getElem_cons_zero, Act.put, List.setIfInBounds_toArray, List.set_cons_zero, List.set_cons_succ]
      refine wpAnyH_take (i := 10) (v := ?_) rfl (by kernel_rfl) (by kernel_rfl) (by kernel_rfl) (fun _ _ _ h => h) (Or.inl ⟨by kernel_rfl, ?_⟩) (by assumption) ?_
      rotate_left
      · intro wS hSw
        (try dsimp only at hSw)
        go_simp
        try (with_reducible rfl)
      try simp only [List.getElem_toArray, List.getElem_cons_succ, List.getElem_cons_zero, Act.put, List.setIfInBounds_toArray, List.set_cons_zero, List.set_cons_succ]
      refine wpAnyH_ready (rs := [11]) (by kernel_rfl) (by simp) ?_
      refine AllReadyH.cons rfl (fun K hK => ?_) AllReadyH.nil
      go_simp
      refine hK.out _ _ (by exact hHeld) (fun hHeld => ?_)
      clear hK K
      try simp only [List.getElem_toArray, List.getElem_cons_succ, List.getElem_cons_zero, Act.put, List.setIfInBounds_toArray, List.set_cons_zero, List.set_cons_succ]
      refine wpAnyH_take (i := 12) (v := ?_) rfl (by kernel_rfl) (by kernel_rfl) (by kernel_rfl) (fun _ _ _ h => h) (Or.inl ⟨by kernel_rfl, ?_⟩) (by assumption) ?_
      rotate_left
      · intro wS hSw
        (try dsimp only at hSw)
        go_simp
        try (with_reducible rfl)
      try simp only [List.getElem_toArray, List.getElem_cons_succ, List.getElem_cons_zero, Act.put, List.setIfInBounds_toArray, List.set_cons_zero, List.set_cons_succ]
      refine wpAnyH_ready (rs := [13]) (by kernel_rfl) (by simp) ?_
      refine AllReadyH.cons rfl (fun K hK => ?_) AllReadyH.nil
      go_simp
      refine hK.out _ _ (by exact (cell_keep ((Below.refl _ wd).alloc (Nat.le_refl _) _) hHeld)) (fun hHeld => ?_)
      clear hK K
      try simp only [List.getElem_toArray, List.getElem_cons_succ, List.getElem_cons_zero, Act.put, List.setIfInBounds_toArray, List.set_cons_zero, List.set_cons_succ]
      refine wpAnyH_take (i := 14) (v := ?_) rfl (by kernel_rfl) (by kernel_rfl) (by kernel_rfl) (fun _ _ _ h => h) (Or.inl ⟨by kernel_rfl, ?_⟩) (by assumption) ?_
      rotate_left
      · intro wS hSw
        (try dsimp only at hSw)
        go_simp
        try (with_reducible rfl)
      try simp only [List.getElem_toArray, List.getElem_cons_succ, List.getElem_cons_zero, Act.put, List.setIfInBounds_toArray, List.set_cons_zero, List.set_cons_succ]
      refine wpAnyH_ready (rs := [15]) (by kernel_rfl) (by simp) ?_
      refine AllReadyH.cons rfl (fun K hK => ?_) AllReadyH.nil
      go_simp
      have HSN : Hid (NSt w4 (((((((wd.setCell ⟨w4.heap.size, 0, none⟩ (.int .i64 6)).setCell ⟨w4.heap.size, 1, none⟩ (.int .i64 0)).setCell ⟨w4.heap.size, 2, none⟩ (.string ⟨#[]⟩)).setCell ⟨w4.heap.size, 3, none⟩ (.slice none 0 0)).setCell ⟨w4.heap.size, 4, none⟩ (.slice (some ⟨wd.heap.size, 0, none⟩) 2 2)).setCell ⟨w4.heap.size, 5, none⟩ (.slice none 0 0)).alloc (.cells #[.string (nm ++ ⟨#[120]⟩), .int .i64 2, .int .i64 0, .string ⟨#[]⟩, .slice none 0 0, .slice none 0 0, .slice none 0 0, .string nm, c0, c1, c2, c3, c4, c5] 32)) w4.heap.size (h + k + 1) (.mk 6 0 ⟨#[]⟩ [] [(nm ++ ⟨#[120]⟩, .mk 2 0 ⟨#[]⟩ [] [] []), (nm, Bson.nest (fun a => a ++ ⟨#[120]⟩) (.mk 2 0 ⟨#[]⟩ [] [] []) x (p.drop (r + 1)))] []) (.int .i64 6) (.int .i64 0) (.string ⟨#[]⟩) (.slice none 0 0) (.slice (some ⟨wd.heap.size, 0, none⟩) 2 2) (.slice none 0 0)) := NSt.step HS2.out hnx hny 32 (W5 := puts wd w4.heap.size 0 [.int .i64 6, .int .i64 0, .string ⟨#[]⟩, .slice none 0 0, .slice (some ⟨wd.heap.size, 0, none⟩) 2 2, .slice none 0 0]) rfl
      have hcN : World.cell? (((((((wd.setCell ⟨w4.heap.size, 0, none⟩ (.int .i64 6)).setCell ⟨w4.heap.size, 1, none⟩ (.int .i64 0)).setCell ⟨w4.heap.size, 2, none⟩ (.string ⟨#[]⟩)).setCell ⟨w4.heap.size, 3, none⟩ (.slice none 0 0)).setCell ⟨w4.heap.size, 4, none⟩ (.slice (some ⟨wd.heap.size, 0, none⟩) 2 2)).setCell ⟨w4.heap.size, 5, none⟩ (.slice none 0 0)).alloc (.cells #[.string (nm ++ ⟨#[120]⟩), .int .i64 2, .int .i64 0, .string ⟨#[]⟩, .slice none 0 0, .slice none 0 0, .slice none 0 0, .string nm, c0, c1, c2, c3, c4, c5] 32)) ⟨g, o + r, none⟩ = some (.string nm) := step_cell (g := w4.heap.size) (wd := wd) (W5 := puts wd w4.heap.size 0 [.int .i64 6, .int .i64 0, .string ⟨#[]⟩, .slice none 0 0, .slice (some ⟨wd.heap.size, 0, none⟩) 2 2, .slice none 0 0]) (d := [.int .i64 6, .int .i64 0, .string ⟨#[]⟩, .slice none 0 0, .slice (some ⟨wd.heap.size, 0, none⟩) 2 2, .slice none 0 0]) _ hga hnw rfl
      generalize (((((((wd.setCell ⟨w4.heap.size, 0, none⟩ (.int .i64 6)).setCell ⟨w4.heap.size, 1, none⟩ (.int .i64 0)).setCell ⟨w4.heap.size, 2, none⟩ (.string ⟨#[]⟩)).setCell ⟨w4.heap.size, 3, none⟩ (.slice none 0 0)).setCell ⟨w4.heap.size, 4, none⟩ (.slice (some ⟨wd.heap.size, 0, none⟩) 2 2)).setCell ⟨w4.heap.size, 5, none⟩ (.slice none 0 0)).alloc (.cells #[.string (nm ++ ⟨#[120]⟩), .int .i64 2, .int .i64 0, .string ⟨#[]⟩, .slice none 0 0, .slice none 0 0, .slice none 0 0, .string nm, c0, c1, c2, c3, c4, c5] 32)) = wn at *
      refine hK.out _ _ (by exact hcN) (fun hHeld => ?_)
      clear hK K
      try simp only [List.getElem_toArray, List.getElem_cons_succ, List.getElem_cons_zero, Act.put, List.setIfInBounds_toArray, List.set_cons_zero, List.set_cons_succ]
      refine wpAnyH_done (by kernel_rfl) ?_ _
      go_wp2_with fail
      have hdr : p.drop r = nm :: p.drop (r + 1) := by rw [HNM.out]; exact List.drop_eq_getElem_cons hrp
      refine ⟨⟨r, k + 1, .int .i64 6, .int .i64 0, .string ⟨#[]⟩, .slice none 0 0, .slice (some ⟨wd.heap.size, 0, none⟩) 2 2, .slice none 0 0, rfl, by omega, ?_⟩, by simp [intOf]⟩
      rw [hdr, Bson.nest]
      exact HSN
end Go.Proofs.YtpklnhmhbaakhaaDoor
end
