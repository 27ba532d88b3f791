/- RefFields. -/
import Derived.Test.YtngllchoiffniaaGreatDoorMo31
import Derived.Test.YtngllchoiffniaaGreatDoorMo23
set_option maxRecDepth 100000
set_option maxHeartbeats 20000000
open List renaming getElem_toArray → zA, getElem_cons_succ → zB, getElem_cons_zero → zC, setIfInBounds_toArray → zD, set_cons_zero → zE, set_cons_succ → zF
section
namespace Go.Proofs.YtngllchoiffniaaGreatDoor
open Go.RowKit
open Seal
open Bson (Val)
open Path (nameMay)
theorem nameMay_len {l : List UInt8} (h : nameMay l = true) : l.length ≤ 120 := by
 unfold nameMay at h
 simp at h
 omega
theorem run_make4 (u : World) : (Instr.makeSlice 32 (.int .i64 4) (.int .i64 4)).run Tryz.prog u = .ok (.slice (some ⟨u.heap.size, 0, none⟩) 4 4) (u.alloc (.cells (madeCells #[.int .u8 0] 4) 5)) := by
 obtain ⟨i0, hi, hz0, hz1, hz2⟩ := info_parts infoU8
 have h := run_make (P := Tryz.prog) u 32 5 i0 (.int .u8 0) Tryz.underlying32 hi hz0 .i64 .i64 4 4 (by omega) (Int.le_refl _) (by rw [hz2]; omega) (by omega)
 simpa [hz1, Value.cells] using h
theorem head_over {w : World} {base g cap n : Nat} {cur : Array Value} {l l4 : List Nat} (hbg : base ≤ g) (hrow : w.heap[g]? = some (.cells cur 5 (0, 0))) (hnc : n ≤ cap) (hm : cap ≤ maxLen) (hsz : cur.size = cap * 1)
  (htake : cur.toList.take (n * 1) = u8s l) (hl4 : l4.length = 4) (h4 : 4 ≤ n) :
  (w.setRow g (cur.toList.take 0 ++ u8s l4 ++ cur.toList.drop (0 + (u8s l4).length)).toArray).ownsRow base 5 1 (.slice (some ⟨g, 0, none⟩) n cap) n (u8s (l4 ++ l.drop 4)) := by
 have e4 : (u8s l4).length = 4 := by simp [u8s, hl4]
 have ec : cur.toList.length = cap := by rw [Array.length_toList, hsz, Nat.mul_one]
 have el : l.length = n := by
  have := congrArg List.length htake
  simp [u8s] at this
  omega
 refine ⟨by simp [u8s, hl4, el]; omega, .inr ⟨g, cap, _, rfl, hbg, setRow_heap w g _ _ _ _ hrow, hnc, hm, ?_, ?_⟩⟩
 ·rw [List.size_toArray, List.take_zero, List.nil_append, List.length_append, Nat.zero_add, e4, List.length_drop, ec]
  omega
 ·rw [List.take_zero, List.nil_append, Nat.zero_add, e4, List.take_append, e4, List.take_of_length_le (by rw [e4]; omega), ← List.drop_take, htake, u8s_app]
  congr 1
  unfold u8s
  rw [List.map_drop]
theorem fields_do (h : Nat) (HO : OwnDo h) (d : Int) (h0 : 0 ≤ d) (h1 : d ≤ 32) (f : List (ByteArray × Val)) : FieldsDo h f d := by
 intro Q wx fa fc hlen hF
 have IH := Lib.hid HO
 have HF := Lib.hid hF
 obtain ⟨fn, hfn⟩ : ∃ n, n = f.length := ⟨_, rfl⟩
 rw [← hfn] at hlen
 rw [← hfn]
 have HFN := Lib.hid hfn
 obtain ⟨i0, hi, hz0, hz1, hz2⟩ := info_parts infoU8
 clear hF HO hfn
 have hmk := run_make4 wx
 go_enter Tryz.func72, Tryz.ntmps72
 go_wp2_with fail
 have HM0 : Hid (Mine (wx.alloc (.cells (madeCells #[.int .u8 0] 4) 5)) wx.heap.size (.slice (some ⟨wx.heap.size, 0, none⟩) 4 4) 4) := ⟨⟨List.replicate 4 0, ⟨by simp [u8s], .inr ⟨wx.heap.size, 4, (u8s (List.replicate 4 0)).toArray, rfl, Nat.le_refl _, Row.made (w := wx) 4, Nat.le_refl _, by decide, by simp [u8s], by simp [u8s]⟩⟩, fun c hc => by have := List.eq_of_mem_replicate hc; omega⟩, by simp⟩
 have HB0 : Hid (Below wx.heap.size wx (wx.alloc (.cells (madeCells #[.int .u8 0] 4) 5))) := (Below.refl _ _).alloc (Nat.le_refl _) _
 go_loopw [6, 7] (fun b i wr => ∃ (k : Nat) (v : Value) (n : Nat), i = .int .i64 k ∧ v = b ∧ k ≤ fn ∧ 4 ≤ n ∧ n ≤ 65536 ∧ Hid (Mine wr wx.heap.size v n) ∧ Hid (Below wx.heap.size wx wr) ∧ Hid (∀ j (hj : j < f.length), j < k → Key.legal (32 - d).toNat f[j].2)) (fun _ i _ => fn - (intOf i).toNat)
 case atStart => exact ⟨0, _, 4, rfl, rfl, Nat.zero_le _, Nat.le_refl _, by decide, HM0, HB0, fun j _ hj => absurd hj (Nat.not_lt_zero _)⟩
 case round =>
  clear HM0 HB0
  obtain ⟨k, v, n, rfl, rfl, hk, hn4, hn, HM, HB, HFT⟩ := hrel
  by_cases hlt : k < fn
  case neg =>
   obtain ⟨a1, c1, hv1⟩ : ∃ a c, v = .slice a n c := by obtain ⟨⟨_, z, _⟩, _⟩ := HM.out; exact owns_shape z
   subst hv1
   obtain ⟨l0, hr0, ho0⟩ := HM.out.row
   have HB2 : Hid (Below wx.heap.size wx (wr.alloc (.cells #[.int .u8 0] 5))) := HB.out.alloc HB.out.size _
   have HOWN : Hid ((wr.alloc (.cells #[.int .u8 0] 5)).ownsRow wx.heap.size 5 1 (.slice a1 n c1) n (u8s l0)) := owns_below hr0 ((Below.refl _ _).alloc (Nat.le_refl _) _)
   have HNW : Hid (∀ j u, ([.int .u8 0] : List Value)[j]? = some u → (wr.alloc (.cells #[.int .u8 0] 5)).cell? (Addr.add ⟨wr.heap.size, 0, none⟩ j) = some u) := one_new wr _ _
   have HSZ := Lib.hid HB2.out.size
   have HO0 := Lib.hid ho0
   clear hr0 ho0 HM HB HF IH
   go_wp2_with (at_builtin; refine wpList_append_sz _ rfl (.tmp 79) (.tmp 80) 32 rfl wx.heap.size 5 i0 (.int .u8 0) 1 1 Tryz.underlying32 hi hz0 hz1 hz2 rfl (.slice a1 n c1) n (u8s l0) rfl HOWN.out ⟨wr.heap.size, 0, none⟩ 1 1 [.int .u8 0] rfl rfl (by decide) (by decide) HNW.out (by intro u hu; simp at hu; subst hu; rfl) (by unfold maxLen; omega) (by omega) HSZ.out ?_)
   intro v5 w5 hown5 hlies5
   have HB5 : Hid (Below wx.heap.size wx w5) := HB2.out.grown hlies5.grown HSZ.out (fun j hj => (owns_block HOWN.out hj).1)
   have HO5 : Hid (w5.ownsRow wx.heap.size 5 1 v5 (n + 1) (u8s (l0 ++ [0]))) := by rw [u8s_app]; exact hown5
   have HC5 : Hid (Oct (l0 ++ [0])) := oct_app HO0.out oct_nought
   clear hown5 hlies5 HOWN HNW HSZ HB2 HO0
   obtain ⟨a5, c5, hv5⟩ : ∃ a c, v5 = .slice a (n + 1) c := owns_shape HO5.out
   subst hv5
   go_wp2_with fail
   go_at_call 70
   refine (num_own _ 4 w5 (by decide)).mono ?_
   rintro e w6 ⟨v6, l6, rfl, hr6, hl6, ho6, hb6⟩
   have HB6 : Hid (Below wx.heap.size wx w6) := HB5.out.trans (hb6.mono HB5.out.size)
   obtain ⟨_, ⟨_, h0⟩ | ⟨g5, cap5, cur5, e5, hbg5, hrow5, hc5, hm5, hsz5, htake5⟩⟩ := owns_below HO5.out hb6
   ·exact absurd h0 (by omega)
   obtain ⟨_, ⟨_, h0⟩ | ⟨g6, cap6, cur6, rfl, hbg6, hrow6, hc6, hm6, hsz6, htake6⟩⟩ := hr6
   ·exact absurd h0 (by omega)
   injection e5 with ea en ec
   subst ea
   subst ec
   have hown7 := head_over (n := n + 1) hbg5 hrow5 hc5 hm5 hsz5 htake5 hl6 (by omega)
   have hby := owns_bytes hown7 (oct_app ho6 (fun c hc => HC5.out c (List.mem_of_mem_drop hc)))
   have HB7 := Lib.hid (below_setRow HB6.out hbg5 (cur5.toList.take 0 ++ u8s l6 ++ cur5.toList.drop (0 + (u8s l6).length)).toArray)
   have e6 : (u8s l6).length = 4 := by simp [u8s, hl6]
   have hfit : 0 + (u8s l6).length ≤ cur5.size := by rw [e6, hsz5]; omega
   have HSRC : Hid (∀ j v, (u8s l6)[j]? = some v → w6.cell? ((⟨g6, 0, none⟩ : Addr).add j) = some v) := fun j v hj => by
    have hj4 : j < 4 := by rw [← e6]; exact (List.getElem?_eq_some_iff.1 hj).1
    rw [Addr.add_mid, cell_of_row w6 g6 (0 + j) _ _ _ hrow6, Nat.zero_add, ← Array.getElem?_toList, ← hj, ← htake6, List.getElem?_take_of_lt (by omega)]
   have HBY := Lib.hid hby
   have HR5 := Lib.hid hrow5
   clear hown7 hby HB5 HO5 HC5 hb6 hrow6 hrow5 hsz6 htake6 htake5 hsz5 ho6
   have hcp := run_copy_row (P := Tryz.prog) w6 32 32 3 5 g5 0 (n + 1) c5 ⟨g6, 0, none⟩ 4 cap6 cur5 5 (u8s l6) Tryz.underlying32 (by rw [hi]; rw [Option.map_some, hz1]) HR5.out (by rw [e6]; exact (Nat.min_eq_left (by omega)).symm) HSRC.out hfit (u8s_one l6)
   generalize w6.setRow g5 (cur5.toList.take 0 ++ u8s l6 ++ cur5.toList.drop (0 + (u8s l6).length)).toArray = w7 at *
   clear HSRC HR5 hfit
   by_cases hbig : n + 1 ≤ 65536
   ·have hd4 : decide (((n + 1 : Nat) : Int) ≤ 65536) = true := by rw [decide_eq_true_eq]; omega
    go_wp2_with fail
    exact bodyPost_ret (v := .tuple #[.slice (some ⟨g5, 0, none⟩) (n + 1) c5, .bool true]) (by simp [results, Tryz.results72, go_sem]; omega) rfl ⟨_, _, n + 1, rfl, HBY.out.mono (fun g hg => .inr hg), fun _ => ⟨by omega, fun p hp => by obtain ⟨j, hj, rfl⟩ := List.getElem_of_mem hp; exact HFT.out j hj (by have := HFN.out; omega)⟩, HB7.out⟩
   ·have hd4 : decide (((n + 1 : Nat) : Int) ≤ 65536) = false := by rw [decide_eq_false_iff_not]; omega
    go_wp2_with fail
    exact bodyPost_ret (v := .tuple #[.slice (some ⟨g5, 0, none⟩) (n + 1) c5, .bool false]) (by simp [results, Tryz.results72, go_sem]; omega) rfl ⟨_, _, n + 1, rfl, HBY.out.mono (fun g hg => .inr hg), nofun, HB7.out⟩
  obtain ⟨g, o, hla, _, hall⟩ := HF.out.resolve_left (fun e => by have := HFN.out; rw [e] at this; simp at this; omega)
  obtain rfl := hla
  have HALL := Lib.hid hall
  obtain ⟨hnm, hns, v', hsix, hV⟩ := hall k (by have := HFN.out; omega)
  obtain ⟨ka, na, sa, ba, fa', la, bl, bc, fl, fc', ll, lc, rfl⟩ := hV.shape
  obtain ⟨nm, hnme⟩ : ∃ nm, nm = (f[k]'(by have := HFN.out; omega)).1 := ⟨_, rfl⟩
  rw [← hnme] at hnm hns
  have HNM0 := Lib.hid hnm
  have HNS := Lib.hid hns
  have HNE := Lib.hid hnme
  have HSX := Lib.hid hsix
  have HV := Lib.hid (VIn.keep HB.out hV.lt)
  have hgb : g < wx.heap.size := World.block_lt_of_cell? wx _ hnm
  obtain ⟨s0, s1, s2, s3, s4, s5⟩ := (hsix.keep HB.out).cells
  have hd1 : IntKind.i64.wrap (d + 1) = d + 1 := IntWalk.i64_in _ (by omega)
  clear hall hnm hns hsix hV hnme
  go_wp2_with fail
  go_at_call 52
  refine (IH.out _ _ _ wr (d + 1) (by omega) (by omega) HV.out).mono ?_
  rintro e w1 ⟨vx, ok, nx, rfl, hbx, hle, hb1⟩
  have HB1 : Hid (Below wx.heap.size wx w1) := HB.out.trans (hb1.mono HB.out.size)
  clear hd1 s0 s1 s2 s3 s4 s5
  cases ok with
  | false =>
   go_wp2_with fail
   exact bodyPost_ret (v := .tuple #[.slice none 0 0, .bool false]) (by simp [results, Tryz.results72, go_sem]) rfl ⟨_, false, 0, rfl, BytesAt.none _ _, (fun z => by cases z), HB1.out⟩
  | true =>
  obtain ⟨hnx, hfx⟩ := hle rfl
  rw [show (33 - (d + 1)).toNat = (32 - d).toNat by omega] at hfx
  have HFX : Hid (∀ j (hj : j < f.length), j < k + 1 → Key.legal (32 - d).toNat f[j].2) := fun j hj hjk => by
   by_cases e : j = k
   ·subst e; exact hfx
   ·exact HFT.out j hj (by omega)
  clear hfx HFT
  obtain ⟨wr0, hwr0⟩ : ∃ z, z = wr.heap.size := ⟨_, rfl⟩
  obtain ⟨hi1, hhi1⟩ : ∃ z, z = w1.heap.size := ⟨_, rfl⟩
  have HO1 : Hid (Out wx w1 wx.heap.size wr0 hi1 v n vx nx) := by
   rw [hwr0, hhi1]
   obtain ⟨l, hr1, hr2⟩ := HM.out.row
   refine ⟨HB1.out, ⟨l, owns_below hr1 hb1, hr2⟩, ⟨HB.out.size, hb1.size, Nat.le_refl _⟩, fun g hg => .inl (owns_block hr1 hg).2, ?_⟩
   refine (hbx.lt).mono (fun g hg => ?_)
   rcases hg with ⟨hq | hq, hg2⟩
   ·exact .inl hq.2
   ·exact .inr ⟨hq, hg2⟩
  clear hle hbx hb1 HM HV hwr0 hhi1
  have n0 : w1.cell? ⟨g, o + k * 7, none⟩ = some (.string nm) := cell_keep HB1.out HNM0.out
  obtain ⟨bm, hbm⟩ : ∃ b, b = nameMay nm.data.toList := ⟨_, rfl⟩
  have HNMY := Lib.hid (nameMay_any nm w1 HNS.out)
  rw [← hbm] at HNMY
  have HLN : Hid (bm = true → nm.size ≤ 120) := fun e => by
   have := nameMay_len (hbm.symm.trans e)
   rwa [show nm.data.toList.length = nm.size from Array.length_toList] at this
  clear hbm
  go_wp2_with fail
  go_at_call 89
  refine HNMY.out.mono ?_
  rintro e w2 ⟨rfl, hb2⟩
  have HB2 : Hid (Below wx.heap.size wx w2) := HB1.out.trans (hb2.mono HB1.out.size)
  have HO2 := Lib.hid (HO1.out.keep hb2)
  clear hb2 n0 HNMY HO1
  cases bm with
  | false =>
   go_wp2_with fail
   exact bodyPost_ret (v := .tuple #[.slice none 0 0, .bool false]) (by simp [results, Tryz.results72, go_sem]) rfl ⟨_, false, 0, rfl, BytesAt.none _ _, (fun z => by cases z), HB2.out⟩
  | true =>
  have hnl := HLN.out rfl
  clear HLN
  go_wp2_with fail
  go_loopw [10] (fun j wr => ∃ q : Nat, j = .int .i64 q ∧ q ≤ k ∧ Hid (Below w2.heap.size w2 wr)) (fun j _ => k - (intOf j).toNat)
  case atStart => exact ⟨0, rfl, Nat.zero_le _, Below.refl _ _⟩
  case round =>
   obtain ⟨q, rfl, hq, HBQ⟩ := hrel
   by_cases hqk : q < k
   ·obtain ⟨hnq, _, _⟩ := HALL.out q (by have := HFN.out; omega)
    obtain ⟨nq, hnqe⟩ : ∃ nq, nq = (f[q]'(by have := HFN.out; omega)).1 := ⟨_, rfl⟩
    rw [← hnqe] at hnq
    have HBW : Hid (Below wx.heap.size wx wr) := HB2.out.trans (HBQ.out.mono HB2.out.size)
    have m0 := cell_keep HBW.out HNM0.out
    have m1 := cell_keep HBW.out hnq
    clear hnq hnqe
    by_cases e : nq = nm
    ·have hc : (nq.toList == nm.toList) = true := by rw [e]; simp
     clear e
     go_wp2_with fail
     go_quiet (fail)
     go_wp2_with fail
     exact bodyPost_ret (v := .tuple #[.slice none 0 0, .bool false]) (by simp [results, Tryz.results72, go_sem]) rfl ⟨_, false, 0, rfl, BytesAt.none _ _, (fun z => by cases z), below_dr HBW.out _⟩
    ·have hc : (nq.toList == nm.toList) = false := str_ne e
     clear e
     go_wp2_with fail
     go_quiet (fail)
     go_wp2_with fail
     go_roundw
     case rel => exact ⟨q + 1, by go_num, by omega, below_dr HBQ.out _⟩
     case measure => simp [intOf]; omega
   ·clear hq
    have HBW : Hid (Below wx.heap.size wx wr) := HB2.out.trans (HBQ.out.mono HB2.out.size)
    have HO3 := Lib.hid (HO2.out.keep HBQ.out)
    have hkind := (HSX.out.keep HBW.out).cells.1
    have hname := cell_keep HBW.out HNM0.out
    have HKN := Lib.hid (And.intro hkind hname)
    clear hkind hname
    obtain ⟨ax, cx, lx0, hvx, hlx0, _, _⟩ := HO3.out.x
    subst hvx
    clear hlx0
    have HSK : Hid (∀ W, Below wx.heap.size wx W → W.cell? ⟨g, o + k * 7 + 1, none⟩ = some (.int .i64 ka) ∧ W.cell? ⟨g, o + k * 7, none⟩ = some (.string nm)) := fun W hb => ⟨(HSX.out.keep hb).cells.1, cell_keep hb HNM0.out⟩
    go_wp2_with fail
    have O0 := Lib.hid (HO3.out.keep ((Below.refl _ wr).drew))
    have hkeep := HSK.out _ O0.out.below
    refine wp_region_held_drew (S := fun W => W.cell? ⟨g, o + k * 7 + 1, none⟩ = some (.int .i64 ka) ∧ W.cell? ⟨g, o + k * 7, none⟩ = some (.string nm)) (by kernel_rfl) (by exact hkeep) (fun hHeld => ?_)
    clear hkeep
    generalize wr.drew = wd at *
    refine wpAnyH_take (i := 0) (v := ?_) rfl (by kernel_rfl) (by kernel_rfl) (by kernel_rfl) (fun _ _ _ h => h) (Or.inl ⟨by kernel_rfl, ?_⟩) (by assumption) ?_
    rotate_left
    ·intro wS hSw
     (try dsimp only at hSw)
     go_simp
     try (with_reducible rfl)
    try simp only [zA, zC, Act.put, zD, zE, zF]
    refine wpAnyH_take (i := 1) (v := ?_) rfl (by kernel_rfl) (by kernel_rfl) (by kernel_rfl) (fun _ _ _ h => h) (Or.inl ⟨by kernel_rfl, ?_⟩) (by assumption) ?_
    rotate_left
    ·intro wS hSw
     (try dsimp only at hSw)
     go_simp
     try (with_reducible rfl)
    try simp only [zA, zB, zC, Act.put, zD, zE, zF]
    refine wpAnyH_take (i := 2) (v := ?_) rfl (by kernel_rfl) (by kernel_rfl) (by kernel_rfl) (fun _ _ _ h => h) (Or.inl ⟨by kernel_rfl, ?_⟩) (by assumption) ?_
    rotate_left
    ·intro wS hSw
     (try dsimp only at hSw)
     go_simp
     try (with_reducible rfl)
    try simp only [zA, zB, zC, Act.put, zD, zE, zF]
    refine wpAnyH_take (i := 3) (v := ?_) rfl (by kernel_rfl) (by kernel_rfl) (by kernel_rfl) (fun _ _ _ h => h) (Or.inl ⟨by kernel_rfl, ?_⟩) (by assumption) ?_
    rotate_left
    ·intro wS hSw
     (try dsimp only at hSw)
     go_simp
     try (with_reducible rfl)
    try simp only [zA, zB, zC, Act.put, zD, zE, zF]
    refine wpAnyH_take (i := 4) (v := ?_) rfl (by kernel_rfl) (by kernel_rfl) (by kernel_rfl) (fun _ _ _ h => h) (Or.inl ⟨by kernel_rfl, ?_⟩) (by assumption) ?_
    rotate_left
    ·intro wS hSw
     (try dsimp only at hSw)
     go_simp
     try (with_reducible rfl)
    try simp only [zA, zB, zC, Act.put, zD, zE, zF]
    refine wpAnyH_take (i := 5) (v := ?_) rfl (by kernel_rfl) (by kernel_rfl) (by kernel_rfl) (fun _ _ _ h => h) (Or.inl ⟨by kernel_rfl, ?_⟩) (by assumption) ?_
    rotate_left
    ·intro wS hSw
     (try dsimp only at hSw)
     go_simp
     try (with_reducible rfl)
    try simp only [zA, zB, zC, Act.put, zD, zE, zF]
    refine wpAnyH_take (i := 6) (v := ?_) rfl (by kernel_rfl) (by kernel_rfl) (by kernel_rfl) (fun _ _ _ h => h) (Or.inl ⟨by kernel_rfl, ?_⟩) (by assumption) ?_
    rotate_left
    ·intro wS hSw
     (try dsimp only at hSw)
     go_simp
     try (with_reducible rfl)
    try simp only [zA, zB, zC, Act.put, zD, zE, zF]
    refine wpAnyH_take (i := 10) (v := ?_) rfl (by kernel_rfl) (by kernel_rfl) (by kernel_rfl) (fun _ _ _ h => h) (Or.inl ⟨by kernel_rfl, ?_⟩) (by assumption) ?_
    rotate_left
    ·intro wS hSw
     (try dsimp only at hSw)
     go_simp
     try (with_reducible rfl)
    try simp only [zA, zB, zC, Act.put, zD, zE, zF]
    refine wpAnyH_take (i := 11) (v := ?_) rfl (by kernel_rfl) (by kernel_rfl) (by kernel_rfl) (fun _ _ _ h => h) (Or.inl ⟨by kernel_rfl, ?_⟩) (by assumption) ?_
    rotate_left
    ·intro wS hSw
     (try dsimp only at hSw)
     go_simp
     try (with_reducible rfl)
    try simp only [zA, zB, zC, Act.put, zD, zE, zF]
    refine wpAnyH_take (i := 12) (v := ?_) rfl (by kernel_rfl) (by kernel_rfl) (by kernel_rfl) (fun _ _ _ h => h) (Or.inl ⟨by kernel_rfl, ?_⟩) (by assumption) ?_
    rotate_left
    ·intro wS hSw
     (try dsimp only at hSw)
     go_simp
     try (with_reducible rfl)
    try simp only [zA, zB, zC, Act.put, zD, zE, zF]
    refine wpAnyH_take (i := 13) (v := ?_) rfl (by kernel_rfl) (by kernel_rfl) (by kernel_rfl) (fun _ _ _ h => h) (Or.inl ⟨by kernel_rfl, ?_⟩) (by assumption) ?_
    rotate_left
    ·intro wS hSw
     (try dsimp only at hSw)
     go_simp
     try (with_reducible rfl)
    try simp only [zA, zB, zC, Act.put, zD, zE, zF]
    refine wpAnyH_take (i := 14) (v := ?_) rfl (by kernel_rfl) (by kernel_rfl) (by kernel_rfl) (fun _ _ _ h => h) (Or.inl ⟨by kernel_rfl, ?_⟩) (by assumption) ?_
    rotate_left
    ·intro wS hSw
     (try dsimp only at hSw)
     go_simp
     try (with_reducible rfl)
    try simp only [zA, zB, zC, Act.put, zD, zE, zF]
    refine wpAnyH_take (i := 18) (v := ?_) rfl (by kernel_rfl) (by kernel_rfl) (by kernel_rfl) (fun _ _ _ h => h) (Or.inl ⟨by kernel_rfl, ?_⟩) (by assumption) ?_
    rotate_left
    ·intro wS hSw
     (try dsimp only at hSw)
     go_simp
     try (with_reducible rfl)
    try simp only [zA, zB, zC, Act.put, zD, zE, zF]
    refine wpAnyH_ready (rs := [7, 16]) (by kernel_rfl) (by simp) ?_
    refine AllReadyH.cons rfl (fun K hK => ?_) (AllReadyH.cons rfl (fun K hK => ?_) (AllReadyH.nil))
    ·go_simp
     go_at_call 90
     refine (code_some ka wd).mono ?_
     rintro e u1 ⟨⟨c, hc256, rfl⟩, hw1⟩
     have O1 := Lib.hid (O0.out)
     rw [← hw1] at O1
     clear hw1
     refine hK.out _ _ (by exact HSK.out _ O1.out.below) (fun hHeld => ?_)
     clear hK K
     try simp only [zA, zB, zC, Act.put, zD, zE, zF]
     refine wpAnyH_ready (rs := [8, 16]) (by kernel_rfl) (by simp) ?_
     refine AllReadyH.cons rfl (fun K hK => ?_) (AllReadyH.cons rfl (fun K hK => ?_) (AllReadyH.nil))
     ·go_simp
      have hb2 : Below u1.heap.size u1 (u1.alloc (.cells #[.int .u8 (c : Int)] 5)) := (Below.refl _ _).alloc (Nat.le_refl _) _
      have Y2 := Lib.hid (ByteAt.new O1.out (c : Int) 5)
      have O2 := Lib.hid (O1.out.keep hb2)
      clear hb2
      generalize u1.alloc (.cells #[.int .u8 (c : Int)] 5) = u2 at *
      refine hK.out _ _ (by exact HSK.out _ O2.out.below) (fun hHeld => ?_)
      clear hK K
      try simp only [zA, zB, zC, Act.put, zD, zE, zF]
      refine wpAnyH_ready (rs := [9, 16]) (by kernel_rfl) (by simp) ?_
      refine AllReadyH.cons rfl (fun K hK => ?_) (AllReadyH.cons rfl (fun K hK => ?_) (AllReadyH.nil))
      ·obtain ⟨l3, ho1, hoct1⟩ := O2.out.row
       have hbs := O2.out.size
       refine step_append_lies rfl (.tmp 56) (.tmp 64) 32 rfl wx.heap.size 5 i0 (.int .u8 0) 1 1 Tryz.underlying32 hi hz0 hz1 hz2 rfl (by decide) v (n) (u8s l3) rfl ho1 ⟨u1.heap.size, 0, none⟩ 1 1 [.int .u8 (c : Int)] rfl rfl (by decide) Y2.out.reads (by intro u hu; simp at hu; subst hu; rfl) (by unfold maxLen; omega) (by omega) (by omega) ?_
       intro v3 u3 ho hlies
       have O3 : Hid (Out wx u3 wx.heap.size wr0 hi1 v3 (n + 1) (.slice ax nx cx) nx) := O2.out.put (l := l3 ++ [c]) (by rw [u8s_app]; exact ho) (oct_app hoct1 (oct_one hc256)) hlies.grown hlies.moved
       clear ho hlies ho1 hoct1 hbs
       refine hK.out _ _ (by exact HSK.out _ O3.out.below) (fun hHeld => ?_)
       clear hK K
       try simp only [zA, zB, zC, Act.put, zD, zE, zF]
       refine wpAnyH_ready (rs := [15, 16]) (by kernel_rfl) (by simp) ?_
       refine AllReadyH.cons rfl (fun K hK => ?_) (AllReadyH.cons rfl (fun K hK => ?_) (AllReadyH.nil))
       ·obtain ⟨l4, ho1, hoct1⟩ := O3.out.row
        have hbs := O3.out.size
        refine step_append_str_at rfl (.tmp 65) (.tmp 70) 32 9 rfl wx.heap.size 5 i0 Tryz.underlying32 Tryz.underlying9 hi hz0 hz1 hz2 v3 (n + 1) (u8s l4) rfl ho1 nm rfl (by unfold maxLen; omega) (by omega) (by omega) ?_
        intro v4 u4 ho hgr hmv
        have O4 : Hid (Out wx u4 wx.heap.size wr0 hi1 v4 (n + 1 + nm.size) (.slice ax nx cx) nx) := O3.out.put (l := l4 ++ nm.data.toList.map UInt8.toNat) (by rw [u8s_app, ← str_u8s]; exact ho) (oct_app hoct1 (oct_str nm)) hgr hmv
        clear ho hgr hmv ho1 hoct1 hbs
        refine hK.out _ _ (by exact HSK.out _ O4.out.below) (fun hHeld => ?_)
        clear hK K
        try simp only [zA, zB, zC, Act.put, zD, zE, zF]
        refine wpAnyH_ready (rs := [16]) (by kernel_rfl) (by simp) ?_
        refine AllReadyH.cons rfl (fun K hK => ?_) (AllReadyH.nil)
        go_simp
        have hb5 : Below u4.heap.size u4 (u4.alloc (.cells #[.int .u8 0] 5)) := (Below.refl _ _).alloc (Nat.le_refl _) _
        have Y5 := Lib.hid (ByteAt.new O4.out 0 5)
        have O5 := Lib.hid (O4.out.keep hb5)
        clear hb5
        generalize u4.alloc (.cells #[.int .u8 0] 5) = u5 at *
        refine hK.out _ _ (by exact HSK.out _ O5.out.below) (fun hHeld => ?_)
        clear hK K
        try simp only [zA, zB, zC, Act.put, zD, zE, zF]
        refine wpAnyH_ready (rs := [17]) (by kernel_rfl) (by simp) ?_
        refine AllReadyH.cons rfl (fun K hK => ?_) (AllReadyH.nil)
        obtain ⟨l6, ho1, hoct1⟩ := O5.out.row
        have hbs := O5.out.size
        refine step_append_lies rfl (.tmp 71) (.tmp 72) 32 rfl wx.heap.size 5 i0 (.int .u8 0) 1 1 Tryz.underlying32 hi hz0 hz1 hz2 rfl (by decide) v4 (n + 1 + nm.size) (u8s l6) rfl ho1 ⟨u4.heap.size, 0, none⟩ 1 1 [.int .u8 0] rfl rfl (by decide) Y5.out.reads (by intro u hu; simp at hu; subst hu; rfl) (by unfold maxLen; omega) (by omega) (by omega) ?_
        intro v6 u6 ho hlies
        have O6 : Hid (Out wx u6 wx.heap.size wr0 hi1 v6 (n + 1 + nm.size + 1) (.slice ax nx cx) nx) := O5.out.put (l := l6 ++ [0]) (by rw [u8s_app]; exact ho) (oct_app hoct1 (oct_one (by decide))) hlies.grown hlies.moved
        clear ho hlies ho1 hoct1 hbs
        refine hK.out _ _ (by exact HSK.out _ O6.out.below) (fun hHeld => ?_)
        clear hK K
        try simp only [zA, zB, zC, Act.put, zD, zE, zF]
        refine wpAnyH_ready (rs := [19]) (by kernel_rfl) (by simp) ?_
        refine AllReadyH.cons rfl (fun K hK => ?_) (AllReadyH.nil)
        obtain ⟨l7, ho1, hoct1⟩ := O6.out.row
        have hbs := O6.out.size
        obtain ⟨_, _, lb, eb, hlb, hob, hrb⟩ := O6.out.x
        injection eb with eb1 eb2 eb3
        subst eb1
        subst eb3
        refine step_append_src rfl (.tmp 73) (.tmp 74) 32 rfl wx.heap.size 5 i0 (.int .u8 0) 1 1 Tryz.underlying32 hi hz0 hz1 hz2 rfl (by decide) v6 (n + 1 + nm.size + 1) (u8s l7) rfl ho1 ax nx cx (u8s lb) rfl (src_bytes hlb hrb) (by simp [u8s, hlb]) (u8s_one lb) (by unfold maxLen; omega) (by omega) (by omega) ?_
        intro v7 u7 ho hgr
        have HB7 : Hid (Below wx.heap.size wx u7) := O6.out.below.grown hgr (by omega) (fun j hj => (owns_block ho1 hj).1)
        have HM7 : Hid (Mine u7 wx.heap.size v7 (n + 1 + nm.size + 1 + nx)) := Mine.more ho hoct1 hob (Nat.le_trans (by omega) hgr.size)
        clear ho hgr ho1 hoct1 hbs hrb hlb hob
        refine hK.out _ _ (by exact HSK.out _ HB7.out) (fun hHeld => ?_)
        clear hK K
        try simp only [zA, zB, zC, Act.put, zD, zE, zF]
        refine wpAnyH_take (i := 20) (v := ?_) rfl (by kernel_rfl) (by kernel_rfl) (by kernel_rfl) (fun _ _ _ h => h) (Or.inl ⟨by kernel_rfl, ?_⟩) (by assumption) ?_
        rotate_left
        ·intro wS hSw
         (try dsimp only at hSw)
         go_simp
         try (with_reducible rfl)
        try simp only [zA, zB, zC, Act.put, zD, zE, zF]
        refine wpAnyH_done (by kernel_rfl) ?_ _
        obtain ⟨a4, c4, hv4⟩ : ∃ a c, v7 = .slice a (n + 1 + nm.size + 1 + nx) c := by obtain ⟨⟨_, z, _⟩, _⟩ := HM7.out; exact owns_shape z
        rw [hv4] at HM7 ⊢
        clear hv4
        by_cases hbig : 65536 < n + 1 + nm.size + 1 + nx
        ·have hd4 : decide (((n + 1 + nm.size + 1 + nx : Nat) : Int) > 65536) = true := by rw [decide_eq_true_eq]; omega
         go_wp2_with fail
         exact bodyPost_ret (v := .tuple #[.slice none 0 0, .bool false]) (by simp [results, Tryz.results72, go_sem]) rfl ⟨_, false, 0, rfl, BytesAt.none _ _, (fun z => by cases z), HB7.out⟩
        ·have hd4 : decide (((n + 1 + nm.size + 1 + nx : Nat) : Int) > 65536) = false := by rw [decide_eq_false_iff_not]; omega
         go_wp2_with fail
         go_roundw
         case rel => exact ⟨k + 1, _, _, by go_num, rfl, by omega, by omega, by omega, HM7, HB7, HFX⟩
         case measure => simp [intOf]; omega
       ·go_simp
        have hb8 : Below u3.heap.size u3 (u3.alloc (.cells #[.int .u8 0] 5)) := (Below.refl _ _).alloc (Nat.le_refl _) _
        have Y8 := Lib.hid (ByteAt.new O3.out 0 5)
        have O8 := Lib.hid (O3.out.keep hb8)
        clear hb8
        generalize u3.alloc (.cells #[.int .u8 0] 5) = u8 at *
        refine hK.out _ _ (by exact HSK.out _ O8.out.below) (fun hHeld => ?_)
        clear hK K
        try simp only [zA, zB, zC, Act.put, zD, zE, zF]
        refine wpAnyH_ready (rs := [15]) (by kernel_rfl) (by simp) ?_
        refine AllReadyH.cons rfl (fun K hK => ?_) (AllReadyH.nil)
        obtain ⟨l9, ho1, hoct1⟩ := O8.out.row
        have hbs := O8.out.size
        refine step_append_str_at rfl (.tmp 65) (.tmp 70) 32 9 rfl wx.heap.size 5 i0 Tryz.underlying32 Tryz.underlying9 hi hz0 hz1 hz2 v3 (n + 1) (u8s l9) rfl ho1 nm rfl (by unfold maxLen; omega) (by omega) (by omega) ?_
        intro v9 u9 ho hgr hmv
        have O9 : Hid (Out wx u9 wx.heap.size wr0 hi1 v9 (n + 1 + nm.size) (.slice ax nx cx) nx) := O8.out.put (l := l9 ++ nm.data.toList.map UInt8.toNat) (by rw [u8s_app, ← str_u8s]; exact ho) (oct_app hoct1 (oct_str nm)) hgr hmv
        have Z9 := Lib.hid (Y8.out.put hgr hmv)
        clear ho hgr hmv ho1 hoct1 hbs
        refine hK.out _ _ (by exact HSK.out _ O9.out.below) (fun hHeld => ?_)
        clear hK K
        try simp only [zA, zB, zC, Act.put, zD, zE, zF]
        refine wpAnyH_ready (rs := [17]) (by kernel_rfl) (by simp) ?_
        refine AllReadyH.cons rfl (fun K hK => ?_) (AllReadyH.nil)
        obtain ⟨l10, ho1, hoct1⟩ := O9.out.row
        have hbs := O9.out.size
        refine step_append_lies rfl (.tmp 71) (.tmp 72) 32 rfl wx.heap.size 5 i0 (.int .u8 0) 1 1 Tryz.underlying32 hi hz0 hz1 hz2 rfl (by decide) v9 (n + 1 + nm.size) (u8s l10) rfl ho1 ⟨u3.heap.size, 0, none⟩ 1 1 [.int .u8 0] rfl rfl (by decide) Z9.out.reads (by intro u hu; simp at hu; subst hu; rfl) (by unfold maxLen; omega) (by omega) (by omega) ?_
        intro v10 u10 ho hlies
        have O10 : Hid (Out wx u10 wx.heap.size wr0 hi1 v10 (n + 1 + nm.size + 1) (.slice ax nx cx) nx) := O9.out.put (l := l10 ++ [0]) (by rw [u8s_app]; exact ho) (oct_app hoct1 (oct_one (by decide))) hlies.grown hlies.moved
        clear ho hlies ho1 hoct1 hbs
        refine hK.out _ _ (by exact HSK.out _ O10.out.below) (fun hHeld => ?_)
        clear hK K
        try simp only [zA, zB, zC, Act.put, zD, zE, zF]
        refine wpAnyH_ready (rs := [19]) (by kernel_rfl) (by simp) ?_
        refine AllReadyH.cons rfl (fun K hK => ?_) (AllReadyH.nil)
        obtain ⟨l11, ho1, hoct1⟩ := O10.out.row
        have hbs := O10.out.size
        obtain ⟨_, _, lb, eb, hlb, hob, hrb⟩ := O10.out.x
        injection eb with eb1 eb2 eb3
        subst eb1
        subst eb3
        refine step_append_src rfl (.tmp 73) (.tmp 74) 32 rfl wx.heap.size 5 i0 (.int .u8 0) 1 1 Tryz.underlying32 hi hz0 hz1 hz2 rfl (by decide) v10 (n + 1 + nm.size + 1) (u8s l11) rfl ho1 ax nx cx (u8s lb) rfl (src_bytes hlb hrb) (by simp [u8s, hlb]) (u8s_one lb) (by unfold maxLen; omega) (by omega) (by omega) ?_
        intro v11 u11 ho hgr
        have HB11 : Hid (Below wx.heap.size wx u11) := O10.out.below.grown hgr (by omega) (fun j hj => (owns_block ho1 hj).1)
        have HM11 : Hid (Mine u11 wx.heap.size v11 (n + 1 + nm.size + 1 + nx)) := Mine.more ho hoct1 hob (Nat.le_trans (by omega) hgr.size)
        clear ho hgr ho1 hoct1 hbs hrb hlb hob
        refine hK.out _ _ (by exact HSK.out _ HB11.out) (fun hHeld => ?_)
        clear hK K
        try simp only [zA, zB, zC, Act.put, zD, zE, zF]
        refine wpAnyH_take (i := 20) (v := ?_) rfl (by kernel_rfl) (by kernel_rfl) (by kernel_rfl) (fun _ _ _ h => h) (Or.inl ⟨by kernel_rfl, ?_⟩) (by assumption) ?_
        rotate_left
        ·intro wS hSw
         (try dsimp only at hSw)
         go_simp
         try (with_reducible rfl)
        try simp only [zA, zB, zC, Act.put, zD, zE, zF]
        refine wpAnyH_done (by kernel_rfl) ?_ _
        obtain ⟨a4, c4, hv4⟩ : ∃ a c, v11 = .slice a (n + 1 + nm.size + 1 + nx) c := by obtain ⟨⟨_, z, _⟩, _⟩ := HM11.out; exact owns_shape z
        rw [hv4] at HM11 ⊢
        clear hv4
        by_cases hbig : 65536 < n + 1 + nm.size + 1 + nx
        ·have hd4 : decide (((n + 1 + nm.size + 1 + nx : Nat) : Int) > 65536) = true := by rw [decide_eq_true_eq]; omega
         go_wp2_with fail
         exact bodyPost_ret (v := .tuple #[.slice none 0 0, .bool false]) (by simp [results, Tryz.results72, go_sem]) rfl ⟨_, false, 0, rfl, BytesAt.none _ _, (fun z => by cases z), HB11.out⟩
        ·have hd4 : decide (((n + 1 + nm.size + 1 + nx : Nat) : Int) > 65536) = false := by rw [decide_eq_false_iff_not]; omega
         go_wp2_with fail
         go_roundw
         case rel => exact ⟨k + 1, _, _, by go_num, rfl, by omega, by omega, by omega, HM11, HB11, HFX⟩
         case measure => simp [intOf]; omega
      ·go_simp
       have hb12 : Below u2.heap.size u2 (u2.alloc (.cells #[.int .u8 0] 5)) := (Below.refl _ _).alloc (Nat.le_refl _) _
       have Y12 := Lib.hid (ByteAt.new O2.out 0 5)
       have O12 := Lib.hid (O2.out.keep hb12)
       have X112 := Lib.hid (Y2.out.keep hb12)
       clear hb12
       generalize u2.alloc (.cells #[.int .u8 0] 5) = u12 at *
       refine hK.out _ _ (by exact HSK.out _ O12.out.below) (fun hHeld => ?_)
       clear hK K
       try simp only [zA, zB, zC, Act.put, zD, zE, zF]
       refine wpAnyH_ready (rs := [9]) (by kernel_rfl) (by simp) ?_
       refine AllReadyH.cons rfl (fun K hK => ?_) (AllReadyH.nil)
       obtain ⟨l13, ho1, hoct1⟩ := O12.out.row
       have hbs := O12.out.size
       refine step_append_lies rfl (.tmp 56) (.tmp 64) 32 rfl wx.heap.size 5 i0 (.int .u8 0) 1 1 Tryz.underlying32 hi hz0 hz1 hz2 rfl (by decide) v (n) (u8s l13) rfl ho1 ⟨u1.heap.size, 0, none⟩ 1 1 [.int .u8 (c : Int)] rfl rfl (by decide) X112.out.reads (by intro u hu; simp at hu; subst hu; rfl) (by unfold maxLen; omega) (by omega) (by omega) ?_
       intro v13 u13 ho hlies
       have O13 : Hid (Out wx u13 wx.heap.size wr0 hi1 v13 (n + 1) (.slice ax nx cx) nx) := O12.out.put (l := l13 ++ [c]) (by rw [u8s_app]; exact ho) (oct_app hoct1 (oct_one hc256)) hlies.grown hlies.moved
       have Z13 := Lib.hid (Y12.out.put hlies.grown hlies.moved)
       clear ho hlies ho1 hoct1 hbs
       refine hK.out _ _ (by exact HSK.out _ O13.out.below) (fun hHeld => ?_)
       clear hK K
       try simp only [zA, zB, zC, Act.put, zD, zE, zF]
       refine wpAnyH_ready (rs := [15]) (by kernel_rfl) (by simp) ?_
       refine AllReadyH.cons rfl (fun K hK => ?_) (AllReadyH.nil)
       obtain ⟨l14, ho1, hoct1⟩ := O13.out.row
       have hbs := O13.out.size
       refine step_append_str_at rfl (.tmp 65) (.tmp 70) 32 9 rfl wx.heap.size 5 i0 Tryz.underlying32 Tryz.underlying9 hi hz0 hz1 hz2 v13 (n + 1) (u8s l14) rfl ho1 nm rfl (by unfold maxLen; omega) (by omega) (by omega) ?_
       intro v14 u14 ho hgr hmv
       have O14 : Hid (Out wx u14 wx.heap.size wr0 hi1 v14 (n + 1 + nm.size) (.slice ax nx cx) nx) := O13.out.put (l := l14 ++ nm.data.toList.map UInt8.toNat) (by rw [u8s_app, ← str_u8s]; exact ho) (oct_app hoct1 (oct_str nm)) hgr hmv
       have Z14 := Lib.hid (Z13.out.put hgr hmv)
       clear ho hgr hmv ho1 hoct1 hbs
       refine hK.out _ _ (by exact HSK.out _ O14.out.below) (fun hHeld => ?_)
       clear hK K
       try simp only [zA, zB, zC, Act.put, zD, zE, zF]
       refine wpAnyH_ready (rs := [17]) (by kernel_rfl) (by simp) ?_
       refine AllReadyH.cons rfl (fun K hK => ?_) (AllReadyH.nil)
       obtain ⟨l15, ho1, hoct1⟩ := O14.out.row
       have hbs := O14.out.size
       refine step_append_lies rfl (.tmp 71) (.tmp 72) 32 rfl wx.heap.size 5 i0 (.int .u8 0) 1 1 Tryz.underlying32 hi hz0 hz1 hz2 rfl (by decide) v14 (n + 1 + nm.size) (u8s l15) rfl ho1 ⟨u2.heap.size, 0, none⟩ 1 1 [.int .u8 0] rfl rfl (by decide) Z14.out.reads (by intro u hu; simp at hu; subst hu; rfl) (by unfold maxLen; omega) (by omega) (by omega) ?_
       intro v15 u15 ho hlies
       have O15 : Hid (Out wx u15 wx.heap.size wr0 hi1 v15 (n + 1 + nm.size + 1) (.slice ax nx cx) nx) := O14.out.put (l := l15 ++ [0]) (by rw [u8s_app]; exact ho) (oct_app hoct1 (oct_one (by decide))) hlies.grown hlies.moved
       clear ho hlies ho1 hoct1 hbs
       refine hK.out _ _ (by exact HSK.out _ O15.out.below) (fun hHeld => ?_)
       clear hK K
       try simp only [zA, zB, zC, Act.put, zD, zE, zF]
       refine wpAnyH_ready (rs := [19]) (by kernel_rfl) (by simp) ?_
       refine AllReadyH.cons rfl (fun K hK => ?_) (AllReadyH.nil)
       obtain ⟨l16, ho1, hoct1⟩ := O15.out.row
       have hbs := O15.out.size
       obtain ⟨_, _, lb, eb, hlb, hob, hrb⟩ := O15.out.x
       injection eb with eb1 eb2 eb3
       subst eb1
       subst eb3
       refine step_append_src rfl (.tmp 73) (.tmp 74) 32 rfl wx.heap.size 5 i0 (.int .u8 0) 1 1 Tryz.underlying32 hi hz0 hz1 hz2 rfl (by decide) v15 (n + 1 + nm.size + 1) (u8s l16) rfl ho1 ax nx cx (u8s lb) rfl (src_bytes hlb hrb) (by simp [u8s, hlb]) (u8s_one lb) (by unfold maxLen; omega) (by omega) (by omega) ?_
       intro v16 u16 ho hgr
       have HB16 : Hid (Below wx.heap.size wx u16) := O15.out.below.grown hgr (by omega) (fun j hj => (owns_block ho1 hj).1)
       have HM16 : Hid (Mine u16 wx.heap.size v16 (n + 1 + nm.size + 1 + nx)) := Mine.more ho hoct1 hob (Nat.le_trans (by omega) hgr.size)
       clear ho hgr ho1 hoct1 hbs hrb hlb hob
       refine hK.out _ _ (by exact HSK.out _ HB16.out) (fun hHeld => ?_)
       clear hK K
       try simp only [zA, zB, zC, Act.put, zD, zE, zF]
       refine wpAnyH_take (i := 20) (v := ?_) rfl (by kernel_rfl) (by kernel_rfl) (by kernel_rfl) (fun _ _ _ h => h) (Or.inl ⟨by kernel_rfl, ?_⟩) (by assumption) ?_
       rotate_left
       ·intro wS hSw
        (try dsimp only at hSw)
        go_simp
        try (with_reducible rfl)
       try simp only [zA, zB, zC, Act.put, zD, zE, zF]
       refine wpAnyH_done (by kernel_rfl) ?_ _
       obtain ⟨a4, c4, hv4⟩ : ∃ a c, v16 = .slice a (n + 1 + nm.size + 1 + nx) c := by obtain ⟨⟨_, z, _⟩, _⟩ := HM16.out; exact owns_shape z
       rw [hv4] at HM16 ⊢
       clear hv4
       by_cases hbig : 65536 < n + 1 + nm.size + 1 + nx
       ·have hd4 : decide (((n + 1 + nm.size + 1 + nx : Nat) : Int) > 65536) = true := by rw [decide_eq_true_eq]; omega
        go_wp2_with fail
        exact bodyPost_ret (v := .tuple #[.slice none 0 0, .bool false]) (by simp [results, Tryz.results72, go_sem]) rfl ⟨_, false, 0, rfl, BytesAt.none _ _, (fun z => by cases z), HB16.out⟩
       ·have hd4 : decide (((n + 1 + nm.size + 1 + nx : Nat) : Int) > 65536) = false := by rw [decide_eq_false_iff_not]; omega
        go_wp2_with fail
        go_roundw
        case rel => exact ⟨k + 1, _, _, by go_num, rfl, by omega, by omega, by omega, HM16, HB16, HFX⟩
        case measure => simp [intOf]; omega
     ·go_simp
      have hb17 : Below u1.heap.size u1 (u1.alloc (.cells #[.int .u8 0] 5)) := (Below.refl _ _).alloc (Nat.le_refl _) _
      have Y17 := Lib.hid (ByteAt.new O1.out 0 5)
      have O17 := Lib.hid (O1.out.keep hb17)
      clear hb17
      generalize u1.alloc (.cells #[.int .u8 0] 5) = u17 at *
      refine hK.out _ _ (by exact HSK.out _ O17.out.below) (fun hHeld => ?_)
      clear hK K
      try simp only [zA, zB, zC, Act.put, zD, zE, zF]
      refine wpAnyH_ready (rs := [8]) (by kernel_rfl) (by simp) ?_
      refine AllReadyH.cons rfl (fun K hK => ?_) (AllReadyH.nil)
      go_simp
      have hb18 : Below u17.heap.size u17 (u17.alloc (.cells #[.int .u8 (c : Int)] 5)) := (Below.refl _ _).alloc (Nat.le_refl _) _
      have Y18 := Lib.hid (ByteAt.new O17.out (c : Int) 5)
      have O18 := Lib.hid (O17.out.keep hb18)
      have X018 := Lib.hid (Y17.out.keep hb18)
      clear hb18
      generalize u17.alloc (.cells #[.int .u8 (c : Int)] 5) = u18 at *
      refine hK.out _ _ (by exact HSK.out _ O18.out.below) (fun hHeld => ?_)
      clear hK K
      try simp only [zA, zB, zC, Act.put, zD, zE, zF]
      refine wpAnyH_ready (rs := [9]) (by kernel_rfl) (by simp) ?_
      refine AllReadyH.cons rfl (fun K hK => ?_) (AllReadyH.nil)
      obtain ⟨l19, ho1, hoct1⟩ := O18.out.row
      have hbs := O18.out.size
      refine step_append_lies rfl (.tmp 56) (.tmp 64) 32 rfl wx.heap.size 5 i0 (.int .u8 0) 1 1 Tryz.underlying32 hi hz0 hz1 hz2 rfl (by decide) v (n) (u8s l19) rfl ho1 ⟨u17.heap.size, 0, none⟩ 1 1 [.int .u8 (c : Int)] rfl rfl (by decide) Y18.out.reads (by intro u hu; simp at hu; subst hu; rfl) (by unfold maxLen; omega) (by omega) (by omega) ?_
      intro v19 u19 ho hlies
      have O19 : Hid (Out wx u19 wx.heap.size wr0 hi1 v19 (n + 1) (.slice ax nx cx) nx) := O18.out.put (l := l19 ++ [c]) (by rw [u8s_app]; exact ho) (oct_app hoct1 (oct_one hc256)) hlies.grown hlies.moved
      have Z19 := Lib.hid (X018.out.put hlies.grown hlies.moved)
      clear ho hlies ho1 hoct1 hbs
      refine hK.out _ _ (by exact HSK.out _ O19.out.below) (fun hHeld => ?_)
      clear hK K
      try simp only [zA, zB, zC, Act.put, zD, zE, zF]
      refine wpAnyH_ready (rs := [15]) (by kernel_rfl) (by simp) ?_
      refine AllReadyH.cons rfl (fun K hK => ?_) (AllReadyH.nil)
      obtain ⟨l20, ho1, hoct1⟩ := O19.out.row
      have hbs := O19.out.size
      refine step_append_str_at rfl (.tmp 65) (.tmp 70) 32 9 rfl wx.heap.size 5 i0 Tryz.underlying32 Tryz.underlying9 hi hz0 hz1 hz2 v19 (n + 1) (u8s l20) rfl ho1 nm rfl (by unfold maxLen; omega) (by omega) (by omega) ?_
      intro v20 u20 ho hgr hmv
      have O20 : Hid (Out wx u20 wx.heap.size wr0 hi1 v20 (n + 1 + nm.size) (.slice ax nx cx) nx) := O19.out.put (l := l20 ++ nm.data.toList.map UInt8.toNat) (by rw [u8s_app, ← str_u8s]; exact ho) (oct_app hoct1 (oct_str nm)) hgr hmv
      have Z20 := Lib.hid (Z19.out.put hgr hmv)
      clear ho hgr hmv ho1 hoct1 hbs
      refine hK.out _ _ (by exact HSK.out _ O20.out.below) (fun hHeld => ?_)
      clear hK K
      try simp only [zA, zB, zC, Act.put, zD, zE, zF]
      refine wpAnyH_ready (rs := [17]) (by kernel_rfl) (by simp) ?_
      refine AllReadyH.cons rfl (fun K hK => ?_) (AllReadyH.nil)
      obtain ⟨l21, ho1, hoct1⟩ := O20.out.row
      have hbs := O20.out.size
      refine step_append_lies rfl (.tmp 71) (.tmp 72) 32 rfl wx.heap.size 5 i0 (.int .u8 0) 1 1 Tryz.underlying32 hi hz0 hz1 hz2 rfl (by decide) v20 (n + 1 + nm.size) (u8s l21) rfl ho1 ⟨u1.heap.size, 0, none⟩ 1 1 [.int .u8 0] rfl rfl (by decide) Z20.out.reads (by intro u hu; simp at hu; subst hu; rfl) (by unfold maxLen; omega) (by omega) (by omega) ?_
      intro v21 u21 ho hlies
      have O21 : Hid (Out wx u21 wx.heap.size wr0 hi1 v21 (n + 1 + nm.size + 1) (.slice ax nx cx) nx) := O20.out.put (l := l21 ++ [0]) (by rw [u8s_app]; exact ho) (oct_app hoct1 (oct_one (by decide))) hlies.grown hlies.moved
      clear ho hlies ho1 hoct1 hbs
      refine hK.out _ _ (by exact HSK.out _ O21.out.below) (fun hHeld => ?_)
      clear hK K
      try simp only [zA, zB, zC, Act.put, zD, zE, zF]
      refine wpAnyH_ready (rs := [19]) (by kernel_rfl) (by simp) ?_
      refine AllReadyH.cons rfl (fun K hK => ?_) (AllReadyH.nil)
      obtain ⟨l22, ho1, hoct1⟩ := O21.out.row
      have hbs := O21.out.size
      obtain ⟨_, _, lb, eb, hlb, hob, hrb⟩ := O21.out.x
      injection eb with eb1 eb2 eb3
      subst eb1
      subst eb3
      refine step_append_src rfl (.tmp 73) (.tmp 74) 32 rfl wx.heap.size 5 i0 (.int .u8 0) 1 1 Tryz.underlying32 hi hz0 hz1 hz2 rfl (by decide) v21 (n + 1 + nm.size + 1) (u8s l22) rfl ho1 ax nx cx (u8s lb) rfl (src_bytes hlb hrb) (by simp [u8s, hlb]) (u8s_one lb) (by unfold maxLen; omega) (by omega) (by omega) ?_
      intro v22 u22 ho hgr
      have HB22 : Hid (Below wx.heap.size wx u22) := O21.out.below.grown hgr (by omega) (fun j hj => (owns_block ho1 hj).1)
      have HM22 : Hid (Mine u22 wx.heap.size v22 (n + 1 + nm.size + 1 + nx)) := Mine.more ho hoct1 hob (Nat.le_trans (by omega) hgr.size)
      clear ho hgr ho1 hoct1 hbs hrb hlb hob
      refine hK.out _ _ (by exact HSK.out _ HB22.out) (fun hHeld => ?_)
      clear hK K
      try simp only [zA, zB, zC, Act.put, zD, zE, zF]
      refine wpAnyH_take (i := 20) (v := ?_) rfl (by kernel_rfl) (by kernel_rfl) (by kernel_rfl) (fun _ _ _ h => h) (Or.inl ⟨by kernel_rfl, ?_⟩) (by assumption) ?_
      rotate_left
      ·intro wS hSw
       (try dsimp only at hSw)
       go_simp
       try (with_reducible rfl)
      try simp only [zA, zB, zC, Act.put, zD, zE, zF]
      refine wpAnyH_done (by kernel_rfl) ?_ _
      obtain ⟨a4, c4, hv4⟩ : ∃ a c, v22 = .slice a (n + 1 + nm.size + 1 + nx) c := by obtain ⟨⟨_, z, _⟩, _⟩ := HM22.out; exact owns_shape z
      rw [hv4] at HM22 ⊢
      clear hv4
      by_cases hbig : 65536 < n + 1 + nm.size + 1 + nx
      ·have hd4 : decide (((n + 1 + nm.size + 1 + nx : Nat) : Int) > 65536) = true := by rw [decide_eq_true_eq]; omega
       go_wp2_with fail
       exact bodyPost_ret (v := .tuple #[.slice none 0 0, .bool false]) (by simp [results, Tryz.results72, go_sem]) rfl ⟨_, false, 0, rfl, BytesAt.none _ _, (fun z => by cases z), HB22.out⟩
      ·have hd4 : decide (((n + 1 + nm.size + 1 + nx : Nat) : Int) > 65536) = false := by rw [decide_eq_false_iff_not]; omega
       go_wp2_with fail
       go_roundw
       case rel => exact ⟨k + 1, _, _, by go_num, rfl, by omega, by omega, by omega, HM22, HB22, HFX⟩
       case measure => simp [intOf]; omega
    ·go_simp
     have hb23 : Below wd.heap.size wd (wd.alloc (.cells #[.int .u8 0] 5)) := (Below.refl _ _).alloc (Nat.le_refl _) _
     have Y23 := Lib.hid (ByteAt.new O0.out 0 5)
     have O23 := Lib.hid (O0.out.keep hb23)
     clear hb23
     generalize wd.alloc (.cells #[.int .u8 0] 5) = u23 at *
     refine hK.out _ _ (by exact HSK.out _ O23.out.below) (fun hHeld => ?_)
     clear hK K
     try simp only [zA, zB, zC, Act.put, zD, zE, zF]
     refine wpAnyH_ready (rs := [7]) (by kernel_rfl) (by simp) ?_
     refine AllReadyH.cons rfl (fun K hK => ?_) (AllReadyH.nil)
     go_simp
     go_at_call 90
     refine (code_some ka u23).mono ?_
     rintro e u24 ⟨⟨c, hc256, rfl⟩, hw24⟩
     have O24 := Lib.hid (O23.out)
     rw [← hw24] at O24
     have Z24 := Lib.hid (Y23.out)
     rw [← hw24] at Z24
     clear hw24
     refine hK.out _ _ (by exact HSK.out _ O24.out.below) (fun hHeld => ?_)
     clear hK K
     try simp only [zA, zB, zC, Act.put, zD, zE, zF]
     refine wpAnyH_ready (rs := [8]) (by kernel_rfl) (by simp) ?_
     refine AllReadyH.cons rfl (fun K hK => ?_) (AllReadyH.nil)
     go_simp
     have hb25 : Below u24.heap.size u24 (u24.alloc (.cells #[.int .u8 (c : Int)] 5)) := (Below.refl _ _).alloc (Nat.le_refl _) _
     have Y25 := Lib.hid (ByteAt.new O24.out (c : Int) 5)
     have O25 := Lib.hid (O24.out.keep hb25)
     have X025 := Lib.hid (Z24.out.keep hb25)
     clear hb25
     generalize u24.alloc (.cells #[.int .u8 (c : Int)] 5) = u25 at *
     refine hK.out _ _ (by exact HSK.out _ O25.out.below) (fun hHeld => ?_)
     clear hK K
     try simp only [zA, zB, zC, Act.put, zD, zE, zF]
     refine wpAnyH_ready (rs := [9]) (by kernel_rfl) (by simp) ?_
     refine AllReadyH.cons rfl (fun K hK => ?_) (AllReadyH.nil)
     obtain ⟨l26, ho1, hoct1⟩ := O25.out.row
     have hbs := O25.out.size
     refine step_append_lies rfl (.tmp 56) (.tmp 64) 32 rfl wx.heap.size 5 i0 (.int .u8 0) 1 1 Tryz.underlying32 hi hz0 hz1 hz2 rfl (by decide) v (n) (u8s l26) rfl ho1 ⟨u24.heap.size, 0, none⟩ 1 1 [.int .u8 (c : Int)] rfl rfl (by decide) Y25.out.reads (by intro u hu; simp at hu; subst hu; rfl) (by unfold maxLen; omega) (by omega) (by omega) ?_
     intro v26 u26 ho hlies
     have O26 : Hid (Out wx u26 wx.heap.size wr0 hi1 v26 (n + 1) (.slice ax nx cx) nx) := O25.out.put (l := l26 ++ [c]) (by rw [u8s_app]; exact ho) (oct_app hoct1 (oct_one hc256)) hlies.grown hlies.moved
     have Z26 := Lib.hid (X025.out.put hlies.grown hlies.moved)
     clear ho hlies ho1 hoct1 hbs
     refine hK.out _ _ (by exact HSK.out _ O26.out.below) (fun hHeld => ?_)
     clear hK K
     try simp only [zA, zB, zC, Act.put, zD, zE, zF]
     refine wpAnyH_ready (rs := [15]) (by kernel_rfl) (by simp) ?_
     refine AllReadyH.cons rfl (fun K hK => ?_) (AllReadyH.nil)
     obtain ⟨l27, ho1, hoct1⟩ := O26.out.row
     have hbs := O26.out.size
     refine step_append_str_at rfl (.tmp 65) (.tmp 70) 32 9 rfl wx.heap.size 5 i0 Tryz.underlying32 Tryz.underlying9 hi hz0 hz1 hz2 v26 (n + 1) (u8s l27) rfl ho1 nm rfl (by unfold maxLen; omega) (by omega) (by omega) ?_
     intro v27 u27 ho hgr hmv
     have O27 : Hid (Out wx u27 wx.heap.size wr0 hi1 v27 (n + 1 + nm.size) (.slice ax nx cx) nx) := O26.out.put (l := l27 ++ nm.data.toList.map UInt8.toNat) (by rw [u8s_app, ← str_u8s]; exact ho) (oct_app hoct1 (oct_str nm)) hgr hmv
     have Z27 := Lib.hid (Z26.out.put hgr hmv)
     clear ho hgr hmv ho1 hoct1 hbs
     refine hK.out _ _ (by exact HSK.out _ O27.out.below) (fun hHeld => ?_)
     clear hK K
     try simp only [zA, zB, zC, Act.put, zD, zE, zF]
     refine wpAnyH_ready (rs := [17]) (by kernel_rfl) (by simp) ?_
     refine AllReadyH.cons rfl (fun K hK => ?_) (AllReadyH.nil)
     obtain ⟨l28, ho1, hoct1⟩ := O27.out.row
     have hbs := O27.out.size
     refine step_append_lies rfl (.tmp 71) (.tmp 72) 32 rfl wx.heap.size 5 i0 (.int .u8 0) 1 1 Tryz.underlying32 hi hz0 hz1 hz2 rfl (by decide) v27 (n + 1 + nm.size) (u8s l28) rfl ho1 ⟨wd.heap.size, 0, none⟩ 1 1 [.int .u8 0] rfl rfl (by decide) Z27.out.reads (by intro u hu; simp at hu; subst hu; rfl) (by unfold maxLen; omega) (by omega) (by omega) ?_
     intro v28 u28 ho hlies
     have O28 : Hid (Out wx u28 wx.heap.size wr0 hi1 v28 (n + 1 + nm.size + 1) (.slice ax nx cx) nx) := O27.out.put (l := l28 ++ [0]) (by rw [u8s_app]; exact ho) (oct_app hoct1 (oct_one (by decide))) hlies.grown hlies.moved
     clear ho hlies ho1 hoct1 hbs
     refine hK.out _ _ (by exact HSK.out _ O28.out.below) (fun hHeld => ?_)
     clear hK K
     try simp only [zA, zB, zC, Act.put, zD, zE, zF]
     refine wpAnyH_ready (rs := [19]) (by kernel_rfl) (by simp) ?_
     refine AllReadyH.cons rfl (fun K hK => ?_) (AllReadyH.nil)
     obtain ⟨l29, ho1, hoct1⟩ := O28.out.row
     have hbs := O28.out.size
     obtain ⟨_, _, lb, eb, hlb, hob, hrb⟩ := O28.out.x
     injection eb with eb1 eb2 eb3
     subst eb1
     subst eb3
     refine step_append_src rfl (.tmp 73) (.tmp 74) 32 rfl wx.heap.size 5 i0 (.int .u8 0) 1 1 Tryz.underlying32 hi hz0 hz1 hz2 rfl (by decide) v28 (n + 1 + nm.size + 1) (u8s l29) rfl ho1 ax nx cx (u8s lb) rfl (src_bytes hlb hrb) (by simp [u8s, hlb]) (u8s_one lb) (by unfold maxLen; omega) (by omega) (by omega) ?_
     intro v29 u29 ho hgr
     have HB29 : Hid (Below wx.heap.size wx u29) := O28.out.below.grown hgr (by omega) (fun j hj => (owns_block ho1 hj).1)
     have HM29 : Hid (Mine u29 wx.heap.size v29 (n + 1 + nm.size + 1 + nx)) := Mine.more ho hoct1 hob (Nat.le_trans (by omega) hgr.size)
     clear ho hgr ho1 hoct1 hbs hrb hlb hob
     refine hK.out _ _ (by exact HSK.out _ HB29.out) (fun hHeld => ?_)
     clear hK K
     try simp only [zA, zB, zC, Act.put, zD, zE, zF]
     refine wpAnyH_take (i := 20) (v := ?_) rfl (by kernel_rfl) (by kernel_rfl) (by kernel_rfl) (fun _ _ _ h => h) (Or.inl ⟨by kernel_rfl, ?_⟩) (by assumption) ?_
     rotate_left
     ·intro wS hSw
      (try dsimp only at hSw)
      go_simp
      try (with_reducible rfl)
     try simp only [zA, zB, zC, Act.put, zD, zE, zF]
     refine wpAnyH_done (by kernel_rfl) ?_ _
     obtain ⟨a4, c4, hv4⟩ : ∃ a c, v29 = .slice a (n + 1 + nm.size + 1 + nx) c := by obtain ⟨⟨_, z, _⟩, _⟩ := HM29.out; exact owns_shape z
     rw [hv4] at HM29 ⊢
     clear hv4
     by_cases hbig : 65536 < n + 1 + nm.size + 1 + nx
     ·have hd4 : decide (((n + 1 + nm.size + 1 + nx : Nat) : Int) > 65536) = true := by rw [decide_eq_true_eq]; omega
      go_wp2_with fail
      exact bodyPost_ret (v := .tuple #[.slice none 0 0, .bool false]) (by simp [results, Tryz.results72, go_sem]) rfl ⟨_, false, 0, rfl, BytesAt.none _ _, (fun z => by cases z), HB29.out⟩
     ·have hd4 : decide (((n + 1 + nm.size + 1 + nx : Nat) : Int) > 65536) = false := by rw [decide_eq_false_iff_not]; omega
      go_wp2_with fail
      go_roundw
      case rel => exact ⟨k + 1, _, _, by go_num, rfl, by omega, by omega, by omega, HM29, HB29, HFX⟩
      case measure => simp [intOf]; omega
end Go.Proofs.YtngllchoiffniaaGreatDoor
end
