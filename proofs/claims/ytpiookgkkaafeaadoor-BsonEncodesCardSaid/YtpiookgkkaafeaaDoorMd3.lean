/- RefFieldsX, RefOwnXM, RefOwnL, RefOwnXD. -/
import Derived.Test.YtpiookgkkaafeaaDoorMd2
import Derived.Test.YtpiookgkkaafeaaDoorMg23
import Derived.Test.YtpiookgkkaafeaaDoorMd1
import Derived.Test.YtpiookgkkaafeaaDoorMd0
import Derived.Test.YtpiookgkkaafeaaDoorMg10
set_option maxRecDepth 100000
section
namespace Go.Proofs.YtpiookgkkaafeaaDoor
open Go.RowKit
open Seal
open Bson (Val)
open Path (nameMay)
set_option maxRecDepth 100000 in
set_option maxHeartbeats 20000000 in
theorem fieldsx_do (h : Nat) (HO : OwnDoX h) (d : Int) (h0 : 0 ≤ d) (h1 : d ≤ 32) (f : List (ByteArray × Val)) : FieldsDoX h f d := by
  intro Q wx fa fc hlen hwt hbd hF
  have HWT := Lib.hid hwt
  have HBD := Lib.hid hbd
  clear hwt hbd
  obtain ⟨D, hD⟩ : ∃ D, D = (32 - d).toNat := ⟨_, rfl⟩
  rw [← hD] at HBD ⊢
  have HDD := Lib.hid hD
  clear hD
  have IH := Lib.hid HO
  have HF := Lib.hid hF
  obtain ⟨fn, hfn⟩ : ∃ n, n = f.length := ⟨_, rfl⟩
  rw [← hfn] at hlen
  rw [← hfn]
  have HFN := Lib.hid hfn
  obtain ⟨i0, hi, hz0, hz1, hz2⟩ := info_parts infoU8
  clear hF HO hfn
  have hmk := run_make4 wx
  go_enter Tryd.func59, Tryd.ntmps59
  go_wp2_with fail
  have HM0 : Hid (MineX (wx.alloc (.cells (madeCells #[.int .u8 0] 4) 5)) wx.heap.size (.slice (some ⟨wx.heap.size, 0, none⟩) 4 4) (4 + ([] : List Nat).length) ([0, 0, 0, 0] ++ [])) := ⟨⟨by simp [u8s], .inr ⟨wx.heap.size, 4, (u8s (List.replicate 4 0)).toArray, rfl, Nat.le_refl _, Row.made (w := wx) 4, Nat.le_refl _, by decide, by simp [u8s], by simp [u8s]⟩⟩, fun c hc => by have := List.eq_of_mem_replicate (n := 4) (a := 0) hc; omega, by simp⟩
  have HB0 : Hid (Below wx.heap.size wx (wx.alloc (.cells (madeCells #[.int .u8 0] 4) 5))) := (Below.refl _ _).alloc (Nat.le_refl _) _
  go_loopw [6, 7] (fun b i wr => ∃ (k : Nat) (v : Value) (bs : List Nat), i = .int .i64 k ∧ v = b ∧ k ≤ fn ∧ Hid (MineX wr wx.heap.size v (4 + bs.length) ([0, 0, 0, 0] ++ bs)) ∧ Hid (Below wx.heap.size wx wr) ∧ Hid (Bson.row (Bson.enc D) (f.take k) = some bs) ∧ Hid (((f.take k).map (·.1)).Nodup)) (fun _ i _ => fn - (intOf i).toNat)
  case atStart => exact ⟨0, _, [], rfl, rfl, Nat.zero_le _, HM0, HB0, rfl, List.nodup_nil⟩
  case round =>
    clear HM0 HB0
    obtain ⟨k, v, bs, rfl, rfl, hk, HM, HB, HRW, HND⟩ := hrel
    have hbs6 : bs.length ≤ 60000 := HBD.out k bs HRW.out
    obtain ⟨n, hn⟩ : ∃ n, n = 4 + bs.length := ⟨_, rfl⟩
    rw [← hn] at HM
    have hn4 : 4 ≤ n := by omega
    have hn6 : n ≤ 60004 := by omega
    have HN := Lib.hid hn
    clear hn hbs6
    by_cases hlt : k < fn
    case neg =>
      obtain ⟨a1, c1, hv1⟩ : ∃ a c, v = .slice a n c := owns_shape HM.out.row
      subst hv1
      obtain ⟨hr0, ho0, _⟩ := HM.out
      obtain ⟨l0, hl0⟩ : ∃ l0, l0 = [0, 0, 0, 0] ++ bs := ⟨_, rfl⟩
      rw [← hl0] at hr0 ho0
      have HL0 := Lib.hid hl0
      clear hl0
      have HB2 : Hid (Below wx.heap.size wx (wr.alloc (.cells #[.int .u8 0] 5))) := HB.out.alloc HB.out.size _
      have HOWN : Hid ((wr.alloc (.cells #[.int .u8 0] 5)).ownsRow wx.heap.size 5 1 (.slice a1 n c1) n (u8s l0)) := owns_below hr0 ((Below.refl _ _).alloc (Nat.le_refl _) _)
      have HNW : Hid (∀ j u, ([.int .u8 0] : List Value)[j]? = some u → (wr.alloc (.cells #[.int .u8 0] 5)).cell? (Addr.add ⟨wr.heap.size, 0, none⟩ j) = some u) := one_new wr _ _
      have HSZ := Lib.hid HB2.out.size
      have HO0 := Lib.hid ho0
      clear hr0 ho0 HM HB HF IH
      go_wp2_with (at_builtin; refine wpList_append_sz _ rfl (.tmp 79) (.tmp 80) 22 rfl wx.heap.size 5 i0 (.int .u8 0) 1 1 Tryd.underlying22 hi hz0 hz1 hz2 rfl (.slice a1 n c1) n (u8s l0) rfl HOWN.out ⟨wr.heap.size, 0, none⟩ 1 1 [.int .u8 0] rfl rfl (by decide) (by decide) HNW.out (by intro u hu; simp at hu; subst hu; rfl) (by unfold maxLen; omega) (by omega) HSZ.out ?_)
      intro v5 w5 hown5 hlies5
      have HB5 : Hid (Below wx.heap.size wx w5) := HB2.out.grown hlies5.grown HSZ.out (fun j hj => (owns_block HOWN.out hj).1)
      have HO5 : Hid (w5.ownsRow wx.heap.size 5 1 v5 (n + 1) (u8s (l0 ++ [0]))) := by rw [u8s_app]; exact hown5
      have HC5 : Hid (Oct (l0 ++ [0])) := oct_app HO0.out oct_nought
      clear hown5 hlies5 HOWN HNW HSZ HB2 HO0
      obtain ⟨a5, c5, hv5⟩ : ∃ a c, v5 = .slice a (n + 1) c := owns_shape HO5.out
      subst hv5
      go_wp2_with fail
      go_at_call 58
      refine (num_x _ 4 w5 (by decide)).mono ?_
      rintro e w6 ⟨v6, rfl, hr6, hb6⟩
      obtain ⟨l6, hl6e⟩ : ∃ l6, l6 = Bson.leI ((n + 1 : Nat) : Int) 4 := ⟨_, rfl⟩
      have hl6 : l6.length = 4 := by rw [hl6e]; exact Bson.leI_length _ _
      have ho6 : Oct l6 := by rw [hl6e]; exact leI_oct _ _
      have hr6 : w6.ownsRow w5.heap.size 5 1 v6 4 (u8s l6) := by rw [hl6e]; exact hr6
      have HL6 := Lib.hid hl6e
      clear hl6e
      have HB6 : Hid (Below wx.heap.size wx w6) := HB5.out.trans (hb6.mono HB5.out.size)
      obtain ⟨_, ⟨_, h0⟩ | ⟨g5, cap5, cur5, e5, hbg5, hrow5, hc5, hm5, hsz5, htake5⟩⟩ := owns_below HO5.out hb6
      · exact absurd h0 (by omega)
      obtain ⟨_, ⟨_, h0⟩ | ⟨g6, cap6, cur6, rfl, hbg6, hrow6, hc6, hm6, hsz6, htake6⟩⟩ := hr6
      · exact absurd h0 (by omega)
      injection e5 with ea en ec
      subst ea
      subst ec
      have hown7 := head_over (n := n + 1) hbg5 hrow5 hc5 hm5 hsz5 htake5 hl6 (by omega)
      have hby := BytesX.own hown7 (oct_app ho6 (fun c hc => HC5.out c (List.mem_of_mem_drop hc)))
      have hwr : l6 ++ (l0 ++ [0]).drop 4 = Bson.wrap bs := by
        rw [HL6.out, HL0.out, Bson.wrap]
        have : (((n + 1 : Nat) : Int)) = (bs.length : Int) + 5 := by have := HN.out; omega
        rw [this]; rfl
      rw [hwr] at hby
      clear hwr
      have HB7 := Lib.hid (below_setRow HB6.out hbg5 (cur5.toList.take 0 ++ u8s l6 ++ cur5.toList.drop (0 + (u8s l6).length)).toArray)
      have e6 : (u8s l6).length = 4 := by simp [u8s, hl6]
      have hfit : 0 + (u8s l6).length ≤ cur5.size := by rw [e6, hsz5]; omega
      have HSRC : Hid (∀ j v, (u8s l6)[j]? = some v → w6.cell? ((⟨g6, 0, none⟩ : Addr).add j) = some v) := fun j v hj => by
        have hj4 : j < 4 := by rw [← e6]; exact (List.getElem?_eq_some_iff.1 hj).1
        rw [Addr.add_mid, cell_of_row w6 g6 (0 + j) _ _ _ hrow6, Nat.zero_add, ← Array.getElem?_toList, ← hj, ← htake6, List.getElem?_take_of_lt (by omega)]
      have HBY := Lib.hid hby
      have HR5 := Lib.hid hrow5
      clear hown7 hby HB5 HO5 HC5 hb6 hrow6 hrow5 hsz6 htake6 htake5 hsz5 ho6
      have hcp := run_copy_row (P := Tryd.prog) w6 22 22 3 5 g5 0 (n + 1) c5 ⟨g6, 0, none⟩ 4 cap6 cur5 5 (u8s l6) Tryd.underlying22 (by rw [hi]; rw [Option.map_some, hz1]) HR5.out (by rw [e6]; exact (Nat.min_eq_left (by omega)).symm) HSRC.out hfit (u8s_one l6)
      generalize w6.setRow g5 (cur5.toList.take 0 ++ u8s l6 ++ cur5.toList.drop (0 + (u8s l6).length)).toArray = w7 at *
      clear HSRC HR5 hfit
      have hd4 : decide (((n + 1 : Nat) : Int) ≤ 65536) = true := by rw [decide_eq_true_eq]; omega
      have HEF : Hid (encF D f = some (Bson.wrap bs)) := by
        have h1 := HRW.out
        have h2 := HND.out
        rw [List.take_of_length_le (by have := HFN.out; omega)] at h1 h2
        show encF D f = _
        rw [encF, if_pos h2, h1]; rfl
      go_wp2_with fail
      exact bodyPost_ret (v := .tuple #[.slice (some ⟨g5, 0, none⟩) (n + 1) c5, .bool true]) (by simp [results, Tryd.results59, go_sem]; omega) rfl ⟨_, _, _, rfl, HBY.out.mono (fun g hg => .inr hg), ⟨fun _ => HEF.out, nofun⟩, HB7.out⟩
    obtain ⟨g, o, hla, _, hall⟩ := HF.out.resolve_left (fun e => by have := HFN.out; rw [e] at this; simp at this; omega)
    obtain rfl := hla
    have HALL := Lib.hid hall
    obtain ⟨hnm, hns, v', hsix, hV⟩ := hall k (by have := HFN.out; omega)
    obtain ⟨ka, na, sa, ba, fa', la, bl, bc, fl, fc', ll, lc, rfl⟩ := hV.shape
    obtain ⟨nm, hnme⟩ : ∃ nm, nm = (f[k]'(by have := HFN.out; omega)).1 := ⟨_, rfl⟩
    rw [← hnme] at hnm hns
    have HNM0 := Lib.hid hnm
    have HNS := Lib.hid hns
    have HNE := Lib.hid hnme
    have HSX := Lib.hid hsix
    have HV := Lib.hid (VIn.keep HB.out hV.lt)
    have hgb : g < wx.heap.size := World.block_lt_of_cell? wx _ hnm
    obtain ⟨s0, s1, s2, s3, s4, s5⟩ := (hsix.keep HB.out).cells
    have hd1 : IntKind.i64.wrap (d + 1) = d + 1 := IntWalk.i64_in _ (by omega)
    have HKA : Hid (ka = (f[k]'(by have := HFN.out; omega)).2.kind) := hV.kind_eq
    clear hall hnm hns hsix hV hnme
    go_wp2_with fail
    go_at_call 29
    refine (IH.out _ _ _ wr (d + 1) (by omega) (by omega) (HWT.out _ (List.getElem_mem (by have := HFN.out; omega))) HV.out).mono ?_
    rintro e w1 ⟨vx, ok, lx, rfl, hbx, hle, hb1⟩
    rw [show (33 - (d + 1)).toNat = D by have := HDD.out; omega] at hle
    have hkf : k < f.length := by have := HFN.out; omega
    have HB1 : Hid (Below wx.heap.size wx w1) := HB.out.trans (hb1.mono HB.out.size)
    clear hd1 s0 s1 s2 s3 s4 s5
    cases ok with
    | false =>
      have HWHY : Hid (encF D f = none) := encF_val hkf (hle.2 rfl)
      go_wp2_with fail
      exact bodyPost_ret (v := .tuple #[.slice none 0 0, .bool false]) (by simp [results, Tryd.results59, go_sem]) rfl ⟨_, false, [], rfl, BytesX.none _ _, ⟨nofun, fun _ => HWHY.out⟩, HB1.out⟩
    | true =>
    have HEX : Hid (Bson.enc D (f[k]'hkf).2 = some lx) := hle.1 rfl
    obtain ⟨nx, hnx⟩ : ∃ nx, nx = lx.length := ⟨_, rfl⟩
    have HNX := Lib.hid hnx
    clear hnx
    obtain ⟨wr0, hwr0⟩ : ∃ z, z = wr.heap.size := ⟨_, rfl⟩
    obtain ⟨hi1, hhi1⟩ : ∃ z, z = w1.heap.size := ⟨_, rfl⟩
    have HO1 : Hid (OutX wx w1 wx.heap.size wr0 hi1 v n ([0, 0, 0, 0] ++ bs) vx lx) := by
      rw [hwr0, hhi1]
      have hr1 := HM.out.row
      refine ⟨HB1.out, owns_below hr1 hb1, HM.out.oct, ⟨HB.out.size, hb1.size, Nat.le_refl _⟩, fun g hg => .inl (owns_block hr1 hg).2, ?_⟩
      refine (hbx.lt).mono (fun g hg => ?_)
      rcases hg with ⟨hq | hq, hg2⟩
      · exact .inl hq.2
      · exact .inr ⟨hq, hg2⟩
    clear hle hbx hb1 HM HV hwr0 hhi1
    have n0 : w1.cell? ⟨g, o + k * 7, none⟩ = some (.string nm) := cell_keep HB1.out HNM0.out
    obtain ⟨bm, hbm⟩ : ∃ b, b = nameMay nm.data.toList := ⟨_, rfl⟩
    have HBM : Hid (bm = Bson.nameMay nm) := hbm.trans (nameMay_eq nm)
    have HNMY := Lib.hid (nameMay_any nm w1 HNS.out)
    rw [← hbm] at HNMY
    have HLN : Hid (bm = true → nm.size ≤ 120) := fun e => by
      have := nameMay_len (hbm.symm.trans e)
      rwa [show nm.data.toList.length = nm.size from Array.length_toList] at this
    clear hbm
    go_wp2_with fail
    go_at_call 73
    refine HNMY.out.mono ?_
    rintro e w2 ⟨rfl, hb2⟩
    have HB2 : Hid (Below wx.heap.size wx w2) := HB1.out.trans (hb2.mono HB1.out.size)
    have HO2 := Lib.hid (HO1.out.keep hb2)
    clear hb2 n0 HNMY HO1
    cases bm with
    | false =>
      have HWHY : Hid (encF D f = none) := encF_name hkf (by rw [← HNE.out]; exact HBM.out.symm)
      go_wp2_with fail
      exact bodyPost_ret (v := .tuple #[.slice none 0 0, .bool false]) (by simp [results, Tryd.results59, go_sem]) rfl ⟨_, false, [], rfl, BytesX.none _ _, ⟨nofun, fun _ => HWHY.out⟩, HB2.out⟩
    | true =>
    have hnl := HLN.out rfl
    have HRW2 : Hid (Bson.row (Bson.enc D) (f.take (k + 1)) = some (bs ++ (Bson.code (f[k]'hkf).2.kind :: (Bson.bytes nm ++ (0 :: lx))))) := by
      have := row_snocx (Bson.enc D) f k hkf bs lx HRW.out (by rw [← HNE.out]; exact HBM.out.symm) HEX.out
      rw [← HNE.out] at this
      exact this
    have hbs2 : n + 1 + nm.size + 1 + nx ≤ 60004 := by
      have h1 := HBD.out (k + 1) _ HRW2.out
      have h2 := HN.out; have h3 := HNX.out
      simp only [List.length_append, List.length_cons, Bson.bytes_length] at h1
      omega
    clear HLN
    go_wp2_with fail
    go_loopw [10] (fun j wr => ∃ q : Nat, j = .int .i64 q ∧ q ≤ k ∧ Hid (Below w2.heap.size w2 wr) ∧ Hid (∀ i (hi : i < f.length), i < q → f[i].1 ≠ nm)) (fun j _ => k - (intOf j).toNat)
    case atStart => exact ⟨0, rfl, Nat.zero_le _, Below.refl _ _, fun _ _ h => absurd h (Nat.not_lt_zero _)⟩
    case round =>
      obtain ⟨q, rfl, hq, HBQ, HNQ⟩ := hrel
      by_cases hqk : q < k
      · obtain ⟨hnq, _, _⟩ := HALL.out q (by have := HFN.out; omega)
        obtain ⟨nq, hnqe⟩ : ∃ nq, nq = (f[q]'(by have := HFN.out; omega)).1 := ⟨_, rfl⟩
        rw [← hnqe] at hnq
        have HBW : Hid (Below wx.heap.size wx wr) := HB2.out.trans (HBQ.out.mono HB2.out.size)
        have m0 := cell_keep HBW.out HNM0.out
        have m1 := cell_keep HBW.out hnq
        have HQE := Lib.hid hnqe
        clear hnq hnqe
        by_cases e : nq = nm
        · have hc : (nq.toList == nm.toList) = true := by rw [e]; simp
          have HWHY : Hid (encF D f = none) := encF_twice hkf hqk (by rw [← HQE.out, ← HNE.out]; exact e)
          clear e
          go_wp2_with fail
          go_quiet (fail)
          go_wp2_with fail
          exact bodyPost_ret (v := .tuple #[.slice none 0 0, .bool false]) (by simp [results, Tryd.results59, go_sem]) rfl ⟨_, false, [], rfl, BytesX.none _ _, ⟨nofun, fun _ => HWHY.out⟩, below_dr HBW.out _⟩
        · have hc : (nq.toList == nm.toList) = false := str_ne e
          have HNQ2 : Hid (∀ i (hi : i < f.length), i < q + 1 → f[i].1 ≠ nm) := fun i hi hiq => by
            by_cases ei : i = q
            · subst ei; rw [← HQE.out]; exact e
            · exact HNQ.out i hi (by omega)
          clear e
          go_wp2_with fail
          go_quiet (fail)
          go_wp2_with fail
          go_roundw
          case rel => exact ⟨q + 1, by go_num, by omega, below_dr HBQ.out _, HNQ2⟩
          case measure => simp [intOf]; omega
      · have HND2 : Hid (((f.take (k + 1)).map (·.1)).Nodup) := nodup_snoc hkf HND.out (fun i hi hiq => by rw [← HNE.out]; exact HNQ.out i hi (by omega))
        clear hq HNQ
        have HBW : Hid (Below wx.heap.size wx wr) := HB2.out.trans (HBQ.out.mono HB2.out.size)
        have HO3 := Lib.hid (HO2.out.keep HBQ.out)
        have hkind := (HSX.out.keep HBW.out).cells.1
        have hname := cell_keep HBW.out HNM0.out
        have HKN := Lib.hid (And.intro hkind hname)
        clear hkind hname
        obtain ⟨ax, cx, hvx, _, _⟩ := HO3.out.x
        rw [← HNX.out] at hvx
        subst hvx
        have HSK : Hid (∀ W, Below wx.heap.size wx W → W.cell? ⟨g, o + k * 7 + 1, none⟩ = some (.int .i64 ka) ∧ W.cell? ⟨g, o + k * 7, none⟩ = some (.string nm)) := fun W hb => ⟨(HSX.out.keep hb).cells.1, cell_keep hb HNM0.out⟩
        go_wp2_with fail
        have O0 := Lib.hid (HO3.out.keep ((Below.refl _ wr).drew))
        have hkeep := HSK.out _ O0.out.below
        refine wp_region_held_drew (S := fun W => W.cell? ⟨g, o + k * 7 + 1, none⟩ = some (.int .i64 ka) ∧ W.cell? ⟨g, o + k * 7, none⟩ = some (.string nm)) (by kernel_rfl) (by exact hkeep) (fun hHeld => ?_)
        clear hkeep
        generalize wr.drew = wd at *
        refine wpAnyH_take (i := 0) (v := ?_) rfl (by kernel_rfl) (by kernel_rfl) (by kernel_rfl) (fun _ _ _ h => h) (Or.inl ⟨by kernel_rfl, ?_⟩) (by assumption) ?_
        rotate_left
        · intro wS hSw
          (try dsimp only at hSw)
          go_simp
          try (with_reducible rfl)
        try simp only [List.getElem_toArray, List.getElem_cons_zero, Act.put, List.setIfInBounds_toArray, List.set_cons_zero, List.set_cons_succ]
        refine wpAnyH_take (i := 1) (v := ?_) rfl (by kernel_rfl) (by kernel_rfl) (by kernel_rfl) (fun _ _ _ h => h) (Or.inl ⟨by kernel_rfl, ?_⟩) (by assumption) ?_
        rotate_left
        · intro wS hSw
          (try dsimp only at hSw)
          go_simp
          try (with_reducible rfl)
        try simp only [List.getElem_toArray, List.getElem_cons_succ, List.getElem_cons_zero, Act.put, List.setIfInBounds_toArray, List.set_cons_zero, List.set_cons_succ]
        refine wpAnyH_take (i := 2) (v := ?_) rfl (by kernel_rfl) (by kernel_rfl) (by kernel_rfl) (fun _ _ _ h => h) (Or.inl ⟨by kernel_rfl, ?_⟩) (by assumption) ?_
        rotate_left
        · intro wS hSw
          (try dsimp only at hSw)
          go_simp
          try (with_reducible rfl)
        try simp only [List.getElem_toArray, List.getElem_cons_succ, List.getElem_cons_zero, Act.put, List.setIfInBounds_toArray, List.set_cons_zero, List.set_cons_succ]
        refine wpAnyH_take (i := 3) (v := ?_) rfl (by kernel_rfl) (by kernel_rfl) (by kernel_rfl) (fun _ _ _ h => h) (Or.inl ⟨by kernel_rfl, ?_⟩) (by assumption) ?_
        rotate_left
        · intro wS hSw
          (try dsimp only at hSw)
          go_simp
          try (with_reducible rfl)
        try simp only [List.getElem_toArray, List.getElem_cons_succ, List.getElem_cons_zero, Act.put, List.setIfInBounds_toArray, List.set_cons_zero, List.set_cons_succ]
        refine wpAnyH_take (i := 4) (v := ?_) rfl (by kernel_rfl) (by kernel_rfl) (by kernel_rfl) (fun _ _ _ h => h) (Or.inl ⟨by kernel_rfl, ?_⟩) (by assumption) ?_
        rotate_left
        · intro wS hSw
          (try dsimp only at hSw)
          go_simp
          try (with_reducible rfl)
        try simp only [List.getElem_toArray, List.getElem_cons_succ, List.getElem_cons_zero, Act.put, List.setIfInBounds_toArray, List.set_cons_zero, List.set_cons_succ]
        refine wpAnyH_take (i := 5) (v := ?_) rfl (by kernel_rfl) (by kernel_rfl) (by kernel_rfl) (fun _ _ _ h => h) (Or.inl ⟨by kernel_rfl, ?_⟩) (by assumption) ?_
        rotate_left
        · intro wS hSw
          (try dsimp only at hSw)
          go_simp
          try (with_reducible rfl)
        try simp only [List.getElem_toArray, List.getElem_cons_succ, List.getElem_cons_zero, Act.put, List.setIfInBounds_toArray, List.set_cons_zero, List.set_cons_succ]
        refine wpAnyH_take (i := 6) (v := ?_) rfl (by kernel_rfl) (by kernel_rfl) (by kernel_rfl) (fun _ _ _ h => h) (Or.inl ⟨by kernel_rfl, ?_⟩) (by assumption) ?_
        rotate_left
        · intro wS hSw
          (try dsimp only at hSw)
          go_simp
          try (with_reducible rfl)
        try simp only [List.getElem_toArray, List.getElem_cons_succ, List.getElem_cons_zero, Act.put, List.setIfInBounds_toArray, List.set_cons_zero, List.set_cons_succ]
        refine wpAnyH_take (i := 10) (v := ?_) rfl (by kernel_rfl) (by kernel_rfl) (by kernel_rfl) (fun _ _ _ h => h) (Or.inl ⟨by kernel_rfl, ?_⟩) (by assumption) ?_
        rotate_left
        · intro wS hSw
          (try dsimp only at hSw)
          go_simp
          try (with_reducible rfl)
        try simp only [List.getElem_toArray, List.getElem_cons_succ, List.getElem_cons_zero, Act.put, List.setIfInBounds_toArray, List.set_cons_zero, List.set_cons_succ]
        refine wpAnyH_take (i := 11) (v := ?_) rfl (by kernel_rfl) (by kernel_rfl) (by kernel_rfl) (fun _ _ _ h => h) (Or.inl ⟨by kernel_rfl, ?_⟩) (by assumption) ?_
        rotate_left
        · intro wS hSw
          (try dsimp only at hSw)
          go_simp
          try (with_reducible rfl)
        try simp only [List.getElem_toArray, List.getElem_cons_succ, List.getElem_cons_zero, Act.put, List.setIfInBounds_toArray, List.set_cons_zero, List.set_cons_succ]
        refine wpAnyH_take (i := 12) (v := ?_) rfl (by kernel_rfl) (by kernel_rfl) (by kernel_rfl) (fun _ _ _ h => h) (Or.inl ⟨by kernel_rfl, ?_⟩) (by assumption) ?_
        rotate_left
        · intro wS hSw
          (try dsimp only at hSw)
          go_simp
          try (with_reducible rfl)
        try simp only [List.getElem_toArray, List.getElem_cons_succ, List.getElem_cons_zero, Act.put, List.setIfInBounds_toArray, List.set_cons_zero, List.set_cons_succ]
        refine wpAnyH_take (i := 13) (v := ?_) rfl (by kernel_rfl) (by kernel_rfl) (by kernel_rfl) (fun _ _ _ h => h) (Or.inl ⟨by kernel_rfl, ?_⟩) (by assumption) ?_
        rotate_left
        · intro wS hSw
          (try dsimp only at hSw)
          go_simp
          try (with_reducible rfl)
        try simp only [List.getElem_toArray, List.getElem_cons_succ, List.getElem_cons_zero, Act.put, List.setIfInBounds_toArray, List.set_cons_zero, List.set_cons_succ]
        refine wpAnyH_take (i := 14) (v := ?_) rfl (by kernel_rfl) (by kernel_rfl) (by kernel_rfl) (fun _ _ _ h => h) (Or.inl ⟨by kernel_rfl, ?_⟩) (by assumption) ?_
        rotate_left
        · intro wS hSw
          (try dsimp only at hSw)
          go_simp
          try (with_reducible rfl)
        try simp only [List.getElem_toArray, List.getElem_cons_succ, List.getElem_cons_zero, Act.put, List.setIfInBounds_toArray, List.set_cons_zero, List.set_cons_succ]
        refine wpAnyH_take (i := 18) (v := ?_) rfl (by kernel_rfl) (by kernel_rfl) (by kernel_rfl) (fun _ _ _ h => h) (Or.inl ⟨by kernel_rfl, ?_⟩) (by assumption) ?_
        rotate_left
        · intro wS hSw
          (try dsimp only at hSw)
          go_simp
          try (with_reducible rfl)
        try simp only [List.getElem_toArray, List.getElem_cons_succ, List.getElem_cons_zero, Act.put, List.setIfInBounds_toArray, List.set_cons_zero, List.set_cons_succ]
        refine wpAnyH_ready (rs := [7, 16]) (by kernel_rfl) (by simp) ?_
        refine AllReadyH.cons rfl (fun K hK => ?_) (AllReadyH.cons rfl (fun K hK => ?_) (AllReadyH.nil))
        · go_simp
          go_at_call 64
          refine (code_x ka wd).mono ?_
          rintro e u1 ⟨rfl, hw1⟩
          obtain ⟨c, hce⟩ : ∃ c, c = Bson.code ka := ⟨_, rfl⟩
          rw [← hce]
          have hc256 : c < 256 := by rw [hce]; exact code_lt256 ka
          have HCE := Lib.hid hce
          clear hce
          have O1 := Lib.hid (O0.out)
          rw [← hw1] at O1
          clear hw1
          refine hK.out _ _ (by exact HSK.out _ O1.out.below) (fun hHeld => ?_)
          clear hK K
          try simp only [List.getElem_toArray, List.getElem_cons_succ, List.getElem_cons_zero, Act.put, List.setIfInBounds_toArray, List.set_cons_zero, List.set_cons_succ]
          refine wpAnyH_ready (rs := [8, 16]) (by kernel_rfl) (by simp) ?_
          refine AllReadyH.cons rfl (fun K hK => ?_) (AllReadyH.cons rfl (fun K hK => ?_) (AllReadyH.nil))
          · go_simp
            have hb2 : Below u1.heap.size u1 (u1.alloc (.cells #[.int .u8 (c : Int)] 5)) := (Below.refl _ _).alloc (Nat.le_refl _) _
            have Y2 := Lib.hid (ByteAt.new O1.out.old (c : Int) 5)
            have O2 := Lib.hid (O1.out.keep hb2)
            clear hb2
            generalize u1.alloc (.cells #[.int .u8 (c : Int)] 5) = u2 at *
            refine hK.out _ _ (by exact HSK.out _ O2.out.below) (fun hHeld => ?_)
            clear hK K
            try simp only [List.getElem_toArray, List.getElem_cons_succ, List.getElem_cons_zero, Act.put, List.setIfInBounds_toArray, List.set_cons_zero, List.set_cons_succ]
            refine wpAnyH_ready (rs := [9, 16]) (by kernel_rfl) (by simp) ?_
            refine AllReadyH.cons rfl (fun K hK => ?_) (AllReadyH.cons rfl (fun K hK => ?_) (AllReadyH.nil))
            · have ho1 := O2.out.row
              have hoct1 := O2.out.oct
              have hbs := O2.out.size
              refine step_append_lies rfl (.tmp 56) (.tmp 64) 22 rfl wx.heap.size 5 i0 (.int .u8 0) 1 1 Tryd.underlying22 hi hz0 hz1 hz2 rfl (by decide) v (n) (u8s ([0, 0, 0, 0] ++ bs)) rfl ho1 ⟨u1.heap.size, 0, none⟩ 1 1 [.int .u8 (c : Int)] rfl rfl (by decide) Y2.out.reads (by intro u hu; simp at hu; subst hu; rfl) (by unfold maxLen; omega) (by omega) (by omega) ?_
              intro v3 u3 ho hlies
              have O3 : Hid (OutX wx u3 wx.heap.size wr0 hi1 v3 (n + 1) (([0, 0, 0, 0] ++ bs) ++ [c]) (.slice ax nx cx) lx) := O2.out.put (l := ([0, 0, 0, 0] ++ bs) ++ [c]) (by rw [u8s_app]; exact ho) (oct_app hoct1 (oct_one hc256)) hlies.grown hlies.moved
              clear ho hlies ho1 hoct1 hbs
              refine hK.out _ _ (by exact HSK.out _ O3.out.below) (fun hHeld => ?_)
              clear hK K
              try simp only [List.getElem_toArray, List.getElem_cons_succ, List.getElem_cons_zero, Act.put, List.setIfInBounds_toArray, List.set_cons_zero, List.set_cons_succ]
              refine wpAnyH_ready (rs := [15, 16]) (by kernel_rfl) (by simp) ?_
              refine AllReadyH.cons rfl (fun K hK => ?_) (AllReadyH.cons rfl (fun K hK => ?_) (AllReadyH.nil))
              · have ho1 := O3.out.row
                have hoct1 := O3.out.oct
                have hbs := O3.out.size
                refine step_append_str_at rfl (.tmp 65) (.tmp 70) 22 9 rfl wx.heap.size 5 i0 Tryd.underlying22 Tryd.underlying9 hi hz0 hz1 hz2 v3 (n + 1) (u8s (([0, 0, 0, 0] ++ bs) ++ [c])) rfl ho1 nm rfl (by unfold maxLen; omega) (by omega) (by omega) ?_
                intro v4 u4 ho hgr hmv
                have O4 : Hid (OutX wx u4 wx.heap.size wr0 hi1 v4 (n + 1 + nm.size) ((([0, 0, 0, 0] ++ bs) ++ [c]) ++ Bson.bytes nm) (.slice ax nx cx) lx) := O3.out.put (l := (([0, 0, 0, 0] ++ bs) ++ [c]) ++ Bson.bytes nm) (by rw [u8s_app, ← str_bytes, ← str_u8s]; exact ho) (oct_app hoct1 (oct_str nm)) hgr hmv
                clear ho hgr hmv ho1 hoct1 hbs
                refine hK.out _ _ (by exact HSK.out _ O4.out.below) (fun hHeld => ?_)
                clear hK K
                try simp only [List.getElem_toArray, List.getElem_cons_succ, List.getElem_cons_zero, Act.put, List.setIfInBounds_toArray, List.set_cons_zero, List.set_cons_succ]
                refine wpAnyH_ready (rs := [16]) (by kernel_rfl) (by simp) ?_
                refine AllReadyH.cons rfl (fun K hK => ?_) (AllReadyH.nil)
                go_simp
                have hb5 : Below u4.heap.size u4 (u4.alloc (.cells #[.int .u8 0] 5)) := (Below.refl _ _).alloc (Nat.le_refl _) _
                have Y5 := Lib.hid (ByteAt.new O4.out.old 0 5)
                have O5 := Lib.hid (O4.out.keep hb5)
                clear hb5
                generalize u4.alloc (.cells #[.int .u8 0] 5) = u5 at *
                refine hK.out _ _ (by exact HSK.out _ O5.out.below) (fun hHeld => ?_)
                clear hK K
                try simp only [List.getElem_toArray, List.getElem_cons_succ, List.getElem_cons_zero, Act.put, List.setIfInBounds_toArray, List.set_cons_zero, List.set_cons_succ]
                refine wpAnyH_ready (rs := [17]) (by kernel_rfl) (by simp) ?_
                refine AllReadyH.cons rfl (fun K hK => ?_) (AllReadyH.nil)
                have ho1 := O5.out.row
                have hoct1 := O5.out.oct
                have hbs := O5.out.size
                refine step_append_lies rfl (.tmp 71) (.tmp 72) 22 rfl wx.heap.size 5 i0 (.int .u8 0) 1 1 Tryd.underlying22 hi hz0 hz1 hz2 rfl (by decide) v4 (n + 1 + nm.size) (u8s ((([0, 0, 0, 0] ++ bs) ++ [c]) ++ Bson.bytes nm)) rfl ho1 ⟨u4.heap.size, 0, none⟩ 1 1 [.int .u8 0] rfl rfl (by decide) Y5.out.reads (by intro u hu; simp at hu; subst hu; rfl) (by unfold maxLen; omega) (by omega) (by omega) ?_
                intro v6 u6 ho hlies
                have O6 : Hid (OutX wx u6 wx.heap.size wr0 hi1 v6 (n + 1 + nm.size + 1) (((([0, 0, 0, 0] ++ bs) ++ [c]) ++ Bson.bytes nm) ++ [0]) (.slice ax nx cx) lx) := O5.out.put (l := ((([0, 0, 0, 0] ++ bs) ++ [c]) ++ Bson.bytes nm) ++ [0]) (by rw [u8s_app]; exact ho) (oct_app hoct1 (oct_one (by decide))) hlies.grown hlies.moved
                clear ho hlies ho1 hoct1 hbs
                refine hK.out _ _ (by exact HSK.out _ O6.out.below) (fun hHeld => ?_)
                clear hK K
                try simp only [List.getElem_toArray, List.getElem_cons_succ, List.getElem_cons_zero, Act.put, List.setIfInBounds_toArray, List.set_cons_zero, List.set_cons_succ]
                refine wpAnyH_ready (rs := [19]) (by kernel_rfl) (by simp) ?_
                refine AllReadyH.cons rfl (fun K hK => ?_) (AllReadyH.nil)
                have ho1 := O6.out.row
                have hoct1 := O6.out.oct
                have hbs := O6.out.size
                obtain ⟨_, _, eb, hob, hrb⟩ := O6.out.x
                injection eb with eb1 eb2 eb3
                subst eb1
                subst eb3
                have hlb : lx.length = nx := eb2.symm
                refine step_append_src rfl (.tmp 73) (.tmp 74) 22 rfl wx.heap.size 5 i0 (.int .u8 0) 1 1 Tryd.underlying22 hi hz0 hz1 hz2 rfl (by decide) v6 (n + 1 + nm.size + 1) (u8s (((([0, 0, 0, 0] ++ bs) ++ [c]) ++ Bson.bytes nm) ++ [0])) rfl ho1 ax nx cx (u8s lx) rfl (src_bytes hlb hrb) (by simp [u8s, hlb]) (u8s_one lx) (by unfold maxLen; omega) (by omega) (by omega) ?_
                intro v7 u7 ho hgr
                have HB7 : Hid (Below wx.heap.size wx u7) := O6.out.below.grown hgr (by omega) (fun j hj => (owns_block ho1 hj).1)
                have HM7 : Hid (MineX u7 wx.heap.size v7 (n + 1 + nm.size + 1 + nx) ((((([0, 0, 0, 0] ++ bs) ++ [c]) ++ Bson.bytes nm) ++ [0]) ++ lx)) := MineX.more ho hoct1 hob (Nat.le_trans (by omega) hgr.size)
                clear ho hgr ho1 hoct1 hbs hrb hlb hob eb2
                refine hK.out _ _ (by exact HSK.out _ HB7.out) (fun hHeld => ?_)
                clear hK K
                try simp only [List.getElem_toArray, List.getElem_cons_succ, List.getElem_cons_zero, Act.put, List.setIfInBounds_toArray, List.set_cons_zero, List.set_cons_succ]
                refine wpAnyH_take (i := 20) (v := ?_) rfl (by kernel_rfl) (by kernel_rfl) (by kernel_rfl) (fun _ _ _ h => h) (Or.inl ⟨by kernel_rfl, ?_⟩) (by assumption) ?_
                rotate_left
                · intro wS hSw
                  (try dsimp only at hSw)
                  go_simp
                  try (with_reducible rfl)
                try simp only [List.getElem_toArray, List.getElem_cons_succ, List.getElem_cons_zero, Act.put, List.setIfInBounds_toArray, List.set_cons_zero, List.set_cons_succ]
                refine wpAnyH_done (by kernel_rfl) ?_ _
                obtain ⟨a4, c4, hv4⟩ : ∃ a c, v7 = .slice a (n + 1 + nm.size + 1 + nx) c := owns_shape HM7.out.row
                rw [hv4] at HM7 ⊢
                clear hv4
                have hd4 : decide (((n + 1 + nm.size + 1 + nx : Nat) : Int) > 65536) = false := by rw [decide_eq_false_iff_not]; omega
                have HMF : Hid (MineX u7 wx.heap.size (.slice a4 (n + 1 + nm.size + 1 + nx) c4) (4 + (bs ++ (Bson.code (f[k]'hkf).2.kind :: (Bson.bytes nm ++ (0 :: lx)))).length) ([0, 0, 0, 0] ++ (bs ++ (Bson.code (f[k]'hkf).2.kind :: (Bson.bytes nm ++ (0 :: lx)))))) := by
                  have e1 : c = Bson.code (f[k]'hkf).2.kind := by rw [HCE.out, HKA.out]
                  have h2 := HN.out; have h3 := HNX.out
                  have h4 : n + 1 + nm.size + 1 + nx = 4 + (bs ++ (Bson.code (f[k]'hkf).2.kind :: (Bson.bytes nm ++ (0 :: lx)))).length := by simp only [List.length_append, List.length_cons, Bson.bytes_length]; omega
                  have h5 : (((([0, 0, 0, 0] ++ bs) ++ [c]) ++ Bson.bytes nm) ++ [0]) ++ lx = [0, 0, 0, 0] ++ (bs ++ (Bson.code (f[k]'hkf).2.kind :: (Bson.bytes nm ++ (0 :: lx)))) := by rw [e1]; simp only [List.append_assoc, List.cons_append, List.nil_append]
                  have h6 := HM7.out
                  rw [h5] at h6
                  show MineX _ _ _ _ _
                  rw [← h4]
                  exact h6
                go_wp2_with fail
                go_roundw
                case rel => exact ⟨k + 1, _, _, by go_num, rfl, by omega, HMF, HB7, HRW2, HND2⟩
                case measure => simp [intOf]; omega
              · go_simp
                have hb8 : Below u3.heap.size u3 (u3.alloc (.cells #[.int .u8 0] 5)) := (Below.refl _ _).alloc (Nat.le_refl _) _
                have Y8 := Lib.hid (ByteAt.new O3.out.old 0 5)
                have O8 := Lib.hid (O3.out.keep hb8)
                clear hb8
                generalize u3.alloc (.cells #[.int .u8 0] 5) = u8 at *
                refine hK.out _ _ (by exact HSK.out _ O8.out.below) (fun hHeld => ?_)
                clear hK K
                try simp only [List.getElem_toArray, List.getElem_cons_succ, List.getElem_cons_zero, Act.put, List.setIfInBounds_toArray, List.set_cons_zero, List.set_cons_succ]
                refine wpAnyH_ready (rs := [15]) (by kernel_rfl) (by simp) ?_
                refine AllReadyH.cons rfl (fun K hK => ?_) (AllReadyH.nil)
                have ho1 := O8.out.row
                have hoct1 := O8.out.oct
                have hbs := O8.out.size
                refine step_append_str_at rfl (.tmp 65) (.tmp 70) 22 9 rfl wx.heap.size 5 i0 Tryd.underlying22 Tryd.underlying9 hi hz0 hz1 hz2 v3 (n + 1) (u8s (([0, 0, 0, 0] ++ bs) ++ [c])) rfl ho1 nm rfl (by unfold maxLen; omega) (by omega) (by omega) ?_
                intro v9 u9 ho hgr hmv
                have O9 : Hid (OutX wx u9 wx.heap.size wr0 hi1 v9 (n + 1 + nm.size) ((([0, 0, 0, 0] ++ bs) ++ [c]) ++ Bson.bytes nm) (.slice ax nx cx) lx) := O8.out.put (l := (([0, 0, 0, 0] ++ bs) ++ [c]) ++ Bson.bytes nm) (by rw [u8s_app, ← str_bytes, ← str_u8s]; exact ho) (oct_app hoct1 (oct_str nm)) hgr hmv
                have Z9 := Lib.hid (Y8.out.put hgr hmv)
                clear ho hgr hmv ho1 hoct1 hbs
                refine hK.out _ _ (by exact HSK.out _ O9.out.below) (fun hHeld => ?_)
                clear hK K
                try simp only [List.getElem_toArray, List.getElem_cons_succ, List.getElem_cons_zero, Act.put, List.setIfInBounds_toArray, List.set_cons_zero, List.set_cons_succ]
                refine wpAnyH_ready (rs := [17]) (by kernel_rfl) (by simp) ?_
                refine AllReadyH.cons rfl (fun K hK => ?_) (AllReadyH.nil)
                have ho1 := O9.out.row
                have hoct1 := O9.out.oct
                have hbs := O9.out.size
                refine step_append_lies rfl (.tmp 71) (.tmp 72) 22 rfl wx.heap.size 5 i0 (.int .u8 0) 1 1 Tryd.underlying22 hi hz0 hz1 hz2 rfl (by decide) v9 (n + 1 + nm.size) (u8s ((([0, 0, 0, 0] ++ bs) ++ [c]) ++ Bson.bytes nm)) rfl ho1 ⟨u3.heap.size, 0, none⟩ 1 1 [.int .u8 0] rfl rfl (by decide) Z9.out.reads (by intro u hu; simp at hu; subst hu; rfl) (by unfold maxLen; omega) (by omega) (by omega) ?_
                intro v10 u10 ho hlies
                have O10 : Hid (OutX wx u10 wx.heap.size wr0 hi1 v10 (n + 1 + nm.size + 1) (((([0, 0, 0, 0] ++ bs) ++ [c]) ++ Bson.bytes nm) ++ [0]) (.slice ax nx cx) lx) := O9.out.put (l := ((([0, 0, 0, 0] ++ bs) ++ [c]) ++ Bson.bytes nm) ++ [0]) (by rw [u8s_app]; exact ho) (oct_app hoct1 (oct_one (by decide))) hlies.grown hlies.moved
                clear ho hlies ho1 hoct1 hbs
                refine hK.out _ _ (by exact HSK.out _ O10.out.below) (fun hHeld => ?_)
                clear hK K
                try simp only [List.getElem_toArray, List.getElem_cons_succ, List.getElem_cons_zero, Act.put, List.setIfInBounds_toArray, List.set_cons_zero, List.set_cons_succ]
                refine wpAnyH_ready (rs := [19]) (by kernel_rfl) (by simp) ?_
                refine AllReadyH.cons rfl (fun K hK => ?_) (AllReadyH.nil)
                have ho1 := O10.out.row
                have hoct1 := O10.out.oct
                have hbs := O10.out.size
                obtain ⟨_, _, eb, hob, hrb⟩ := O10.out.x
                injection eb with eb1 eb2 eb3
                subst eb1
                subst eb3
                have hlb : lx.length = nx := eb2.symm
                refine step_append_src rfl (.tmp 73) (.tmp 74) 22 rfl wx.heap.size 5 i0 (.int .u8 0) 1 1 Tryd.underlying22 hi hz0 hz1 hz2 rfl (by decide) v10 (n + 1 + nm.size + 1) (u8s (((([0, 0, 0, 0] ++ bs) ++ [c]) ++ Bson.bytes nm) ++ [0])) rfl ho1 ax nx cx (u8s lx) rfl (src_bytes hlb hrb) (by simp [u8s, hlb]) (u8s_one lx) (by unfold maxLen; omega) (by omega) (by omega) ?_
                intro v11 u11 ho hgr
                have HB11 : Hid (Below wx.heap.size wx u11) := O10.out.below.grown hgr (by omega) (fun j hj => (owns_block ho1 hj).1)
                have HM11 : Hid (MineX u11 wx.heap.size v11 (n + 1 + nm.size + 1 + nx) ((((([0, 0, 0, 0] ++ bs) ++ [c]) ++ Bson.bytes nm) ++ [0]) ++ lx)) := MineX.more ho hoct1 hob (Nat.le_trans (by omega) hgr.size)
                clear ho hgr ho1 hoct1 hbs hrb hlb hob eb2
                refine hK.out _ _ (by exact HSK.out _ HB11.out) (fun hHeld => ?_)
                clear hK K
                try simp only [List.getElem_toArray, List.getElem_cons_succ, List.getElem_cons_zero, Act.put, List.setIfInBounds_toArray, List.set_cons_zero, List.set_cons_succ]
                refine wpAnyH_take (i := 20) (v := ?_) rfl (by kernel_rfl) (by kernel_rfl) (by kernel_rfl) (fun _ _ _ h => h) (Or.inl ⟨by kernel_rfl, ?_⟩) (by assumption) ?_
                rotate_left
                · intro wS hSw
                  (try dsimp only at hSw)
                  go_simp
                  try (with_reducible rfl)
                try simp only [List.getElem_toArray, List.getElem_cons_succ, List.getElem_cons_zero, Act.put, List.setIfInBounds_toArray, List.set_cons_zero, List.set_cons_succ]
                refine wpAnyH_done (by kernel_rfl) ?_ _
                obtain ⟨a4, c4, hv4⟩ : ∃ a c, v11 = .slice a (n + 1 + nm.size + 1 + nx) c := owns_shape HM11.out.row
                rw [hv4] at HM11 ⊢
                clear hv4
                have hd4 : decide (((n + 1 + nm.size + 1 + nx : Nat) : Int) > 65536) = false := by rw [decide_eq_false_iff_not]; omega
                have HMF : Hid (MineX u11 wx.heap.size (.slice a4 (n + 1 + nm.size + 1 + nx) c4) (4 + (bs ++ (Bson.code (f[k]'hkf).2.kind :: (Bson.bytes nm ++ (0 :: lx)))).length) ([0, 0, 0, 0] ++ (bs ++ (Bson.code (f[k]'hkf).2.kind :: (Bson.bytes nm ++ (0 :: lx)))))) := by
                  have e1 : c = Bson.code (f[k]'hkf).2.kind := by rw [HCE.out, HKA.out]
                  have h2 := HN.out; have h3 := HNX.out
                  have h4 : n + 1 + nm.size + 1 + nx = 4 + (bs ++ (Bson.code (f[k]'hkf).2.kind :: (Bson.bytes nm ++ (0 :: lx)))).length := by simp only [List.length_append, List.length_cons, Bson.bytes_length]; omega
                  have h5 : (((([0, 0, 0, 0] ++ bs) ++ [c]) ++ Bson.bytes nm) ++ [0]) ++ lx = [0, 0, 0, 0] ++ (bs ++ (Bson.code (f[k]'hkf).2.kind :: (Bson.bytes nm ++ (0 :: lx)))) := by rw [e1]; simp only [List.append_assoc, List.cons_append, List.nil_append]
                  have h6 := HM11.out
                  rw [h5] at h6
                  show MineX _ _ _ _ _
                  rw [← h4]
                  exact h6
                go_wp2_with fail
                go_roundw
                case rel => exact ⟨k + 1, _, _, by go_num, rfl, by omega, HMF, HB11, HRW2, HND2⟩
                case measure => simp [intOf]; omega
            · go_simp
              have hb12 : Below u2.heap.size u2 (u2.alloc (.cells #[.int .u8 0] 5)) := (Below.refl _ _).alloc (Nat.le_refl _) _
              have Y12 := Lib.hid (ByteAt.new O2.out.old 0 5)
              have O12 := Lib.hid (O2.out.keep hb12)
              have X112 := Lib.hid (Y2.out.keep hb12)
              clear hb12
              generalize u2.alloc (.cells #[.int .u8 0] 5) = u12 at *
              refine hK.out _ _ (by exact HSK.out _ O12.out.below) (fun hHeld => ?_)
              clear hK K
              try simp only [List.getElem_toArray, List.getElem_cons_succ, List.getElem_cons_zero, Act.put, List.setIfInBounds_toArray, List.set_cons_zero, List.set_cons_succ]
              refine wpAnyH_ready (rs := [9]) (by kernel_rfl) (by simp) ?_
              refine AllReadyH.cons rfl (fun K hK => ?_) (AllReadyH.nil)
              have ho1 := O12.out.row
              have hoct1 := O12.out.oct
              have hbs := O12.out.size
              refine step_append_lies rfl (.tmp 56) (.tmp 64) 22 rfl wx.heap.size 5 i0 (.int .u8 0) 1 1 Tryd.underlying22 hi hz0 hz1 hz2 rfl (by decide) v (n) (u8s ([0, 0, 0, 0] ++ bs)) rfl ho1 ⟨u1.heap.size, 0, none⟩ 1 1 [.int .u8 (c : Int)] rfl rfl (by decide) X112.out.reads (by intro u hu; simp at hu; subst hu; rfl) (by unfold maxLen; omega) (by omega) (by omega) ?_
              intro v13 u13 ho hlies
              have O13 : Hid (OutX wx u13 wx.heap.size wr0 hi1 v13 (n + 1) (([0, 0, 0, 0] ++ bs) ++ [c]) (.slice ax nx cx) lx) := O12.out.put (l := ([0, 0, 0, 0] ++ bs) ++ [c]) (by rw [u8s_app]; exact ho) (oct_app hoct1 (oct_one hc256)) hlies.grown hlies.moved
              have Z13 := Lib.hid (Y12.out.put hlies.grown hlies.moved)
              clear ho hlies ho1 hoct1 hbs
              refine hK.out _ _ (by exact HSK.out _ O13.out.below) (fun hHeld => ?_)
              clear hK K
              try simp only [List.getElem_toArray, List.getElem_cons_succ, List.getElem_cons_zero, Act.put, List.setIfInBounds_toArray, List.set_cons_zero, List.set_cons_succ]
              refine wpAnyH_ready (rs := [15]) (by kernel_rfl) (by simp) ?_
              refine AllReadyH.cons rfl (fun K hK => ?_) (AllReadyH.nil)
              have ho1 := O13.out.row
              have hoct1 := O13.out.oct
              have hbs := O13.out.size
              refine step_append_str_at rfl (.tmp 65) (.tmp 70) 22 9 rfl wx.heap.size 5 i0 Tryd.underlying22 Tryd.underlying9 hi hz0 hz1 hz2 v13 (n + 1) (u8s (([0, 0, 0, 0] ++ bs) ++ [c])) rfl ho1 nm rfl (by unfold maxLen; omega) (by omega) (by omega) ?_
              intro v14 u14 ho hgr hmv
              have O14 : Hid (OutX wx u14 wx.heap.size wr0 hi1 v14 (n + 1 + nm.size) ((([0, 0, 0, 0] ++ bs) ++ [c]) ++ Bson.bytes nm) (.slice ax nx cx) lx) := O13.out.put (l := (([0, 0, 0, 0] ++ bs) ++ [c]) ++ Bson.bytes nm) (by rw [u8s_app, ← str_bytes, ← str_u8s]; exact ho) (oct_app hoct1 (oct_str nm)) hgr hmv
              have Z14 := Lib.hid (Z13.out.put hgr hmv)
              clear ho hgr hmv ho1 hoct1 hbs
              refine hK.out _ _ (by exact HSK.out _ O14.out.below) (fun hHeld => ?_)
              clear hK K
              try simp only [List.getElem_toArray, List.getElem_cons_succ, List.getElem_cons_zero, Act.put, List.setIfInBounds_toArray, List.set_cons_zero, List.set_cons_succ]
              refine wpAnyH_ready (rs := [17]) (by kernel_rfl) (by simp) ?_
              refine AllReadyH.cons rfl (fun K hK => ?_) (AllReadyH.nil)
              have ho1 := O14.out.row
              have hoct1 := O14.out.oct
              have hbs := O14.out.size
              refine step_append_lies rfl (.tmp 71) (.tmp 72) 22 rfl wx.heap.size 5 i0 (.int .u8 0) 1 1 Tryd.underlying22 hi hz0 hz1 hz2 rfl (by decide) v14 (n + 1 + nm.size) (u8s ((([0, 0, 0, 0] ++ bs) ++ [c]) ++ Bson.bytes nm)) rfl ho1 ⟨u2.heap.size, 0, none⟩ 1 1 [.int .u8 0] rfl rfl (by decide) Z14.out.reads (by intro u hu; simp at hu; subst hu; rfl) (by unfold maxLen; omega) (by omega) (by omega) ?_
              intro v15 u15 ho hlies
              have O15 : Hid (OutX wx u15 wx.heap.size wr0 hi1 v15 (n + 1 + nm.size + 1) (((([0, 0, 0, 0] ++ bs) ++ [c]) ++ Bson.bytes nm) ++ [0]) (.slice ax nx cx) lx) := O14.out.put (l := ((([0, 0, 0, 0] ++ bs) ++ [c]) ++ Bson.bytes nm) ++ [0]) (by rw [u8s_app]; exact ho) (oct_app hoct1 (oct_one (by decide))) hlies.grown hlies.moved
              clear ho hlies ho1 hoct1 hbs
              refine hK.out _ _ (by exact HSK.out _ O15.out.below) (fun hHeld => ?_)
              clear hK K
              try simp only [List.getElem_toArray, List.getElem_cons_succ, List.getElem_cons_zero, Act.put, List.setIfInBounds_toArray, List.set_cons_zero, List.set_cons_succ]
              refine wpAnyH_ready (rs := [19]) (by kernel_rfl) (by simp) ?_
              refine AllReadyH.cons rfl (fun K hK => ?_) (AllReadyH.nil)
              have ho1 := O15.out.row
              have hoct1 := O15.out.oct
              have hbs := O15.out.size
              obtain ⟨_, _, eb, hob, hrb⟩ := O15.out.x
              injection eb with eb1 eb2 eb3
              subst eb1
              subst eb3
              have hlb : lx.length = nx := eb2.symm
              refine step_append_src rfl (.tmp 73) (.tmp 74) 22 rfl wx.heap.size 5 i0 (.int .u8 0) 1 1 Tryd.underlying22 hi hz0 hz1 hz2 rfl (by decide) v15 (n + 1 + nm.size + 1) (u8s (((([0, 0, 0, 0] ++ bs) ++ [c]) ++ Bson.bytes nm) ++ [0])) rfl ho1 ax nx cx (u8s lx) rfl (src_bytes hlb hrb) (by simp [u8s, hlb]) (u8s_one lx) (by unfold maxLen; omega) (by omega) (by omega) ?_
              intro v16 u16 ho hgr
              have HB16 : Hid (Below wx.heap.size wx u16) := O15.out.below.grown hgr (by omega) (fun j hj => (owns_block ho1 hj).1)
              have HM16 : Hid (MineX u16 wx.heap.size v16 (n + 1 + nm.size + 1 + nx) ((((([0, 0, 0, 0] ++ bs) ++ [c]) ++ Bson.bytes nm) ++ [0]) ++ lx)) := MineX.more ho hoct1 hob (Nat.le_trans (by omega) hgr.size)
              clear ho hgr ho1 hoct1 hbs hrb hlb hob eb2
              refine hK.out _ _ (by exact HSK.out _ HB16.out) (fun hHeld => ?_)
              clear hK K
              try simp only [List.getElem_toArray, List.getElem_cons_succ, List.getElem_cons_zero, Act.put, List.setIfInBounds_toArray, List.set_cons_zero, List.set_cons_succ]
              refine wpAnyH_take (i := 20) (v := ?_) rfl (by kernel_rfl) (by kernel_rfl) (by kernel_rfl) (fun _ _ _ h => h) (Or.inl ⟨by kernel_rfl, ?_⟩) (by assumption) ?_
              rotate_left
              · intro wS hSw
                (try dsimp only at hSw)
                go_simp
                try (with_reducible rfl)
              try simp only [List.getElem_toArray, List.getElem_cons_succ, List.getElem_cons_zero, Act.put, List.setIfInBounds_toArray, List.set_cons_zero, List.set_cons_succ]
              refine wpAnyH_done (by kernel_rfl) ?_ _
              obtain ⟨a4, c4, hv4⟩ : ∃ a c, v16 = .slice a (n + 1 + nm.size + 1 + nx) c := owns_shape HM16.out.row
              rw [hv4] at HM16 ⊢
              clear hv4
              have hd4 : decide (((n + 1 + nm.size + 1 + nx : Nat) : Int) > 65536) = false := by rw [decide_eq_false_iff_not]; omega
              have HMF : Hid (MineX u16 wx.heap.size (.slice a4 (n + 1 + nm.size + 1 + nx) c4) (4 + (bs ++ (Bson.code (f[k]'hkf).2.kind :: (Bson.bytes nm ++ (0 :: lx)))).length) ([0, 0, 0, 0] ++ (bs ++ (Bson.code (f[k]'hkf).2.kind :: (Bson.bytes nm ++ (0 :: lx)))))) := by
                have e1 : c = Bson.code (f[k]'hkf).2.kind := by rw [HCE.out, HKA.out]
                have h2 := HN.out; have h3 := HNX.out
                have h4 : n + 1 + nm.size + 1 + nx = 4 + (bs ++ (Bson.code (f[k]'hkf).2.kind :: (Bson.bytes nm ++ (0 :: lx)))).length := by simp only [List.length_append, List.length_cons, Bson.bytes_length]; omega
                have h5 : (((([0, 0, 0, 0] ++ bs) ++ [c]) ++ Bson.bytes nm) ++ [0]) ++ lx = [0, 0, 0, 0] ++ (bs ++ (Bson.code (f[k]'hkf).2.kind :: (Bson.bytes nm ++ (0 :: lx)))) := by rw [e1]; simp only [List.append_assoc, List.cons_append, List.nil_append]
                have h6 := HM16.out
                rw [h5] at h6
                show MineX _ _ _ _ _
                rw [← h4]
                exact h6
              go_wp2_with fail
              go_roundw
              case rel => exact ⟨k + 1, _, _, by go_num, rfl, by omega, HMF, HB16, HRW2, HND2⟩
              case measure => simp [intOf]; omega
          · go_simp
            have hb17 : Below u1.heap.size u1 (u1.alloc (.cells #[.int .u8 0] 5)) := (Below.refl _ _).alloc (Nat.le_refl _) _
            have Y17 := Lib.hid (ByteAt.new O1.out.old 0 5)
            have O17 := Lib.hid (O1.out.keep hb17)
            clear hb17
            generalize u1.alloc (.cells #[.int .u8 0] 5) = u17 at *
            refine hK.out _ _ (by exact HSK.out _ O17.out.below) (fun hHeld => ?_)
            clear hK K
            try simp only [List.getElem_toArray, List.getElem_cons_succ, List.getElem_cons_zero, Act.put, List.setIfInBounds_toArray, List.set_cons_zero, List.set_cons_succ]
            refine wpAnyH_ready (rs := [8]) (by kernel_rfl) (by simp) ?_
            refine AllReadyH.cons rfl (fun K hK => ?_) (AllReadyH.nil)
            go_simp
            have hb18 : Below u17.heap.size u17 (u17.alloc (.cells #[.int .u8 (c : Int)] 5)) := (Below.refl _ _).alloc (Nat.le_refl _) _
            have Y18 := Lib.hid (ByteAt.new O17.out.old (c : Int) 5)
            have O18 := Lib.hid (O17.out.keep hb18)
            have X018 := Lib.hid (Y17.out.keep hb18)
            clear hb18
            generalize u17.alloc (.cells #[.int .u8 (c : Int)] 5) = u18 at *
            refine hK.out _ _ (by exact HSK.out _ O18.out.below) (fun hHeld => ?_)
            clear hK K
            try simp only [List.getElem_toArray, List.getElem_cons_succ, List.getElem_cons_zero, Act.put, List.setIfInBounds_toArray, List.set_cons_zero, List.set_cons_succ]
            refine wpAnyH_ready (rs := [9]) (by kernel_rfl) (by simp) ?_
            refine AllReadyH.cons rfl (fun K hK => ?_) (AllReadyH.nil)
            have ho1 := O18.out.row
            have hoct1 := O18.out.oct
            have hbs := O18.out.size
            refine step_append_lies rfl (.tmp 56) (.tmp 64) 22 rfl wx.heap.size 5 i0 (.int .u8 0) 1 1 Tryd.underlying22 hi hz0 hz1 hz2 rfl (by decide) v (n) (u8s ([0, 0, 0, 0] ++ bs)) rfl ho1 ⟨u17.heap.size, 0, none⟩ 1 1 [.int .u8 (c : Int)] rfl rfl (by decide) Y18.out.reads (by intro u hu; simp at hu; subst hu; rfl) (by unfold maxLen; omega) (by omega) (by omega) ?_
            intro v19 u19 ho hlies
            have O19 : Hid (OutX wx u19 wx.heap.size wr0 hi1 v19 (n + 1) (([0, 0, 0, 0] ++ bs) ++ [c]) (.slice ax nx cx) lx) := O18.out.put (l := ([0, 0, 0, 0] ++ bs) ++ [c]) (by rw [u8s_app]; exact ho) (oct_app hoct1 (oct_one hc256)) hlies.grown hlies.moved
            have Z19 := Lib.hid (X018.out.put hlies.grown hlies.moved)
            clear ho hlies ho1 hoct1 hbs
            refine hK.out _ _ (by exact HSK.out _ O19.out.below) (fun hHeld => ?_)
            clear hK K
            try simp only [List.getElem_toArray, List.getElem_cons_succ, List.getElem_cons_zero, Act.put, List.setIfInBounds_toArray, List.set_cons_zero, List.set_cons_succ]
            refine wpAnyH_ready (rs := [15]) (by kernel_rfl) (by simp) ?_
            refine AllReadyH.cons rfl (fun K hK => ?_) (AllReadyH.nil)
            have ho1 := O19.out.row
            have hoct1 := O19.out.oct
            have hbs := O19.out.size
            refine step_append_str_at rfl (.tmp 65) (.tmp 70) 22 9 rfl wx.heap.size 5 i0 Tryd.underlying22 Tryd.underlying9 hi hz0 hz1 hz2 v19 (n + 1) (u8s (([0, 0, 0, 0] ++ bs) ++ [c])) rfl ho1 nm rfl (by unfold maxLen; omega) (by omega) (by omega) ?_
            intro v20 u20 ho hgr hmv
            have O20 : Hid (OutX wx u20 wx.heap.size wr0 hi1 v20 (n + 1 + nm.size) ((([0, 0, 0, 0] ++ bs) ++ [c]) ++ Bson.bytes nm) (.slice ax nx cx) lx) := O19.out.put (l := (([0, 0, 0, 0] ++ bs) ++ [c]) ++ Bson.bytes nm) (by rw [u8s_app, ← str_bytes, ← str_u8s]; exact ho) (oct_app hoct1 (oct_str nm)) hgr hmv
            have Z20 := Lib.hid (Z19.out.put hgr hmv)
            clear ho hgr hmv ho1 hoct1 hbs
            refine hK.out _ _ (by exact HSK.out _ O20.out.below) (fun hHeld => ?_)
            clear hK K
            try simp only [List.getElem_toArray, List.getElem_cons_succ, List.getElem_cons_zero, Act.put, List.setIfInBounds_toArray, List.set_cons_zero, List.set_cons_succ]
            refine wpAnyH_ready (rs := [17]) (by kernel_rfl) (by simp) ?_
            refine AllReadyH.cons rfl (fun K hK => ?_) (AllReadyH.nil)
            have ho1 := O20.out.row
            have hoct1 := O20.out.oct
            have hbs := O20.out.size
            refine step_append_lies rfl (.tmp 71) (.tmp 72) 22 rfl wx.heap.size 5 i0 (.int .u8 0) 1 1 Tryd.underlying22 hi hz0 hz1 hz2 rfl (by decide) v20 (n + 1 + nm.size) (u8s ((([0, 0, 0, 0] ++ bs) ++ [c]) ++ Bson.bytes nm)) rfl ho1 ⟨u1.heap.size, 0, none⟩ 1 1 [.int .u8 0] rfl rfl (by decide) Z20.out.reads (by intro u hu; simp at hu; subst hu; rfl) (by unfold maxLen; omega) (by omega) (by omega) ?_
            intro v21 u21 ho hlies
            have O21 : Hid (OutX wx u21 wx.heap.size wr0 hi1 v21 (n + 1 + nm.size + 1) (((([0, 0, 0, 0] ++ bs) ++ [c]) ++ Bson.bytes nm) ++ [0]) (.slice ax nx cx) lx) := O20.out.put (l := ((([0, 0, 0, 0] ++ bs) ++ [c]) ++ Bson.bytes nm) ++ [0]) (by rw [u8s_app]; exact ho) (oct_app hoct1 (oct_one (by decide))) hlies.grown hlies.moved
            clear ho hlies ho1 hoct1 hbs
            refine hK.out _ _ (by exact HSK.out _ O21.out.below) (fun hHeld => ?_)
            clear hK K
            try simp only [List.getElem_toArray, List.getElem_cons_succ, List.getElem_cons_zero, Act.put, List.setIfInBounds_toArray, List.set_cons_zero, List.set_cons_succ]
            refine wpAnyH_ready (rs := [19]) (by kernel_rfl) (by simp) ?_
            refine AllReadyH.cons rfl (fun K hK => ?_) (AllReadyH.nil)
            have ho1 := O21.out.row
            have hoct1 := O21.out.oct
            have hbs := O21.out.size
            obtain ⟨_, _, eb, hob, hrb⟩ := O21.out.x
            injection eb with eb1 eb2 eb3
            subst eb1
            subst eb3
            have hlb : lx.length = nx := eb2.symm
            refine step_append_src rfl (.tmp 73) (.tmp 74) 22 rfl wx.heap.size 5 i0 (.int .u8 0) 1 1 Tryd.underlying22 hi hz0 hz1 hz2 rfl (by decide) v21 (n + 1 + nm.size + 1) (u8s (((([0, 0, 0, 0] ++ bs) ++ [c]) ++ Bson.bytes nm) ++ [0])) rfl ho1 ax nx cx (u8s lx) rfl (src_bytes hlb hrb) (by simp [u8s, hlb]) (u8s_one lx) (by unfold maxLen; omega) (by omega) (by omega) ?_
            intro v22 u22 ho hgr
            have HB22 : Hid (Below wx.heap.size wx u22) := O21.out.below.grown hgr (by omega) (fun j hj => (owns_block ho1 hj).1)
            have HM22 : Hid (MineX u22 wx.heap.size v22 (n + 1 + nm.size + 1 + nx) ((((([0, 0, 0, 0] ++ bs) ++ [c]) ++ Bson.bytes nm) ++ [0]) ++ lx)) := MineX.more ho hoct1 hob (Nat.le_trans (by omega) hgr.size)
            clear ho hgr ho1 hoct1 hbs hrb hlb hob eb2
            refine hK.out _ _ (by exact HSK.out _ HB22.out) (fun hHeld => ?_)
            clear hK K
            try simp only [List.getElem_toArray, List.getElem_cons_succ, List.getElem_cons_zero, Act.put, List.setIfInBounds_toArray, List.set_cons_zero, List.set_cons_succ]
            refine wpAnyH_take (i := 20) (v := ?_) rfl (by kernel_rfl) (by kernel_rfl) (by kernel_rfl) (fun _ _ _ h => h) (Or.inl ⟨by kernel_rfl, ?_⟩) (by assumption) ?_
            rotate_left
            · intro wS hSw
              (try dsimp only at hSw)
              go_simp
              try (with_reducible rfl)
            try simp only [List.getElem_toArray, List.getElem_cons_succ, List.getElem_cons_zero, Act.put, List.setIfInBounds_toArray, List.set_cons_zero, List.set_cons_succ]
            refine wpAnyH_done (by kernel_rfl) ?_ _
            obtain ⟨a4, c4, hv4⟩ : ∃ a c, v22 = .slice a (n + 1 + nm.size + 1 + nx) c := owns_shape HM22.out.row
            rw [hv4] at HM22 ⊢
            clear hv4
            have hd4 : decide (((n + 1 + nm.size + 1 + nx : Nat) : Int) > 65536) = false := by rw [decide_eq_false_iff_not]; omega
            have HMF : Hid (MineX u22 wx.heap.size (.slice a4 (n + 1 + nm.size + 1 + nx) c4) (4 + (bs ++ (Bson.code (f[k]'hkf).2.kind :: (Bson.bytes nm ++ (0 :: lx)))).length) ([0, 0, 0, 0] ++ (bs ++ (Bson.code (f[k]'hkf).2.kind :: (Bson.bytes nm ++ (0 :: lx)))))) := by
              have e1 : c = Bson.code (f[k]'hkf).2.kind := by rw [HCE.out, HKA.out]
              have h2 := HN.out; have h3 := HNX.out
              have h4 : n + 1 + nm.size + 1 + nx = 4 + (bs ++ (Bson.code (f[k]'hkf).2.kind :: (Bson.bytes nm ++ (0 :: lx)))).length := by simp only [List.length_append, List.length_cons, Bson.bytes_length]; omega
              have h5 : (((([0, 0, 0, 0] ++ bs) ++ [c]) ++ Bson.bytes nm) ++ [0]) ++ lx = [0, 0, 0, 0] ++ (bs ++ (Bson.code (f[k]'hkf).2.kind :: (Bson.bytes nm ++ (0 :: lx)))) := by rw [e1]; simp only [List.append_assoc, List.cons_append, List.nil_append]
              have h6 := HM22.out
              rw [h5] at h6
              show MineX _ _ _ _ _
              rw [← h4]
              exact h6
            go_wp2_with fail
            go_roundw
            case rel => exact ⟨k + 1, _, _, by go_num, rfl, by omega, HMF, HB22, HRW2, HND2⟩
            case measure => simp [intOf]; omega
        · go_simp
          have hb23 : Below wd.heap.size wd (wd.alloc (.cells #[.int .u8 0] 5)) := (Below.refl _ _).alloc (Nat.le_refl _) _
          have Y23 := Lib.hid (ByteAt.new O0.out.old 0 5)
          have O23 := Lib.hid (O0.out.keep hb23)
          clear hb23
          generalize wd.alloc (.cells #[.int .u8 0] 5) = u23 at *
          refine hK.out _ _ (by exact HSK.out _ O23.out.below) (fun hHeld => ?_)
          clear hK K
          try simp only [List.getElem_toArray, List.getElem_cons_succ, List.getElem_cons_zero, Act.put, List.setIfInBounds_toArray, List.set_cons_zero, List.set_cons_succ]
          refine wpAnyH_ready (rs := [7]) (by kernel_rfl) (by simp) ?_
          refine AllReadyH.cons rfl (fun K hK => ?_) (AllReadyH.nil)
          go_simp
          go_at_call 64
          refine (code_x ka u23).mono ?_
          rintro e u24 ⟨rfl, hw24⟩
          obtain ⟨c, hce⟩ : ∃ c, c = Bson.code ka := ⟨_, rfl⟩
          rw [← hce]
          have hc256 : c < 256 := by rw [hce]; exact code_lt256 ka
          have HCE := Lib.hid hce
          clear hce
          have O24 := Lib.hid (O23.out)
          rw [← hw24] at O24
          have Z24 := Lib.hid (Y23.out)
          rw [← hw24] at Z24
          clear hw24
          refine hK.out _ _ (by exact HSK.out _ O24.out.below) (fun hHeld => ?_)
          clear hK K
          try simp only [List.getElem_toArray, List.getElem_cons_succ, List.getElem_cons_zero, Act.put, List.setIfInBounds_toArray, List.set_cons_zero, List.set_cons_succ]
          refine wpAnyH_ready (rs := [8]) (by kernel_rfl) (by simp) ?_
          refine AllReadyH.cons rfl (fun K hK => ?_) (AllReadyH.nil)
          go_simp
          have hb25 : Below u24.heap.size u24 (u24.alloc (.cells #[.int .u8 (c : Int)] 5)) := (Below.refl _ _).alloc (Nat.le_refl _) _
          have Y25 := Lib.hid (ByteAt.new O24.out.old (c : Int) 5)
          have O25 := Lib.hid (O24.out.keep hb25)
          have X025 := Lib.hid (Z24.out.keep hb25)
          clear hb25
          generalize u24.alloc (.cells #[.int .u8 (c : Int)] 5) = u25 at *
          refine hK.out _ _ (by exact HSK.out _ O25.out.below) (fun hHeld => ?_)
          clear hK K
          try simp only [List.getElem_toArray, List.getElem_cons_succ, List.getElem_cons_zero, Act.put, List.setIfInBounds_toArray, List.set_cons_zero, List.set_cons_succ]
          refine wpAnyH_ready (rs := [9]) (by kernel_rfl) (by simp) ?_
          refine AllReadyH.cons rfl (fun K hK => ?_) (AllReadyH.nil)
          have ho1 := O25.out.row
          have hoct1 := O25.out.oct
          have hbs := O25.out.size
          refine step_append_lies rfl (.tmp 56) (.tmp 64) 22 rfl wx.heap.size 5 i0 (.int .u8 0) 1 1 Tryd.underlying22 hi hz0 hz1 hz2 rfl (by decide) v (n) (u8s ([0, 0, 0, 0] ++ bs)) rfl ho1 ⟨u24.heap.size, 0, none⟩ 1 1 [.int .u8 (c : Int)] rfl rfl (by decide) Y25.out.reads (by intro u hu; simp at hu; subst hu; rfl) (by unfold maxLen; omega) (by omega) (by omega) ?_
          intro v26 u26 ho hlies
          have O26 : Hid (OutX wx u26 wx.heap.size wr0 hi1 v26 (n + 1) (([0, 0, 0, 0] ++ bs) ++ [c]) (.slice ax nx cx) lx) := O25.out.put (l := ([0, 0, 0, 0] ++ bs) ++ [c]) (by rw [u8s_app]; exact ho) (oct_app hoct1 (oct_one hc256)) hlies.grown hlies.moved
          have Z26 := Lib.hid (X025.out.put hlies.grown hlies.moved)
          clear ho hlies ho1 hoct1 hbs
          refine hK.out _ _ (by exact HSK.out _ O26.out.below) (fun hHeld => ?_)
          clear hK K
          try simp only [List.getElem_toArray, List.getElem_cons_succ, List.getElem_cons_zero, Act.put, List.setIfInBounds_toArray, List.set_cons_zero, List.set_cons_succ]
          refine wpAnyH_ready (rs := [15]) (by kernel_rfl) (by simp) ?_
          refine AllReadyH.cons rfl (fun K hK => ?_) (AllReadyH.nil)
          have ho1 := O26.out.row
          have hoct1 := O26.out.oct
          have hbs := O26.out.size
          refine step_append_str_at rfl (.tmp 65) (.tmp 70) 22 9 rfl wx.heap.size 5 i0 Tryd.underlying22 Tryd.underlying9 hi hz0 hz1 hz2 v26 (n + 1) (u8s (([0, 0, 0, 0] ++ bs) ++ [c])) rfl ho1 nm rfl (by unfold maxLen; omega) (by omega) (by omega) ?_
          intro v27 u27 ho hgr hmv
          have O27 : Hid (OutX wx u27 wx.heap.size wr0 hi1 v27 (n + 1 + nm.size) ((([0, 0, 0, 0] ++ bs) ++ [c]) ++ Bson.bytes nm) (.slice ax nx cx) lx) := O26.out.put (l := (([0, 0, 0, 0] ++ bs) ++ [c]) ++ Bson.bytes nm) (by rw [u8s_app, ← str_bytes, ← str_u8s]; exact ho) (oct_app hoct1 (oct_str nm)) hgr hmv
          have Z27 := Lib.hid (Z26.out.put hgr hmv)
          clear ho hgr hmv ho1 hoct1 hbs
          refine hK.out _ _ (by exact HSK.out _ O27.out.below) (fun hHeld => ?_)
          clear hK K
          try simp only [List.getElem_toArray, List.getElem_cons_succ, List.getElem_cons_zero, Act.put, List.setIfInBounds_toArray, List.set_cons_zero, List.set_cons_succ]
          refine wpAnyH_ready (rs := [17]) (by kernel_rfl) (by simp) ?_
          refine AllReadyH.cons rfl (fun K hK => ?_) (AllReadyH.nil)
          have ho1 := O27.out.row
          have hoct1 := O27.out.oct
          have hbs := O27.out.size
          refine step_append_lies rfl (.tmp 71) (.tmp 72) 22 rfl wx.heap.size 5 i0 (.int .u8 0) 1 1 Tryd.underlying22 hi hz0 hz1 hz2 rfl (by decide) v27 (n + 1 + nm.size) (u8s ((([0, 0, 0, 0] ++ bs) ++ [c]) ++ Bson.bytes nm)) rfl ho1 ⟨wd.heap.size, 0, none⟩ 1 1 [.int .u8 0] rfl rfl (by decide) Z27.out.reads (by intro u hu; simp at hu; subst hu; rfl) (by unfold maxLen; omega) (by omega) (by omega) ?_
          intro v28 u28 ho hlies
          have O28 : Hid (OutX wx u28 wx.heap.size wr0 hi1 v28 (n + 1 + nm.size + 1) (((([0, 0, 0, 0] ++ bs) ++ [c]) ++ Bson.bytes nm) ++ [0]) (.slice ax nx cx) lx) := O27.out.put (l := ((([0, 0, 0, 0] ++ bs) ++ [c]) ++ Bson.bytes nm) ++ [0]) (by rw [u8s_app]; exact ho) (oct_app hoct1 (oct_one (by decide))) hlies.grown hlies.moved
          clear ho hlies ho1 hoct1 hbs
          refine hK.out _ _ (by exact HSK.out _ O28.out.below) (fun hHeld => ?_)
          clear hK K
          try simp only [List.getElem_toArray, List.getElem_cons_succ, List.getElem_cons_zero, Act.put, List.setIfInBounds_toArray, List.set_cons_zero, List.set_cons_succ]
          refine wpAnyH_ready (rs := [19]) (by kernel_rfl) (by simp) ?_
          refine AllReadyH.cons rfl (fun K hK => ?_) (AllReadyH.nil)
          have ho1 := O28.out.row
          have hoct1 := O28.out.oct
          have hbs := O28.out.size
          obtain ⟨_, _, eb, hob, hrb⟩ := O28.out.x
          injection eb with eb1 eb2 eb3
          subst eb1
          subst eb3
          have hlb : lx.length = nx := eb2.symm
          refine step_append_src rfl (.tmp 73) (.tmp 74) 22 rfl wx.heap.size 5 i0 (.int .u8 0) 1 1 Tryd.underlying22 hi hz0 hz1 hz2 rfl (by decide) v28 (n + 1 + nm.size + 1) (u8s (((([0, 0, 0, 0] ++ bs) ++ [c]) ++ Bson.bytes nm) ++ [0])) rfl ho1 ax nx cx (u8s lx) rfl (src_bytes hlb hrb) (by simp [u8s, hlb]) (u8s_one lx) (by unfold maxLen; omega) (by omega) (by omega) ?_
          intro v29 u29 ho hgr
          have HB29 : Hid (Below wx.heap.size wx u29) := O28.out.below.grown hgr (by omega) (fun j hj => (owns_block ho1 hj).1)
          have HM29 : Hid (MineX u29 wx.heap.size v29 (n + 1 + nm.size + 1 + nx) ((((([0, 0, 0, 0] ++ bs) ++ [c]) ++ Bson.bytes nm) ++ [0]) ++ lx)) := MineX.more ho hoct1 hob (Nat.le_trans (by omega) hgr.size)
          clear ho hgr ho1 hoct1 hbs hrb hlb hob eb2
          refine hK.out _ _ (by exact HSK.out _ HB29.out) (fun hHeld => ?_)
          clear hK K
          try simp only [List.getElem_toArray, List.getElem_cons_succ, List.getElem_cons_zero, Act.put, List.setIfInBounds_toArray, List.set_cons_zero, List.set_cons_succ]
          refine wpAnyH_take (i := 20) (v := ?_) rfl (by kernel_rfl) (by kernel_rfl) (by kernel_rfl) (fun _ _ _ h => h) (Or.inl ⟨by kernel_rfl, ?_⟩) (by assumption) ?_
          rotate_left
          · intro wS hSw
            (try dsimp only at hSw)
            go_simp
            try (with_reducible rfl)
          try simp only [List.getElem_toArray, List.getElem_cons_succ, List.getElem_cons_zero, Act.put, List.setIfInBounds_toArray, List.set_cons_zero, List.set_cons_succ]
          refine wpAnyH_done (by kernel_rfl) ?_ _
          obtain ⟨a4, c4, hv4⟩ : ∃ a c, v29 = .slice a (n + 1 + nm.size + 1 + nx) c := owns_shape HM29.out.row
          rw [hv4] at HM29 ⊢
          clear hv4
          have hd4 : decide (((n + 1 + nm.size + 1 + nx : Nat) : Int) > 65536) = false := by rw [decide_eq_false_iff_not]; omega
          have HMF : Hid (MineX u29 wx.heap.size (.slice a4 (n + 1 + nm.size + 1 + nx) c4) (4 + (bs ++ (Bson.code (f[k]'hkf).2.kind :: (Bson.bytes nm ++ (0 :: lx)))).length) ([0, 0, 0, 0] ++ (bs ++ (Bson.code (f[k]'hkf).2.kind :: (Bson.bytes nm ++ (0 :: lx)))))) := by
            have e1 : c = Bson.code (f[k]'hkf).2.kind := by rw [HCE.out, HKA.out]
            have h2 := HN.out; have h3 := HNX.out
            have h4 : n + 1 + nm.size + 1 + nx = 4 + (bs ++ (Bson.code (f[k]'hkf).2.kind :: (Bson.bytes nm ++ (0 :: lx)))).length := by simp only [List.length_append, List.length_cons, Bson.bytes_length]; omega
            have h5 : (((([0, 0, 0, 0] ++ bs) ++ [c]) ++ Bson.bytes nm) ++ [0]) ++ lx = [0, 0, 0, 0] ++ (bs ++ (Bson.code (f[k]'hkf).2.kind :: (Bson.bytes nm ++ (0 :: lx)))) := by rw [e1]; simp only [List.append_assoc, List.cons_append, List.nil_append]
            have h6 := HM29.out
            rw [h5] at h6
            show MineX _ _ _ _ _
            rw [← h4]
            exact h6
          go_wp2_with fail
          go_roundw
          case rel => exact ⟨k + 1, _, _, by go_num, rfl, by omega, HMF, HB29, HRW2, HND2⟩
          case measure => simp [intOf]; omega
end Go.Proofs.YtpiookgkkaafeaaDoor
end
section
namespace Go.Proofs.YtpiookgkkaafeaaDoor
open Go.RowKit
open Seal
open Bson (Val)
theorem sum_take_le {α : Type} (f : α → Nat) : ∀ (l : List α) (k : Nat), ((l.take k).map f).sum ≤ (l.map f).sum
  | [], _ => by simp
  | _ :: _, 0 => by simp
  | a :: l, k + 1 => by
    have := sum_take_le f l k
    simp only [List.take_succ_cons, List.map_cons, List.sum_cons]; omega
theorem rowB_doc {D h : Nat} {x : Val} (hx : Hgt (h + 1) x) (hw : wt (h + 1) x ≤ 3000) (k : Nat) (bs : List Nat) (hr : Bson.row (Bson.enc D) (x.f.take k) = some bs) : bs.length ≤ 60000 := by
  rw [wt] at hw
  have h1 := row_le (e := Bson.enc D) (fun p => p.1.size + wt h p.2) (x.f.take k) bs (fun p hp l hl => by
    have hm := List.mem_of_mem_take hp
    have h2 := mem_le_sum (fun p : ByteArray × Val => p.1.size + wt h p.2) x.f p hm
    have h3 := enc_le D h p.2 l (hx.1 p hm) (by omega) hl
    show _ ≤ 20 * (p.1.size + wt h p.2); omega) hr
  have h2 := sum_take_le (fun p : ByteArray × Val => p.1.size + wt h p.2) x.f k
  omega
theorem named_at2 (l : List Val) (k : Nat) (hk : k < l.length) : (Bson.named l)[k]? = some (Bson.digits k, l[k]) := by
  unfold Bson.named
  rw [List.getElem?_zipWith, List.getElem?_range hk, List.getElem?_eq_getElem hk]
theorem named_mem {l : List Val} {p : ByteArray × Val} (hp : p ∈ Bson.named l) : ∃ k, ∃ hk : k < l.length, p = (Bson.digits k, l[k]) := by
  obtain ⟨k, hk, rfl⟩ := List.mem_iff_getElem.1 hp
  have hk2 : k < l.length := by rw [Bson.named_length] at hk; exact hk
  refine ⟨k, hk2, ?_⟩
  have := named_at2 l k hk2
  rw [List.getElem?_eq_getElem hk] at this
  exact Option.some.inj this
theorem rowB_list {D h : Nat} {x : Val} (hx : Hgt (h + 1) x) (hw : wt (h + 1) x ≤ 3000) (k : Nat) (bs : List Nat) (hr : Bson.row (Bson.enc D) ((Bson.named x.l).take k) = some bs) : bs.length ≤ 60000 := by
  rw [wt] at hw
  have hlen := length_le_sum (wt h) x.l (fun y hy => wt_pos (hx.2 y hy))
  have h1 := row_le (e := Bson.enc D) (fun p => wt h p.2) ((Bson.named x.l).take k) bs (fun p hp l hl => by
    obtain ⟨q, hq, rfl⟩ := named_mem (List.mem_of_mem_take hp)
    have hm : x.l[q] ∈ x.l := List.getElem_mem hq
    have h2 := mem_le_sum (wt h) x.l _ hm
    have h3 := enc_le D h x.l[q] l (hx.2 _ hm) (by omega) hl
    have h4 := digits_len q (by omega)
    show 2 + (Bson.digits q).size + l.length ≤ 20 * wt h x.l[q]; omega) hr
  have h2 := sum_take_le (fun p : ByteArray × Val => wt h p.2) (Bson.named x.l) k
  have e2 : (Bson.named x.l).map (fun p => wt h p.2) = x.l.map (wt h) := by
    have e3 := congrArg (List.map (wt h)) (Bson.named_vals x.l)
    rw [List.map_map] at e3
    exact e3
  rw [e2] at h2
  omega
theorem wt_field {h : Nat} {x : Val} (hw : wt (h + 1) x ≤ 3000) (p : ByteArray × Val) (hp : p ∈ x.f) : wt h p.2 ≤ 3000 := by
  rw [wt] at hw
  have h2 : p.1.size + wt h p.2 ≤ _ := mem_le_sum (fun p : ByteArray × Val => p.1.size + wt h p.2) x.f p hp
  omega
theorem wt_item {h : Nat} {x : Val} (hw : wt (h + 1) x ≤ 3000) (p : ByteArray × Val) (hp : p ∈ Bson.named x.l) : wt h p.2 ≤ 3000 := by
  obtain ⟨q, hq, rfl⟩ := named_mem hp
  rw [wt] at hw
  have h2 := mem_le_sum (wt h) x.l _ (List.getElem_mem hq)
  show wt h x.l[q] ≤ 3000
  omega
theorem wt_len {h : Nat} {x : Val} (hx : Hgt (h + 1) x) (hw : wt (h + 1) x ≤ 3000) : x.l.length ≤ 3000 ∧ x.s.size ≤ 60000 ∧ x.b.length ≤ 60000 := by
  rw [wt] at hw
  have hlen := length_le_sum (wt h) x.l (fun y hy => wt_pos (hx.2 y hy))
  omega
theorem enc_zero {x : Val} (hk : x.kind = 6 ∨ x.kind = 7) : Bson.enc 0 x = none := by
  show Bson.scalar x = none
  unfold Bson.scalar Bson.scalarP
  rw [if_neg (by omega), if_neg (by omega), if_neg (by omega), if_neg (by omega), if_neg (by omega), if_neg (by omega), if_neg (by omega)]
theorem enc_docF {x : Val} {D : Nat} {b : Bool} (hk : x.kind = 6) (hb : b = Bson.bare x false false false true false) : Bson.enc (D + 1) x = if b then encF D x.f else none := by
  rw [Bson.enc_doc D x hk, ← hb, encF]
  cases b
  · simp
  · simp
theorem enc_listF {x : Val} {D : Nat} {b : Bool} (hk : x.kind = 7) (hb : b = Bson.bare x false false false false true) : Bson.enc (D + 1) x = if b then encF D (Bson.named x.l) else none := by
  rw [Bson.enc_list D x hk, ← hb, encF, if_pos (Bson.named_nodup x.l)]
theorem digits_small (n : Nat) (h : n ≤ 1000000) : (Bson.digits n).size ≤ 8 := by
  have := dec_len 7 n (by omega)
  show (Lib.decDigits n).toArray.size ≤ 8
  rw [List.size_toArray]; exact this
end Go.Proofs.YtpiookgkkaafeaaDoor
end
section
namespace Go.Proofs.YtpiookgkkaafeaaDoor
open Go.RowKit
open Seal
open Bson (Val)
end Go.Proofs.YtpiookgkkaafeaaDoor
end
section
namespace Go.Proofs.YtpiookgkkaafeaaDoor
open Go.RowKit
open Seal
open Bson (Val)
set_option maxRecDepth 100000 in
set_option maxHeartbeats 2000000 in
theorem ownx_doc (Q : Nat → Prop) (h : Nat) (x : Val) (u : Value) (w : World) (d : Int) (hk : x.kind = 6) (hv : VIn w Q (h + 1) x u) (hw : wt (h + 1) x ≤ 3000) (h33 : d ≤ 33) (HF : d ≤ 32 → FieldsDoX h x.f d) :
    Calls Tryd.prog 29 #[u, .int .i64 d] w (OwnX Q w (Bson.enc (33 - d).toNat x)) := by
  obtain ⟨xk, xn, xs, ba, fa, la, bn, bc, fn, fc, ln, lc, rfl, hxk, hxn, hxs, hbn, hfn, hln, hL, hF, hI⟩ := hv.letters
  obtain rfl : xk = 6 := by rw [hxk, hk]
  have HV0 : Hid (VIn (w.alloc (.cells #[.int .i64 6, .int .i64 xn, .string xs, .slice ba bn bc, .slice fa fn fc, .slice la ln lc] 27)) Q (h + 1) x (.agg #[.int .i64 6, .int .i64 xn, .string xs, .slice ba bn bc, .slice fa fn fc, .slice la ln lc])) := VIn.keep ((Below.refl _ w).alloc (Nat.le_refl _) _) hv
  have HB0 : Hid (Below w.heap.size w (w.alloc (.cells #[.int .i64 6, .int .i64 xn, .string xs, .slice ba bn bc, .slice fa fn fc, .slice la ln lc] 27))) := (Below.refl _ w).alloc (Nat.le_refl _) _
  have hS := SixIs.new w (.int .i64 6) (.int .i64 xn) (.string xs) (.slice ba bn bc) (.slice fa fn fc) (.slice la ln lc) 27
  have HS0 := Lib.hid hS
  have HK := Lib.hid hk
  have HWT := Lib.hid hw
  have HHG : Hid (Hgt (h + 1) x) := hv.hgt
  have HLF : Hid (x.f.length ≤ 1172812402961) := hL.f
  have HFN : Hid (fn = x.f.length) := hfn
  have HFI : Hid (FieldsIn w Q (VIn w Q h) fa x.f) := hF
  clear hw hv hxk hk hS hxn hxs hbn hfn hln hL hF hI
  generalize hW : w.alloc (.cells #[.int .i64 6, .int .i64 xn, .string xs, .slice ba bn bc, .slice fa fn fc, .slice la ln lc] 27) = W0 at *
  obtain ⟨e0, e1, e2, e3, e4, e5⟩ := HS0.out
  have hf : W0.cell? ⟨w.heap.size, 0, none⟩ = some (.int .i64 6) ∧ W0.cell? ⟨w.heap.size, 1, none⟩ = some (.int .i64 xn) ∧ W0.cell? ⟨w.heap.size, 2, none⟩ = some (.string xs) ∧ W0.cell? ⟨w.heap.size, 3, none⟩ = some (.slice ba bn bc) ∧ W0.cell? ⟨w.heap.size, 4, none⟩ = some (.slice fa fn fc) ∧ W0.cell? ⟨w.heap.size, 5, none⟩ = some (.slice la ln lc) := HS0.out
  have HDR : Hid (Below W0.heap.size W0 W0.drew) := (Below.refl _ W0).drew
  obtain ⟨b2, hb2⟩ : ∃ b2, b2 = Bson.bare x false false false true false := ⟨_, rfl⟩
  have HBARE : Hid (∀ wx, VIn wx Q (h + 1) x (.agg #[.int .i64 6, .int .i64 xn, .string xs, .slice ba bn bc, .slice fa fn fc, .slice la ln lc]) → Calls Tryd.prog 57 #[.agg #[.int .i64 6, .int .i64 xn, .string xs, .slice ba bn bc, .slice fa fn fc, .slice la ln lc], .bool false, .bool false, .bool false, .bool true, .bool false] wx fun e w' => e = .returned (.bool b2) ∧ Below wx.heap.size wx w') := fun wx hx => by rw [hb2]; exact bare_some4 Q (h + 1) x _ wx hx
  have HBE := Lib.hid hb2
  clear hb2
  by_cases hd : 32 < d
  · have dd : decide (32 < d) = true := decide_eq_true (by omega)
    cases b2
    · go_enter Tryd.func29, Tryd.ntmps29
      go_wp2_with fail
      clear hW
      go_at_call 57
      refine (HBARE.out W0 HV0.out).mono ?_
      rintro e w2 ⟨rfl, hb2⟩
      have HB2 : Hid (Below W0.heap.size W0 w2) := hb2
      have hs2 := HS0.out.keep hb2
      obtain ⟨g0, g1, g2, g3, g4, g5⟩ := hs2
      clear hb2
      go_wp2_with fail
      refine bodyPost_ret (v := .tuple #[.slice none 0 0, .bool false]) (by simp [results, Tryd.results29, go_sem]) rfl ?_
      exact ⟨_, false, [], rfl, BytesX.none _ _, ⟨nofun, fun _ => by rw [show (33 - d).toNat = 0 by omega]; exact enc_zero (.inl HK.out)⟩, HB0.out.trans (HB2.out.mono HB0.out.size)⟩
    · go_enter Tryd.func29, Tryd.ntmps29
      go_wp2_with fail
      clear hW
      go_at_call 57
      refine (HBARE.out W0 HV0.out).mono ?_
      rintro e w2 ⟨rfl, hb2⟩
      have HB2 : Hid (Below W0.heap.size W0 w2) := hb2
      have hs2 := HS0.out.keep hb2
      obtain ⟨g0, g1, g2, g3, g4, g5⟩ := hs2
      clear hb2
      go_wp2_with fail
      refine bodyPost_ret (v := .tuple #[.slice none 0 0, .bool false]) (by simp [results, Tryd.results29, go_sem]) rfl ?_
      exact ⟨_, false, [], rfl, BytesX.none _ _, ⟨nofun, fun _ => by rw [show (33 - d).toNat = 0 by omega]; exact enc_zero (.inl HK.out)⟩, HB0.out.trans (HB2.out.mono HB0.out.size)⟩
  · have dd : decide (32 < d) = false := decide_eq_false (by omega)
    cases b2
    · go_enter Tryd.func29, Tryd.ntmps29
      go_wp2_with fail
      clear hW
      go_at_call 57
      refine (HBARE.out W0 HV0.out).mono ?_
      rintro e w2 ⟨rfl, hb2⟩
      have HB2 : Hid (Below W0.heap.size W0 w2) := hb2
      have hs2 := HS0.out.keep hb2
      obtain ⟨g0, g1, g2, g3, g4, g5⟩ := hs2
      clear hb2
      go_wp2_with fail
      refine bodyPost_ret (v := .tuple #[.slice none 0 0, .bool false]) (by simp [results, Tryd.results29, go_sem]) rfl ?_
      exact ⟨_, false, [], rfl, BytesX.none _ _, ⟨nofun, fun _ => by rw [show (33 - d).toNat = (32 - d).toNat + 1 by omega, enc_docF HK.out HBE.out]; rfl⟩, HB0.out.trans (HB2.out.mono HB0.out.size)⟩
    · go_enter Tryd.func29, Tryd.ntmps29
      go_wp2_with fail
      clear hW
      go_at_call 57
      refine (HBARE.out W0 HV0.out).mono ?_
      rintro e w2 ⟨rfl, hb2⟩
      have HB2 : Hid (Below W0.heap.size W0 w2) := hb2
      have hs2 := HS0.out.keep hb2
      obtain ⟨g0, g1, g2, g3, g4, g5⟩ := hs2
      clear hb2
      go_wp2_with fail
      go_at_call 59
      obtain rfl := HFN.out
      refine (HF (by omega) Q w2 fa fc HLF.out (fun p hp => wt_field HWT.out p hp) (fun k bs hr => rowB_doc HHG.out HWT.out k bs hr) (fields_keep (HB0.out.trans (HB2.out.mono HB0.out.size)) HFI.out)).mono ?_
      rintro e w3 ⟨v, b, l, rfl, hv, hn, hb⟩
      go_wp2_with fail
      refine bodyPost_ret (v := .tuple #[v, .bool b]) (by simp [results, Tryd.results29, go_sem]) rfl ?_
      exact ⟨v, b, l, rfl, hv.mono (fun g hg => hg.imp id (Nat.le_trans (HB0.out.trans (HB2.out.mono HB0.out.size)).size)), by rw [show (33 - d).toNat = (32 - d).toNat + 1 by omega, enc_docF HK.out HBE.out]; exact hn, (HB0.out.trans (HB2.out.mono HB0.out.size)).trans (hb.mono (HB0.out.trans (HB2.out.mono HB0.out.size)).size)⟩
set_option maxRecDepth 100000 in
set_option maxHeartbeats 2000000 in
theorem ownx_list (Q : Nat → Prop) (h : Nat) (x : Val) (u : Value) (w : World) (d : Int) (hk : x.kind = 7) (hv : VIn w Q (h + 1) x u) (hw : wt (h + 1) x ≤ 3000) (h33 : d ≤ 33) (HF : d ≤ 32 → ∀ f, FieldsDoX h f d) :
    Calls Tryd.prog 29 #[u, .int .i64 d] w (OwnX Q w (Bson.enc (33 - d).toNat x)) := by
  obtain ⟨xk, xn, xs, ba, fa, la, bn, bc, fn, fc, ln, lc, rfl, hxk, hxn, hxs, hbn, hfn, hln, hL, hF, hI⟩ := hv.letters
  obtain rfl : xk = 7 := by rw [hxk, hk]
  have HV0 : Hid (VIn (w.alloc (.cells #[.int .i64 7, .int .i64 xn, .string xs, .slice ba bn bc, .slice fa fn fc, .slice la ln lc] 27)) Q (h + 1) x (.agg #[.int .i64 7, .int .i64 xn, .string xs, .slice ba bn bc, .slice fa fn fc, .slice la ln lc])) := VIn.keep ((Below.refl _ w).alloc (Nat.le_refl _) _) hv
  have HB0 : Hid (Below w.heap.size w (w.alloc (.cells #[.int .i64 7, .int .i64 xn, .string xs, .slice ba bn bc, .slice fa fn fc, .slice la ln lc] 27))) := (Below.refl _ w).alloc (Nat.le_refl _) _
  have hS := SixIs.new w (.int .i64 7) (.int .i64 xn) (.string xs) (.slice ba bn bc) (.slice fa fn fc) (.slice la ln lc) 27
  have HS0 := Lib.hid hS
  have HK := Lib.hid hk
  have HWT := Lib.hid hw
  have HHG : Hid (Hgt (h + 1) x) := hv.hgt
  have hl3 : ln ≤ 3000 := by rw [hln]; exact (wt_len hv.hgt hw).1
  have HLN : Hid (ln = x.l.length) := hln
  have HI : Hid (ItemsIn (w.alloc (.cells #[.int .i64 7, .int .i64 xn, .string xs, .slice ba bn bc, .slice fa fn fc, .slice la ln lc] 27)) Q (VIn (w.alloc (.cells #[.int .i64 7, .int .i64 xn, .string xs, .slice ba bn bc, .slice fa fn fc, .slice la ln lc] 27)) Q h) la x.l) := hI.kept (Kept.of_below ((Below.refl _ w).alloc (Nat.le_refl _) _)) (fun _ h => h) (fun _ _ hh => VIn.keep ((Below.refl _ w).alloc (Nat.le_refl _) _) hh)
  clear hw hv hxk hk hS hxn hxs hbn hfn hln hL hF hI
  generalize hW : w.alloc (.cells #[.int .i64 7, .int .i64 xn, .string xs, .slice ba bn bc, .slice fa fn fc, .slice la ln lc] 27) = W0 at *
  obtain ⟨e0, e1, e2, e3, e4, e5⟩ := HS0.out
  have hf : W0.cell? ⟨w.heap.size, 0, none⟩ = some (.int .i64 7) ∧ W0.cell? ⟨w.heap.size, 1, none⟩ = some (.int .i64 xn) ∧ W0.cell? ⟨w.heap.size, 2, none⟩ = some (.string xs) ∧ W0.cell? ⟨w.heap.size, 3, none⟩ = some (.slice ba bn bc) ∧ W0.cell? ⟨w.heap.size, 4, none⟩ = some (.slice fa fn fc) ∧ W0.cell? ⟨w.heap.size, 5, none⟩ = some (.slice la ln lc) := HS0.out
  have HDR : Hid (Below W0.heap.size W0 W0.drew) := (Below.refl _ W0).drew

  obtain ⟨i0, hi, hz0, hz1, hz2⟩ := info_parts infoField
  obtain ⟨b2, hb2⟩ : ∃ b2, b2 = Bson.bare x false false false false true := ⟨_, rfl⟩
  have HBARE : Hid (∀ wx, VIn wx Q (h + 1) x (.agg #[.int .i64 7, .int .i64 xn, .string xs, .slice ba bn bc, .slice fa fn fc, .slice la ln lc]) → Calls Tryd.prog 57 #[.agg #[.int .i64 7, .int .i64 xn, .string xs, .slice ba bn bc, .slice fa fn fc, .slice la ln lc], .bool false, .bool false, .bool false, .bool false, .bool true] wx fun e w' => e = .returned (.bool b2) ∧ Below wx.heap.size wx w') := fun wx hx => by rw [hb2]; exact bare_some5 Q (h + 1) x _ wx hx
  have HBE := Lib.hid hb2
  clear hb2
  by_cases hd : 32 < d
  · have dd : decide (32 < d) = true := decide_eq_true (by omega)
    cases b2
    · go_enter Tryd.func29, Tryd.ntmps29
      go_wp2_with fail
      clear hW
      go_at_call 57
      refine (HBARE.out W0 HV0.out).mono ?_
      rintro e w2 ⟨rfl, hb2⟩
      have HB2 : Hid (Below W0.heap.size W0 w2) := hb2
      have hs2 := HS0.out.keep hb2
      obtain ⟨g0, g1, g2, g3, g4, g5⟩ := hs2
      clear hb2
      go_wp2_with fail
      refine bodyPost_ret (v := .tuple #[.slice none 0 0, .bool false]) (by simp [results, Tryd.results29, go_sem]) rfl ?_
      exact ⟨_, false, [], rfl, BytesX.none _ _, ⟨nofun, fun _ => by rw [show (33 - d).toNat = 0 by omega]; exact enc_zero (.inr HK.out)⟩, HB0.out.trans (HB2.out.mono HB0.out.size)⟩
    · go_enter Tryd.func29, Tryd.ntmps29
      go_wp2_with fail
      clear hW
      go_at_call 57
      refine (HBARE.out W0 HV0.out).mono ?_
      rintro e w2 ⟨rfl, hb2⟩
      have HB2 : Hid (Below W0.heap.size W0 w2) := hb2
      have hs2 := HS0.out.keep hb2
      obtain ⟨g0, g1, g2, g3, g4, g5⟩ := hs2
      clear hb2
      go_wp2_with fail
      refine bodyPost_ret (v := .tuple #[.slice none 0 0, .bool false]) (by simp [results, Tryd.results29, go_sem]) rfl ?_
      exact ⟨_, false, [], rfl, BytesX.none _ _, ⟨nofun, fun _ => by rw [show (33 - d).toNat = 0 by omega]; exact enc_zero (.inr HK.out)⟩, HB0.out.trans (HB2.out.mono HB0.out.size)⟩
  · have dd : decide (32 < d) = false := decide_eq_false (by omega)
    cases b2
    · go_enter Tryd.func29, Tryd.ntmps29
      go_wp2_with fail
      clear hW
      go_at_call 57
      refine (HBARE.out W0 HV0.out).mono ?_
      rintro e w2 ⟨rfl, hb2⟩
      have HB2 : Hid (Below W0.heap.size W0 w2) := hb2
      have hs2 := HS0.out.keep hb2
      obtain ⟨g0, g1, g2, g3, g4, g5⟩ := hs2
      clear hb2
      go_wp2_with fail
      refine bodyPost_ret (v := .tuple #[.slice none 0 0, .bool false]) (by simp [results, Tryd.results29, go_sem]) rfl ?_
      exact ⟨_, false, [], rfl, BytesX.none _ _, ⟨nofun, fun _ => by rw [show (33 - d).toNat = (32 - d).toNat + 1 by omega, enc_listF HK.out HBE.out]; rfl⟩, HB0.out.trans (HB2.out.mono HB0.out.size)⟩
    · go_enter Tryd.func29, Tryd.ntmps29
      go_wp2_with fail
      clear hW
      go_at_call 57
      refine (HBARE.out W0 HV0.out).mono ?_
      rintro e w2 ⟨rfl, hb2⟩
      have HB2 : Hid (Below W0.heap.size W0 w2) := hb2
      have hs2 := HS0.out.keep hb2
      obtain ⟨g0, g1, g2, g3, g4, g5⟩ := hs2
      clear hb2
      have dz : decide ((65536 : Int) < (ln : Int)) = false := decide_eq_false (by omega)
      go_wp2_with fail
      go_loopw [6, 7] (fun f i wr => ∃ (k : Nat) (v : Value) (fl : List (ByteArray × Val)) (xs7 : List Value), k ≤ ln ∧ i = .int .i64 k ∧ v = f ∧ fl.length = k ∧ Hid (fl = (Bson.named x.l).take k) ∧ Hid (FAcc wr W0.heap.size v (fun g => Q g ∧ g < W0.heap.size) h fl xs7) ∧ Hid (Below W0.heap.size W0 wr)) (fun _ i _ => ln - (intOf i).toNat)
      case atStart => exact ⟨0, _, [], [], Nat.zero_le _, rfl, rfl, rfl, (Lib.hid (by simp) : Hid (([] : List (ByteArray × Val)) = (Bson.named x.l).take 0)), FAcc.nil _ _ _ _, HB2.out⟩
      case round =>
        obtain ⟨k, v, fl, xs7, hk, rfl, rfl, hfl, HMP, HA, HB⟩ := hrel
        by_cases hlt : k < ln
        · obtain ⟨g, o, hla, _, hall⟩ := HI.out.resolve_left (fun e => by have := HLN.out; rw [e] at this; simp at this; omega)
          obtain ⟨v', hsix, hV⟩ := hall k (by have := HLN.out; omega)
          subst hla
          obtain ⟨ka, na, sa, ya, za, xa, yn, yc, zn, zc, xm, xc, rfl⟩ := hV.shape
          obtain ⟨y, hy⟩ : ∃ y, y = x.l[k]'(by have := HLN.out; omega) := ⟨_, rfl⟩
          rw [← hy] at hV
          have HMQ : Hid (fl ++ [(Bson.digits k, y)] = (Bson.named x.l).take (k + 1)) := by
            have hkl2 : k < (Bson.named x.l).length := by rw [Bson.named_length]; have := HLN.out; omega
            show _ = _
            rw [HMP.out, List.take_succ_eq_append_getElem hkl2, named_at x.l k (by have := HLN.out; omega), hy]
          have HV := Lib.hid hV.lt
          have HSIX := Lib.hid hsix
          have hs : (wr.cell? ⟨w.heap.size, 0, none⟩ = some (.int .i64 7) ∧ wr.cell? ⟨w.heap.size, 1, none⟩ = some (.int .i64 xn) ∧ wr.cell? ⟨w.heap.size, 2, none⟩ = some (.string xs) ∧ wr.cell? ⟨w.heap.size, 3, none⟩ = some (.slice ba bn bc) ∧ wr.cell? ⟨w.heap.size, 4, none⟩ = some (.slice fa fn fc) ∧ wr.cell? ⟨w.heap.size, 5, none⟩ = some (.slice (some ⟨g, o, none⟩) ln lc)) ∧ wr.cell? ⟨g, o + k * 6, none⟩ = some (.int .i64 ka) ∧ wr.cell? ⟨g, o + k * 6 + 1, none⟩ = some (.int .i64 na) ∧ wr.cell? ⟨g, o + k * 6 + 2, none⟩ = some (.string sa) ∧ wr.cell? ⟨g, o + k * 6 + 3, none⟩ = some (.slice ya yn yc) ∧ wr.cell? ⟨g, o + k * 6 + 4, none⟩ = some (.slice za zn zc) ∧ wr.cell? ⟨g, o + k * 6 + 5, none⟩ = some (.slice xa xm xc) := ⟨HS0.out.keep HB.out, (HSIX.out.keep HB.out).cells⟩
          have HDW : Hid (Below W0.heap.size W0 wr.drew) := HB.out.drew
          have HAD : Hid (FAcc wr.drew W0.heap.size v (fun g => Q g ∧ g < W0.heap.size) h fl xs7) := HA.out.keep (Below.refl _ wr).drew
          obtain ⟨p0, p1, p2, p3, p4, p5⟩ := HS0.out.keep HB.out
          have hkz : (0 : Int) ≤ (k : Int) := by omega
          have hkl : (k : Int) < (ln : Int) := by omega
          clear hall hsix hV hy HA
          go_wp2_with fail
          refine wp_region_held_drew (S := fun W => (W.cell? ⟨w.heap.size, 0, none⟩ = some (.int .i64 7) ∧ W.cell? ⟨w.heap.size, 1, none⟩ = some (.int .i64 xn) ∧ W.cell? ⟨w.heap.size, 2, none⟩ = some (.string xs) ∧ W.cell? ⟨w.heap.size, 3, none⟩ = some (.slice ba bn bc) ∧ W.cell? ⟨w.heap.size, 4, none⟩ = some (.slice fa fn fc) ∧ W.cell? ⟨w.heap.size, 5, none⟩ = some (.slice (some ⟨g, o, none⟩) ln lc)) ∧ W.cell? ⟨g, o + k * 6, none⟩ = some (.int .i64 ka) ∧ W.cell? ⟨g, o + k * 6 + 1, none⟩ = some (.int .i64 na) ∧ W.cell? ⟨g, o + k * 6 + 2, none⟩ = some (.string sa) ∧ W.cell? ⟨g, o + k * 6 + 3, none⟩ = some (.slice ya yn yc) ∧ W.cell? ⟨g, o + k * 6 + 4, none⟩ = some (.slice za zn zc) ∧ W.cell? ⟨g, o + k * 6 + 5, none⟩ = some (.slice xa xm xc)) (by kernel_rfl) (by exact hs) (fun hHeld => ?_)
          generalize wr.drew = wd at *
          refine wpAnyH_take (i := 0) (v := ?_) rfl (by kernel_rfl) (by kernel_rfl) (by kernel_rfl) (fun _ _ _ h => h) (Or.inl ⟨by kernel_rfl, ?_⟩) (by assumption) ?_
          rotate_left
          · intro wS hSw
            (try dsimp only at hSw)
            go_simp
            try (with_reducible rfl)
          try simp only [List.getElem_toArray, List.getElem_cons_zero, Act.put, List.setIfInBounds_toArray, List.set_cons_zero, List.set_cons_succ]
          refine wpAnyH_take (i := 1) (v := ?_) rfl (by kernel_rfl) (by kernel_rfl) (by kernel_rfl) (fun _ _ _ h => h) (Or.inl ⟨by kernel_rfl, ?_⟩) (by assumption) ?_
          rotate_left
          · intro wS hSw
            (try dsimp only at hSw)
            go_simp
            try (with_reducible rfl)
          try simp only [List.getElem_toArray, List.getElem_cons_succ, List.getElem_cons_zero, Act.put, List.setIfInBounds_toArray, List.set_cons_zero, List.set_cons_succ]
          refine wpAnyH_take (i := 3) (v := ?_) rfl (by kernel_rfl) (by kernel_rfl) (by kernel_rfl) (fun _ _ _ h => h) (Or.inl ⟨by kernel_rfl, ?_⟩) (by assumption) ?_
          rotate_left
          · intro wS hSw
            (try dsimp only at hSw)
            go_simp
            try (with_reducible rfl)
          try simp only [List.getElem_toArray, List.getElem_cons_succ, List.getElem_cons_zero, Act.put, List.setIfInBounds_toArray, List.set_cons_zero, List.set_cons_succ]
          refine wpAnyH_take (i := 4) (v := ?_) rfl (by kernel_rfl) (by kernel_rfl) (by kernel_rfl) (fun _ _ _ h => h) (Or.inl ⟨by kernel_rfl, ?_⟩) (by assumption) ?_
          rotate_left
          · intro wS hSw
            (try dsimp only at hSw)
            go_simp
            try (with_reducible rfl)
          try simp only [List.getElem_toArray, List.getElem_cons_succ, List.getElem_cons_zero, Act.put, List.setIfInBounds_toArray, List.set_cons_zero, List.set_cons_succ]
          refine wpAnyH_take (i := 5) (v := ?_) rfl (by kernel_rfl) (by kernel_rfl) (by kernel_rfl) (fun _ _ _ h => h) (Or.inl ⟨by kernel_rfl, ?_⟩) (by assumption) ?_
          rotate_left
          · intro wS hSw
            (try dsimp only at hSw)
            go_simp
            try (with_reducible rfl)
          try simp only [List.getElem_toArray, List.getElem_cons_succ, List.getElem_cons_zero, Act.put, List.setIfInBounds_toArray, List.set_cons_zero, List.set_cons_succ]
          refine wpAnyH_take (i := 6) (v := ?_) rfl (by kernel_rfl) (by kernel_rfl) (by kernel_rfl) (fun _ _ _ h => h) (Or.inl ⟨by kernel_rfl, ?_⟩) (by assumption) ?_
          rotate_left
          · intro wS hSw
            (try dsimp only at hSw)
            go_simp
            try (with_reducible rfl)
          try simp only [List.getElem_toArray, List.getElem_cons_succ, List.getElem_cons_zero, Act.put, List.setIfInBounds_toArray, List.set_cons_zero, List.set_cons_succ]
          refine wpAnyH_take (i := 7) (v := ?_) rfl (by kernel_rfl) (by kernel_rfl) (by kernel_rfl) (fun _ _ _ h => h) (Or.inl ⟨by kernel_rfl, ?_⟩) (by assumption) ?_
          rotate_left
          · intro wS hSw
            (try dsimp only at hSw)
            go_simp
            try (with_reducible rfl)
          try simp only [List.getElem_toArray, List.getElem_cons_succ, List.getElem_cons_zero, Act.put, List.setIfInBounds_toArray, List.set_cons_zero, List.set_cons_succ]
          refine wpAnyH_ready (rs := [2]) (by kernel_rfl) (by simp) ?_
          refine AllReadyH.cons rfl (fun K hK => ?_) (AllReadyH.nil)
          go_simp
          go_at_call 47
          refine (digits_x k wd (by omega)).mono ?_
          rintro e w3 ⟨rfl, hb3⟩
          obtain ⟨s2, hs2e⟩ : ∃ s2, s2 = Bson.digits k := ⟨_, rfl⟩
          rw [← hs2e]
          have hsz2 : s2.size ≤ 8 := by rw [hs2e]; exact digits_small k (by omega)
          rw [← hs2e] at HMQ
          clear hs2e
          have HB3 : Hid (Below W0.heap.size W0 w3) := HDW.out.trans (hb3.mono HDW.out.size)
          have HA3 := Lib.hid (HAD.out.keep hb3)
          have hs3 : (w3.cell? ⟨w.heap.size, 0, none⟩ = some (.int .i64 7) ∧ w3.cell? ⟨w.heap.size, 1, none⟩ = some (.int .i64 xn) ∧ w3.cell? ⟨w.heap.size, 2, none⟩ = some (.string xs) ∧ w3.cell? ⟨w.heap.size, 3, none⟩ = some (.slice ba bn bc) ∧ w3.cell? ⟨w.heap.size, 4, none⟩ = some (.slice fa fn fc) ∧ w3.cell? ⟨w.heap.size, 5, none⟩ = some (.slice (some ⟨g, o, none⟩) ln lc)) ∧ w3.cell? ⟨g, o + k * 6, none⟩ = some (.int .i64 ka) ∧ w3.cell? ⟨g, o + k * 6 + 1, none⟩ = some (.int .i64 na) ∧ w3.cell? ⟨g, o + k * 6 + 2, none⟩ = some (.string sa) ∧ w3.cell? ⟨g, o + k * 6 + 3, none⟩ = some (.slice ya yn yc) ∧ w3.cell? ⟨g, o + k * 6 + 4, none⟩ = some (.slice za zn zc) ∧ w3.cell? ⟨g, o + k * 6 + 5, none⟩ = some (.slice xa xm xc) := ⟨HS0.out.keep HB3.out, (HSIX.out.keep HB3.out).cells⟩
          clear hb3 HAD
          refine hK.out _ _ (by exact hs3) (fun hHeld => ?_)
          clear hK K
          try simp only [List.getElem_toArray, List.getElem_cons_succ, List.getElem_cons_zero, Act.put, List.setIfInBounds_toArray, List.set_cons_zero, List.set_cons_succ]
          refine wpAnyH_take (i := 8) (v := ?_) rfl (by kernel_rfl) (by kernel_rfl) (by kernel_rfl) (fun _ _ _ h => h) (Or.inl ⟨by kernel_rfl, ?_⟩) (by assumption) ?_
          rotate_left
          · intro wS hSw
            (try dsimp only at hSw)
            go_simp
            try (with_reducible rfl)
          try simp only [List.getElem_toArray, List.getElem_cons_succ, List.getElem_cons_zero, Act.put, List.setIfInBounds_toArray, List.set_cons_zero, List.set_cons_succ]
          refine wpAnyH_ready (rs := [9]) (by kernel_rfl) (by simp) ?_
          refine AllReadyH.cons rfl (fun K hK => ?_) (AllReadyH.nil)
          go_simp
          have HB4 : Hid (Below W0.heap.size W0 (w3.alloc (.cells #[.string s2, .int .i64 ka, .int .i64 na, .string sa, .slice ya yn yc, .slice za zn zc, .slice xa xm xc] 43))) := HB3.out.alloc HB3.out.size _
          have HA4 : Hid (FAcc (w3.alloc (.cells #[.string s2, .int .i64 ka, .int .i64 na, .string sa, .slice ya yn yc, .slice za zn zc, .slice xa xm xc] 43)) W0.heap.size v (fun g => Q g ∧ g < W0.heap.size) h fl xs7) := HA3.out.keep ((Below.refl _ _).alloc (Nat.le_refl _) _)
          have HNW := Lib.hid (seven_new w3 (.string s2) (.int .i64 ka) (.int .i64 na) (.string sa) (.slice ya yn yc) (.slice za zn zc) (.slice xa xm xc) 43)
          generalize w3.alloc (.cells #[.string s2, .int .i64 ka, .int .i64 na, .string sa, .slice ya yn yc, .slice za zn zc, .slice xa xm xc] 43) = w4 at *
          have hs4 : (w4.cell? ⟨w.heap.size, 0, none⟩ = some (.int .i64 7) ∧ w4.cell? ⟨w.heap.size, 1, none⟩ = some (.int .i64 xn) ∧ w4.cell? ⟨w.heap.size, 2, none⟩ = some (.string xs) ∧ w4.cell? ⟨w.heap.size, 3, none⟩ = some (.slice ba bn bc) ∧ w4.cell? ⟨w.heap.size, 4, none⟩ = some (.slice fa fn fc) ∧ w4.cell? ⟨w.heap.size, 5, none⟩ = some (.slice (some ⟨g, o, none⟩) ln lc)) ∧ w4.cell? ⟨g, o + k * 6, none⟩ = some (.int .i64 ka) ∧ w4.cell? ⟨g, o + k * 6 + 1, none⟩ = some (.int .i64 na) ∧ w4.cell? ⟨g, o + k * 6 + 2, none⟩ = some (.string sa) ∧ w4.cell? ⟨g, o + k * 6 + 3, none⟩ = some (.slice ya yn yc) ∧ w4.cell? ⟨g, o + k * 6 + 4, none⟩ = some (.slice za zn zc) ∧ w4.cell? ⟨g, o + k * 6 + 5, none⟩ = some (.slice xa xm xc) := ⟨HS0.out.keep HB4.out, (HSIX.out.keep HB4.out).cells⟩
          clear HA3
          refine hK.out _ _ (by exact hs4) (fun hHeld => ?_)
          clear hK K
          try simp only [List.getElem_toArray, List.getElem_cons_succ, List.getElem_cons_zero, Act.put, List.setIfInBounds_toArray, List.set_cons_zero, List.set_cons_succ]
          refine wpAnyH_ready (rs := [10]) (by kernel_rfl) (by simp) ?_
          refine AllReadyH.cons rfl (fun K hK => ?_) (AllReadyH.nil)
          have hown4 := HA4.out.own
          refine step_append_lies rfl (.tmp 147) (.tmp 156) 24 rfl W0.heap.size 43 i0 (.agg #[.string ⟨#[]⟩, .int .i64 0, .int .i64 0, .string ⟨#[]⟩, .slice none 0 0, .slice none 0 0, .slice none 0 0]) 7 120 Tryd.underlying24 hi hz0 hz1 hz2 rfl (by decide) v fl.length xs7 rfl hown4 ⟨w3.heap.size, 0, none⟩ 1 1 [.string s2, .int .i64 ka, .int .i64 na, .string sa, .slice ya yn yc, .slice za zn zc, .slice xa xm xc] rfl rfl (by decide) HNW.out (seven_one _ _ _ _ _ _ _ _ _ _ _ _ _) (by unfold maxLen; omega) (by omega) HB4.out.size ?_
          intro v5 w5 hown5 hlies5
          have hw5 := Wrote.of_lies hlies5
          have HB5 : Hid (Below W0.heap.size W0 w5) := HB4.out.grown hw5.1 HB4.out.size (fun j hj => (owns_block hown4 hj).1)
          have HA5 : Hid (FAcc w5 W0.heap.size v5 (fun g => Q g ∧ g < W0.heap.size) h (fl ++ [(s2, y)]) (xs7 ++ [.string s2, .int .i64 ka, .int .i64 na, .string sa, .slice ya yn yc, .slice za zn zc, .slice xa xm xc])) := HA4.out.push hw5 hown5 (by omega) ((VIn.keep HB4.out HV.out).kept (Kept.of_below (Below.refl _ _)) (fun q hq => ⟨hq, fun e => by have := (owns_block hown4 e).1; have := hq.2; omega⟩))
          have hs5 : (w5.cell? ⟨w.heap.size, 0, none⟩ = some (.int .i64 7) ∧ w5.cell? ⟨w.heap.size, 1, none⟩ = some (.int .i64 xn) ∧ w5.cell? ⟨w.heap.size, 2, none⟩ = some (.string xs) ∧ w5.cell? ⟨w.heap.size, 3, none⟩ = some (.slice ba bn bc) ∧ w5.cell? ⟨w.heap.size, 4, none⟩ = some (.slice fa fn fc) ∧ w5.cell? ⟨w.heap.size, 5, none⟩ = some (.slice (some ⟨g, o, none⟩) ln lc)) ∧ w5.cell? ⟨g, o + k * 6, none⟩ = some (.int .i64 ka) ∧ w5.cell? ⟨g, o + k * 6 + 1, none⟩ = some (.int .i64 na) ∧ w5.cell? ⟨g, o + k * 6 + 2, none⟩ = some (.string sa) ∧ w5.cell? ⟨g, o + k * 6 + 3, none⟩ = some (.slice ya yn yc) ∧ w5.cell? ⟨g, o + k * 6 + 4, none⟩ = some (.slice za zn zc) ∧ w5.cell? ⟨g, o + k * 6 + 5, none⟩ = some (.slice xa xm xc) := ⟨HS0.out.keep HB5.out, (HSIX.out.keep HB5.out).cells⟩
          clear hown4 hown5 hlies5 hw5 HA4 HNW
          refine hK.out _ _ (by exact hs5) (fun hHeld => ?_)
          clear hK K
          try simp only [List.getElem_toArray, List.getElem_cons_succ, List.getElem_cons_zero, Act.put, List.setIfInBounds_toArray, List.set_cons_zero, List.set_cons_succ]
          refine wpAnyH_take (i := 11) (v := ?_) rfl (by kernel_rfl) (by kernel_rfl) (by kernel_rfl) (fun _ _ _ h => h) (Or.inl ⟨by kernel_rfl, ?_⟩) (by assumption) ?_
          rotate_left
          · intro wS hSw
            (try dsimp only at hSw)
            go_simp
            try (with_reducible rfl)
          try simp only [List.getElem_toArray, List.getElem_cons_succ, List.getElem_cons_zero, Act.put, List.setIfInBounds_toArray, List.set_cons_zero, List.set_cons_succ]
          refine wpAnyH_done (by kernel_rfl) ?_ _
          go_wp2_with fail
          go_roundw
          case rel => exact ⟨k + 1, _, _, _, by omega, by go_num, rfl, by simp [hfl], HMQ, HA5, HB5⟩
          case measure => simp [intOf]; omega
        · have hkk : k = ln := by omega
          obtain ⟨p0, p1, p2, p3, p4, p5⟩ := HS0.out.keep HB.out
          obtain ⟨a', c', rfl, hc, hit⟩ := HA.out.fields (Q' := fun g => Q g ∨ W0.heap.size ≤ g) (fun g hg => .inl hg.1) (fun g hg _ => .inr hg)
          have HIT := Lib.hid hit
          have hkl : ¬ (k : Int) < (ln : Int) := by omega
          clear hc hit HA
          subst hkk
          go_wp2_with fail
          go_at_call 59
          subst hfl
          have hfl2 : fl = Bson.named x.l := by rw [HMP.out]; exact List.take_of_length_le (by rw [Bson.named_length, ← HLN.out]; exact Nat.le_refl _)
          refine (HF (by omega) fl _ wr a' c' (by omega) (fun p hp => wt_item HWT.out p (by rw [← hfl2]; exact hp)) (fun k bs hr => rowB_list HHG.out HWT.out k bs (by rw [← hfl2]; exact hr)) HIT.out).mono ?_
          rintro e w3 ⟨v, b, ll2, rfl, hv, hn, hb⟩
          rw [hfl2] at hn
          clear hfl2
          have HBY := Lib.hid hv
          have HBB := Lib.hid hb
          clear hv hb
          go_wp2_with fail
          refine bodyPost_ret (v := .tuple #[v, .bool b]) (by simp [results, Tryd.results29, go_sem]) rfl ?_
          exact ⟨v, b, ll2, rfl, HBY.out.mono (fun g hg => by have h1 := HB0.out.size; have h2 := HB.out.size; rcases hg with (hg | hg) | hg; exact .inl hg; exact .inr (by omega); exact .inr (by omega)), by rw [show (33 - d).toNat = (32 - d).toNat + 1 by omega, enc_listF HK.out HBE.out]; exact hn, (HB0.out.trans (HB.out.mono HB0.out.size)).trans (HBB.out.mono (HB0.out.trans (HB.out.mono HB0.out.size)).size)⟩
end Go.Proofs.YtpiookgkkaafeaaDoor
end
