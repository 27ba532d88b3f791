/- PathListsWalk. -/
import Derived.Test.YtdgncpoephdboaaDoorMg27
import Derived.Test.YtdgncpoephdboaaDoorMg39
import Derived.Test.YtdgncpoephdboaaDoorMg19
import Derived.Test.YtdgncpoephdboaaDoorMg24
import Derived.Test.YtdgncpoephdboaaDoorMg13
import Derived.Test.YtdgncpoephdboaaDoorMg15
import Derived.Test.YtdgncpoephdboaaDoorMg21
import Derived.Test.YtdgncpoephdboaaDoorMg11
import Derived.Test.YtdgncpoephdboaaDoorMg16
import Derived.Test.YtdgncpoephdboaaDoorMg17
import Derived.Test.YtdgncpoephdboaaDoorMg8
set_option maxRecDepth 100000
section
namespace Go.Proofs.YtdgncpoephdboaaDoor
open Go.RowKit
open Seal
open Bson (Val)
open Path
/-- A List of a row in memory. -/
theorem listOf_in {w : World} {Q : Nat → Prop} {h m lc : Nat} {la : Option Addr} {l : List Val} (hm : l.length = m) (hmc : m ≤ lc) (hc : lc ≤ 9223372036854775807) (hb : m ≤ 1353245080339) (hI : ItemsIn w Q (VIn w Q h) la l) : VIn w Q (h + 1) (Bson.listOf l) (.agg #[.int .i64 7, .int .i64 0, .string ⟨#[]⟩, .slice none 0 0, .slice none 0 0, .slice la m lc]) := by
  subst hm
  exact ⟨none, none, la, 0, 0, lc, rfl, plain_lim 7 0 [] l (by omega) (by omega) (by simp) hb, ⟨Nat.le_refl _, by omega⟩, ⟨Nat.le_refl _, by omega⟩, ⟨hmc, hc⟩, .inl rfl, .inl rfl, hI⟩
set_option maxRecDepth 100000 in
set_option maxHeartbeats 4000000 in
theorem lists_any (Q : Nat → Prop) (h : Nat) (la : Option Addr) (m lc : Nat) (l : List Val) (nm : ByteArray) (w : World) (hm : l.length = m) (hmc : m ≤ lc) (hlc : lc ≤ 9223372036854775807) (hmb : m ≤ 1353245080339) (hI : ItemsIn w Q (VIn w Q (h + 1)) la l) (hQ : ∀ g, Q g → g < w.heap.size) (hnm : nm.size ≤ 140737488355328) (hG : Ground w) :
    Calls Tryd.prog 4 #[.slice la m lc, .string nm] w fun e w' => e = .returned (.bool true) ∧ Below w.heap.size w w' := by
  obtain ⟨i0, hi, hz0, hz1, hz2⟩ := info_parts infoV6
  have HQ := Lib.hid hQ
  clear hQ
  have HM := Lib.hid (And.intro hm (And.intro hmc (And.intro hlc hmb)))
  have HIK : Hid (∀ W, Below w.heap.size w W → ItemsIn W Q (VIn W Q (h + 1)) la l) := fun W hb => hI.kept (Kept.of_below hb) (fun _ z => z) (fun _ _ z => VIn.keep (h := h + 1) hb z)
  have HG := Lib.hid hG
  clear hI hG hm hmc hlc hmb
  go_enter Tryd.func4, Tryd.ntmps4
  go_wp2_with fail
  go_at_call 6
  refine (awake_any _ HG.out).mono ?_
  rintro e w1 ⟨rfl, hb1⟩
  have HB1 := Lib.hid hb1
  clear hb1 HG
  by_cases h20 : (20 : Int) < (m : Int)
  · go_wp2_with fail
    go_ret
    exact ⟨rfl, HB1.out⟩
  by_cases h100 : (100 : Int) < (nm.size : Int)
  · go_wp2_with fail
    go_ret
    exact ⟨rfl, HB1.out⟩
  have hd20 : decide ((20 : Int) < (m : Int)) = false := decide_eq_false h20
  have hd100 : decide ((100 : Int) < (nm.size : Int)) = false := decide_eq_false h100
  have HLT := Lib.hid (show m ≤ 20 ∧ nm.size ≤ 100 from ⟨by omega, by omega⟩)
  have HVL : Hid (∀ W, Below w.heap.size w W → VIn W Q (h + 2) (Bson.listOf l) (.agg #[.int .i64 7, .int .i64 0, .string ⟨#[]⟩, .slice none 0 0, .slice none 0 0, .slice la m lc])) := fun W hb => listOf_in HM.out.1 HM.out.2.1 HM.out.2.2.1 HM.out.2.2.2 (HIK.out W hb)
  go_wp2_with fail
  go_at_call 8
  refine (valid_legal Q (h + 1) (Bson.listOf l) _ w1 (HVL.out w1 HB1.out)).mono ?_
  rintro e w2 ⟨b, rfl, hv, hb⟩
  have HB2 := Lib.hid (HB1.out.trans (hb.mono HB1.out.size))
  have HV := Lib.hid hv
  clear hb hv HB1
  cases b with
  | false =>
    go_wp2_with fail
    go_ret
    exact ⟨rfl, HB2.out⟩
  | true =>
  obtain ⟨hwt, hleg⟩ := HV.out (by trivial)
  have HWT := Lib.hid hwt
  have HLG : Hid (∀ y ∈ l, Key.legal 30 y) := fun y hy => hleg.2.2 rfl y hy
  clear hwt hleg HV
  have HB3 : Hid (Below w2.heap.size w2 (((w2.alloc (.cells #[Value.string ⟨#[108]⟩, .int .i64 7, .int .i64 0, .string ⟨#[]⟩, .slice none 0 0, .slice none 0 0, .slice la m lc] 32)).alloc (.cells #[Value.int .i64 6, .int .i64 0, .string ⟨#[]⟩, .slice none 0 0, .slice (some ⟨w2.heap.size, 0, none⟩) 1 1, .slice none 0 0] 27)).alloc (.cells #[Value.string ⟨#[108]⟩, .string nm] 9))) := (((Below.refl _ w2).alloc (Nat.le_refl _) _).alloc (by simp) _).alloc (by simp; omega) _
  have HF3 : Hid ((((w2.alloc (.cells #[Value.string ⟨#[108]⟩, .int .i64 7, .int .i64 0, .string ⟨#[]⟩, .slice none 0 0, .slice none 0 0, .slice la m lc] 32)).alloc (.cells #[Value.int .i64 6, .int .i64 0, .string ⟨#[]⟩, .slice none 0 0, .slice (some ⟨w2.heap.size, 0, none⟩) 1 1, .slice none 0 0] 27)).alloc (.cells #[Value.string ⟨#[108]⟩, .string nm] 9)).heap[w2.heap.size]? = some (.cells #[Value.string ⟨#[108]⟩, .int .i64 7, .int .i64 0, .string ⟨#[]⟩, .slice none 0 0, .slice none 0 0, .slice la m lc] 32 (0, 0))) := ((show Below (w2.heap.size + 1) (w2.alloc (.cells #[Value.string ⟨#[108]⟩, .int .i64 7, .int .i64 0, .string ⟨#[]⟩, .slice none 0 0, .slice none 0 0, .slice la m lc] 32)) (((w2.alloc (.cells #[Value.string ⟨#[108]⟩, .int .i64 7, .int .i64 0, .string ⟨#[]⟩, .slice none 0 0, .slice none 0 0, .slice la m lc] 32)).alloc (.cells #[Value.int .i64 6, .int .i64 0, .string ⟨#[]⟩, .slice none 0 0, .slice (some ⟨w2.heap.size, 0, none⟩) 1 1, .slice none 0 0] 27)).alloc (.cells #[Value.string ⟨#[108]⟩, .string nm] 9)) from (((Below.refl _ (w2.alloc (.cells #[Value.string ⟨#[108]⟩, .int .i64 7, .int .i64 0, .string ⟨#[]⟩, .slice none 0 0, .slice none 0 0, .slice la m lc] 32))).alloc (by simp) _).alloc (by simp) _)).block w2.heap.size (by omega)).trans (heap_alloc_new w2 _)
  have HDB : Hid (IsBox (((w2.alloc (.cells #[Value.string ⟨#[108]⟩, .int .i64 7, .int .i64 0, .string ⟨#[]⟩, .slice none 0 0, .slice none 0 0, .slice la m lc] 32)).alloc (.cells #[Value.int .i64 6, .int .i64 0, .string ⟨#[]⟩, .slice none 0 0, .slice (some ⟨w2.heap.size, 0, none⟩) 1 1, .slice none 0 0] 27)).alloc (.cells #[Value.string ⟨#[108]⟩, .string nm] 9)) (w2.heap.size + 1) (.int .i64 6) (.int .i64 0) (.string ⟨#[]⟩) (.slice none 0 0) (.slice (some ⟨w2.heap.size, 0, none⟩) 1 1) (.slice none 0 0)) := (IsBox.new2 w2 (.cells #[Value.string ⟨#[108]⟩, .int .i64 7, .int .i64 0, .string ⟨#[]⟩, .slice none 0 0, .slice none 0 0, .slice la m lc] 32) (.int .i64 6) (.int .i64 0) (.string ⟨#[]⟩) (.slice none 0 0) (.slice (some ⟨w2.heap.size, 0, none⟩) 1 1) (.slice none 0 0)).keep ((Below.refl _ _).alloc (Nat.le_refl _) _)
  have HS3 : Hid ((((w2.alloc (.cells #[Value.string ⟨#[108]⟩, .int .i64 7, .int .i64 0, .string ⟨#[]⟩, .slice none 0 0, .slice none 0 0, .slice la m lc] 32)).alloc (.cells #[Value.int .i64 6, .int .i64 0, .string ⟨#[]⟩, .slice none 0 0, .slice (some ⟨w2.heap.size, 0, none⟩) 1 1, .slice none 0 0] 27)).alloc (.cells #[Value.string ⟨#[108]⟩, .string nm] 9)).heap[w2.heap.size + 2]? = some (.cells #[Value.string ⟨#[108]⟩, .string nm] 9 (0, 0))) := by
    have h1 := heap_alloc_new ((w2.alloc (.cells #[Value.string ⟨#[108]⟩, .int .i64 7, .int .i64 0, .string ⟨#[]⟩, .slice none 0 0, .slice none 0 0, .slice la m lc] 32)).alloc (.cells #[Value.int .i64 6, .int .i64 0, .string ⟨#[]⟩, .slice none 0 0, .slice (some ⟨w2.heap.size, 0, none⟩) 1 1, .slice none 0 0] 27)) (.cells #[Value.string ⟨#[108]⟩, .string nm] 9)
    have e : ((w2.alloc (.cells #[Value.string ⟨#[108]⟩, .int .i64 7, .int .i64 0, .string ⟨#[]⟩, .slice none 0 0, .slice none 0 0, .slice la m lc] 32)).alloc (.cells #[Value.int .i64 6, .int .i64 0, .string ⟨#[]⟩, .slice none 0 0, .slice (some ⟨w2.heap.size, 0, none⟩) 1 1, .slice none 0 0] 27)).heap.size = w2.heap.size + 2 := by simp
    rw [e] at h1
    exact h1
  have HBW : Hid (Below w.heap.size w (((w2.alloc (.cells #[Value.string ⟨#[108]⟩, .int .i64 7, .int .i64 0, .string ⟨#[]⟩, .slice none 0 0, .slice none 0 0, .slice la m lc] 32)).alloc (.cells #[Value.int .i64 6, .int .i64 0, .string ⟨#[]⟩, .slice none 0 0, .slice (some ⟨w2.heap.size, 0, none⟩) 1 1, .slice none 0 0] 27)).alloc (.cells #[Value.string ⟨#[108]⟩, .string nm] 9))) := HB2.out.trans (HB3.out.mono HB2.out.size)
  have HD : Hid (VIn (((w2.alloc (.cells #[Value.string ⟨#[108]⟩, .int .i64 7, .int .i64 0, .string ⟨#[]⟩, .slice none 0 0, .slice none 0 0, .slice la m lc] 32)).alloc (.cells #[Value.int .i64 6, .int .i64 0, .string ⟨#[]⟩, .slice none 0 0, .slice (some ⟨w2.heap.size, 0, none⟩) 1 1, .slice none 0 0] 27)).alloc (.cells #[Value.string ⟨#[108]⟩, .string nm] 9)) (fun g => Q g ∨ g = w2.heap.size) (h + 3) (listsD l) (.agg #[.int .i64 6, .int .i64 0, .string ⟨#[]⟩, .slice none 0 0, .slice (some ⟨w2.heap.size, 0, none⟩) 1 1, .slice none 0 0])) := doc_in (h := h + 2) HF3.out (.inr rfl) (by decide) ((HVL.out _ HBW.out).kept (h := h + 2) (Kept.of_below (Below.refl _ _)) (fun g hg => .inl hg))
  have HST : Hid (StrsIn (((w2.alloc (.cells #[Value.string ⟨#[108]⟩, .int .i64 7, .int .i64 0, .string ⟨#[]⟩, .slice none 0 0, .slice none 0 0, .slice la m lc] 32)).alloc (.cells #[Value.int .i64 6, .int .i64 0, .string ⟨#[]⟩, .slice none 0 0, .slice (some ⟨w2.heap.size, 0, none⟩) 1 1, .slice none 0 0] 27)).alloc (.cells #[Value.string ⟨#[108]⟩, .string nm] 9)) (some ⟨w2.heap.size + 2, 0, none⟩) [⟨#[108]⟩, nm]) := .inr ⟨_, 0, rfl, fun i hi => by
    match i, hi with
    | 0, _ => exact (cell_of_row _ _ 0 _ _ _ HS3.out).trans rfl
    | 1, _ => exact (cell_of_row _ _ 1 _ _ _ HS3.out).trans rfl⟩
  have HQD : Hid (∀ g, Q g ∨ g = w2.heap.size → g < (((w2.alloc (.cells #[Value.string ⟨#[108]⟩, .int .i64 7, .int .i64 0, .string ⟨#[]⟩, .slice none 0 0, .slice none 0 0, .slice la m lc] 32)).alloc (.cells #[Value.int .i64 6, .int .i64 0, .string ⟨#[]⟩, .slice none 0 0, .slice (some ⟨w2.heap.size, 0, none⟩) 1 1, .slice none 0 0] 27)).alloc (.cells #[Value.string ⟨#[108]⟩, .string nm] 9)).heap.size) := fun g hg => by
    have h1 := HB3.out.size
    have h2 := HBW.out.size
    rcases hg with hg | hg
    · have := HQ.out g hg; omega
    · have : g < (((w2.alloc (.cells #[Value.string ⟨#[108]⟩, .int .i64 7, .int .i64 0, .string ⟨#[]⟩, .slice none 0 0, .slice none 0 0, .slice la m lc] 32)).alloc (.cells #[Value.int .i64 6, .int .i64 0, .string ⟨#[]⟩, .slice none 0 0, .slice (some ⟨w2.heap.size, 0, none⟩) 1 1, .slice none 0 0] 27)).alloc (.cells #[Value.string ⟨#[108]⟩, .string nm] 9)).heap.size := by rw [hg]; exact (Array.getElem?_eq_some_iff.1 HF3.out).1
      exact this
  have HREA : Hid (Bson.reach (h + 4) (listsD l) [⟨#[108]⟩, nm] = Bson.listOf (Bson.gotten (h + 2) nm l)) := Bson.reach_lists (h + 2) _ nm l (listsD l) rfl rfl
  obtain ⟨al, hal⟩ : ∃ al, al = if Bson.asked nm l = [] then [Bson.zero] else Bson.asked nm l := ⟨_, rfl⟩
  have HALL : Hid (Bson.all (h + 4) (listsD l) [⟨#[108]⟩, nm] = al) := by
    rw [hal]
    exact Bson.all_lists (L := 29) (h + 1) _ nm l (listsD l) rfl rfl (fun y hy h6 => (HLG.out y hy).2.1 h6)
  have HAL := Lib.hid hal
  clear hal
  have HALN : Hid (al.length ≤ 3003) := by
    have h1 := all_le (h + 4) (h + 3) (listsD l) [⟨#[108]⟩, nm] (VIn.hgt HD.out)
    rw [HALL.out] at h1
    have h2 : wt (h + 3) (listsD l) = 2 + wt (h + 2) (Bson.listOf l) := by show 1 + 0 + 0 + ((1 + wt (h + 2) (Bson.listOf l)) + 0) + 0 = _; omega
    have h3 := HWT.out
    have h3 : wt (h + 2) (Bson.listOf l) ≤ 3000 := HWT.out
    show al.length ≤ 3003
    omega
  go_upto_region 7 with fail
  generalize hW3 : (((w2.alloc (.cells #[Value.string ⟨#[108]⟩, .int .i64 7, .int .i64 0, .string ⟨#[]⟩, .slice none 0 0, .slice none 0 0, .slice la m lc] 32)).alloc (.cells #[Value.int .i64 6, .int .i64 0, .string ⟨#[]⟩, .slice none 0 0, .slice (some ⟨w2.heap.size, 0, none⟩) 1 1, .slice none 0 0] 27)).alloc (.cells #[Value.string ⟨#[108]⟩, .string nm] 9)) = W3 at *
  clear hW3
  go_cut [7, 8] (fun s7 s8 W => Hid (LFin W3 (h + 2) (Bson.gotten (h + 2) nm l) al s7 s8 W))
  case first =>
    refine wp_region_inv (fun V => { tmps := #[Value.slice la m lc, .string nm, undef, undef, .bool false, .pointer (some ⟨w2.heap.size + 1, 0, none⟩), .slice (some ⟨w2.heap.size + 1 + 1, 0, none⟩) 2 2, V 6, V 8, undef, undef, undef, undef, undef, .bool true, .bool false, .slice la m lc, .int .i64 (m : Int), .bool false, .bool false, .string nm, .int .i64 (nm.size : Int), .bool false, .bool false, .bool false, .slice la m lc, .agg #[.int .i64 7, .int .i64 0, .string ⟨#[]⟩, .slice none 0 0, .slice none 0 0, .slice la m lc], .bool true, .bool false, .bool false, .slice la m lc, .agg #[.int .i64 7, .int .i64 0, .string ⟨#[]⟩, .slice none 0 0, .slice none 0 0, .slice la m lc], .agg #[.string ⟨#[108]⟩, .int .i64 7, .int .i64 0, .string ⟨#[]⟩, .slice none 0 0, .slice none 0 0, .slice la m lc], .slice (some ⟨w2.heap.size, 0, none⟩) 1 1, .agg #[.int .i64 6, .int .i64 0, .string ⟨#[]⟩, .slice none 0 0, .slice (some ⟨w2.heap.size, 0, none⟩) 1 1, .slice none 0 0], .string nm, .slice (some ⟨w2.heap.size + 1 + 1, 0, none⟩) 2 2, V 0, V 1, V 2, V 3, V 4, V 5, undef, undef, undef, undef, undef, undef, undef, undef, undef, undef, undef, undef, undef, undef, undef, undef, undef, undef, undef, undef, undef, undef, undef, undef, undef, undef, undef, undef, undef, undef, undef, undef, undef, undef, undef, undef, undef, undef, undef, undef, undef, undef, undef, undef, undef, undef, undef, undef, undef, undef, undef, undef, undef, undef, undef, undef, undef, undef, undef, undef, undef, undef, undef, undef, undef, undef, undef, undef, undef, undef, undef, undef, undef, undef, undef, undef, undef, undef, undef, undef, undef, undef, undef, undef, undef, undef, undef, undef, undef, undef, undef, undef, undef, undef, undef, undef, undef, undef, undef, undef, undef, undef, undef, undef, undef, undef, undef, undef, undef, undef, undef, undef, undef, undef, undef, undef, undef, undef, undef, undef, undef, undef, undef, undef, undef], defers := [] }) (LInv W3 (.agg #[.int .i64 6, .int .i64 0, .string ⟨#[]⟩, .slice none 0 0, .slice (some ⟨w2.heap.size, 0, none⟩) 1 1, .slice none 0 0]) (.slice (some ⟨w2.heap.size + 1 + 1, 0, none⟩) 2 2) (h + 3) (Bson.listOf (Bson.gotten (h + 2) nm l)) al) (by kernel_rfl) (by kernel_rfl) (by kernel_rfl) (fun V => by kernel_rfl) ?_ (fun V => ⟨⟨rfl, rfl, rfl, Nat.le_refl _, fun _ _ => rfl⟩, nofun, nofun, nofun, nofun, 0, nofun, nofun, nofun, nofun, nofun⟩) ?_
    · refine ⟨?_, ?_⟩
      · refine inv_free rfl (fun D V w5 hDi hpre hI K hK => ?_)
        have hpre := hpre.out
        obtain ⟨d0, d1, d2, d3, d4, d5⟩ := (HDB.out.keep hI.below).cells
        go_simp
        exact put_is (by kernel_rfl) (hK.out _ _ hI.read0)
      refine ⟨?_, ?_⟩
      · refine inv_free rfl (fun D V w5 hDi hpre hI K hK => ?_)
        have hpre := hpre.out
        go_simp
        exact put_is (by kernel_rfl) (hK.out _ _ hI.read1)
      refine ⟨?_, ?_⟩
      · refine inv_free rfl (fun D V w5 hDi hpre hI K hK => ?_)
        have hpre := hpre.out
        have e0 := hI.2.1 (hpre 0 (by kernel_rfl))
        have e1 := hI.2.2.1 (hpre 1 (by kernel_rfl))
        go_simp
        go_at_call 10
        refine (Reach_any (h + 4) (h + 2) [⟨#[108]⟩, nm] _ 2 2 (by show 2 + (h + 2) ≤ h + 4; omega) rfl (Nat.le_refl _) _ _ _ w5 (VIn.keep (h := h + 3) hI.below HD.out) (HST.out.keep hI.below)).mono ?_
        rw [HREA.out]
        rintro e w6 ⟨v6, rfl, hv6, hb6⟩
        exact put_is (by rw [e0, e1]; kernel_rfl) (hK.out _ _ (hI.reached (hI.no7 hDi) hb6 ⟨_, rfl⟩ hv6))
      refine ⟨?_, ?_⟩
      · refine inv_free rfl (fun D V w5 hDi hpre hI K hK => ?_)
        have hpre := hpre.out
        obtain ⟨d0, d1, d2, d3, d4, d5⟩ := (HDB.out.keep hI.below).cells
        go_simp
        exact put_is (by kernel_rfl) (hK.out _ _ hI.read3)
      refine ⟨?_, ?_⟩
      · refine inv_free rfl (fun D V w5 hDi hpre hI K hK => ?_)
        have hpre := hpre.out
        go_simp
        exact put_is (by kernel_rfl) (hK.out _ _ hI.read4)
      refine ⟨?_, ?_⟩
      · refine inv_free rfl (fun D V w5 hDi hpre hI K hK => ?_)
        have hpre := hpre.out
        have e3 := hI.2.2.2.1 (hpre 3 (by kernel_rfl))
        have e4 := hI.2.2.2.2.1 (hpre 4 (by kernel_rfl))
        go_simp
        go_at_call 9
        refine (All_any (h + 4) (h + 2) [⟨#[108]⟩, nm] _ 2 2 (by show 2 + (h + 2) ≤ h + 4; omega) rfl (Nat.le_refl _) _ _ _ w5 (VIn.keep (h := h + 3) hI.below HD.out) (HST.out.keep hI.below) (by rw [HALL.out]; exact Nat.le_trans HALN.out (by decide))).mono ?_
        rw [HALL.out]
        rintro e w6 ⟨a6, c6, rfl, -, hi6, hb6⟩
        exact put_is (by rw [e3, e4]; kernel_rfl) (hK.out _ _ (hI.brought (c := c6) (hI.no8 hDi) hb6 HQD.out hi6))
      refine ⟨?_, ?_⟩
      · refine inv_free rfl (fun D V w5 hDi hpre hI K hK => ?_)
        have hpre := hpre.out
        go_simp
        exact put_is (by kernel_rfl) (hK.out _ _ (hI.laid (hI.no76 hDi)))
      refine ⟨?_, ?_⟩
      · refine inv_free rfl (fun D V w5 hDi hpre hI K hK => ?_)
        have hpre := hpre.out
        obtain ⟨g6, x0, x1, x2, x3, x4, x5, e6, e2, hbx, ⟨xk, xn, xs, xb, xbl, xbc, xf, xfl, xfc, xl, xll, xlc, rfl, rfl, rfl, rfl, rfl, rfl⟩, hst⟩ := hI.stored (hpre 2 (by kernel_rfl)) (hpre 6 (by kernel_rfl)) hDi
        obtain ⟨z0, z1, z2, z3, z4, z5⟩ := hbx.cells
        obtain ⟨t0, t1, t2, t3, t4, t5⟩ := hbx.thaw
        have HST6 := Lib.hid hst
        clear hst hI hpre hbx
        go_simp
        refine put_is ?_ (hK.out undef (puts w5 g6 0 _) (HST6.out undef))
        rw [e6, e2]; kernel_rfl
      refine ⟨?_, ?_⟩
      · refine inv_free rfl (fun D V w5 hDi hpre hI K hK => ?_)
        have hpre := hpre.out
        go_simp
        exact put_is (by kernel_rfl) (hK.out _ _ (hI.handed (hpre 5 (by kernel_rfl))))
      trivial
    intro D V w4 hD hI
    have hF := Lib.hid (hI.done (hD 2 (by decide)) (hD 6 (by decide)) (hD 7 (by decide)) (hD 8 (by decide)))
    clear hI hD
    generalize V 6 = u6 at *
    generalize V 8 = u8 at *
    go_wp2_with fail
    go_meet
    exact hF
  case rest =>
    revert hcut
    generalize wc = wo
    intro hcut
    clear wc
    obtain ⟨g6, xb, xbc, xf, xfc, xl, xlc, aa, ac, rfl, rfl, hbl, hl6, hg6, hbx, hix, hia⟩ := hcut.out
    clear hcut
    obtain ⟨yn, hyn⟩ : ∃ n, n = (Bson.gotten (h + 2) nm l).length := ⟨_, rfl⟩
    rw [← hyn] at hbx
    obtain ⟨an, han⟩ : ∃ n, n = al.length := ⟨_, rfl⟩
    rw [← han]
    have HYN := Lib.hid hyn
    have HAN := Lib.hid han
    clear hyn han
    have HB4 := Lib.hid hbl
    have HG6 := Lib.hid (And.intro hl6 hg6)
    have HBX := Lib.hid hbx
    have HIX := Lib.hid hix
    have HIA := Lib.hid hia
    clear hbl hl6 hg6 hbx hix hia
    go_wp2_with fail
    go_loopw [9, 10, 11] (fun u9 n i wr => ∃ (k q : Nat) (v : Value), i = .int .i64 k ∧ n = .int .i64 q ∧ v = u9 ∧ k ≤ m ∧ q ≤ an ∧ Hid (LRow Q h nm l al wo k q v wr)) (fun _ _ i _ => m - (intOf i).toNat)
    case atStart => exact ⟨0, 0, _, rfl, rfl, rfl, Nat.zero_le _, Nat.zero_le _, ⟨⟨[], Acc.nil _ _ _ _⟩, Below.refl _ _, rfl, Nat.zero_le _⟩⟩
    case round =>
      obtain ⟨k, q, v9, rfl, rfl, rfl, hk, hq, HR⟩ := hrel
      by_cases hlt : k < m
      · skip
        have hk1 : k < l.length := by have := HM.out.1; omega
        obtain ⟨⟨xs9, hacc⟩, hbR, hqe, hqa⟩ := HR.out
        have HBW9 : Hid (Below w.heap.size w wr) := HBW.out.trans ((HB4.out.trans (hbR.mono HB4.out.size)).mono HBW.out.size)
        obtain ⟨gl, ol, hla, hqg, hall⟩ := (HIK.out wr HBW9.out).resolve_left (fun e => by rw [e] at hk1; simp at hk1)
        subst hla
        obtain ⟨v1, hsix, hv1⟩ := hall k hk1
        obtain ⟨y, hy⟩ : ∃ y, y = l[k] := ⟨_, rfl⟩
        rw [← hy] at hv1
        obtain ⟨ky, ny, sy, b1, f1, l1, bm1, bz1, fm1, fz1, lm1, lz1, rfl⟩ := hv1.shape
        obtain ⟨s0, s1, s2, s3, s4, s5⟩ := hsix.cells
        have HKY : Hid (ky = y.kind) := hv1.kind
        have HV1 := Lib.hid hv1
        have HY := Lib.hid hy
        have HACC := Lib.hid hacc
        have HBR := Lib.hid hbR
        have HQE := Lib.hid hqe
        have HQA := Lib.hid hqa
        have hxy : l[k] = y := hy.symm
        clear hall hsix hv1 hy hacc hbR hqe hqa HR hqg hxy
        go_wp2_with fail
        go_at_call 13
        refine (refField_any Q h y _ nm wr HV1.out).mono ?_
        rintro e w2f ⟨v2, rfl, hv2, hb2⟩
        obtain ⟨kd, nd, sd, bd, fd, ld, bm, bz, fm, fz, lm, lz, rfl⟩ := hv2.shape
        have HKD : Hid (kd = (Bson.fieldOf y nm).kind) := hv2.kind
        obtain ⟨WB, hWB⟩ : ∃ W, W = w2f.alloc (.cells #[.int .i64 kd, .int .i64 nd, .string sd, .slice bd bm bz, .slice fd fm fz, .slice ld lm lz] 27) := ⟨_, rfl⟩
        have HB5 : Hid (Below wr.heap.size wr WB) := by rw [hWB]; exact hb2.alloc hb2.size _
        have HSB : Hid (WB.heap.size = w2f.heap.size + 1) := (by rw [hWB]; simp : WB.heap.size = w2f.heap.size + 1)
        have HSW : Hid (wr.heap.size ≤ w2f.heap.size) := hb2.size
        have HXB : Hid (IsBox WB w2f.heap.size (.int .i64 kd) (.int .i64 nd) (.string sd) (.slice bd bm bz) (.slice fd fm fz) (.slice ld lm lz)) := by rw [hWB]; exact IsBox.new w2f _ _ _ _ _ _
        have HVD : Hid (VIn WB Q (h + 1) (Bson.fieldOf y nm) (.agg #[.int .i64 kd, .int .i64 nd, .string sd, .slice bd bm bz, .slice fd fm fz, .slice ld lm lz])) := by rw [hWB]; exact VIn.keep ((Below.refl _ w2f).alloc (Nat.le_refl _) _) hv2
        replace s0 := cell_keep HB5.out s0
        replace s1 := cell_keep HB5.out s1
        replace s2 := cell_keep HB5.out s2
        replace s3 := cell_keep HB5.out s3
        replace s4 := cell_keep HB5.out s4
        replace s5 := cell_keep HB5.out s5
        have HWB := Lib.hid hWB
        clear hWB hv2 hb2
        obtain ⟨x0, x1, x2, x3, x4, x5⟩ := HXB.out.cells
        go_upto_region 14 with fail
        generalize hW2 : w2f.alloc (.cells #[.int .i64 kd, .int .i64 nd, .string sd, .slice bd bm bz, .slice fd fm fz, .slice ld lm lz] 27) = W2 at *
        obtain rfl : WB = W2 := HWB.out
        clear hW2 HWB
        by_cases h7 : ky = 7
        · subst h7
          have HWS : Hid (Below wr.heap.size wr (WB.alloc (.cells #[Value.string nm] 9))) := HB5.out.alloc HB5.out.size _
          have HVY : Hid (VIn (WB.alloc (.cells #[Value.string nm] 9)) Q (h + 1) y (.agg #[.int .i64 7, .int .i64 ny, .string sy, .slice b1 bm1 bz1, .slice f1 fm1 fz1, .slice l1 lm1 lz1])) := VIn.keep HWS.out HV1.out
          have HSN : Hid (StrsIn (WB.alloc (.cells #[Value.string nm] 9)) (some ⟨WB.heap.size, 0, none⟩) [nm]) := .inr ⟨_, 0, rfl, fun i hi => by
            match i, hi with
            | 0, _ => exact (cell_of_row _ _ 0 _ _ _ (heap_alloc_new WB _)).trans rfl⟩
          go_wp2_with fail
          go_at_call 14
          refine (rreach_any (h + 2) h [nm] _ 1 1 (by show 1 + h ≤ h + 2; omega) rfl (Nat.le_refl _) Q y _ _ HVY.out HSN.out).mono ?_
          rintro e w6 ⟨v6, rfl, hv6, hb6⟩
          obtain ⟨kr, nr, sr, br, fr, lr, bm3, bz3, fm3, fz3, lm3, lz3, rfl⟩ := hv6.shape
          have hs1 := HBW.out.size
          have hs2 := HB4.out.size
          have hs3 := HBR.out.size
          have hs4 := HB5.out.size
          have hs5 : WB.heap.size + 1 ≤ w6.heap.size := by have := hb6.size; simpa using this
          have HB6 : Hid (Below wr.heap.size wr (w6.alloc (.cells #[.int .i64 kr, .int .i64 nr, .string sr, .slice br bm3 bz3, .slice fr fm3 fz3, .slice lr lm3 lz3] 27))) := (HWS.out.trans (hb6.mono HWS.out.size)).alloc (by omega) _
          have HVR : Hid (VIn (w6.alloc (.cells #[.int .i64 kr, .int .i64 nr, .string sr, .slice br bm3 bz3, .slice fr fm3 fz3, .slice lr lm3 lz3] 27)) (fun g => (Q g ∨ wo.heap.size ≤ g) ∧ v9.ownBlock ≠ some g) (h + 1) (Bson.reach (h + 2) y [nm]) (.agg #[.int .i64 kr, .int .i64 nr, .string sr, .slice br bm3 bz3, .slice fr fm3 fz3, .slice lr lm3 lz3])) := by
            refine hv6.kept (Kept.of_below ((Below.refl _ w6).alloc (Nat.le_refl _) _)) (fun g hg => ?_)
            rcases hg with hg | hg
            · have h1 := HQ.out g hg
              exact ⟨.inl hg, fun e => by have := owns_block HACC.out.own e; omega⟩
            · have h1 : WB.heap.size + 1 ≤ g := by simpa using hg
              exact ⟨.inr (by omega), fun e => by have := owns_block HACC.out.own e; omega⟩
          obtain ⟨gn, hgn⟩ : ∃ n, n = (Bson.gotten (h + 2) nm (l.take k)).length := ⟨_, rfl⟩
          have hgl : gn ≤ 20 := by have := gotten_le (h + 2) nm (l.take k); rw [← hgn, List.length_take] at this; have := HLT.out; omega
          have HA7 := Lib.hid (HACC.out.keep HB6.out)
          have HOWN : Hid ((w6.alloc (.cells #[.int .i64 kr, .int .i64 nr, .string sr, .slice br bm3 bz3, .slice fr fm3 fz3, .slice lr lm3 lz3] 27)).ownsRow wo.heap.size 27 6 v9 gn xs9) := by have := HA7.out.own; rw [← hgn] at this; exact this
          have HGN := Lib.hid hgn
          have HNW := Lib.hid (six_new w6 (.int .i64 kr) (.int .i64 nr) (.string sr) (.slice br bm3 bz3) (.slice fr fm3 fz3) (.slice lr lm3 lz3) 27)
          have HSZ : Hid (wo.heap.size ≤ (w6.alloc (.cells #[.int .i64 kr, .int .i64 nr, .string sr, .slice br bm3 bz3, .slice fr fm3 fz3, .slice lr lm3 lz3] 27)).heap.size) := (by have := HB6.out.size; omega : wo.heap.size ≤ (w6.alloc (.cells #[.int .i64 kr, .int .i64 nr, .string sr, .slice br bm3 bz3, .slice fr fm3 fz3, .slice lr lm3 lz3] 27)).heap.size)
          clear hgn hv6 hb6 hs1 hs2 hs3 hs4 hs5
          go_wp2_with (at_builtin; refine wpList_append_sz _ rfl (.tmp 61) (.tmp 69) 25 rfl wo.heap.size 27 i0 (.agg #[.int .i64 0, .int .i64 0, .string ⟨#[]⟩, .slice none 0 0, .slice none 0 0, .slice none 0 0]) 6 104 Tryd.underlying25 hi hz0 hz1 hz2 rfl v9 gn xs9 rfl HOWN.out ⟨w6.heap.size, 0, none⟩ 1 1 [.int .i64 kr, .int .i64 nr, .string sr, .slice br bm3 bz3, .slice fr fm3 fz3, .slice lr lm3 lz3] rfl rfl (by decide) (by decide) HNW.out (six_one _ _ _ _ _ _ _ _ _ _ _ _) (by unfold maxLen; omega) (by omega) HSZ.out ?_)
          intro v5 w5 hown5 hlies5
          have hw5 := Wrote.of_lies hlies5
          have HBc : Hid (Below wo.heap.size wo w5) := (HBR.out.trans (HB6.out.mono HBR.out.size)).grown hw5.1 HSZ.out (fun j hj => (owns_block HOWN.out hj).1)
          have HN : Hid (LRow Q h nm l al wo (k + 1) q v5 w5) := LRow.list hk1 (by rw [← HY.out, ← HKY.out]) HBc.out (by rw [← HY.out]; exact HA7.out.push hw5 (by rw [← HGN.out]; exact hown5) HVR.out) HQE.out HQA.out
          clear hown5 hlies5 hw5 HOWN HNW HSZ HA7 HVR
          go_wp2_with fail
          go_roundw
          case rel => exact ⟨k + 1, q, _, by go_num, rfl, rfl, by omega, hq, HN⟩
          case measure => simp [intOf]; omega
        · have hb7 : (ky == 7) = false := by rw [beq_eq_false_iff_ne]; exact h7
          by_cases h6 : ky = 6
          · subst h6
            have h6y : l[k].kind = 6 := by rw [← HY.out, ← HKY.out]
            have hfo : Bson.fieldOf y nm = Bson.fieldIn y.f nm := by unfold Bson.fieldOf; rw [if_pos HKY.out.symm]
            have HGD : Hid (Bson.gotten (h + 2) nm (l.take (k + 1)) = Bson.gotten (h + 2) nm (l.take k) ++ (if kd ≠ 0 then [Bson.fieldOf y nm] else [])) := by
              have h1 := gotten_doc h nm l k hk1 h6y
              rw [← HY.out, ← hfo, ← HKD.out] at h1
              exact h1
            have H6Y := Lib.hid h6y
            have HFO := Lib.hid hfo
            clear h6y hfo
            have hs1 := HBW.out.size
            have hs2 := HB4.out.size
            have hs3 := HBR.out.size
            have hs4 := HB5.out.size
            have hsw := HSW.out
            have hsb := HSB.out
            go_upto_if 79 with fail
            go_cut [9] from 79 to 83 (fun u9 W => Hid (LDoc Q h nm l wo k w2f.heap.size (Bson.fieldOf y nm) (.int .i64 kd) (.int .i64 nd) (.string sd) (.slice bd bm bz) (.slice fd fm fz) (.slice ld lm lz) WB.heap.size u9 W))
            case first =>
              by_cases h0 : kd = 0
              · subst h0
                have HN : Hid (LDoc Q h nm l wo k w2f.heap.size (Bson.fieldOf y nm) (.int .i64 0) (.int .i64 nd) (.string sd) (.slice bd bm bz) (.slice fd fm fz) (.slice ld lm lz) WB.heap.size v9 WB) := ⟨v9, xs9, rfl, by rw [HGD.out, if_neg (by simp), List.append_nil]; exact HACC.out.keep HB5.out, HBR.out.trans (HB5.out.mono HBR.out.size), HXB.out, HVD.out, Nat.le_refl _⟩
                clear hs1 hs2 hs3 hs4 hsw hsb
                go_wp2_with fail
                go_meet
                exact HN
              · have hkb : (kd != 0) = true := by rw [bne_iff_ne]; exact h0
                have HB6 : Hid (Below wr.heap.size wr (WB.alloc (.cells #[.int .i64 kd, .int .i64 nd, .string sd, .slice bd bm bz, .slice fd fm fz, .slice ld lm lz] 27))) := HB5.out.alloc HB5.out.size _
                have HVR : Hid (VIn (WB.alloc (.cells #[.int .i64 kd, .int .i64 nd, .string sd, .slice bd bm bz, .slice fd fm fz, .slice ld lm lz] 27)) (fun g => (Q g ∨ wo.heap.size ≤ g) ∧ v9.ownBlock ≠ some g) (h + 1) (Bson.fieldOf y nm) (.agg #[.int .i64 kd, .int .i64 nd, .string sd, .slice bd bm bz, .slice fd fm fz, .slice ld lm lz])) := by
                  refine HVD.out.kept (Kept.of_below ((Below.refl _ WB).alloc (Nat.le_refl _) _)) (fun g hg => ?_)
                  have h1 := HQ.out g hg
                  exact ⟨.inl hg, fun e => by have := owns_block HACC.out.own e; omega⟩
                obtain ⟨gn, hgn⟩ : ∃ n, n = (Bson.gotten (h + 2) nm (l.take k)).length := ⟨_, rfl⟩
                have hgl : gn ≤ 20 := by have := gotten_le (h + 2) nm (l.take k); rw [← hgn, List.length_take] at this; have := HLT.out; omega
                have HA7 := Lib.hid (HACC.out.keep HB6.out)
                have HOWN : Hid ((WB.alloc (.cells #[.int .i64 kd, .int .i64 nd, .string sd, .slice bd bm bz, .slice fd fm fz, .slice ld lm lz] 27)).ownsRow wo.heap.size 27 6 v9 gn xs9) := by have := HA7.out.own; rw [← hgn] at this; exact this
                have HGN := Lib.hid hgn
                have HNW := Lib.hid (six_new WB (.int .i64 kd) (.int .i64 nd) (.string sd) (.slice bd bm bz) (.slice fd fm fz) (.slice ld lm lz) 27)
                have HSZ : Hid (wo.heap.size ≤ (WB.alloc (.cells #[.int .i64 kd, .int .i64 nd, .string sd, .slice bd bm bz, .slice fd fm fz, .slice ld lm lz] 27)).heap.size) := (by have := HB6.out.size; omega : wo.heap.size ≤ (WB.alloc (.cells #[.int .i64 kd, .int .i64 nd, .string sd, .slice bd bm bz, .slice fd fm fz, .slice ld lm lz] 27)).heap.size)
                have HWL : Hid (w2f.heap.size < (WB.alloc (.cells #[.int .i64 kd, .int .i64 nd, .string sd, .slice bd bm bz, .slice fd fm fz, .slice ld lm lz] 27)).heap.size) := (by simp; omega : w2f.heap.size < (WB.alloc (.cells #[.int .i64 kd, .int .i64 nd, .string sd, .slice bd bm bz, .slice fd fm fz, .slice ld lm lz] 27)).heap.size)
                have HLE : Hid (wr.heap.size ≤ w2f.heap.size) := hsw
                have HWC : Hid (w.heap.size ≤ wo.heap.size) := (by omega : w.heap.size ≤ wo.heap.size)
                clear hgn hs1 hs2 hs3 hs4 hsw hsb
                go_wp2_with (at_builtin; refine wpList_append_sz _ rfl (.tmp 80) (.tmp 82) 25 rfl wo.heap.size 27 i0 (.agg #[.int .i64 0, .int .i64 0, .string ⟨#[]⟩, .slice none 0 0, .slice none 0 0, .slice none 0 0]) 6 104 Tryd.underlying25 hi hz0 hz1 hz2 rfl v9 gn xs9 rfl HOWN.out ⟨WB.heap.size, 0, none⟩ 1 1 [.int .i64 kd, .int .i64 nd, .string sd, .slice bd bm bz, .slice fd fm fz, .slice ld lm lz] rfl rfl (by decide) (by decide) HNW.out (six_one _ _ _ _ _ _ _ _ _ _ _ _) (by unfold maxLen; omega) (by omega) HSZ.out ?_)
                intro v5 w5 hown5 hlies5
                have hw5 := Wrote.of_lies hlies5
                have HBc : Hid (Below wo.heap.size wo w5) := (HBR.out.trans (HB6.out.mono HBR.out.size)).grown hw5.1 HSZ.out (fun j hj => (owns_block HOWN.out hj).1)
                have hlz : (WB.alloc (.cells #[.int .i64 kd, .int .i64 nd, .string sd, .slice bd bm bz, .slice fd fm fz, .slice ld lm lz] 27)).heap.size ≤ w5.heap.size := hw5.1.size
                have HBX5 : Hid (IsBox w5 w2f.heap.size (.int .i64 kd) (.int .i64 nd) (.string sd) (.slice bd bm bz) (.slice fd fm fz) (.slice ld lm lz)) := (hw5.1.block _ HWL.out (fun e => by have := owns_block HACC.out.own e.symm; have := HLE.out; omega)).trans (HXB.out.keep ((Below.refl _ WB).alloc (Nat.le_refl _) _))
                have HVD5 : Hid (VIn w5 Q (h + 1) (Bson.fieldOf y nm) (.agg #[.int .i64 kd, .int .i64 nd, .string sd, .slice bd bm bz, .slice fd fm fz, .slice ld lm lz])) := VIn.kept (fun g hg hlt => hw5.1.block g hlt (fun e => by have := owns_block HACC.out.own e.symm; have := HQ.out g hg; have := HWC.out; omega)) (fun _ z => z) (VIn.keep ((Below.refl _ WB).alloc (Nat.le_refl _) _) HVD.out)
                have HN : Hid (LDoc Q h nm l wo k w2f.heap.size (Bson.fieldOf y nm) (.int .i64 kd) (.int .i64 nd) (.string sd) (.slice bd bm bz) (.slice fd fm fz) (.slice ld lm lz) WB.heap.size v5 w5) := ⟨v5, _, rfl, by rw [HGD.out, if_pos h0]; exact HA7.out.push hw5 (by rw [← HGN.out]; exact hown5) HVR.out, HBc.out, HBX5.out, HVD5.out, Nat.le_trans (by simp) hlz⟩
                clear hown5 hlies5 hw5 HOWN HNW HSZ HA7 HVR hlz
                go_wp2_with fail
                go_meet
                exact HN
            case rest =>
              obtain ⟨v9b, xs9b, rfl, hacc, hbR2, hbx2, hvd2, -⟩ := hcut.out
              clear hcut
              obtain ⟨hlm, hkd0, hIL⟩ := hvd2.lastly
              have hkd : kd = (Bson.fieldOf y nm).kind := HKD.out
              have hfe : Bson.fieldIn l[k].f nm = Bson.fieldOf y nm := by rw [← HY.out]; exact HFO.out.symm
              have hat := Bson.asked_all nm l al HAL.out k hk1 H6Y.out 0 _ (Bson.itself_first _)
              rw [← HQE.out, Nat.add_zero, hfe] at hat
              obtain ⟨ga, oa, a0, a1, a2, a3, a4, a5, haa, hql, hva, r0, r1, r2, r3, r4, r5⟩ := ItemsIn.at_ HIA.out hbR2 hat
              subst haa
              rw [← HAN.out] at hql
              obtain ⟨x0, x1, x2, x3, x4, x5⟩ := hbx2.cells
              have HACC2 := Lib.hid hacc
              have HB6 := Lib.hid hbR2
              have HBX6 := Lib.hid hbx2
              have HVD6 := Lib.hid hvd2
              have HVA := Lib.hid hva
              have HIL := Lib.hid hIL
              have HLM := Lib.hid hlm
              have HFE := Lib.hid hfe
              have HKE := Lib.hid hkd
              have HQL := Lib.hid hql
              skip
              have HQ := fun d os => Calls.regrown_of (P := Tryd.prog) (d := d) (os := os) (v := .bool true) ((same_any _ _ _ _ _ _ _ _ (Go.Sort.grow (redrawn wc d) os) (VIn.keep (below_regrown wc d os) HVA.out) (VIn.keep (below_regrown wc d os) HVD6.out)).mono fun e w3 ⟨r2, he, hr2, hb⟩ => ⟨by rw [he, hr2.2 rfl], hb⟩)
              have qr0 := fun d os => cell_regrown r0 d os
              have qr1 := fun d os => cell_regrown r1 d os
              have qr2 := fun d os => cell_regrown r2 d os
              have qr3 := fun d os => cell_regrown r3 d os
              have qr4 := fun d os => cell_regrown r4 d os
              have qr5 := fun d os => cell_regrown r5 d os
              have qx0 := fun d os => cell_regrown x0 d os
              have qx1 := fun d os => cell_regrown x1 d os
              have qx2 := fun d os => cell_regrown x2 d os
              have qx3 := fun d os => cell_regrown x3 d os
              have qx4 := fun d os => cell_regrown x4 d os
              have qx5 := fun d os => cell_regrown x5 d os
              have han3 : an ≤ 3003 := by rw [HAN.out]; exact HALN.out
              have hnq : ¬ ((an : Int) ≤ (q : Int)) := by omega
              have hdq : decide ((an : Int) ≤ (q : Int)) = false := decide_eq_false hnq
              have hlq : (q : Int) < (an : Int) := by omega
              have hdn : decide (an ≤ q) = false := decide_eq_false (by omega)
              have hnn : ¬ an ≤ q := by omega
              clear hacc hbR2 hbx2 hvd2 hva hIL hlm hfe hkd hkd0 hat
              go_wp2_with fail
              refine wp_region_quiet_below (by kernel_rfl) (by kernel_rfl) ?_
              repeat (go_big_quiet_step (exact HQ _ _))
              refine wpQuiet_nil ?_
              intro _ hw'
              obtain ⟨⟨dq, osq⟩, hw''⟩ := hw'
              subst hw''
              have HB7 : Hid (Below wc.heap.size wc (Go.Sort.grow (redrawn wc dq) osq)) := below_regrown wc dq osq
              generalize hWL : Go.Sort.grow (redrawn wc dq) osq = WL at *
              clear HQ qr0 qr1 qr2 qr3 qr4 qr5 qx0 qx1 qx2 qx3 qx4 qx5 hnq hdq hlq hdn hnn hWL
              replace r0 := cell_keep HB7.out r0
              clear r0 r1 r2 r3 r4 r5
              replace x0 := cell_keep HB7.out x0
              replace x5 := cell_keep HB7.out x5
              go_wp2_with fail
              go_loopw [10, 13] (fun n i wr => ∃ j p : Nat, i = .int .i64 j ∧ n = .int .i64 p ∧ p = q + 1 + j ∧ (j = 0 ∨ (kd = 7 ∧ j ≤ lm)) ∧ Hid (Below WL.heap.size WL wr)) (fun _ i _ => lm - (intOf i).toNat)
              case atStart => exact ⟨0, q + 1, rfl, by go_num, rfl, .inl rfl, Below.refl _ _⟩
              case round =>
                obtain ⟨j, p, rfl, rfl, hpj, hj, HBJ⟩ := hrel
                have HPJ := Lib.hid hpj
                clear hpj
                replace x0 := cell_keep HBJ.out x0
                replace x5 := cell_keep HBJ.out x5
                have HB8 := Lib.hid (HB7.out.trans (HBJ.out.mono HB7.out.size))
                have HB9 := Lib.hid (HB6.out.trans (HB8.out.mono HB6.out.size))
                by_cases hk7 : kd = 7
                · subst hk7
                  by_cases hjl : j < lm
                  · skip
                    have hjl2 : j < (Bson.fieldOf y nm).l.length := by rw [← HLM.out]; exact hjl
                    have hat := Bson.asked_all nm l al HAL.out k hk1 H6Y.out (j + 1) _ (by rw [HFE.out]; exact Bson.itself_next _ HKE.out.symm j hjl2)
                    rw [← HQE.out, show q + (j + 1) = p by have := HPJ.out; omega] at hat
                    obtain ⟨ga2, oa2, a0, a1, a2, a3, a4, a5, haa, hql2, hva, r0, r1, r2, r3, r4, r5⟩ := ItemsIn.at_ HIA.out HB9.out hat
                    rw [← HAN.out] at hql2
                    obtain rfl : ga = ga2 := by injection haa with e; injection e
                    obtain rfl : oa = oa2 := by injection haa with e; injection e
                    clear haa
                    obtain ⟨gl, ol, b0, b1, b2, b3, b4, b5, hla, -, hvb, t0, t1, t2, t3, t4, t5⟩ := ItemsIn.at_ HIL.out HB8.out (List.getElem?_eq_getElem hjl2)
                    subst hla
                    have HVA2 := Lib.hid hva
                    have HVB2 := Lib.hid hvb
                    have HQ := fun d os => Calls.regrown_of (P := Tryd.prog) (d := d) (os := os) (v := .bool true) ((same_any _ _ _ _ _ _ _ _ (Go.Sort.grow (redrawn wr d) os) (VIn.keep (below_regrown wr d os) HVA2.out) (VIn.keep (below_regrown wr d os) HVB2.out)).mono fun e w3 ⟨r2, he, hr2, hb⟩ => ⟨by rw [he, hr2.2 rfl], hb⟩)
                    have qr0 := fun d os => cell_regrown r0 d os
                    have qr1 := fun d os => cell_regrown r1 d os
                    have qr2 := fun d os => cell_regrown r2 d os
                    have qr3 := fun d os => cell_regrown r3 d os
                    have qr4 := fun d os => cell_regrown r4 d os
                    have qr5 := fun d os => cell_regrown r5 d os
                    have qt0 := fun d os => cell_regrown t0 d os
                    have qt1 := fun d os => cell_regrown t1 d os
                    have qt2 := fun d os => cell_regrown t2 d os
                    have qt3 := fun d os => cell_regrown t3 d os
                    have qt4 := fun d os => cell_regrown t4 d os
                    have qt5 := fun d os => cell_regrown t5 d os
                    have qx0 := fun d os => cell_regrown x0 d os
                    have qx5 := fun d os => cell_regrown x5 d os
                    have hj3 : j ≤ 3003 := by have := HPJ.out; omega
                    have hnq : ¬ ((an : Int) ≤ (p : Int)) := by omega
                    have hdq : decide ((an : Int) ≤ (p : Int)) = false := decide_eq_false hnq
                    have hlq : (p : Int) < (an : Int) := by omega
                    have hdn : decide (an ≤ p) = false := decide_eq_false (by omega)
                    have hnn : ¬ an ≤ p := by omega
                    have hdj : decide ((j : Int) < (lm : Int)) = true := decide_eq_true (by omega)
                    have hlj : (j : Int) < (lm : Int) := by omega
                    clear hva hvb hat
                    go_wp2_with fail
                    refine wp_region_quiet_below (by kernel_rfl) (by kernel_rfl) ?_
                    repeat (go_big_quiet_step (exact HQ _ _))
                    refine wpQuiet_nil ?_
                    intro _ hw'
                    obtain ⟨⟨dq2, osq2⟩, hw''⟩ := hw'
                    subst hw''
                    have HBN : Hid (Below WL.heap.size WL (Go.Sort.grow (redrawn wr dq2) osq2)) := HBJ.out.trans ((below_regrown wr dq2 osq2).mono HBJ.out.size)
                    clear HQ qr0 qr1 qr2 qr3 qr4 qr5 qt0 qt1 qt2 qt3 qt4 qt5 qx0 qx5 r0 r1 r2 r3 r4 r5 t0 t1 t2 t3 t4 t5 hnq hdq hlq hdn hnn
                    go_wp2_with fail
                    go_roundw
                    case rel => exact ⟨j + 1, p + 1, by go_num, by go_num, by have := HPJ.out; omega, .inr ⟨by trivial, by omega⟩, HBN⟩
                    case measure => simp [intOf]; omega
                  · skip
                    have hjn : j = lm := by omega
                    have hnj : ¬ ((j : Int) < (lm : Int)) := by omega
                    have hdj : decide ((j : Int) < (lm : Int)) = false := decide_eq_false hnj
                    have HN : Hid (LRow Q h nm l al wo (k + 1) p v9b wr) := by rw [HPJ.out]; exact LRow.doc HAL.out hk1 H6Y.out (HACC2.out.keep HB8.out) HB9.out HQE.out (by rw [HFE.out, if_pos HKE.out.symm, ← HLM.out]; exact hjn)
                    have hqa2 : p ≤ an := by rw [HAN.out]; exact HN.out.2.2.2
                    go_wp2_with fail
                    go_roundw
                    case rel => exact ⟨k + 1, p, _, by go_num, rfl, rfl, by omega, hqa2, HN⟩
                    case measure => simp [intOf]; omega
                · obtain rfl : j = 0 := by omega
                  have hb7 : (kd == 7) = false := by rw [beq_eq_false_iff_ne]; exact hk7
                  have HN : Hid (LRow Q h nm l al wo (k + 1) p v9b wr) := by rw [HPJ.out]; exact LRow.doc HAL.out hk1 H6Y.out (HACC2.out.keep HB8.out) HB9.out HQE.out (by rw [HFE.out, if_neg (by rw [← HKE.out]; exact hk7)])
                  have hqa2 : p ≤ an := by rw [HAN.out]; exact HN.out.2.2.2
                  go_wp2_with fail
                  go_roundw
                  case rel => exact ⟨k + 1, p, _, by go_num, rfl, rfl, by omega, hqa2, HN⟩
                  case measure => simp [intOf]; omega
          · have hb6 : (ky != 6) = true := by rw [bne_iff_ne]; exact h6
            have HN : Hid (LRow Q h nm l al wo (k + 1) q _ WB) := LRow.skip ⟨⟨xs9, HACC.out⟩, HBR.out, HQE.out, HQA.out⟩ hk1 (by rw [← HY.out, ← HKY.out]; exact h6) (by rw [← HY.out, ← HKY.out]; exact h7) HB5.out
            go_wp2_with fail
            go_roundw
            case rel => exact ⟨k + 1, q, _, by go_num, rfl, rfl, by omega, hq, HN⟩
            case measure => simp [intOf]; omega
      · obtain rfl : k = m := by omega
        obtain ⟨⟨xs9, hacc⟩, hbR, hqe, hqa⟩ := HR.out
        have htk : l.take k = l := List.take_of_length_le (Nat.le_of_eq HM.out.1)
        rw [htk] at hacc hqe
        obtain ⟨a9, c9, rfl, -, hi9⟩ := hacc.items (fun g hg => hg) (fun g hg _ => .inr hg)
        rw [← HYN.out]
        have HI9 := Lib.hid hi9
        have HBR := Lib.hid hbR
        have HQE := Lib.hid hqe
        have HQA : Hid (q ≤ al.length) := hqa
        obtain ⟨z0, -, -, -, -, z5⟩ := (HBX.out.keep hbR).cells
        clear hacc hi9 hbR hqe htk hqa HR
        by_cases hq0 : q = 0
        · subst hq0
          have hal : al = [Bson.zero] := by
            rw [HAL.out, if_pos (List.eq_nil_of_length_eq_zero HQE.out.symm)]
          obtain rfl : an = 1 := by rw [HAN.out, hal]; rfl
          obtain ⟨ga, oa, rfl, hca⟩ := first_missing HIA.out hal
          replace hca := cell_keep HBR.out hca
          clear hal hq
          have YNB : Hid (yn ≤ 9223372036854775807) := (by have h1 := gotten_le (h + 2) nm l; have h2 := HYN.out; have h3 := HM.out; omega : yn ≤ 9223372036854775807)
          go_wp2_with fail
          go_at_call 12
          refine (sameAll_any _ _ _ _ _ _ xl a9 yn xlc yn c9 _ HYN.out.symm HYN.out.symm (YNB.out) (YNB.out) (HIX.out.kept (Kept.of_below HBR.out) (fun _ z => z) (fun _ _ z => VIn.keep HBR.out z)) HI9.out).mono ?_
          rintro e w6 ⟨r, rfl, hr, hb6⟩
          obtain rfl : r = true := hr.2 rfl
          have HB6 := Lib.hid hb6
          clear hr hb6
          go_wp2_with fail
          go_ret
          exact ⟨rfl, (HBW.out.trans (HB4.out.mono HBW.out.size)).trans ((HBR.out.trans (HB6.out.mono HBR.out.size)).mono (Nat.le_trans HBW.out.size HB4.out.size))⟩
        · have hne : Bson.asked nm l ≠ [] := fun e => hq0 (by rw [HQE.out, e]; rfl)
          obtain rfl : an = q := by rw [HAN.out, HQE.out, HAL.out, if_neg hne]
          clear hne hq
          have YNB : Hid (yn ≤ 9223372036854775807) := (by have h1 := gotten_le (h + 2) nm l; have h2 := HYN.out; have h3 := HM.out; omega : yn ≤ 9223372036854775807)
          go_wp2_with fail
          go_at_call 12
          refine (sameAll_any _ _ _ _ _ _ xl a9 yn xlc yn c9 _ HYN.out.symm HYN.out.symm (YNB.out) (YNB.out) (HIX.out.kept (Kept.of_below HBR.out) (fun _ z => z) (fun _ _ z => VIn.keep HBR.out z)) HI9.out).mono ?_
          rintro e w6 ⟨r, rfl, hr, hb6⟩
          obtain rfl : r = true := hr.2 rfl
          have HB6 := Lib.hid hb6
          clear hr hb6
          go_wp2_with fail
          go_ret
          exact ⟨rfl, (HBW.out.trans (HB4.out.mono HBW.out.size)).trans ((HBR.out.trans (HB6.out.mono HBR.out.size)).mono (Nat.le_trans HBW.out.size HB4.out.size))⟩
end Go.Proofs.YtdgncpoephdboaaDoor
end
