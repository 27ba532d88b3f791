/- RefOwnAll, KeyPlain, KeySortsWalk. -/
import Derived.Test.YtdcfddiicclpeaaDoorMg40
import Derived.Test.YtdcfddiicclpeaaDoorMg39
import Derived.Test.YtdcfddiicclpeaaDoorMg37
import Derived.Test.YtdcfddiicclpeaaDoorMg17
import Derived.Test.YtdcfddiicclpeaaDoorMg18
import Derived.Test.YtdcfddiicclpeaaDoorMg11
import Derived.Test.YtdcfddiicclpeaaDoorMg14
import Derived.Test.YtdcfddiicclpeaaDoorMg5
import Derived.Test.YtdcfddiicclpeaaDoorMg15
set_option maxRecDepth 100000
section
namespace Go.Proofs.YtdcfddiicclpeaaDoor
open Go.RowKit
open Seal
open Bson (Val)
/-- own does, of whatever. -/
theorem own_any (h : Nat) : OwnDo h := own_all (fun h HO d h0 h1 f => fields_do h HO d h0 h1 f) h
/-- What Valid says true of is small. -/
theorem valid_does (Q : Nat → Prop) (h : Nat) (x : Val) (v : Value) (w : World) (hv : VIn w Q (h + 1) x v) :
    Calls Tryd.prog 12 #[v] w (SmallPost w (h + 1) x) := valid_any Q h (own_any (h + 2)) x v w hv
end Go.Proofs.YtdcfddiicclpeaaDoor
end
section
namespace Go.Proofs.YtdcfddiicclpeaaDoor
open Go.RowKit
open Seal
open Bson (Val)
/-- What is known of a row of which Plain says true. -/
def PlainIs (h n : Nat) (l : List Val) : Prop := n ≤ 30 ∧ (∀ x ∈ l, wt h x ≤ 3000) ∧ ∀ x ∈ l, Key.fits 34 x
def PlainPost (h n : Nat) (l : List Val) (w : World) (e : Ending) (w' : World) : Prop := ∃ b, e = .returned (.bool b) ∧ (b = true → PlainIs h n l) ∧ Below w.heap.size w w'
theorem fits_in_doc {x : Val} {nm : ByteArray} (h : Key.fits 32 (.mk 6 0 ⟨#[]⟩ [] [(nm, x)] [])) : Key.fits 34 x := by
  have h1 : Key.fits 31 x := h.1 rfl (nm, x) (by show (nm, x) ∈ [(nm, x)]; simp)
  exact fits_more 31 x h1 3
theorem fits_zero {x : Val} (h : x.kind = 0) : Key.fits 34 x := fits_leaf (by rw [h]; decide) (by rw [h]; decide) 34
set_option maxRecDepth 100000 in
set_option maxHeartbeats 4000000 in
theorem plain_any (Q : Nat → Prop) (h : Nat) (a : Option Addr) (n c : Nat) (l : List Val) (w : World) (hn : l.length = n) (hnb : n ≤ 1353245080339) (hI : ItemsIn w Q (VIn w Q (h + 1)) a l) :
    Calls Tryd.prog 25 #[.slice a n c] w (PlainPost (h + 1) n l w) := by
  have HI := Lib.hid hI
  have HN := Lib.hid hn
  clear hI hn
  go_enter Tryd.func25, Tryd.ntmps25
  go_wp2_with fail
  go_loopw [3] (fun i wr => ∃ (k : Nat), i = .int .i64 k ∧ k ≤ n ∧ Hid (Below w.heap.size w wr) ∧ Hid (∀ j (hj : j < l.length), j < k → Key.fits 34 l[j])) (fun i _ => n - (intOf i).toNat)
  case atStart => exact ⟨0, rfl, Nat.zero_le _, Below.refl _ _, fun j _ hj => absurd hj (Nat.not_lt_zero _)⟩
  case round =>
    obtain ⟨k, rfl, hk, HB, HFT⟩ := hrel
    by_cases hlt : k < n
    case neg =>
      obtain rfl : k = n := by omega
      have HIr : Hid (ItemsIn wr Q (VIn wr Q (h + 1)) a l) := HI.out.kept (Kept.of_below HB.out) (fun _ z => z) (fun _ _ z => VIn.keep HB.out z)
      go_wp2_with fail
      go_at_call 43
      refine (few_more Q h a k c l wr HN.out hnb HIr.out).mono ?_
      rintro e w1 ⟨b, rfl, hf, hb1⟩
      have HF := Lib.hid hf
      have HB1 : Hid (Below w.heap.size w w1) := HB.out.trans (hb1.mono HB.out.size)
      clear hf hb1
      go_wp2_with fail
      go_ret
      exact ⟨b, rfl, fun z => ⟨(HF.out z).1, (HF.out z).2, fun x hx => by obtain ⟨j, hj, rfl⟩ := List.getElem_of_mem hx; exact HFT.out j hj (by have := HN.out; omega)⟩, HB1.out⟩
    obtain ⟨g, o, hla, _, hall⟩ := HI.out.resolve_left (fun e => by have := HN.out; rw [e] at this; simp at this; omega)
    have hkl : k < l.length := by rw [HN.out]; exact hlt
    obtain ⟨v1, hsix, hV⟩ := hall k hkl
    obtain rfl := hla
    obtain ⟨ka, na, sa, ba, fa, la, bl, bc, fl, fc, ll, lc, rfl⟩ := VIn.shape (h := h + 1) hV
    have hkind : ka = l[k].kind := VIn.kind_eq (h := h + 1) hV
    have HKD := Lib.hid hkind
    have HV := Lib.hid (VIn.keep (h := h + 1) HB.out hV)
    have HSX := Lib.hid (hsix.keep HB.out)
    obtain ⟨s0, s1, s2, s3, s4, s5⟩ := HSX.out.cells
    have hsub : IntKind.i64.wrap ((k : Int) + 1) = (k : Int) + 1 := IntWalk.i64_in _ (by omega)
    have hnext : Key.fits 34 l[k] → ∀ j (hj : j < l.length), j < k + 1 → Key.fits 34 l[j] := fun hf j hj hjk => by
      by_cases e : j = k
      · subst e; exact hf
      · exact HFT.out j hj (by omega)
    have HNX := Lib.hid hnext
    clear hall hsix hV hkind hnext
    by_cases h0 : ka = 0
    · subst h0
      have hfz : Key.fits 34 l[k] := fits_zero HKD.out.symm
      have HFZ := Lib.hid (HNX.out hfz)
      clear hfz
      go_wp2_with fail
      go_at_call 14
      refine (same_any (h + 1) 1 Q (fun _ => True) _ Bson.zero _ _ wr HV.out (zero_in wr _)).mono ?_
      rintro e w1 ⟨b, rfl, _, hb1⟩
      have HB1 : Hid (Below w.heap.size w w1) := HB.out.trans (hb1.mono HB.out.size)
      clear hb1
      cases b
      · go_wp2_with fail
        go_ret
        exact ⟨false, rfl, nofun, HB1.out⟩
      · go_wp2_with fail
        go_roundw
        case rel => exact ⟨k + 1, by go_num, by omega, HB1, HFZ⟩
        case measure => simp [intOf]; omega
    · have hne : (ka != 0) = true := by rw [bne_iff_ne]; exact h0
      have heq : (ka == 0) = false := by rw [beq_eq_false_iff_ne]; exact h0
      have hb0 : Below wr.heap.size wr (wr.alloc (.cells #[.string ⟨#[]⟩, .int .i64 ka, .int .i64 na, .string sa, .slice ba bl bc, .slice fa fl fc, .slice la ll lc] 40)) := (Below.refl _ wr).alloc (Nat.le_refl _) _
      have HC := Lib.hid (may_fits (fun q => Q q ∨ q = wr.heap.size) (h + 1) (own_any (h + 2)) _ _ _ (doc_in (x := l[k]) (heap_alloc_new wr _) (.inr rfl) (show (⟨#[]⟩ : ByteArray).size ≤ 140737488355328 by decide) ((VIn.keep (h := h + 1) hb0 HV.out).kept (h := h + 1) (Kept.of_below (Below.refl _ _)) (fun q hq => .inl hq))))
      have HB0 : Hid (Below w.heap.size w (wr.alloc (.cells #[.string ⟨#[]⟩, .int .i64 ka, .int .i64 na, .string sa, .slice ba bl bc, .slice fa fl fc, .slice la ll lc] 40))) := HB.out.trans (hb0.mono HB.out.size)
      have HSX0 := Lib.hid (HSX.out.keep hb0)
      clear hb0
      go_wp2_with fail
      generalize (wr.alloc (.cells #[.string ⟨#[]⟩, .int .i64 ka, .int .i64 na, .string sa, .slice ba bl bc, .slice fa fl fc, .slice la ll lc] 40)) = W0 at *
      go_at_call 36
      refine HC.out.mono ?_
      rintro e w1 ⟨b, rfl, hf, hb1⟩
      have HB1 : Hid (Below w.heap.size w w1) := HB0.out.trans (hb1.mono HB0.out.size)
      have HF := Lib.hid hf
      obtain ⟨z0, z1, z2, z3, z4, z5⟩ := (HSX0.out.keep hb1).cells
      clear hb1 hf HC s0 s1 s2 s3 s4 s5
      cases b
      · go_wp2_with fail
        go_ret
        exact ⟨false, rfl, nofun, HB1.out⟩
      · have HFZ := Lib.hid (HNX.out (fits_in_doc (HF.out rfl)))
        clear HF
        go_wp2_with fail
        go_roundw
        case rel => exact ⟨k + 1, by go_num, by omega, HB1, HFZ⟩
        case measure => simp [intOf]; omega
end Go.Proofs.YtdcfddiicclpeaaDoor
end
section
namespace Go.Proofs.YtdcfddiicclpeaaDoor
open Go.RowKit
open Seal
open Bson (Val)
/-- What Encode leaves, of a row whose values all fit. -/
theorem encode_fine (h : Nat) (Q : Nat → Prop) (a : Option Addr) (n c : Nat) (l : List Val) (s : Option Addr) (nd cd : Nat) (bl : List Bool) (w0 w : World) (hb : Below w0.heap.size w0 w) (hn : l.length = n) (hnb : n ≤ 30) (hI : ItemsIn w Q (VIn w Q h) a l)
    (hd : bl.length = nd) (hD : BoolsIn w Q s bl) (hndb : nd ≤ 140737488355328) (hQ : ∀ g, Q g → g < w0.heap.size) (hX : Maxl w0 w0.heap.size) (hw : ∀ x ∈ l, wt h x ≤ 3000) (hf : ∀ x ∈ l, Key.fits 34 x) :
    Calls Tryd.prog 26 #[.slice a n c, .slice s nd cd] w fun e w' => ∃ (a' : Option Addr) (c' m : Nat), e = .returned (.slice a' m c') ∧ SliceIs w' a' (Key.encB 34 bl l 0) ∧ m = (Key.encB 34 bl l 0).length ∧ m ≤ 990000 ∧ Oct (Key.encB 34 bl l 0) ∧ Below w.heap.size w w' := by
  have hlen : (Key.encB 34 bl l 0).length ≤ 990000 := by
    have := enc_le 34 h bl l 0 (fun x hx => by obtain ⟨v, hv⟩ := hI.mem hx; exact hv.hgt) hw
    omega
  refine (encode_key h Q a n c l s nd cd bl w hn (by omega) hI hd hD hndb (fun g hg => Nat.lt_of_lt_of_le (hQ g hg) hb.size) ((hX.keep hb).mono hb.size) (by omega)).mono ?_
  rintro e w' ⟨a', c', r, rfl, hS, hO, hr, _, hb'⟩
  obtain rfl := hr hf
  exact ⟨a', c', _, rfl, hS, rfl, hlen, hO, hb'⟩
set_option maxRecDepth 100000 in
set_option maxHeartbeats 8000000 in
theorem sorts_any (Q : Nat → Prop) (h : Nat) (hh : 34 ≤ h) (a b s : Option Addr) (n c m d nd cd : Nat) (l l2 : List Val) (bl : List Bool) (w : World) (hn : l.length = n) (hm : l2.length = m) (hd : bl.length = nd) (hnc : n ≤ c) (hmd : m ≤ d) (hnb : n ≤ 1353245080339) (hmb : m ≤ 1353245080339) (hc : c ≤ 9223372036854775807) (hc2 : d ≤ 9223372036854775807)
    (hI : ItemsIn w Q (VIn w Q (h + 1)) a l) (hJ : ItemsIn w Q (VIn w Q (h + 1)) b l2) (hD : BoolsIn w Q s bl) (hQ : ∀ g, Q g → g < w.heap.size) (hX : Maxl w w.heap.size) :
    Calls Tryd.prog 7 #[.slice a n c, .slice b m d, .slice s nd cd] w fun e w' => e = .returned (.bool true) ∧ Below w.heap.size w w' := by
  have HA := Lib.hid (key_awake w hX)
  have HX := Lib.hid hX
  have HN := Lib.hid hn
  have HM := Lib.hid hm
  have HND := Lib.hid hd
  have HQ := Lib.hid hQ
  have HIK : Hid (∀ W, Below w.heap.size w W → ItemsIn W Q (VIn W Q (h + 1)) a l) := fun W hb => hI.kept (Kept.of_below hb) (fun _ z => z) (fun _ _ z => VIn.keep (h := h + 1) hb z)
  have HJK : Hid (∀ W, Below w.heap.size w W → ItemsIn W Q (VIn W Q (h + 1)) b l2) := fun W hb => hJ.kept (Kept.of_below hb) (fun _ z => z) (fun _ _ z => VIn.keep (h := h + 1) hb z)
  have HDK : Hid (∀ W, Below w.heap.size w W → BoolsIn W Q s bl) := fun W hb => hD.keep hb
  clear hI hJ hD hQ hX hn hm hd
  obtain ⟨N, hN⟩ : ∃ N, N = min n m := ⟨_, rfl⟩
  have HNM := Lib.hid hN
  have hmin : (if (n : Int) ≤ (m : Int) then (n : Int) else (m : Int)) = (N : Int) := by split <;> omega
  have hmin2 : min (n : Int) (m : Int) = (N : Int) := by omega
  clear hN
  go_enter Tryd.func7, Tryd.ntmps7
  go_wp2_with fail
  go_at_call 24
  refine HA.out.mono ?_
  rintro e w1 ⟨rfl, hb1⟩
  have HB1 := Lib.hid hb1
  clear hb1 HA
  go_wp2_with fail
  go_at_call 25
  refine (plain_any Q h a n c l w1 HN.out hnb (HIK.out w1 HB1.out)).mono ?_
  rintro e w2 ⟨b1, rfl, hp1, hb2⟩
  have HB2 : Hid (Below w.heap.size w w2) := HB1.out.trans (hb2.mono HB1.out.size)
  have HP1 := Lib.hid hp1
  clear hb2 hp1 HB1
  cases b1 with
  | false =>
    go_wp2_with fail
    go_ret
    exact ⟨rfl, HB2.out⟩
  | true =>
  go_wp2_with fail
  go_at_call 25
  refine (plain_any Q h b m d l2 w2 HM.out hmb (HJK.out w2 HB2.out)).mono ?_
  rintro e w3 ⟨b2, rfl, hp2, hb3⟩
  have HB3 : Hid (Below w.heap.size w w3) := HB2.out.trans (hb3.mono HB2.out.size)
  have HP2 := Lib.hid hp2
  clear hb3 hp2 HB2
  cases b2 with
  | false =>
    go_wp2_with fail
    go_ret
    exact ⟨rfl, HB3.out⟩
  | true =>
  by_cases h50 : 50 < nd
  · have hd1 : decide ((nd : Int) > 50) = true := decide_eq_true (by omega)
    have hd2 : decide ((50 : Int) < (nd : Int)) = true := decide_eq_true (by omega)
    go_wp2_with fail
    go_ret
    exact ⟨rfl, HB3.out⟩
  have hd1 : decide ((nd : Int) > 50) = false := decide_eq_false (by omega)
  have hd2 : decide ((50 : Int) < (nd : Int)) = false := decide_eq_false (by omega)
  have hNn : N ≤ n := by have := HNM.out; omega
  have hNm : N ≤ m := by have := HNM.out; omega
  obtain ⟨p1, p2, p3⟩ := HP1.out (by trivial)
  obtain ⟨q1, q2, q3⟩ := HP2.out (by trivial)
  have hNc : N ≤ c := by omega
  have hNd : N ≤ d := by omega
  have hL1 : (l.take N).length = N := by rw [List.length_take, HN.out]; omega
  have hL2 : (l2.take N).length = N := by rw [List.length_take, HM.out]; omega
  have HEA : Hid (∀ W, Below w.heap.size w W → Calls Tryd.prog 26 #[.slice a N c, .slice s nd cd] W fun e w' => ∃ (a' : Option Addr) (c' m : Nat), e = .returned (.slice a' m c') ∧ SliceIs w' a' (Key.encB 34 bl (l.take N) 0) ∧ m = (Key.encB 34 bl (l.take N) 0).length ∧ m ≤ 990000 ∧ Oct (Key.encB 34 bl (l.take N) 0) ∧ Below W.heap.size W w') := fun W hb =>
    encode_fine (h + 1) Q a N c (l.take N) s nd cd bl w W hb hL1 (by omega) ((HIK.out W hb).take N) HND.out (HDK.out W hb) (by omega) HQ.out HX.out (fun x hx => p2 x (List.mem_of_mem_take hx)) (fun x hx => p3 x (List.mem_of_mem_take hx))
  have HEB : Hid (∀ W, Below w.heap.size w W → Calls Tryd.prog 26 #[.slice b N d, .slice s nd cd] W fun e w' => ∃ (a' : Option Addr) (c' m : Nat), e = .returned (.slice a' m c') ∧ SliceIs w' a' (Key.encB 34 bl (l2.take N) 0) ∧ m = (Key.encB 34 bl (l2.take N) 0).length ∧ m ≤ 990000 ∧ Oct (Key.encB 34 bl (l2.take N) 0) ∧ Below W.heap.size W w') := fun W hb =>
    encode_fine (h + 1) Q b N d (l2.take N) s nd cd bl w W hb hL2 (by omega) ((HJK.out W hb).take N) HND.out (HDK.out W hb) (by omega) HQ.out HX.out (fun x hx => q2 x (List.mem_of_mem_take hx)) (fun x hx => q3 x (List.mem_of_mem_take hx))
  have HBY : Hid (∀ W, Below w.heap.size w W → Calls Tryd.prog 28 #[.slice a N c, .slice b N d, .slice s nd cd] W (CmpPost (Order.rows (Order.cmp (h + 1)) Bson.zero (l.take N) (l2.take N) bl) W)) := fun W hb =>
    refBy_any h Q a b N c N d (l.take N) (l2.take N) s nd cd bl W hL1 hL2 (by omega) (by omega) ((HIK.out W hb).take N) ((HJK.out W hb).take N) HND.out (HDK.out W hb)
  have HEQ : Hid (Order.octs (Key.encB 34 bl (l.take N) 0) (Key.encB 34 bl (l2.take N) 0) = Order.rows (Order.cmp (h + 1)) Bson.zero (l.take N) (l2.take N) bl) :=
    key_rows 34 (h + 1) (by omega) bl Bson.zero _ _ (hL1.trans hL2.symm)
      (fun x hx => by have hx' := List.mem_of_mem_take hx; obtain ⟨v, hv⟩ := (HIK.out w (Below.refl _ w)).mem hx'; exact ⟨p3 x hx', VIn.okay hv 34, VIn.octsIn hv 34⟩)
      (fun x hx => by have hx' := List.mem_of_mem_take hx; obtain ⟨v, hv⟩ := (HJK.out w (Below.refl _ w)).mem hx'; exact ⟨q3 x hx', VIn.okay hv 34, VIn.octsIn hv 34⟩)
  generalize Key.encB 34 bl (l.take N) 0 = r1 at *
  generalize Key.encB 34 bl (l2.take N) 0 = r2 at *
  generalize Order.rows (Order.cmp (h + 1)) Bson.zero (l.take N) (l2.take N) bl = z at *
  clear p1 p2 p3 q1 q2 q3 HP1 HP2 HIK HJK HDK hL1 hL2 HX HQ
  have HD : Hid (Below w.heap.size w w3.drew) := HB3.out.drew
  clear HB3
  go_wp2_with fail
  refine wp_region_held_drew (S := fun _ => True) (by kernel_rfl) trivial (fun hHeld => ?_)
  generalize w3.drew = w4 at *
  refine wpAnyH_take (i := 0) (v := ?_) rfl (by kernel_rfl) (by kernel_rfl) (by kernel_rfl) (fun _ _ _ h => h) (Or.inl ⟨by kernel_rfl, ?_⟩) (by assumption) ?_
  rotate_left
  · intro wS hSw
    go_simp
    try (with_reducible rfl)
  try simp only [List.getElem_toArray, List.getElem_cons_succ, List.getElem_cons_zero, Act.put, List.setIfInBounds_toArray, List.set_cons_zero, List.set_cons_succ]
  refine wpAnyH_take (i := 1) (v := ?_) rfl (by kernel_rfl) (by kernel_rfl) (by kernel_rfl) (fun _ _ _ h => h) (Or.inl ⟨by kernel_rfl, ?_⟩) (by assumption) ?_
  rotate_left
  · intro wS hSw
    go_simp
    try (with_reducible rfl)
  try simp only [List.getElem_toArray, List.getElem_cons_succ, List.getElem_cons_zero, Act.put, List.setIfInBounds_toArray, List.set_cons_zero, List.set_cons_succ]
  refine wpAnyH_take (i := 2) (v := ?_) rfl (by kernel_rfl) (by kernel_rfl) (by kernel_rfl) (fun _ _ _ h => h) (Or.inl ⟨by kernel_rfl, ?_⟩) (by assumption) ?_
  rotate_left
  · intro wS hSw
    go_simp
    try (with_reducible rfl)
  try simp only [List.getElem_toArray, List.getElem_cons_succ, List.getElem_cons_zero, Act.put, List.setIfInBounds_toArray, List.set_cons_zero, List.set_cons_succ]
  refine wpAnyH_take (i := 3) (v := ?_) rfl (by kernel_rfl) (by kernel_rfl) (by kernel_rfl) (fun _ _ _ h => h) (Or.inl ⟨by kernel_rfl, ?_⟩) (by assumption) ?_
  rotate_left
  · intro wS hSw
    go_simp
    try (with_reducible rfl)
  try simp only [List.getElem_toArray, List.getElem_cons_succ, List.getElem_cons_zero, Act.put, List.setIfInBounds_toArray, List.set_cons_zero, List.set_cons_succ]
  refine wpAnyH_take (i := 5) (v := ?_) rfl (by kernel_rfl) (by kernel_rfl) (by kernel_rfl) (fun _ _ _ h => h) (Or.inl ⟨by kernel_rfl, ?_⟩) (by assumption) ?_
  rotate_left
  · intro wS hSw
    go_simp
    try (with_reducible rfl)
  try simp only [List.getElem_toArray, List.getElem_cons_succ, List.getElem_cons_zero, Act.put, List.setIfInBounds_toArray, List.set_cons_zero, List.set_cons_succ]
  refine wpAnyH_take (i := 6) (v := ?_) rfl (by kernel_rfl) (by kernel_rfl) (by kernel_rfl) (fun _ _ _ h => h) (Or.inl ⟨by kernel_rfl, ?_⟩) (by assumption) ?_
  rotate_left
  · intro wS hSw
    go_simp
    try (with_reducible rfl)
  try simp only [List.getElem_toArray, List.getElem_cons_succ, List.getElem_cons_zero, Act.put, List.setIfInBounds_toArray, List.set_cons_zero, List.set_cons_succ]
  refine wpAnyH_take (i := 7) (v := ?_) rfl (by kernel_rfl) (by kernel_rfl) (by kernel_rfl) (fun _ _ _ h => h) (Or.inl ⟨by kernel_rfl, ?_⟩) (by assumption) ?_
  rotate_left
  · intro wS hSw
    go_simp
    try (with_reducible rfl)
  try simp only [List.getElem_toArray, List.getElem_cons_succ, List.getElem_cons_zero, Act.put, List.setIfInBounds_toArray, List.set_cons_zero, List.set_cons_succ]
  refine wpAnyH_take (i := 8) (v := ?_) rfl (by kernel_rfl) (by kernel_rfl) (by kernel_rfl) (fun _ _ _ h => h) (Or.inl ⟨by kernel_rfl, ?_⟩) (by assumption) ?_
  rotate_left
  · intro wS hSw
    go_simp
    try (with_reducible rfl)
  try simp only [List.getElem_toArray, List.getElem_cons_succ, List.getElem_cons_zero, Act.put, List.setIfInBounds_toArray, List.set_cons_zero, List.set_cons_succ]
  refine wpAnyH_ready (rs := [4]) (by kernel_rfl) (by simp) ?_
  refine AllReadyH.cons rfl (fun K hK => ?_) AllReadyH.nil
  go_simp
  go_at_call 26
  refine (HEA.out w4 HD.out).mono ?_
  rintro e w5 ⟨a5, c5, m5, rfl, hs5, hm5, hl5, ho5, hb5⟩
  have HD5 : Hid (Below w.heap.size w w5) := HD.out.trans (hb5.mono HD.out.size)
  have HS5 := Lib.hid hs5
  have HM5 := Lib.hid hm5
  have HO5 := Lib.hid ho5
  clear hb5 hs5 hm5 ho5 HD
  refine hK.out _ _ trivial (fun hHeld => ?_)
  clear hK K
  try simp only [List.getElem_toArray, List.getElem_cons_succ, List.getElem_cons_zero, Act.put, List.setIfInBounds_toArray, List.set_cons_zero, List.set_cons_succ]
  refine wpAnyH_ready (rs := [9]) (by kernel_rfl) (by simp) ?_
  refine AllReadyH.cons rfl (fun K hK => ?_) AllReadyH.nil
  go_simp
  go_at_call 26
  refine (HEB.out w5 HD5.out).mono ?_
  rintro e w6 ⟨a6, c6, m6, rfl, hs6, hm6, hl6, ho6, hb6⟩
  have HD6 : Hid (Below w.heap.size w w6) := HD5.out.trans (hb6.mono HD5.out.size)
  have HS5b := Lib.hid (HS5.out.keep hb6)
  have HS6 := Lib.hid hs6
  have HM6 := Lib.hid hm6
  clear hb6 hs6 hm6 ho6 HD5 HS5
  refine hK.out _ _ trivial (fun hHeld => ?_)
  clear hK K
  try simp only [List.getElem_toArray, List.getElem_cons_succ, List.getElem_cons_zero, Act.put, List.setIfInBounds_toArray, List.set_cons_zero, List.set_cons_succ]
  refine wpAnyH_take (i := 10) (v := ?_) rfl (by kernel_rfl) (by kernel_rfl) (by kernel_rfl) (fun _ _ _ h => h) (Or.inl ⟨by kernel_rfl, ?_⟩) (by assumption) ?_
  rotate_left
  · intro wS hSw
    go_simp
    try (with_reducible rfl)
  try simp only [List.getElem_toArray, List.getElem_cons_succ, List.getElem_cons_zero, Act.put, List.setIfInBounds_toArray, List.set_cons_zero, List.set_cons_succ]
  refine wpAnyH_take (i := 11) (v := ?_) rfl (by kernel_rfl) (by kernel_rfl) (by kernel_rfl) (fun _ _ _ h => h) (Or.inl ⟨by kernel_rfl, ?_⟩) (by assumption) ?_
  rotate_left
  · intro wS hSw
    go_simp
    try (with_reducible rfl)
  try simp only [List.getElem_toArray, List.getElem_cons_succ, List.getElem_cons_zero, Act.put, List.setIfInBounds_toArray, List.set_cons_zero, List.set_cons_succ]
  refine wpAnyH_done (by kernel_rfl) ?_ _
  clear HEB
  go_wp2_with fail
  have HD7 : Hid (Below w.heap.size w w6.drew) := HD6.out.drew
  have HS5c : Hid (SliceIs w6.drew a5 r1) := HS5b.out
  have HS6c : Hid (SliceIs w6.drew a6 r2) := HS6.out
  clear HD6 HS5b HS6
  refine wp_region_held_drew (S := fun W => SliceIs W a5 r1) (by kernel_rfl) (by exact HS5c.out) (fun hHeld => ?_)
  generalize w6.drew = w7 at *
  refine wpAnyH_take (i := 0) (v := ?_) rfl (by kernel_rfl) (by kernel_rfl) (by kernel_rfl) (fun _ _ _ h => h) (Or.inl ⟨by kernel_rfl, ?_⟩) (by assumption) ?_
  rotate_left
  · intro wS hSw
    (try dsimp only at hSw)
    go_simp
    try (with_reducible rfl)
  try simp only [List.getElem_toArray, List.getElem_cons_succ, List.getElem_cons_zero, Act.put, List.setIfInBounds_toArray, List.set_cons_zero, List.set_cons_succ]
  refine wpAnyH_take (i := 1) (v := ?_) rfl (by kernel_rfl) (by kernel_rfl) (by kernel_rfl) (fun _ _ _ h => h) (Or.inl ⟨by kernel_rfl, ?_⟩) (by assumption) ?_
  rotate_left
  · intro wS hSw
    (try dsimp only at hSw)
    go_simp
    try (with_reducible rfl)
  try simp only [List.getElem_toArray, List.getElem_cons_succ, List.getElem_cons_zero, Act.put, List.setIfInBounds_toArray, List.set_cons_zero, List.set_cons_succ]
  refine wpAnyH_take (i := 3) (v := ?_) rfl (by kernel_rfl) (by kernel_rfl) (by kernel_rfl) (fun _ _ _ h => h) (Or.inl ⟨by kernel_rfl, ?_⟩) (by assumption) ?_
  rotate_left
  · intro wS hSw
    (try dsimp only at hSw)
    go_simp
    try (with_reducible rfl)
  try simp only [List.getElem_toArray, List.getElem_cons_succ, List.getElem_cons_zero, Act.put, List.setIfInBounds_toArray, List.set_cons_zero, List.set_cons_succ]
  refine wpAnyH_take (i := 4) (v := ?_) rfl (by kernel_rfl) (by kernel_rfl) (by kernel_rfl) (fun _ _ _ h => h) (Or.inl ⟨by kernel_rfl, ?_⟩) (by assumption) ?_
  rotate_left
  · intro wS hSw
    (try dsimp only at hSw)
    go_simp
    try (with_reducible rfl)
  try simp only [List.getElem_toArray, List.getElem_cons_succ, List.getElem_cons_zero, Act.put, List.setIfInBounds_toArray, List.set_cons_zero, List.set_cons_succ]
  refine wpAnyH_take (i := 5) (v := ?_) rfl (by kernel_rfl) (by kernel_rfl) (by kernel_rfl) (fun _ _ _ h => h) (Or.inl ⟨by kernel_rfl, ?_⟩) (by assumption) ?_
  rotate_left
  · intro wS hSw
    (try dsimp only at hSw)
    go_simp
    try (with_reducible rfl)
  try simp only [List.getElem_toArray, List.getElem_cons_succ, List.getElem_cons_zero, Act.put, List.setIfInBounds_toArray, List.set_cons_zero, List.set_cons_succ]
  refine wpAnyH_take (i := 6) (v := ?_) rfl (by kernel_rfl) (by kernel_rfl) (by kernel_rfl) (fun _ _ _ h => h) (Or.inl ⟨by kernel_rfl, ?_⟩) (by assumption) ?_
  rotate_left
  · intro wS hSw
    (try dsimp only at hSw)
    go_simp
    try (with_reducible rfl)
  try simp only [List.getElem_toArray, List.getElem_cons_succ, List.getElem_cons_zero, Act.put, List.setIfInBounds_toArray, List.set_cons_zero, List.set_cons_succ]
  refine wpAnyH_take (i := 7) (v := ?_) rfl (by kernel_rfl) (by kernel_rfl) (by kernel_rfl) (fun _ _ _ h => h) (Or.inl ⟨by kernel_rfl, ?_⟩) (by assumption) ?_
  rotate_left
  · intro wS hSw
    (try dsimp only at hSw)
    go_simp
    try (with_reducible rfl)
  try simp only [List.getElem_toArray, List.getElem_cons_succ, List.getElem_cons_zero, Act.put, List.setIfInBounds_toArray, List.set_cons_zero, List.set_cons_succ]
  refine wpAnyH_take (i := 8) (v := ?_) rfl (by kernel_rfl) (by kernel_rfl) (by kernel_rfl) (fun _ _ _ h => h) (Or.inl ⟨by kernel_rfl, ?_⟩) (by assumption) ?_
  rotate_left
  · intro wS hSw
    (try dsimp only at hSw)
    go_simp
    try (with_reducible rfl)
  try simp only [List.getElem_toArray, List.getElem_cons_succ, List.getElem_cons_zero, Act.put, List.setIfInBounds_toArray, List.set_cons_zero, List.set_cons_succ]
  refine wpAnyH_take (i := 9) (v := ?_) rfl (by kernel_rfl) (by kernel_rfl) (by kernel_rfl) (fun _ _ _ h => h) (Or.inl ⟨by kernel_rfl, ?_⟩) (by assumption) ?_
  rotate_left
  · intro wS hSw
    (try dsimp only at hSw)
    go_simp
    try (with_reducible rfl)
  try simp only [List.getElem_toArray, List.getElem_cons_succ, List.getElem_cons_zero, Act.put, List.setIfInBounds_toArray, List.set_cons_zero, List.set_cons_succ]
  refine wpAnyH_ready (rs := [2]) (by kernel_rfl) (by simp) ?_
  refine AllReadyH.cons rfl (fun K hK => ?_) AllReadyH.nil
  go_simp
  go_at_call 27
  refine (sign_key w7 a5 a6 m5 c5 m6 c6 r1 r2 HM5.out.symm HM6.out.symm HS5c.out HS6c.out (by omega) (by omega)).mono ?_
  rw [HEQ.out]
  rintro e w8 ⟨rfl, q8, hw8⟩
  have hb8 : Below w7.heap.size w7 w8 := by rw [hw8]; exact below_dr (Below.refl _ _) _
  have HD8 : Hid (Below w.heap.size w w8) := HD7.out.trans (hb8.mono HD7.out.size)
  have HS8 := Lib.hid (HS5c.out.keep hb8)
  clear hw8 hb8 HD7 HS5c HS6c
  refine hK.out _ _ (by exact HS8.out) (fun hHeld => ?_)
  clear hK K
  try simp only [List.getElem_toArray, List.getElem_cons_succ, List.getElem_cons_zero, Act.put, List.setIfInBounds_toArray, List.set_cons_zero, List.set_cons_succ]
  refine wpAnyH_ready (rs := [10]) (by kernel_rfl) (by simp) ?_
  refine AllReadyH.cons rfl (fun K hK => ?_) AllReadyH.nil
  go_simp
  go_at_call 28
  refine (HBY.out w8 HD8.out).mono ?_
  rintro e w9 ⟨rfl, hb9⟩
  have HD9 : Hid (Below w.heap.size w w9) := HD8.out.trans (hb9.mono HD8.out.size)
  have HS9 := Lib.hid (HS8.out.keep hb9)
  clear hb9 HD8 HS8
  refine hK.out _ _ (by exact HS9.out) (fun hHeld => ?_)
  clear hK K
  try simp only [List.getElem_toArray, List.getElem_cons_succ, List.getElem_cons_zero, Act.put, List.setIfInBounds_toArray, List.set_cons_zero, List.set_cons_succ]
  refine wpAnyH_take (i := 11) (v := ?_) rfl (by kernel_rfl) (by kernel_rfl) (by kernel_rfl) (fun _ _ _ h => h) (Or.inl ⟨by kernel_rfl, ?_⟩) (by assumption) ?_
  rotate_left
  · intro wS hSw
    (try dsimp only at hSw)
    go_simp
    try (with_reducible rfl)
  try simp only [List.getElem_toArray, List.getElem_cons_succ, List.getElem_cons_zero, Act.put, List.setIfInBounds_toArray, List.set_cons_zero, List.set_cons_succ]
  refine wpAnyH_take (i := 12) (v := ?_) rfl (by kernel_rfl) (by kernel_rfl) (by kernel_rfl) (fun _ _ _ h => h) (Or.inl ⟨by kernel_rfl, ?_⟩) (by assumption) ?_
  rotate_left
  · intro wS hSw
    (try dsimp only at hSw)
    go_simp
    try (with_reducible rfl)
  try simp only [List.getElem_toArray, List.getElem_cons_succ, List.getElem_cons_zero, Act.put, List.setIfInBounds_toArray, List.set_cons_zero, List.set_cons_succ]
  refine wpAnyH_take (i := 13) (v := ?_) rfl (by kernel_rfl) (by kernel_rfl) (by kernel_rfl) (fun _ _ _ h => h) (Or.inl ⟨by kernel_rfl, ?_⟩) (by assumption) ?_
  rotate_left
  · intro wS hSw
    (try dsimp only at hSw)
    go_simp
    try (with_reducible rfl)
  try simp only [List.getElem_toArray, List.getElem_cons_succ, List.getElem_cons_zero, Act.put, List.setIfInBounds_toArray, List.set_cons_zero, List.set_cons_succ]
  refine wpAnyH_take (i := 14) (v := ?_) rfl (by kernel_rfl) (by kernel_rfl) (by kernel_rfl) (fun _ _ _ h => h) (Or.inl ⟨by kernel_rfl, ?_⟩) (by assumption) ?_
  rotate_left
  · intro wS hSw
    (try dsimp only at hSw)
    have hcv := conv_str wS a5 m5 c5 r1 HM5.out.symm hSw
    go_simp
    try (with_reducible rfl)
  try simp only [List.getElem_toArray, List.getElem_cons_succ, List.getElem_cons_zero, Act.put, List.setIfInBounds_toArray, List.set_cons_zero, List.set_cons_succ]
  refine wpAnyH_take (i := 15) (v := ?_) rfl (by kernel_rfl) (by kernel_rfl) (by kernel_rfl) (fun _ _ _ h => h) (Or.inl ⟨by kernel_rfl, ?_⟩) (by assumption) ?_
  rotate_left
  · intro wS hSw
    (try dsimp only at hSw)
    go_simp
    try (with_reducible rfl)
  try simp only [List.getElem_toArray, List.getElem_cons_succ, List.getElem_cons_zero, Act.put, List.setIfInBounds_toArray, List.set_cons_zero, List.set_cons_succ]
  refine wpAnyH_take (i := 16) (v := ?_) rfl (by kernel_rfl) (by kernel_rfl) (by kernel_rfl) (fun _ _ _ h => h) (Or.inl ⟨by kernel_rfl, ?_⟩) (by assumption) ?_
  rotate_left
  · intro wS hSw
    (try dsimp only at hSw)
    go_simp
    try (with_reducible rfl)
  try simp only [List.getElem_toArray, List.getElem_cons_succ, List.getElem_cons_zero, Act.put, List.setIfInBounds_toArray, List.set_cons_zero, List.set_cons_succ]
  refine wpAnyH_take (i := 17) (v := ?_) rfl (by kernel_rfl) (by kernel_rfl) (by kernel_rfl) (fun _ _ _ h => h) (Or.inl ⟨by kernel_rfl, ?_⟩) (by assumption) ?_
  rotate_left
  · intro wS hSw
    (try dsimp only at hSw)
    go_simp
    try (with_reducible rfl)
  try simp only [List.getElem_toArray, List.getElem_cons_succ, List.getElem_cons_zero, Act.put, List.setIfInBounds_toArray, List.set_cons_zero, List.set_cons_succ]
  refine wpAnyH_take (i := 18) (v := ?_) rfl (by kernel_rfl) (by kernel_rfl) (by kernel_rfl) (fun _ _ _ h => h) (Or.inl ⟨by kernel_rfl, ?_⟩) (by assumption) ?_
  rotate_left
  · intro wS hSw
    (try dsimp only at hSw)
    go_simp
    try (with_reducible rfl)
  try simp only [List.getElem_toArray, List.getElem_cons_succ, List.getElem_cons_zero, Act.put, List.setIfInBounds_toArray, List.set_cons_zero, List.set_cons_succ]
  refine wpAnyH_ready (rs := [19]) (by kernel_rfl) (by simp) ?_
  refine AllReadyH.cons rfl (fun K hK => ?_) AllReadyH.nil
  go_simp
  go_at_call 26
  refine (HEA.out w9 HD9.out).mono ?_
  rintro e wA ⟨aA, cA, mA, rfl, hsA, hmA, hlA, hoA, hbA⟩
  have HDA : Hid (Below w.heap.size w wA) := HD9.out.trans (hbA.mono HD9.out.size)
  have HSA := Lib.hid (HS9.out.keep hbA)
  have HSR := Lib.hid hsA
  have HMA := Lib.hid hmA
  clear hbA hsA hmA hoA HD9 HS9
  refine hK.out _ _ (by exact HSA.out) (fun hHeld => ?_)
  clear hK K
  try simp only [List.getElem_toArray, List.getElem_cons_succ, List.getElem_cons_zero, Act.put, List.setIfInBounds_toArray, List.set_cons_zero, List.set_cons_succ]
  have hcv2 := conv_str wA aA mA cA r1 HMA.out.symm HSR.out
  refine wpAnyH_ready (rs := [20]) (by kernel_rfl) (by simp) ?_
  refine AllReadyH.cons rfl (fun K hK => ?_) AllReadyH.nil
  go_simp
  refine hK.out _ _ (by exact HSA.out) (fun hHeld => ?_)
  clear hK K
  try simp only [List.getElem_toArray, List.getElem_cons_succ, List.getElem_cons_zero, Act.put, List.setIfInBounds_toArray, List.set_cons_zero, List.set_cons_succ]
  refine wpAnyH_take (i := 21) (v := ?_) rfl (by kernel_rfl) (by kernel_rfl) (by kernel_rfl) (fun _ _ _ h => h) (Or.inl ⟨by kernel_rfl, ?_⟩) (by assumption) ?_
  rotate_left
  · intro wS hSw
    (try dsimp only at hSw)
    go_simp
    try (with_reducible rfl)
  try simp only [List.getElem_toArray, List.getElem_cons_succ, List.getElem_cons_zero, Act.put, List.setIfInBounds_toArray, List.set_cons_zero, List.set_cons_succ]
  refine wpAnyH_take (i := 22) (v := ?_) rfl (by kernel_rfl) (by kernel_rfl) (by kernel_rfl) (fun _ _ _ h => h) (Or.inl ⟨by kernel_rfl, ?_⟩) (by assumption) ?_
  rotate_left
  · intro wS hSw
    (try dsimp only at hSw)
    go_simp
    try (with_reducible rfl)
  try simp only [List.getElem_toArray, List.getElem_cons_succ, List.getElem_cons_zero, Act.put, List.setIfInBounds_toArray, List.set_cons_zero, List.set_cons_succ]
  refine wpAnyH_take (i := 23) (v := ?_) rfl (by kernel_rfl) (by kernel_rfl) (by kernel_rfl) (fun _ _ _ h => h) (Or.inl ⟨by kernel_rfl, ?_⟩) (by assumption) ?_
  rotate_left
  · intro wS hSw
    (try dsimp only at hSw)
    go_simp
    try (with_reducible rfl)
  try simp only [List.getElem_toArray, List.getElem_cons_succ, List.getElem_cons_zero, Act.put, List.setIfInBounds_toArray, List.set_cons_zero, List.set_cons_succ]
  refine wpAnyH_done (by kernel_rfl) ?_ _
  go_wp2_with fail
  go_ret
  exact ⟨rfl, HDA.out⟩
end Go.Proofs.YtdcfddiicclpeaaDoor
end
