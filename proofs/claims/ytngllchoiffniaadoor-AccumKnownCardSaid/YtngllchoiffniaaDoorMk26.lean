/- AccumKnownWalk. -/
import Derived.Test.YtngllchoiffniaaDoorMk25
set_option maxRecDepth 100000
set_option maxHeartbeats 20000000
section
namespace Go.Proofs.YtngllchoiffniaaDoor
open Go.RowKit
open Seal
open Bson (Val)
namespace Acc
def KSt (w : World) (s f : Nat) (x : Val) : Prop := ∃ wt, St w s f (fun g => g ≠ s) 0 x wt
theorem KSt.below {w w' : World} {s f : Nat} {x : Val} (h : KSt w s f x) (hb : Below w.heap.size w w') : KSt w' s f x := by obtain ⟨wt, h⟩ := h; exact ⟨wt, h.below hb⟩
def kS_first (x y : Val) : Val := ((if x.kind = 0 then some (orN y) else none) : Option Val).getD x
def kS_last (_ y : Val) : Val := (some (orN y) : Option Val).getD Bson.zero
def kS_least (x y : Val) : Val := ((if y.kind = 0 ∨ y.kind = 2 then none else if x.kind = 0 ∨ Order.cmp (0 + 1) y x = (-1) then some y else none) : Option Val).getD x
def kS_greatest (x y : Val) : Val := ((if y.kind = 0 ∨ y.kind = 2 then none else if x.kind = 0 ∨ Order.cmp (0 + 1) y x = 1 then some y else none) : Option Val).getD x
def kS_count (x _ : Val) : Val := numV (Num.ofK (x.n + 1)) (x.n + 1)
def kS_sum (x y : Val) : Val := if numB y.kind = true then ((if (Num.reck (Num.sumR x.n y.n) x.kind y.kind).2.2 = 0 then some (numV (Num.reck (Num.sumR x.n y.n) x.kind y.kind).1 (Num.reck (Num.sumR x.n y.n) x.kind y.kind).2.1) else none) : Option Val).getD x else x
def kE_sum (x y : Val) : Int := if numB y.kind = true then (Num.reck (Num.sumR x.n y.n) x.kind y.kind).2.2 else 0
def KPost (w : World) (s f : Nat) (r : Int) (x : Val) (e : Ending) (w' : World) : Prop := e = .returned (.int .i64 r) ∧ KSt w' s f x ∧ RM (fun g => g = s) w w' 
theorem kn_first (s : Nat) (x : Val) (y : Val) (v : Value) (w : World) (h : KSt w s 17 x) (hv : VIn w (fun _ => False) 1 y v) (B : Nat) (hB : B ≤ s) (hT : TabsAt B w) : Calls Tryd.prog 7 #[.pointer (some ⟨s, 0, none⟩), v] w (KPost w s 17 0 (kS_first x y)) := by
 obtain ⟨wt, h⟩ := h
 have hlt := h.lt
 exact (add_first B s x wt (fun g => g ≠ s) (fun _ => False) 0 y v w hB h hv (fun h => h) (fun g hg => by omega) hT).mono fun _ _ ⟨h1, h2, h3⟩ => ⟨h1, ⟨_, h2⟩, h3⟩
theorem kn_last (s : Nat) (x : Val) (y : Val) (v : Value) (w : World) (h : KSt w s 18 x) (hv : VIn w (fun _ => False) 1 y v) (B : Nat) (hB : B ≤ s) (hT : TabsAt B w) : Calls Tryd.prog 7 #[.pointer (some ⟨s, 0, none⟩), v] w (KPost w s 18 0 (kS_last x y)) := by
 obtain ⟨wt, h⟩ := h
 have hlt := h.lt
 exact (add_last B s x wt (fun g => g ≠ s) (fun _ => False) 0 y v w hB h hv (fun h => h) (fun g hg => by omega) hT).mono fun _ _ ⟨h1, h2, h3⟩ => ⟨h1, ⟨_, h2⟩, h3⟩
theorem kn_least (s : Nat) (x : Val) (y : Val) (v : Value) (w : World) (h : KSt w s 15 x) (hv : VIn w (fun _ => False) 1 y v) (B : Nat) (hB : B ≤ s) (hT : TabsAt B w) : Calls Tryd.prog 7 #[.pointer (some ⟨s, 0, none⟩), v] w (KPost w s 15 0 (kS_least x y)) := by
 obtain ⟨wt, h⟩ := h
 have hlt := h.lt
 exact (add_least B s x wt (fun g => g ≠ s) (fun _ => False) 0 y v w hB h hv (fun h => h) (fun g hg => by omega) hT).mono fun _ _ ⟨h1, h2, h3⟩ => ⟨h1, ⟨_, h2⟩, h3⟩
theorem kn_greatest (s : Nat) (x : Val) (y : Val) (v : Value) (w : World) (h : KSt w s 16 x) (hv : VIn w (fun _ => False) 1 y v) (B : Nat) (hB : B ≤ s) (hT : TabsAt B w) : Calls Tryd.prog 7 #[.pointer (some ⟨s, 0, none⟩), v] w (KPost w s 16 0 (kS_greatest x y)) := by
 obtain ⟨wt, h⟩ := h
 have hlt := h.lt
 exact (add_greatest B s x wt (fun g => g ≠ s) (fun _ => False) 0 y v w hB h hv (fun h => h) (fun g hg => by omega) hT).mono fun _ _ ⟨h1, h2, h3⟩ => ⟨h1, ⟨_, h2⟩, h3⟩
theorem kn_count (s : Nat) (x : Val) (y : Val) (v : Value) (w : World) (h : KSt w s 22 x) (hv : VIn w (fun _ => False) 1 y v) (B : Nat) (hB : B ≤ s) (hT : TabsAt B w) (hn : x.n + 1 ≤ 9223372036854775807) : Calls Tryd.prog 7 #[.pointer (some ⟨s, 0, none⟩), v] w (KPost w s 22 0 (kS_count x y)) := by
 obtain ⟨wt, h⟩ := h
 have hlt := h.lt
 exact (add_count B s x wt (fun g => g ≠ s) (fun _ => False) 0 y v w hB h hv (fun h => h) (fun g hg => by omega) hT hn).mono fun _ _ ⟨h1, h2, h3⟩ => ⟨h1, ⟨_, h2⟩, h3⟩
theorem kn_sum (s : Nat) (x : Val) (y : Val) (v : Value) (w : World) (h : KSt w s 12 x) (hv : VIn w (fun _ => False) 1 y v) (B : Nat) (hB : B ≤ s) (hT : TabsAt B w) : Calls Tryd.prog 7 #[.pointer (some ⟨s, 0, none⟩), v] w (KPost w s 12 (kE_sum x y) (kS_sum x y)) := by
 obtain ⟨wt, h⟩ := h
 have hlt := h.lt
 unfold kE_sum kS_sum
 by_cases hn : numB y.kind = true
 ·rw [if_pos hn, if_pos hn]
  exact (add_sum_num B s x wt (fun g => g ≠ s) (fun _ => False) 0 y v w hB h hv (fun h => h) (fun g hg => by omega) hT hn).mono fun _ _ ⟨h1, h2, h3⟩ => ⟨h1, ⟨_, h2⟩, h3⟩
 ·rw [if_neg hn, if_neg hn]
  exact (add_sum_not B s x wt (fun g => g ≠ s) (fun _ => False) 0 y v w hB h hv (fun h => h) (fun g hg => by omega) hT (by simpa using hn)).mono fun _ _ ⟨h1, h2, h3⟩ => ⟨h1, ⟨_, h2⟩, h3⟩
theorem kn_value (s f : Nat) (x : Val) (w : World) (h : KSt w s f x) : Calls Tryd.prog 8 #[.pointer (some ⟨s, 0, none⟩)] w fun e w' => ∃ (t : ByteArray) (a1 a2 a3 : Option Addr) (p1 p2 p3 p4 p5 p6 : Nat), e = .returned (.agg #[.int .i64 (orN x).kind, .int .i64 (orN x).n, .string t, .slice a1 p1 p2, .slice a2 p3 p4, .slice a3 p5 p6]) ∧ Below w.heap.size w w' := by
 obtain ⟨wt, u, h1, h2, -⟩ := h
 refine (avalue_any s _ _ _ u _ wt _ 0 x w h1 h2).mono ?_
 rintro e w' ⟨v', rfl, hv, hb⟩
 obtain ⟨k, n, t, b1, b2, b3, p1, p2, p3, p4, p5, p6, rfl, e1, e2, -⟩ := hv.letters
 rw [e1, e2]
 exact ⟨_, _, _, _, _, _, _, _, _, _, rfl, hb⟩
theorem n10_known (k : Int) (w : World) : Calls Tryd.prog 10 #[.int .i64 k] w fun e w' => e = .returned (leafA 4 k) ∧ Below w.heap.size w w' := by
 unfold leafA
 go_enter Tryd.func10, Tryd.ntmps10
 go_wp2_with fail
 exact bodyPost_ret (v := .agg #[.int .i64 4, .int .i64 k, .string ⟨#[]⟩, .slice none 0 0, .slice none 0 0, .slice none 0 0]) (by simp [results, Tryd.results10, go_sem]) rfl ⟨rfl, ((Below.refl _ _).alloc (Nat.le_refl _) _)⟩
theorem newk_sum (s : Nat) (w : World) (hs : s = w.heap.size) (hT : Tabs w) : Calls Tryd.prog 6 #[.int .i64 1] w fun e w' => e = .returned (.pointer (some ⟨s, 0, none⟩)) ∧ Cells w' s (mOf 12 s) (leafA 3 0) 4 (.slice none 0 0) ∧ Below w.heap.size w w' := by
 subst hs
 exact new_sum w hT
theorem newk_least (s : Nat) (w : World) (hs : s = w.heap.size) (hT : Tabs w) : Calls Tryd.prog 6 #[.int .i64 2] w fun e w' => e = .returned (.pointer (some ⟨s, 0, none⟩)) ∧ Cells w' s (mOf 15 s) (leafA 0 0) 0 (.slice none 0 0) ∧ Below w.heap.size w w' := by
 subst hs
 exact new_least w hT
theorem newk_greatest (s : Nat) (w : World) (hs : s = w.heap.size) (hT : Tabs w) : Calls Tryd.prog 6 #[.int .i64 3] w fun e w' => e = .returned (.pointer (some ⟨s, 0, none⟩)) ∧ Cells w' s (mOf 16 s) (leafA 0 0) 0 (.slice none 0 0) ∧ Below w.heap.size w w' := by
 subst hs
 exact new_greatest w hT
theorem newk_first (s : Nat) (w : World) (hs : s = w.heap.size) (hT : Tabs w) : Calls Tryd.prog 6 #[.int .i64 4] w fun e w' => e = .returned (.pointer (some ⟨s, 0, none⟩)) ∧ Cells w' s (mOf 17 s) (leafA 0 0) 0 (.slice none 0 0) ∧ Below w.heap.size w w' := by
 subst hs
 exact new_first w hT
theorem newk_last (s : Nat) (w : World) (hs : s = w.heap.size) (hT : Tabs w) : Calls Tryd.prog 6 #[.int .i64 5] w fun e w' => e = .returned (.pointer (some ⟨s, 0, none⟩)) ∧ Cells w' s (mOf 18 s) (leafA 0 0) 0 (.slice none 0 0) ∧ Below w.heap.size w w' := by
 subst hs
 exact new_last w hT
theorem newk_push (s : Nat) (w : World) (hs : s = w.heap.size) (hT : Tabs w) : Calls Tryd.prog 6 #[.int .i64 6] w fun e w' => e = .returned (.pointer (some ⟨s, 0, none⟩)) ∧ Cells w' s (mOf 19 s) (leafA 7 0) 5 (.slice none 0 0) ∧ Below w.heap.size w w' := by
 subst hs
 exact new_push w hT
theorem newk_set (s : Nat) (w : World) (hs : s = w.heap.size) (hT : Tabs w) : Calls Tryd.prog 6 #[.int .i64 7] w fun e w' => e = .returned (.pointer (some ⟨s, 0, none⟩)) ∧ Cells w' s (mOf 21 s) (leafA 7 0) 5 (.slice none 0 0) ∧ Below w.heap.size w w' := by
 subst hs
 exact new_set w hT
theorem newk_count (s : Nat) (w : World) (hs : s = w.heap.size) (hT : Tabs w) : Calls Tryd.prog 6 #[.int .i64 8] w fun e w' => e = .returned (.pointer (some ⟨s, 0, none⟩)) ∧ Cells w' s (mOf 22 s) (leafA 3 0) 0 (.slice none 0 0) ∧ Below w.heap.size w w' := by
 subst hs
 exact new_count w hT
structure KW (w : World) (PI PN : Nat) (wr : World) : Prop where
 below : Below w.heap.size w wr
 pi : w.heap.size ≤ PI
 pn : w.heap.size ≤ PN
 rowI : wr.heap[PI]? = some (.cells #[.int .i64 0, .int .i64 0, .string ⟨#[]⟩, .slice none 0 0, .slice none 0 0, .slice none 0 0, .int .i64 2, .int .i64 0, .string ⟨#[]⟩, .slice none 0 0, .slice none 0 0, .slice none 0 0, .int .i64 4, .int .i64 3, .string ⟨#[]⟩, .slice none 0 0, .slice none 0 0, .slice none 0 0, .int .i64 3, .int .i64 3, .string ⟨#[]⟩, .slice none 0 0, .slice none 0 0, .slice none 0 0, .int .i64 0, .int .i64 0, .string ⟨#[]⟩, .slice none 0 0, .slice none 0 0, .slice none 0 0] 32 (0, 0))
 rowN : wr.heap[PN]? = some (.cells #[.string ⟨#[36, 115, 117, 109]⟩, .string ⟨#[36, 109, 105, 110]⟩, .string ⟨#[36, 109, 97, 120]⟩, .string ⟨#[36, 102, 105, 114, 115, 116]⟩, .string ⟨#[36, 108, 97, 115, 116]⟩, .string ⟨#[36, 112, 117, 115, 104]⟩, .string ⟨#[36, 97, 100, 100, 84, 111, 83, 101, 116]⟩, .string ⟨#[36, 99, 111, 117, 110, 116]⟩] 9 (0, 0))
theorem KW.keep {w wr w' : World} {PI PN : Nat} (h : KW w PI PN wr) (hb : Below wr.heap.size wr w') : KW w PI PN w' :=
 ⟨h.below.trans (hb.mono h.below.size), h.pi, h.pn, (hb.block _ (Array.getElem?_eq_some_iff.1 h.rowI).1).trans h.rowI, (hb.block _ (Array.getElem?_eq_some_iff.1 h.rowN).1).trans h.rowN⟩
theorem KW.rm {w wr w' : World} {PI PN s : Nat} (h : KW w PI PN wr) (hr : RM (fun g => s ≤ g) wr w') (hs : w.heap.size ≤ s) (h1 : PI < s) (h2 : PN < s) : KW w PI PN w' :=
 ⟨h.below.trans (hr.below h.below.size (fun k hk => by omega)), h.pi, h.pn, (hr.block _ (Array.getElem?_eq_some_iff.1 h.rowI).1 (by omega)).trans h.rowI, (hr.block _ (Array.getElem?_eq_some_iff.1 h.rowN).1 (by omega)).trans h.rowN⟩
theorem box_rm2 {w w' : World} {p s : Nat} {c0 c1 c2 c3 c4 c5 : Value} (hx : IsBox w p c0 c1 c2 c3 c4 c5) (hr : RM (fun g => g = s) w w') (hne : p ≠ s) : IsBox w' p c0 c1 c2 c3 c4 c5 := (hr.block p (Array.getElem?_eq_some_iff.1 hx).1 hne).trans hx
theorem known12_any (w : World) (hT : Tabs w) (hN : Nms12 w) : Calls Tryd.prog 4 #[] w fun e w' => e = .returned (.bool true) ∧ Below w.heap.size w w' := by
 have HT := Lib.hid (TabsAt.of hT)
 have HN := Lib.hid hN
 have CA := Lib.hid (awake12_any w hT hN)
 clear hT hN
 go_enter Tryd.func4, Tryd.ntmps4
 go_wp2_with fail
 refine CA.out.mono ?_
 rintro e w1 ⟨rfl, hb1⟩
 have HB1 := Lib.hid hb1
 clear hb1 CA
 have C10 := Lib.hid (fun k W => n10_known k W)
 unfold leafA at C10
 go_wp2_with fail
 refine (C10.out 3 w1).mono ?_
 rintro e w2 ⟨rfl, hb2⟩
 have HB2 := Lib.hid (HB1.out.trans (hb2.mono HB1.out.size))
 clear hb2
 obtain ⟨WI, hWI⟩ : ∃ W, W = w2.alloc (.cells #[.int .i64 0, .int .i64 0, .string ⟨#[]⟩, .slice none 0 0, .slice none 0 0, .slice none 0 0, .int .i64 2, .int .i64 0, .string ⟨#[]⟩, .slice none 0 0, .slice none 0 0, .slice none 0 0, .int .i64 4, .int .i64 3, .string ⟨#[]⟩, .slice none 0 0, .slice none 0 0, .slice none 0 0, .int .i64 3, .int .i64 3, .string ⟨#[]⟩, .slice none 0 0, .slice none 0 0, .slice none 0 0, .int .i64 0, .int .i64 0, .string ⟨#[]⟩, .slice none 0 0, .slice none 0 0, .slice none 0 0] 32) := ⟨_, rfl⟩
 obtain ⟨PI, hPI⟩ : ∃ P, P = w2.heap.size := ⟨_, rfl⟩
 have hbI : Below w2.heap.size w2 WI := by rw [hWI]; exact (Below.refl _ _).alloc (Nat.le_refl _) _
 have hrI : WI.heap[PI]? = some (.cells #[.int .i64 0, .int .i64 0, .string ⟨#[]⟩, .slice none 0 0, .slice none 0 0, .slice none 0 0, .int .i64 2, .int .i64 0, .string ⟨#[]⟩, .slice none 0 0, .slice none 0 0, .slice none 0 0, .int .i64 4, .int .i64 3, .string ⟨#[]⟩, .slice none 0 0, .slice none 0 0, .slice none 0 0, .int .i64 3, .int .i64 3, .string ⟨#[]⟩, .slice none 0 0, .slice none 0 0, .slice none 0 0, .int .i64 0, .int .i64 0, .string ⟨#[]⟩, .slice none 0 0, .slice none 0 0, .slice none 0 0] 32 (0, 0)) := by rw [hWI, hPI]; exact heap_alloc_new w2 _
 obtain ⟨WN, hWN⟩ : ∃ W, W = WI.alloc (.cells #[.string ⟨#[36, 115, 117, 109]⟩, .string ⟨#[36, 109, 105, 110]⟩, .string ⟨#[36, 109, 97, 120]⟩, .string ⟨#[36, 102, 105, 114, 115, 116]⟩, .string ⟨#[36, 108, 97, 115, 116]⟩, .string ⟨#[36, 112, 117, 115, 104]⟩, .string ⟨#[36, 97, 100, 100, 84, 111, 83, 101, 116]⟩, .string ⟨#[36, 99, 111, 117, 110, 116]⟩] 9) := ⟨_, rfl⟩
 obtain ⟨PN, hPN⟩ : ∃ P, P = WI.heap.size := ⟨_, rfl⟩
 have hbN : Below WI.heap.size WI WN := by rw [hWN]; exact (Below.refl _ _).alloc (Nat.le_refl _) _
 have hrN : WN.heap[PN]? = some (.cells #[.string ⟨#[36, 115, 117, 109]⟩, .string ⟨#[36, 109, 105, 110]⟩, .string ⟨#[36, 109, 97, 120]⟩, .string ⟨#[36, 102, 105, 114, 115, 116]⟩, .string ⟨#[36, 108, 97, 115, 116]⟩, .string ⟨#[36, 112, 117, 115, 104]⟩, .string ⟨#[36, 97, 100, 100, 84, 111, 83, 101, 116]⟩, .string ⟨#[36, 99, 111, 117, 110, 116]⟩] 9 (0, 0)) := by rw [hWN, hPN]; exact heap_alloc_new WI _
 have hq : PN = PI + 1 := by rw [hPN, hPI, hWI]; simp
 have hz2 := HB2.out.size
 have HKW : Hid (KW w PI PN WN) := ⟨HB2.out.trans ((hbI.trans (hbN.mono hbI.size)).mono HB2.out.size), by omega, by omega, (hbN.block _ (Array.getElem?_eq_some_iff.1 hrI).1).trans hrI, hrN⟩
 have HWI := Lib.hid hWI; have HWN := Lib.hid hWN; have HPI := Lib.hid hPI; have HPN := Lib.hid hPN; have HQ := Lib.hid hq
 clear hWI hWN hPI hPN hbI hbN hrI hrN hq hz2
 go_upto_region 6 with fail
 rw [← HWI.out, ← HPI.out, ← HWN.out, ← HQ.out]
 go_wp2_with fail
 go_loopw [4] (fun i_ wr => ∃ i : Nat, i_ = .int .i64 i ∧ i ≤ 8 ∧ Hid (KW w PI PN wr)) (fun i_ _ => 8 - (intOf i_).toNat)
 case atStart => exact ⟨0, rfl, Nat.zero_le _, HKW.out⟩
 case round =>
  obtain ⟨i, rfl, hi8, HK⟩ := hrel
  by_cases hi : i < 8
  ·skip
   rcases i with _ | _ | _ | _ | _ | _ | _ | _ | i
   ·skip
    have hcn := (cell_of_row wr PN 0 _ _ _ HK.out.rowN).trans rfl
    have CK := Lib.hid (kind12_any ⟨#[36, 115, 117, 109]⟩ 0 (by kernel_rfl) (by omega) (by omega) wr (HN.out.keep HK.out.below))
    obtain ⟨S, hS⟩ : ∃ s, s = wr.heap.size := ⟨_, rfl⟩
    have CN := Lib.hid (newk_sum S wr hS (HT.out.mono HK.out.below).now)
    have hIS : PI < S := by rw [hS]; exact (Array.getElem?_eq_some_iff.1 HK.out.rowI).1
    have hNS : PN < S := by rw [hS]; exact (Array.getElem?_eq_some_iff.1 HK.out.rowN).1
    have hSw : w.heap.size ≤ S := by have := HK.out.below.size; omega
    have HS := Lib.hid hS
    clear hS
    go_wp2_with fail
    refine CK.out.mono ?_
    rintro e wk ⟨rfl, rfl⟩
    clear hcn CK
    go_wp2_with fail
    refine CN.out.mono ?_
    rintro e w3 ⟨rfl, hc3, hb3⟩
    have HK3 := Lib.hid (HK.out.keep hb3)
    clear CN
    have HS3 : Hid (KSt w3 S 12 (numV 3 0)) := ⟨_, st_new (by unfold Num.In; omega) (by unfold Num.In; omega) hc3 (fun g => g ≠ S) (fun h => h rfl) 0⟩
    clear hc3 hb3
    have CV := Lib.hid (kn_value S _ _ w3 HS3.out)
    rw [show (orN (numV 3 0)).kind = 3 from by kernel_rfl, show (orN (numV 3 0)).n = 0 from by kernel_rfl] at CV
    go_wp2_with fail
    refine CV.out.mono ?_
    rintro e w4 ⟨tu, au1, au2, au3, pu1, pu2, pu3, pu4, pu5, pu6, rfl, hb4⟩
    obtain ⟨W6, hW6⟩ : ∃ W, W = w4.alloc (.cells #[.int .i64 3, .int .i64 0, .string tu, .slice au1 pu1 pu2, .slice au2 pu3 pu4, .slice au3 pu5 pu6] 32) := ⟨_, rfl⟩
    obtain ⟨P6, hP6⟩ : ∃ P, P = w4.heap.size := ⟨_, rfl⟩
    have hb6 : Below w3.heap.size w3 W6 := by rw [hW6]; exact hb4.alloc hb4.size _
    have hx6 : IsBox W6 P6 (.int .i64 3) (.int .i64 0) (.string tu) (.slice au1 pu1 pu2) (.slice au2 pu3 pu4) (.slice au3 pu5 pu6) := by rw [hW6, hP6]; exact IsBox.new w4 _ _ _ _ _ _
    have hP6S : S < P6 := by have := HS3.out; obtain ⟨_, h⟩ := this; have := h.lt; have := hb4.size; omega
    have HS6 := Lib.hid (HS3.out.below hb6)
    have HK6 := Lib.hid (HK3.out.keep hb6)
    have HX6 := Lib.hid hx6
    have HW6 := Lib.hid hW6; have HP6 := Lib.hid hP6
    clear hb4 hb6 hx6 hW6 hP6 CV HS3
    go_upto_region 13 with fail
    rw [← HW6.out, ← HP6.out]
    go_wp2_with fail
    go_loopw [7] (fun k_ wq => ∃ k : Nat, k_ = .int .i64 k ∧ k ≤ 5 ∧ Hid (KSt wq S 12 ([(numV 3 0), (numV 3 0), (numV 3 0), (numV 4 3), (numV 4 6), (numV 4 6)].getD k (numV 0 0))) ∧ Hid (RM (fun g => g = S) W6 wq)) (fun k_ _ => 5 - (intOf k_).toNat)
    case atStart => exact ⟨0, rfl, Nat.zero_le _, HS6.out, RM.refl _ _⟩
    case round =>
     obtain ⟨k, rfl, hk5, HSk, HRk⟩ := hrel
     have HKk : Hid (KW w PI PN wr) := HK6.out.rm (HRk.out.mono (fun k _ h => by omega)) hSw hIS hNS
     by_cases hk : k < 5
     ·skip
      rcases k with _ | _ | _ | _ | _ | k
      ·skip
       have d0 := (cell_of_row wr PI 0 _ _ _ HKk.out.rowI).trans rfl
       have d1 := (cell_of_row wr PI 1 _ _ _ HKk.out.rowI).trans rfl
       have d2 := (cell_of_row wr PI 2 _ _ _ HKk.out.rowI).trans rfl
       have d3 := (cell_of_row wr PI 3 _ _ _ HKk.out.rowI).trans rfl
       have d4 := (cell_of_row wr PI 4 _ _ _ HKk.out.rowI).trans rfl
       have d5 := (cell_of_row wr PI 5 _ _ _ HKk.out.rowI).trans rfl
       have CQ := Lib.hid (kn_sum S (numV 3 0) (numV 0 0) _ wr HSk.out (leaf_in wr _ 0 0 (by omega) (by omega) 0) w.heap.size hSw (HT.out.mono HKk.out.below))
       rw [show kE_sum (numV 3 0) (numV 0 0) = 0 from by kernel_rfl] at CQ
       rw [show kS_sum (numV 3 0) (numV 0 0) = (numV 3 0) from by kernel_rfl] at CQ
       go_wp2_with fail
       refine CQ.out.mono ?_
       rintro e w9 ⟨rfl, hs9, hr9⟩
       have HS9 := Lib.hid hs9
       have HR9 := Lib.hid (HRk.out.trans hr9 (fun _ _ h => h))
       clear d0 d1 d2 d3 d4 d5 CQ hs9 hr9
       go_wp2_with fail
       go_roundw
       case rel => exact ⟨1, by go_num, by omega, HS9.out, HR9.out⟩
       case measure => simp [intOf]
      ·skip
       have d0 := (cell_of_row wr PI 6 _ _ _ HKk.out.rowI).trans rfl
       have d1 := (cell_of_row wr PI 7 _ _ _ HKk.out.rowI).trans rfl
       have d2 := (cell_of_row wr PI 8 _ _ _ HKk.out.rowI).trans rfl
       have d3 := (cell_of_row wr PI 9 _ _ _ HKk.out.rowI).trans rfl
       have d4 := (cell_of_row wr PI 10 _ _ _ HKk.out.rowI).trans rfl
       have d5 := (cell_of_row wr PI 11 _ _ _ HKk.out.rowI).trans rfl
       have CQ := Lib.hid (kn_sum S (numV 3 0) (numV 2 0) _ wr HSk.out (leaf_in wr _ 2 0 (by omega) (by omega) 0) w.heap.size hSw (HT.out.mono HKk.out.below))
       rw [show kE_sum (numV 3 0) (numV 2 0) = 0 from by kernel_rfl] at CQ
       rw [show kS_sum (numV 3 0) (numV 2 0) = (numV 3 0) from by kernel_rfl] at CQ
       go_wp2_with fail
       refine CQ.out.mono ?_
       rintro e w9 ⟨rfl, hs9, hr9⟩
       have HS9 := Lib.hid hs9
       have HR9 := Lib.hid (HRk.out.trans hr9 (fun _ _ h => h))
       clear d0 d1 d2 d3 d4 d5 CQ hs9 hr9
       go_wp2_with fail
       go_roundw
       case rel => exact ⟨2, by go_num, by omega, HS9.out, HR9.out⟩
       case measure => simp [intOf]
      ·skip
       have d0 := (cell_of_row wr PI 12 _ _ _ HKk.out.rowI).trans rfl
       have d1 := (cell_of_row wr PI 13 _ _ _ HKk.out.rowI).trans rfl
       have d2 := (cell_of_row wr PI 14 _ _ _ HKk.out.rowI).trans rfl
       have d3 := (cell_of_row wr PI 15 _ _ _ HKk.out.rowI).trans rfl
       have d4 := (cell_of_row wr PI 16 _ _ _ HKk.out.rowI).trans rfl
       have d5 := (cell_of_row wr PI 17 _ _ _ HKk.out.rowI).trans rfl
       have CQ := Lib.hid (kn_sum S (numV 3 0) (numV 4 3) _ wr HSk.out (leaf_in wr _ 4 3 (by omega) (by omega) 0) w.heap.size hSw (HT.out.mono HKk.out.below))
       rw [show kE_sum (numV 3 0) (numV 4 3) = 0 from by kernel_rfl] at CQ
       rw [show kS_sum (numV 3 0) (numV 4 3) = (numV 4 3) from by kernel_rfl] at CQ
       go_wp2_with fail
       refine CQ.out.mono ?_
       rintro e w9 ⟨rfl, hs9, hr9⟩
       have HS9 := Lib.hid hs9
       have HR9 := Lib.hid (HRk.out.trans hr9 (fun _ _ h => h))
       clear d0 d1 d2 d3 d4 d5 CQ hs9 hr9
       go_wp2_with fail
       go_roundw
       case rel => exact ⟨3, by go_num, by omega, HS9.out, HR9.out⟩
       case measure => simp [intOf]
      ·skip
       have d0 := (cell_of_row wr PI 18 _ _ _ HKk.out.rowI).trans rfl
       have d1 := (cell_of_row wr PI 19 _ _ _ HKk.out.rowI).trans rfl
       have d2 := (cell_of_row wr PI 20 _ _ _ HKk.out.rowI).trans rfl
       have d3 := (cell_of_row wr PI 21 _ _ _ HKk.out.rowI).trans rfl
       have d4 := (cell_of_row wr PI 22 _ _ _ HKk.out.rowI).trans rfl
       have d5 := (cell_of_row wr PI 23 _ _ _ HKk.out.rowI).trans rfl
       have CQ := Lib.hid (kn_sum S (numV 4 3) (numV 3 3) _ wr HSk.out (leaf_in wr _ 3 3 (by omega) (by omega) 0) w.heap.size hSw (HT.out.mono HKk.out.below))
       rw [show kE_sum (numV 4 3) (numV 3 3) = 0 from by kernel_rfl] at CQ
       rw [show kS_sum (numV 4 3) (numV 3 3) = (numV 4 6) from by kernel_rfl] at CQ
       go_wp2_with fail
       refine CQ.out.mono ?_
       rintro e w9 ⟨rfl, hs9, hr9⟩
       have HS9 := Lib.hid hs9
       have HR9 := Lib.hid (HRk.out.trans hr9 (fun _ _ h => h))
       clear d0 d1 d2 d3 d4 d5 CQ hs9 hr9
       go_wp2_with fail
       go_roundw
       case rel => exact ⟨4, by go_num, by omega, HS9.out, HR9.out⟩
       case measure => simp [intOf]
      ·skip
       have d0 := (cell_of_row wr PI 24 _ _ _ HKk.out.rowI).trans rfl
       have d1 := (cell_of_row wr PI 25 _ _ _ HKk.out.rowI).trans rfl
       have d2 := (cell_of_row wr PI 26 _ _ _ HKk.out.rowI).trans rfl
       have d3 := (cell_of_row wr PI 27 _ _ _ HKk.out.rowI).trans rfl
       have d4 := (cell_of_row wr PI 28 _ _ _ HKk.out.rowI).trans rfl
       have d5 := (cell_of_row wr PI 29 _ _ _ HKk.out.rowI).trans rfl
       have CQ := Lib.hid (kn_sum S (numV 4 6) (numV 0 0) _ wr HSk.out (leaf_in wr _ 0 0 (by omega) (by omega) 0) w.heap.size hSw (HT.out.mono HKk.out.below))
       rw [show kE_sum (numV 4 6) (numV 0 0) = 0 from by kernel_rfl] at CQ
       rw [show kS_sum (numV 4 6) (numV 0 0) = (numV 4 6) from by kernel_rfl] at CQ
       go_wp2_with fail
       refine CQ.out.mono ?_
       rintro e w9 ⟨rfl, hs9, hr9⟩
       have HS9 := Lib.hid hs9
       have HR9 := Lib.hid (HRk.out.trans hr9 (fun _ _ h => h))
       clear d0 d1 d2 d3 d4 d5 CQ hs9 hr9
       go_wp2_with fail
       go_roundw
       case rel => exact ⟨5, by go_num, by omega, HS9.out, HR9.out⟩
       case measure => simp [intOf]
      ·omega
     obtain rfl : k = 5 := by omega
     have HS5 : Hid (KSt wr S 12 (numV 4 6)) := HSk.out
     clear HSk hk hk5
     have CV := Lib.hid (kn_value S _ _ wr HS5.out)
     rw [show (orN (numV 4 6)).kind = 4 from by kernel_rfl, show (orN (numV 4 6)).n = 6 from by kernel_rfl] at CV
     have hx5 := box_rm2 HX6.out HRk.out (by omega)
     go_wp2_with fail
     refine CV.out.mono ?_
     rintro e w7 ⟨tv, av1, av2, av3, pv1, pv2, pv3, pv4, pv5, pv6, rfl, hb7⟩
     have HX7 := Lib.hid (hx5.keep hb7)
     have HK7 := Lib.hid (HKk.out.keep hb7)
     clear hx5
     obtain ⟨W8, hW8⟩ : ∃ W, W = w7.alloc (.cells #[.int .i64 4, .int .i64 6, .string tv, .slice av1 pv1 pv2, .slice av2 pv3 pv4, .slice av3 pv5 pv6] 32) := ⟨_, rfl⟩
     obtain ⟨P8, hP8⟩ : ∃ P, P = w7.heap.size := ⟨_, rfl⟩
     have hb8 : Below w7.heap.size w7 W8 := by rw [hW8]; exact (Below.refl _ _).alloc (Nat.le_refl _) _
     have hx8 : IsBox W8 P8 (.int .i64 4) (.int .i64 6) (.string tv) (.slice av1 pv1 pv2) (.slice av2 pv3 pv4) (.slice av3 pv5 pv6) := by rw [hW8, hP8]; exact IsBox.new w7 _ _ _ _ _ _
     have HK8 := Lib.hid (HK7.out.keep hb8)
     obtain ⟨c0, c1, c2, c3, c4, c5⟩ := (HX7.out.keep hb8).cells
     obtain ⟨e0, e1, e2, e3, e4, e5⟩ := hx8.cells
     have HW8 := Lib.hid hW8; have HP8 := Lib.hid hP8
     clear hb7 hb8 hx8 hW8 hP8 CV
     go_upto_region 19 with fail
     rw [← HW8.out, ← HP8.out]
     go_wp2_with fail
     go_roundw
     case rel =>
      first
      | exact ⟨1, by go_num, by omega, HK8.out⟩
      | (repeat apply Exists.intro; refine ⟨?_, rfl⟩; exact ⟨1, by go_num, by omega, HK8.out⟩)
     case measure => simp [intOf]
   ·skip
    have hcn := (cell_of_row wr PN 1 _ _ _ HK.out.rowN).trans rfl
    have CK := Lib.hid (kind12_any ⟨#[36, 109, 105, 110]⟩ 1 (by kernel_rfl) (by omega) (by omega) wr (HN.out.keep HK.out.below))
    obtain ⟨S, hS⟩ : ∃ s, s = wr.heap.size := ⟨_, rfl⟩
    have CN := Lib.hid (newk_least S wr hS (HT.out.mono HK.out.below).now)
    have hIS : PI < S := by rw [hS]; exact (Array.getElem?_eq_some_iff.1 HK.out.rowI).1
    have hNS : PN < S := by rw [hS]; exact (Array.getElem?_eq_some_iff.1 HK.out.rowN).1
    have hSw : w.heap.size ≤ S := by have := HK.out.below.size; omega
    have HS := Lib.hid hS
    clear hS
    go_wp2_with fail
    refine CK.out.mono ?_
    rintro e wk ⟨rfl, rfl⟩
    clear hcn CK
    go_wp2_with fail
    refine CN.out.mono ?_
    rintro e w3 ⟨rfl, hc3, hb3⟩
    have HK3 := Lib.hid (HK.out.keep hb3)
    clear CN
    have HS3 : Hid (KSt w3 S 15 (numV 0 0)) := ⟨_, st_new (by unfold Num.In; omega) (by unfold Num.In; omega) hc3 (fun g => g ≠ S) (fun h => h rfl) 0⟩
    clear hc3 hb3
    have CV := Lib.hid (kn_value S _ _ w3 HS3.out)
    rw [show (orN (numV 0 0)).kind = 2 from by kernel_rfl, show (orN (numV 0 0)).n = 0 from by kernel_rfl] at CV
    go_wp2_with fail
    refine CV.out.mono ?_
    rintro e w4 ⟨tu, au1, au2, au3, pu1, pu2, pu3, pu4, pu5, pu6, rfl, hb4⟩
    obtain ⟨W6, hW6⟩ : ∃ W, W = w4.alloc (.cells #[.int .i64 2, .int .i64 0, .string tu, .slice au1 pu1 pu2, .slice au2 pu3 pu4, .slice au3 pu5 pu6] 32) := ⟨_, rfl⟩
    obtain ⟨P6, hP6⟩ : ∃ P, P = w4.heap.size := ⟨_, rfl⟩
    have hb6 : Below w3.heap.size w3 W6 := by rw [hW6]; exact hb4.alloc hb4.size _
    have hx6 : IsBox W6 P6 (.int .i64 2) (.int .i64 0) (.string tu) (.slice au1 pu1 pu2) (.slice au2 pu3 pu4) (.slice au3 pu5 pu6) := by rw [hW6, hP6]; exact IsBox.new w4 _ _ _ _ _ _
    have hP6S : S < P6 := by have := HS3.out; obtain ⟨_, h⟩ := this; have := h.lt; have := hb4.size; omega
    have HS6 := Lib.hid (HS3.out.below hb6)
    have HK6 := Lib.hid (HK3.out.keep hb6)
    have HX6 := Lib.hid hx6
    have HW6 := Lib.hid hW6; have HP6 := Lib.hid hP6
    clear hb4 hb6 hx6 hW6 hP6 CV HS3
    go_upto_region 13 with fail
    rw [← HW6.out, ← HP6.out]
    go_wp2_with fail
    go_loopw [7] (fun k_ wq => ∃ k : Nat, k_ = .int .i64 k ∧ k ≤ 5 ∧ Hid (KSt wq S 15 ([(numV 0 0), (numV 0 0), (numV 0 0), (numV 4 3), (numV 4 3), (numV 4 3)].getD k (numV 0 0))) ∧ Hid (RM (fun g => g = S) W6 wq)) (fun k_ _ => 5 - (intOf k_).toNat)
    case atStart => exact ⟨0, rfl, Nat.zero_le _, HS6.out, RM.refl _ _⟩
    case round =>
     obtain ⟨k, rfl, hk5, HSk, HRk⟩ := hrel
     have HKk : Hid (KW w PI PN wr) := HK6.out.rm (HRk.out.mono (fun k _ h => by omega)) hSw hIS hNS
     by_cases hk : k < 5
     ·skip
      rcases k with _ | _ | _ | _ | _ | k
      ·skip
       have d0 := (cell_of_row wr PI 0 _ _ _ HKk.out.rowI).trans rfl
       have d1 := (cell_of_row wr PI 1 _ _ _ HKk.out.rowI).trans rfl
       have d2 := (cell_of_row wr PI 2 _ _ _ HKk.out.rowI).trans rfl
       have d3 := (cell_of_row wr PI 3 _ _ _ HKk.out.rowI).trans rfl
       have d4 := (cell_of_row wr PI 4 _ _ _ HKk.out.rowI).trans rfl
       have d5 := (cell_of_row wr PI 5 _ _ _ HKk.out.rowI).trans rfl
       have CQ := Lib.hid (kn_least S (numV 0 0) (numV 0 0) _ wr HSk.out (leaf_in wr _ 0 0 (by omega) (by omega) 0) w.heap.size hSw (HT.out.mono HKk.out.below))
       rw [show kS_least (numV 0 0) (numV 0 0) = (numV 0 0) from by kernel_rfl] at CQ
       go_wp2_with fail
       refine CQ.out.mono ?_
       rintro e w9 ⟨rfl, hs9, hr9⟩
       have HS9 := Lib.hid hs9
       have HR9 := Lib.hid (HRk.out.trans hr9 (fun _ _ h => h))
       clear d0 d1 d2 d3 d4 d5 CQ hs9 hr9
       go_wp2_with fail
       go_roundw
       case rel => exact ⟨1, by go_num, by omega, HS9.out, HR9.out⟩
       case measure => simp [intOf]
      ·skip
       have d0 := (cell_of_row wr PI 6 _ _ _ HKk.out.rowI).trans rfl
       have d1 := (cell_of_row wr PI 7 _ _ _ HKk.out.rowI).trans rfl
       have d2 := (cell_of_row wr PI 8 _ _ _ HKk.out.rowI).trans rfl
       have d3 := (cell_of_row wr PI 9 _ _ _ HKk.out.rowI).trans rfl
       have d4 := (cell_of_row wr PI 10 _ _ _ HKk.out.rowI).trans rfl
       have d5 := (cell_of_row wr PI 11 _ _ _ HKk.out.rowI).trans rfl
       have CQ := Lib.hid (kn_least S (numV 0 0) (numV 2 0) _ wr HSk.out (leaf_in wr _ 2 0 (by omega) (by omega) 0) w.heap.size hSw (HT.out.mono HKk.out.below))
       rw [show kS_least (numV 0 0) (numV 2 0) = (numV 0 0) from by kernel_rfl] at CQ
       go_wp2_with fail
       refine CQ.out.mono ?_
       rintro e w9 ⟨rfl, hs9, hr9⟩
       have HS9 := Lib.hid hs9
       have HR9 := Lib.hid (HRk.out.trans hr9 (fun _ _ h => h))
       clear d0 d1 d2 d3 d4 d5 CQ hs9 hr9
       go_wp2_with fail
       go_roundw
       case rel => exact ⟨2, by go_num, by omega, HS9.out, HR9.out⟩
       case measure => simp [intOf]
      ·skip
       have d0 := (cell_of_row wr PI 12 _ _ _ HKk.out.rowI).trans rfl
       have d1 := (cell_of_row wr PI 13 _ _ _ HKk.out.rowI).trans rfl
       have d2 := (cell_of_row wr PI 14 _ _ _ HKk.out.rowI).trans rfl
       have d3 := (cell_of_row wr PI 15 _ _ _ HKk.out.rowI).trans rfl
       have d4 := (cell_of_row wr PI 16 _ _ _ HKk.out.rowI).trans rfl
       have d5 := (cell_of_row wr PI 17 _ _ _ HKk.out.rowI).trans rfl
       have CQ := Lib.hid (kn_least S (numV 0 0) (numV 4 3) _ wr HSk.out (leaf_in wr _ 4 3 (by omega) (by omega) 0) w.heap.size hSw (HT.out.mono HKk.out.below))
       rw [show kS_least (numV 0 0) (numV 4 3) = (numV 4 3) from by kernel_rfl] at CQ
       go_wp2_with fail
       refine CQ.out.mono ?_
       rintro e w9 ⟨rfl, hs9, hr9⟩
       have HS9 := Lib.hid hs9
       have HR9 := Lib.hid (HRk.out.trans hr9 (fun _ _ h => h))
       clear d0 d1 d2 d3 d4 d5 CQ hs9 hr9
       go_wp2_with fail
       go_roundw
       case rel => exact ⟨3, by go_num, by omega, HS9.out, HR9.out⟩
       case measure => simp [intOf]
      ·skip
       have d0 := (cell_of_row wr PI 18 _ _ _ HKk.out.rowI).trans rfl
       have d1 := (cell_of_row wr PI 19 _ _ _ HKk.out.rowI).trans rfl
       have d2 := (cell_of_row wr PI 20 _ _ _ HKk.out.rowI).trans rfl
       have d3 := (cell_of_row wr PI 21 _ _ _ HKk.out.rowI).trans rfl
       have d4 := (cell_of_row wr PI 22 _ _ _ HKk.out.rowI).trans rfl
       have d5 := (cell_of_row wr PI 23 _ _ _ HKk.out.rowI).trans rfl
       have CQ := Lib.hid (kn_least S (numV 4 3) (numV 3 3) _ wr HSk.out (leaf_in wr _ 3 3 (by omega) (by omega) 0) w.heap.size hSw (HT.out.mono HKk.out.below))
       rw [show kS_least (numV 4 3) (numV 3 3) = (numV 4 3) from by kernel_rfl] at CQ
       go_wp2_with fail
       refine CQ.out.mono ?_
       rintro e w9 ⟨rfl, hs9, hr9⟩
       have HS9 := Lib.hid hs9
       have HR9 := Lib.hid (HRk.out.trans hr9 (fun _ _ h => h))
       clear d0 d1 d2 d3 d4 d5 CQ hs9 hr9
       go_wp2_with fail
       go_roundw
       case rel => exact ⟨4, by go_num, by omega, HS9.out, HR9.out⟩
       case measure => simp [intOf]
      ·skip
       have d0 := (cell_of_row wr PI 24 _ _ _ HKk.out.rowI).trans rfl
       have d1 := (cell_of_row wr PI 25 _ _ _ HKk.out.rowI).trans rfl
       have d2 := (cell_of_row wr PI 26 _ _ _ HKk.out.rowI).trans rfl
       have d3 := (cell_of_row wr PI 27 _ _ _ HKk.out.rowI).trans rfl
       have d4 := (cell_of_row wr PI 28 _ _ _ HKk.out.rowI).trans rfl
       have d5 := (cell_of_row wr PI 29 _ _ _ HKk.out.rowI).trans rfl
       have CQ := Lib.hid (kn_least S (numV 4 3) (numV 0 0) _ wr HSk.out (leaf_in wr _ 0 0 (by omega) (by omega) 0) w.heap.size hSw (HT.out.mono HKk.out.below))
       rw [show kS_least (numV 4 3) (numV 0 0) = (numV 4 3) from by kernel_rfl] at CQ
       go_wp2_with fail
       refine CQ.out.mono ?_
       rintro e w9 ⟨rfl, hs9, hr9⟩
       have HS9 := Lib.hid hs9
       have HR9 := Lib.hid (HRk.out.trans hr9 (fun _ _ h => h))
       clear d0 d1 d2 d3 d4 d5 CQ hs9 hr9
       go_wp2_with fail
       go_roundw
       case rel => exact ⟨5, by go_num, by omega, HS9.out, HR9.out⟩
       case measure => simp [intOf]
      ·omega
     obtain rfl : k = 5 := by omega
     have HS5 : Hid (KSt wr S 15 (numV 4 3)) := HSk.out
     clear HSk hk hk5
     have CV := Lib.hid (kn_value S _ _ wr HS5.out)
     rw [show (orN (numV 4 3)).kind = 4 from by kernel_rfl, show (orN (numV 4 3)).n = 3 from by kernel_rfl] at CV
     have hx5 := box_rm2 HX6.out HRk.out (by omega)
     go_wp2_with fail
     refine CV.out.mono ?_
     rintro e w7 ⟨tv, av1, av2, av3, pv1, pv2, pv3, pv4, pv5, pv6, rfl, hb7⟩
     have HX7 := Lib.hid (hx5.keep hb7)
     have HK7 := Lib.hid (HKk.out.keep hb7)
     clear hx5
     obtain ⟨W8, hW8⟩ : ∃ W, W = w7.alloc (.cells #[.int .i64 4, .int .i64 3, .string tv, .slice av1 pv1 pv2, .slice av2 pv3 pv4, .slice av3 pv5 pv6] 32) := ⟨_, rfl⟩
     obtain ⟨P8, hP8⟩ : ∃ P, P = w7.heap.size := ⟨_, rfl⟩
     have hb8 : Below w7.heap.size w7 W8 := by rw [hW8]; exact (Below.refl _ _).alloc (Nat.le_refl _) _
     have hx8 : IsBox W8 P8 (.int .i64 4) (.int .i64 3) (.string tv) (.slice av1 pv1 pv2) (.slice av2 pv3 pv4) (.slice av3 pv5 pv6) := by rw [hW8, hP8]; exact IsBox.new w7 _ _ _ _ _ _
     have HK8 := Lib.hid (HK7.out.keep hb8)
     obtain ⟨c0, c1, c2, c3, c4, c5⟩ := (HX7.out.keep hb8).cells
     obtain ⟨e0, e1, e2, e3, e4, e5⟩ := hx8.cells
     have HW8 := Lib.hid hW8; have HP8 := Lib.hid hP8
     clear hb7 hb8 hx8 hW8 hP8 CV
     go_upto_region 19 with fail
     rw [← HW8.out, ← HP8.out]
     go_wp2_with fail
     go_roundw
     case rel =>
      first
      | exact ⟨2, by go_num, by omega, HK8.out⟩
      | (repeat apply Exists.intro; refine ⟨?_, rfl⟩; exact ⟨2, by go_num, by omega, HK8.out⟩)
     case measure => simp [intOf]
   ·skip
    have hcn := (cell_of_row wr PN 2 _ _ _ HK.out.rowN).trans rfl
    have CK := Lib.hid (kind12_any ⟨#[36, 109, 97, 120]⟩ 2 (by kernel_rfl) (by omega) (by omega) wr (HN.out.keep HK.out.below))
    obtain ⟨S, hS⟩ : ∃ s, s = wr.heap.size := ⟨_, rfl⟩
    have CN := Lib.hid (newk_greatest S wr hS (HT.out.mono HK.out.below).now)
    have hIS : PI < S := by rw [hS]; exact (Array.getElem?_eq_some_iff.1 HK.out.rowI).1
    have hNS : PN < S := by rw [hS]; exact (Array.getElem?_eq_some_iff.1 HK.out.rowN).1
    have hSw : w.heap.size ≤ S := by have := HK.out.below.size; omega
    have HS := Lib.hid hS
    clear hS
    go_wp2_with fail
    refine CK.out.mono ?_
    rintro e wk ⟨rfl, rfl⟩
    clear hcn CK
    go_wp2_with fail
    refine CN.out.mono ?_
    rintro e w3 ⟨rfl, hc3, hb3⟩
    have HK3 := Lib.hid (HK.out.keep hb3)
    clear CN
    have HS3 : Hid (KSt w3 S 16 (numV 0 0)) := ⟨_, st_new (by unfold Num.In; omega) (by unfold Num.In; omega) hc3 (fun g => g ≠ S) (fun h => h rfl) 0⟩
    clear hc3 hb3
    have CV := Lib.hid (kn_value S _ _ w3 HS3.out)
    rw [show (orN (numV 0 0)).kind = 2 from by kernel_rfl, show (orN (numV 0 0)).n = 0 from by kernel_rfl] at CV
    go_wp2_with fail
    refine CV.out.mono ?_
    rintro e w4 ⟨tu, au1, au2, au3, pu1, pu2, pu3, pu4, pu5, pu6, rfl, hb4⟩
    obtain ⟨W6, hW6⟩ : ∃ W, W = w4.alloc (.cells #[.int .i64 2, .int .i64 0, .string tu, .slice au1 pu1 pu2, .slice au2 pu3 pu4, .slice au3 pu5 pu6] 32) := ⟨_, rfl⟩
    obtain ⟨P6, hP6⟩ : ∃ P, P = w4.heap.size := ⟨_, rfl⟩
    have hb6 : Below w3.heap.size w3 W6 := by rw [hW6]; exact hb4.alloc hb4.size _
    have hx6 : IsBox W6 P6 (.int .i64 2) (.int .i64 0) (.string tu) (.slice au1 pu1 pu2) (.slice au2 pu3 pu4) (.slice au3 pu5 pu6) := by rw [hW6, hP6]; exact IsBox.new w4 _ _ _ _ _ _
    have hP6S : S < P6 := by have := HS3.out; obtain ⟨_, h⟩ := this; have := h.lt; have := hb4.size; omega
    have HS6 := Lib.hid (HS3.out.below hb6)
    have HK6 := Lib.hid (HK3.out.keep hb6)
    have HX6 := Lib.hid hx6
    have HW6 := Lib.hid hW6; have HP6 := Lib.hid hP6
    clear hb4 hb6 hx6 hW6 hP6 CV HS3
    go_upto_region 13 with fail
    rw [← HW6.out, ← HP6.out]
    go_wp2_with fail
    go_loopw [7] (fun k_ wq => ∃ k : Nat, k_ = .int .i64 k ∧ k ≤ 5 ∧ Hid (KSt wq S 16 ([(numV 0 0), (numV 0 0), (numV 0 0), (numV 4 3), (numV 4 3), (numV 4 3)].getD k (numV 0 0))) ∧ Hid (RM (fun g => g = S) W6 wq)) (fun k_ _ => 5 - (intOf k_).toNat)
    case atStart => exact ⟨0, rfl, Nat.zero_le _, HS6.out, RM.refl _ _⟩
    case round =>
     obtain ⟨k, rfl, hk5, HSk, HRk⟩ := hrel
     have HKk : Hid (KW w PI PN wr) := HK6.out.rm (HRk.out.mono (fun k _ h => by omega)) hSw hIS hNS
     by_cases hk : k < 5
     ·skip
      rcases k with _ | _ | _ | _ | _ | k
      ·skip
       have d0 := (cell_of_row wr PI 0 _ _ _ HKk.out.rowI).trans rfl
       have d1 := (cell_of_row wr PI 1 _ _ _ HKk.out.rowI).trans rfl
       have d2 := (cell_of_row wr PI 2 _ _ _ HKk.out.rowI).trans rfl
       have d3 := (cell_of_row wr PI 3 _ _ _ HKk.out.rowI).trans rfl
       have d4 := (cell_of_row wr PI 4 _ _ _ HKk.out.rowI).trans rfl
       have d5 := (cell_of_row wr PI 5 _ _ _ HKk.out.rowI).trans rfl
       have CQ := Lib.hid (kn_greatest S (numV 0 0) (numV 0 0) _ wr HSk.out (leaf_in wr _ 0 0 (by omega) (by omega) 0) w.heap.size hSw (HT.out.mono HKk.out.below))
       rw [show kS_greatest (numV 0 0) (numV 0 0) = (numV 0 0) from by kernel_rfl] at CQ
       go_wp2_with fail
       refine CQ.out.mono ?_
       rintro e w9 ⟨rfl, hs9, hr9⟩
       have HS9 := Lib.hid hs9
       have HR9 := Lib.hid (HRk.out.trans hr9 (fun _ _ h => h))
       clear d0 d1 d2 d3 d4 d5 CQ hs9 hr9
       go_wp2_with fail
       go_roundw
       case rel => exact ⟨1, by go_num, by omega, HS9.out, HR9.out⟩
       case measure => simp [intOf]
      ·skip
       have d0 := (cell_of_row wr PI 6 _ _ _ HKk.out.rowI).trans rfl
       have d1 := (cell_of_row wr PI 7 _ _ _ HKk.out.rowI).trans rfl
       have d2 := (cell_of_row wr PI 8 _ _ _ HKk.out.rowI).trans rfl
       have d3 := (cell_of_row wr PI 9 _ _ _ HKk.out.rowI).trans rfl
       have d4 := (cell_of_row wr PI 10 _ _ _ HKk.out.rowI).trans rfl
       have d5 := (cell_of_row wr PI 11 _ _ _ HKk.out.rowI).trans rfl
       have CQ := Lib.hid (kn_greatest S (numV 0 0) (numV 2 0) _ wr HSk.out (leaf_in wr _ 2 0 (by omega) (by omega) 0) w.heap.size hSw (HT.out.mono HKk.out.below))
       rw [show kS_greatest (numV 0 0) (numV 2 0) = (numV 0 0) from by kernel_rfl] at CQ
       go_wp2_with fail
       refine CQ.out.mono ?_
       rintro e w9 ⟨rfl, hs9, hr9⟩
       have HS9 := Lib.hid hs9
       have HR9 := Lib.hid (HRk.out.trans hr9 (fun _ _ h => h))
       clear d0 d1 d2 d3 d4 d5 CQ hs9 hr9
       go_wp2_with fail
       go_roundw
       case rel => exact ⟨2, by go_num, by omega, HS9.out, HR9.out⟩
       case measure => simp [intOf]
      ·skip
       have d0 := (cell_of_row wr PI 12 _ _ _ HKk.out.rowI).trans rfl
       have d1 := (cell_of_row wr PI 13 _ _ _ HKk.out.rowI).trans rfl
       have d2 := (cell_of_row wr PI 14 _ _ _ HKk.out.rowI).trans rfl
       have d3 := (cell_of_row wr PI 15 _ _ _ HKk.out.rowI).trans rfl
       have d4 := (cell_of_row wr PI 16 _ _ _ HKk.out.rowI).trans rfl
       have d5 := (cell_of_row wr PI 17 _ _ _ HKk.out.rowI).trans rfl
       have CQ := Lib.hid (kn_greatest S (numV 0 0) (numV 4 3) _ wr HSk.out (leaf_in wr _ 4 3 (by omega) (by omega) 0) w.heap.size hSw (HT.out.mono HKk.out.below))
       rw [show kS_greatest (numV 0 0) (numV 4 3) = (numV 4 3) from by kernel_rfl] at CQ
       go_wp2_with fail
       refine CQ.out.mono ?_
       rintro e w9 ⟨rfl, hs9, hr9⟩
       have HS9 := Lib.hid hs9
       have HR9 := Lib.hid (HRk.out.trans hr9 (fun _ _ h => h))
       clear d0 d1 d2 d3 d4 d5 CQ hs9 hr9
       go_wp2_with fail
       go_roundw
       case rel => exact ⟨3, by go_num, by omega, HS9.out, HR9.out⟩
       case measure => simp [intOf]
      ·skip
       have d0 := (cell_of_row wr PI 18 _ _ _ HKk.out.rowI).trans rfl
       have d1 := (cell_of_row wr PI 19 _ _ _ HKk.out.rowI).trans rfl
       have d2 := (cell_of_row wr PI 20 _ _ _ HKk.out.rowI).trans rfl
       have d3 := (cell_of_row wr PI 21 _ _ _ HKk.out.rowI).trans rfl
       have d4 := (cell_of_row wr PI 22 _ _ _ HKk.out.rowI).trans rfl
       have d5 := (cell_of_row wr PI 23 _ _ _ HKk.out.rowI).trans rfl
       have CQ := Lib.hid (kn_greatest S (numV 4 3) (numV 3 3) _ wr HSk.out (leaf_in wr _ 3 3 (by omega) (by omega) 0) w.heap.size hSw (HT.out.mono HKk.out.below))
       rw [show kS_greatest (numV 4 3) (numV 3 3) = (numV 4 3) from by kernel_rfl] at CQ
       go_wp2_with fail
       refine CQ.out.mono ?_
       rintro e w9 ⟨rfl, hs9, hr9⟩
       have HS9 := Lib.hid hs9
       have HR9 := Lib.hid (HRk.out.trans hr9 (fun _ _ h => h))
       clear d0 d1 d2 d3 d4 d5 CQ hs9 hr9
       go_wp2_with fail
       go_roundw
       case rel => exact ⟨4, by go_num, by omega, HS9.out, HR9.out⟩
       case measure => simp [intOf]
      ·skip
       have d0 := (cell_of_row wr PI 24 _ _ _ HKk.out.rowI).trans rfl
       have d1 := (cell_of_row wr PI 25 _ _ _ HKk.out.rowI).trans rfl
       have d2 := (cell_of_row wr PI 26 _ _ _ HKk.out.rowI).trans rfl
       have d3 := (cell_of_row wr PI 27 _ _ _ HKk.out.rowI).trans rfl
       have d4 := (cell_of_row wr PI 28 _ _ _ HKk.out.rowI).trans rfl
       have d5 := (cell_of_row wr PI 29 _ _ _ HKk.out.rowI).trans rfl
       have CQ := Lib.hid (kn_greatest S (numV 4 3) (numV 0 0) _ wr HSk.out (leaf_in wr _ 0 0 (by omega) (by omega) 0) w.heap.size hSw (HT.out.mono HKk.out.below))
       rw [show kS_greatest (numV 4 3) (numV 0 0) = (numV 4 3) from by kernel_rfl] at CQ
       go_wp2_with fail
       refine CQ.out.mono ?_
       rintro e w9 ⟨rfl, hs9, hr9⟩
       have HS9 := Lib.hid hs9
       have HR9 := Lib.hid (HRk.out.trans hr9 (fun _ _ h => h))
       clear d0 d1 d2 d3 d4 d5 CQ hs9 hr9
       go_wp2_with fail
       go_roundw
       case rel => exact ⟨5, by go_num, by omega, HS9.out, HR9.out⟩
       case measure => simp [intOf]
      ·omega
     obtain rfl : k = 5 := by omega
     have HS5 : Hid (KSt wr S 16 (numV 4 3)) := HSk.out
     clear HSk hk hk5
     have CV := Lib.hid (kn_value S _ _ wr HS5.out)
     rw [show (orN (numV 4 3)).kind = 4 from by kernel_rfl, show (orN (numV 4 3)).n = 3 from by kernel_rfl] at CV
     have hx5 := box_rm2 HX6.out HRk.out (by omega)
     go_wp2_with fail
     refine CV.out.mono ?_
     rintro e w7 ⟨tv, av1, av2, av3, pv1, pv2, pv3, pv4, pv5, pv6, rfl, hb7⟩
     have HX7 := Lib.hid (hx5.keep hb7)
     have HK7 := Lib.hid (HKk.out.keep hb7)
     clear hx5
     obtain ⟨W8, hW8⟩ : ∃ W, W = w7.alloc (.cells #[.int .i64 4, .int .i64 3, .string tv, .slice av1 pv1 pv2, .slice av2 pv3 pv4, .slice av3 pv5 pv6] 32) := ⟨_, rfl⟩
     obtain ⟨P8, hP8⟩ : ∃ P, P = w7.heap.size := ⟨_, rfl⟩
     have hb8 : Below w7.heap.size w7 W8 := by rw [hW8]; exact (Below.refl _ _).alloc (Nat.le_refl _) _
     have hx8 : IsBox W8 P8 (.int .i64 4) (.int .i64 3) (.string tv) (.slice av1 pv1 pv2) (.slice av2 pv3 pv4) (.slice av3 pv5 pv6) := by rw [hW8, hP8]; exact IsBox.new w7 _ _ _ _ _ _
     have HK8 := Lib.hid (HK7.out.keep hb8)
     obtain ⟨c0, c1, c2, c3, c4, c5⟩ := (HX7.out.keep hb8).cells
     obtain ⟨e0, e1, e2, e3, e4, e5⟩ := hx8.cells
     have HW8 := Lib.hid hW8; have HP8 := Lib.hid hP8
     clear hb7 hb8 hx8 hW8 hP8 CV
     go_upto_region 19 with fail
     rw [← HW8.out, ← HP8.out]
     go_wp2_with fail
     go_roundw
     case rel =>
      first
      | exact ⟨3, by go_num, by omega, HK8.out⟩
      | (repeat apply Exists.intro; refine ⟨?_, rfl⟩; exact ⟨3, by go_num, by omega, HK8.out⟩)
     case measure => simp [intOf]
   ·skip
    have hcn := (cell_of_row wr PN 3 _ _ _ HK.out.rowN).trans rfl
    have CK := Lib.hid (kind12_any ⟨#[36, 102, 105, 114, 115, 116]⟩ 3 (by kernel_rfl) (by omega) (by omega) wr (HN.out.keep HK.out.below))
    obtain ⟨S, hS⟩ : ∃ s, s = wr.heap.size := ⟨_, rfl⟩
    have CN := Lib.hid (newk_first S wr hS (HT.out.mono HK.out.below).now)
    have hIS : PI < S := by rw [hS]; exact (Array.getElem?_eq_some_iff.1 HK.out.rowI).1
    have hNS : PN < S := by rw [hS]; exact (Array.getElem?_eq_some_iff.1 HK.out.rowN).1
    have hSw : w.heap.size ≤ S := by have := HK.out.below.size; omega
    have HS := Lib.hid hS
    clear hS
    go_wp2_with fail
    refine CK.out.mono ?_
    rintro e wk ⟨rfl, rfl⟩
    clear hcn CK
    go_wp2_with fail
    refine CN.out.mono ?_
    rintro e w3 ⟨rfl, hc3, hb3⟩
    have HK3 := Lib.hid (HK.out.keep hb3)
    clear CN
    have HS3 : Hid (KSt w3 S 17 (numV 0 0)) := ⟨_, st_new (by unfold Num.In; omega) (by unfold Num.In; omega) hc3 (fun g => g ≠ S) (fun h => h rfl) 0⟩
    clear hc3 hb3
    have CV := Lib.hid (kn_value S _ _ w3 HS3.out)
    rw [show (orN (numV 0 0)).kind = 2 from by kernel_rfl, show (orN (numV 0 0)).n = 0 from by kernel_rfl] at CV
    go_wp2_with fail
    refine CV.out.mono ?_
    rintro e w4 ⟨tu, au1, au2, au3, pu1, pu2, pu3, pu4, pu5, pu6, rfl, hb4⟩
    obtain ⟨W6, hW6⟩ : ∃ W, W = w4.alloc (.cells #[.int .i64 2, .int .i64 0, .string tu, .slice au1 pu1 pu2, .slice au2 pu3 pu4, .slice au3 pu5 pu6] 32) := ⟨_, rfl⟩
    obtain ⟨P6, hP6⟩ : ∃ P, P = w4.heap.size := ⟨_, rfl⟩
    have hb6 : Below w3.heap.size w3 W6 := by rw [hW6]; exact hb4.alloc hb4.size _
    have hx6 : IsBox W6 P6 (.int .i64 2) (.int .i64 0) (.string tu) (.slice au1 pu1 pu2) (.slice au2 pu3 pu4) (.slice au3 pu5 pu6) := by rw [hW6, hP6]; exact IsBox.new w4 _ _ _ _ _ _
    have hP6S : S < P6 := by have := HS3.out; obtain ⟨_, h⟩ := this; have := h.lt; have := hb4.size; omega
    have HS6 := Lib.hid (HS3.out.below hb6)
    have HK6 := Lib.hid (HK3.out.keep hb6)
    have HX6 := Lib.hid hx6
    have HW6 := Lib.hid hW6; have HP6 := Lib.hid hP6
    clear hb4 hb6 hx6 hW6 hP6 CV HS3
    go_upto_region 13 with fail
    rw [← HW6.out, ← HP6.out]
    go_wp2_with fail
    go_loopw [7] (fun k_ wq => ∃ k : Nat, k_ = .int .i64 k ∧ k ≤ 5 ∧ Hid (KSt wq S 17 ([(numV 0 0), (numV 2 0), (numV 2 0), (numV 2 0), (numV 2 0), (numV 2 0)].getD k (numV 0 0))) ∧ Hid (RM (fun g => g = S) W6 wq)) (fun k_ _ => 5 - (intOf k_).toNat)
    case atStart => exact ⟨0, rfl, Nat.zero_le _, HS6.out, RM.refl _ _⟩
    case round =>
     obtain ⟨k, rfl, hk5, HSk, HRk⟩ := hrel
     have HKk : Hid (KW w PI PN wr) := HK6.out.rm (HRk.out.mono (fun k _ h => by omega)) hSw hIS hNS
     by_cases hk : k < 5
     ·skip
      rcases k with _ | _ | _ | _ | _ | k
      ·skip
       have d0 := (cell_of_row wr PI 0 _ _ _ HKk.out.rowI).trans rfl
       have d1 := (cell_of_row wr PI 1 _ _ _ HKk.out.rowI).trans rfl
       have d2 := (cell_of_row wr PI 2 _ _ _ HKk.out.rowI).trans rfl
       have d3 := (cell_of_row wr PI 3 _ _ _ HKk.out.rowI).trans rfl
       have d4 := (cell_of_row wr PI 4 _ _ _ HKk.out.rowI).trans rfl
       have d5 := (cell_of_row wr PI 5 _ _ _ HKk.out.rowI).trans rfl
       have CQ := Lib.hid (kn_first S (numV 0 0) (numV 0 0) _ wr HSk.out (leaf_in wr _ 0 0 (by omega) (by omega) 0) w.heap.size hSw (HT.out.mono HKk.out.below))
       rw [show kS_first (numV 0 0) (numV 0 0) = (numV 2 0) from by kernel_rfl] at CQ
       go_wp2_with fail
       refine CQ.out.mono ?_
       rintro e w9 ⟨rfl, hs9, hr9⟩
       have HS9 := Lib.hid hs9
       have HR9 := Lib.hid (HRk.out.trans hr9 (fun _ _ h => h))
       clear d0 d1 d2 d3 d4 d5 CQ hs9 hr9
       go_wp2_with fail
       go_roundw
       case rel => exact ⟨1, by go_num, by omega, HS9.out, HR9.out⟩
       case measure => simp [intOf]
      ·skip
       have d0 := (cell_of_row wr PI 6 _ _ _ HKk.out.rowI).trans rfl
       have d1 := (cell_of_row wr PI 7 _ _ _ HKk.out.rowI).trans rfl
       have d2 := (cell_of_row wr PI 8 _ _ _ HKk.out.rowI).trans rfl
       have d3 := (cell_of_row wr PI 9 _ _ _ HKk.out.rowI).trans rfl
       have d4 := (cell_of_row wr PI 10 _ _ _ HKk.out.rowI).trans rfl
       have d5 := (cell_of_row wr PI 11 _ _ _ HKk.out.rowI).trans rfl
       have CQ := Lib.hid (kn_first S (numV 2 0) (numV 2 0) _ wr HSk.out (leaf_in wr _ 2 0 (by omega) (by omega) 0) w.heap.size hSw (HT.out.mono HKk.out.below))
       rw [show kS_first (numV 2 0) (numV 2 0) = (numV 2 0) from by kernel_rfl] at CQ
       go_wp2_with fail
       refine CQ.out.mono ?_
       rintro e w9 ⟨rfl, hs9, hr9⟩
       have HS9 := Lib.hid hs9
       have HR9 := Lib.hid (HRk.out.trans hr9 (fun _ _ h => h))
       clear d0 d1 d2 d3 d4 d5 CQ hs9 hr9
       go_wp2_with fail
       go_roundw
       case rel => exact ⟨2, by go_num, by omega, HS9.out, HR9.out⟩
       case measure => simp [intOf]
      ·skip
       have d0 := (cell_of_row wr PI 12 _ _ _ HKk.out.rowI).trans rfl
       have d1 := (cell_of_row wr PI 13 _ _ _ HKk.out.rowI).trans rfl
       have d2 := (cell_of_row wr PI 14 _ _ _ HKk.out.rowI).trans rfl
       have d3 := (cell_of_row wr PI 15 _ _ _ HKk.out.rowI).trans rfl
       have d4 := (cell_of_row wr PI 16 _ _ _ HKk.out.rowI).trans rfl
       have d5 := (cell_of_row wr PI 17 _ _ _ HKk.out.rowI).trans rfl
       have CQ := Lib.hid (kn_first S (numV 2 0) (numV 4 3) _ wr HSk.out (leaf_in wr _ 4 3 (by omega) (by omega) 0) w.heap.size hSw (HT.out.mono HKk.out.below))
       rw [show kS_first (numV 2 0) (numV 4 3) = (numV 2 0) from by kernel_rfl] at CQ
       go_wp2_with fail
       refine CQ.out.mono ?_
       rintro e w9 ⟨rfl, hs9, hr9⟩
       have HS9 := Lib.hid hs9
       have HR9 := Lib.hid (HRk.out.trans hr9 (fun _ _ h => h))
       clear d0 d1 d2 d3 d4 d5 CQ hs9 hr9
       go_wp2_with fail
       go_roundw
       case rel => exact ⟨3, by go_num, by omega, HS9.out, HR9.out⟩
       case measure => simp [intOf]
      ·skip
       have d0 := (cell_of_row wr PI 18 _ _ _ HKk.out.rowI).trans rfl
       have d1 := (cell_of_row wr PI 19 _ _ _ HKk.out.rowI).trans rfl
       have d2 := (cell_of_row wr PI 20 _ _ _ HKk.out.rowI).trans rfl
       have d3 := (cell_of_row wr PI 21 _ _ _ HKk.out.rowI).trans rfl
       have d4 := (cell_of_row wr PI 22 _ _ _ HKk.out.rowI).trans rfl
       have d5 := (cell_of_row wr PI 23 _ _ _ HKk.out.rowI).trans rfl
       have CQ := Lib.hid (kn_first S (numV 2 0) (numV 3 3) _ wr HSk.out (leaf_in wr _ 3 3 (by omega) (by omega) 0) w.heap.size hSw (HT.out.mono HKk.out.below))
       rw [show kS_first (numV 2 0) (numV 3 3) = (numV 2 0) from by kernel_rfl] at CQ
       go_wp2_with fail
       refine CQ.out.mono ?_
       rintro e w9 ⟨rfl, hs9, hr9⟩
       have HS9 := Lib.hid hs9
       have HR9 := Lib.hid (HRk.out.trans hr9 (fun _ _ h => h))
       clear d0 d1 d2 d3 d4 d5 CQ hs9 hr9
       go_wp2_with fail
       go_roundw
       case rel => exact ⟨4, by go_num, by omega, HS9.out, HR9.out⟩
       case measure => simp [intOf]
      ·skip
       have d0 := (cell_of_row wr PI 24 _ _ _ HKk.out.rowI).trans rfl
       have d1 := (cell_of_row wr PI 25 _ _ _ HKk.out.rowI).trans rfl
       have d2 := (cell_of_row wr PI 26 _ _ _ HKk.out.rowI).trans rfl
       have d3 := (cell_of_row wr PI 27 _ _ _ HKk.out.rowI).trans rfl
       have d4 := (cell_of_row wr PI 28 _ _ _ HKk.out.rowI).trans rfl
       have d5 := (cell_of_row wr PI 29 _ _ _ HKk.out.rowI).trans rfl
       have CQ := Lib.hid (kn_first S (numV 2 0) (numV 0 0) _ wr HSk.out (leaf_in wr _ 0 0 (by omega) (by omega) 0) w.heap.size hSw (HT.out.mono HKk.out.below))
       rw [show kS_first (numV 2 0) (numV 0 0) = (numV 2 0) from by kernel_rfl] at CQ
       go_wp2_with fail
       refine CQ.out.mono ?_
       rintro e w9 ⟨rfl, hs9, hr9⟩
       have HS9 := Lib.hid hs9
       have HR9 := Lib.hid (HRk.out.trans hr9 (fun _ _ h => h))
       clear d0 d1 d2 d3 d4 d5 CQ hs9 hr9
       go_wp2_with fail
       go_roundw
       case rel => exact ⟨5, by go_num, by omega, HS9.out, HR9.out⟩
       case measure => simp [intOf]
      ·omega
     obtain rfl : k = 5 := by omega
     have HS5 : Hid (KSt wr S 17 (numV 2 0)) := HSk.out
     clear HSk hk hk5
     have CV := Lib.hid (kn_value S _ _ wr HS5.out)
     rw [show (orN (numV 2 0)).kind = 2 from by kernel_rfl, show (orN (numV 2 0)).n = 0 from by kernel_rfl] at CV
     have hx5 := box_rm2 HX6.out HRk.out (by omega)
     go_wp2_with fail
     refine CV.out.mono ?_
     rintro e w7 ⟨tv, av1, av2, av3, pv1, pv2, pv3, pv4, pv5, pv6, rfl, hb7⟩
     have HX7 := Lib.hid (hx5.keep hb7)
     have HK7 := Lib.hid (HKk.out.keep hb7)
     clear hx5
     obtain ⟨W8, hW8⟩ : ∃ W, W = w7.alloc (.cells #[.int .i64 2, .int .i64 0, .string tv, .slice av1 pv1 pv2, .slice av2 pv3 pv4, .slice av3 pv5 pv6] 32) := ⟨_, rfl⟩
     obtain ⟨P8, hP8⟩ : ∃ P, P = w7.heap.size := ⟨_, rfl⟩
     have hb8 : Below w7.heap.size w7 W8 := by rw [hW8]; exact (Below.refl _ _).alloc (Nat.le_refl _) _
     have hx8 : IsBox W8 P8 (.int .i64 2) (.int .i64 0) (.string tv) (.slice av1 pv1 pv2) (.slice av2 pv3 pv4) (.slice av3 pv5 pv6) := by rw [hW8, hP8]; exact IsBox.new w7 _ _ _ _ _ _
     have HK8 := Lib.hid (HK7.out.keep hb8)
     obtain ⟨c0, c1, c2, c3, c4, c5⟩ := (HX7.out.keep hb8).cells
     obtain ⟨e0, e1, e2, e3, e4, e5⟩ := hx8.cells
     have HW8 := Lib.hid hW8; have HP8 := Lib.hid hP8
     clear hb7 hb8 hx8 hW8 hP8 CV
     go_upto_region 19 with fail
     rw [← HW8.out, ← HP8.out]
     go_wp2_with fail
     go_roundw
     case rel =>
      first
      | exact ⟨4, by go_num, by omega, HK8.out⟩
      | (repeat apply Exists.intro; refine ⟨?_, rfl⟩; exact ⟨4, by go_num, by omega, HK8.out⟩)
     case measure => simp [intOf]
   ·skip
    have hcn := (cell_of_row wr PN 4 _ _ _ HK.out.rowN).trans rfl
    have CK := Lib.hid (kind12_any ⟨#[36, 108, 97, 115, 116]⟩ 4 (by kernel_rfl) (by omega) (by omega) wr (HN.out.keep HK.out.below))
    obtain ⟨S, hS⟩ : ∃ s, s = wr.heap.size := ⟨_, rfl⟩
    have CN := Lib.hid (newk_last S wr hS (HT.out.mono HK.out.below).now)
    have hIS : PI < S := by rw [hS]; exact (Array.getElem?_eq_some_iff.1 HK.out.rowI).1
    have hNS : PN < S := by rw [hS]; exact (Array.getElem?_eq_some_iff.1 HK.out.rowN).1
    have hSw : w.heap.size ≤ S := by have := HK.out.below.size; omega
    have HS := Lib.hid hS
    clear hS
    go_wp2_with fail
    refine CK.out.mono ?_
    rintro e wk ⟨rfl, rfl⟩
    clear hcn CK
    go_wp2_with fail
    refine CN.out.mono ?_
    rintro e w3 ⟨rfl, hc3, hb3⟩
    have HK3 := Lib.hid (HK.out.keep hb3)
    clear CN
    have HS3 : Hid (KSt w3 S 18 (numV 0 0)) := ⟨_, st_new (by unfold Num.In; omega) (by unfold Num.In; omega) hc3 (fun g => g ≠ S) (fun h => h rfl) 0⟩
    clear hc3 hb3
    have CV := Lib.hid (kn_value S _ _ w3 HS3.out)
    rw [show (orN (numV 0 0)).kind = 2 from by kernel_rfl, show (orN (numV 0 0)).n = 0 from by kernel_rfl] at CV
    go_wp2_with fail
    refine CV.out.mono ?_
    rintro e w4 ⟨tu, au1, au2, au3, pu1, pu2, pu3, pu4, pu5, pu6, rfl, hb4⟩
    obtain ⟨W6, hW6⟩ : ∃ W, W = w4.alloc (.cells #[.int .i64 2, .int .i64 0, .string tu, .slice au1 pu1 pu2, .slice au2 pu3 pu4, .slice au3 pu5 pu6] 32) := ⟨_, rfl⟩
    obtain ⟨P6, hP6⟩ : ∃ P, P = w4.heap.size := ⟨_, rfl⟩
    have hb6 : Below w3.heap.size w3 W6 := by rw [hW6]; exact hb4.alloc hb4.size _
    have hx6 : IsBox W6 P6 (.int .i64 2) (.int .i64 0) (.string tu) (.slice au1 pu1 pu2) (.slice au2 pu3 pu4) (.slice au3 pu5 pu6) := by rw [hW6, hP6]; exact IsBox.new w4 _ _ _ _ _ _
    have hP6S : S < P6 := by have := HS3.out; obtain ⟨_, h⟩ := this; have := h.lt; have := hb4.size; omega
    have HS6 := Lib.hid (HS3.out.below hb6)
    have HK6 := Lib.hid (HK3.out.keep hb6)
    have HX6 := Lib.hid hx6
    have HW6 := Lib.hid hW6; have HP6 := Lib.hid hP6
    clear hb4 hb6 hx6 hW6 hP6 CV HS3
    go_upto_region 13 with fail
    rw [← HW6.out, ← HP6.out]
    go_wp2_with fail
    go_loopw [7] (fun k_ wq => ∃ k : Nat, k_ = .int .i64 k ∧ k ≤ 5 ∧ Hid (KSt wq S 18 ([(numV 0 0), (numV 2 0), (numV 2 0), (numV 4 3), (numV 3 3), (numV 2 0)].getD k (numV 0 0))) ∧ Hid (RM (fun g => g = S) W6 wq)) (fun k_ _ => 5 - (intOf k_).toNat)
    case atStart => exact ⟨0, rfl, Nat.zero_le _, HS6.out, RM.refl _ _⟩
    case round =>
     obtain ⟨k, rfl, hk5, HSk, HRk⟩ := hrel
     have HKk : Hid (KW w PI PN wr) := HK6.out.rm (HRk.out.mono (fun k _ h => by omega)) hSw hIS hNS
     by_cases hk : k < 5
     ·skip
      rcases k with _ | _ | _ | _ | _ | k
      ·skip
       have d0 := (cell_of_row wr PI 0 _ _ _ HKk.out.rowI).trans rfl
       have d1 := (cell_of_row wr PI 1 _ _ _ HKk.out.rowI).trans rfl
       have d2 := (cell_of_row wr PI 2 _ _ _ HKk.out.rowI).trans rfl
       have d3 := (cell_of_row wr PI 3 _ _ _ HKk.out.rowI).trans rfl
       have d4 := (cell_of_row wr PI 4 _ _ _ HKk.out.rowI).trans rfl
       have d5 := (cell_of_row wr PI 5 _ _ _ HKk.out.rowI).trans rfl
       have CQ := Lib.hid (kn_last S (numV 0 0) (numV 0 0) _ wr HSk.out (leaf_in wr _ 0 0 (by omega) (by omega) 0) w.heap.size hSw (HT.out.mono HKk.out.below))
       rw [show kS_last (numV 0 0) (numV 0 0) = (numV 2 0) from by kernel_rfl] at CQ
       go_wp2_with fail
       refine CQ.out.mono ?_
       rintro e w9 ⟨rfl, hs9, hr9⟩
       have HS9 := Lib.hid hs9
       have HR9 := Lib.hid (HRk.out.trans hr9 (fun _ _ h => h))
       clear d0 d1 d2 d3 d4 d5 CQ hs9 hr9
       go_wp2_with fail
       go_roundw
       case rel => exact ⟨1, by go_num, by omega, HS9.out, HR9.out⟩
       case measure => simp [intOf]
      ·skip
       have d0 := (cell_of_row wr PI 6 _ _ _ HKk.out.rowI).trans rfl
       have d1 := (cell_of_row wr PI 7 _ _ _ HKk.out.rowI).trans rfl
       have d2 := (cell_of_row wr PI 8 _ _ _ HKk.out.rowI).trans rfl
       have d3 := (cell_of_row wr PI 9 _ _ _ HKk.out.rowI).trans rfl
       have d4 := (cell_of_row wr PI 10 _ _ _ HKk.out.rowI).trans rfl
       have d5 := (cell_of_row wr PI 11 _ _ _ HKk.out.rowI).trans rfl
       have CQ := Lib.hid (kn_last S (numV 2 0) (numV 2 0) _ wr HSk.out (leaf_in wr _ 2 0 (by omega) (by omega) 0) w.heap.size hSw (HT.out.mono HKk.out.below))
       rw [show kS_last (numV 2 0) (numV 2 0) = (numV 2 0) from by kernel_rfl] at CQ
       go_wp2_with fail
       refine CQ.out.mono ?_
       rintro e w9 ⟨rfl, hs9, hr9⟩
       have HS9 := Lib.hid hs9
       have HR9 := Lib.hid (HRk.out.trans hr9 (fun _ _ h => h))
       clear d0 d1 d2 d3 d4 d5 CQ hs9 hr9
       go_wp2_with fail
       go_roundw
       case rel => exact ⟨2, by go_num, by omega, HS9.out, HR9.out⟩
       case measure => simp [intOf]
      ·skip
       have d0 := (cell_of_row wr PI 12 _ _ _ HKk.out.rowI).trans rfl
       have d1 := (cell_of_row wr PI 13 _ _ _ HKk.out.rowI).trans rfl
       have d2 := (cell_of_row wr PI 14 _ _ _ HKk.out.rowI).trans rfl
       have d3 := (cell_of_row wr PI 15 _ _ _ HKk.out.rowI).trans rfl
       have d4 := (cell_of_row wr PI 16 _ _ _ HKk.out.rowI).trans rfl
       have d5 := (cell_of_row wr PI 17 _ _ _ HKk.out.rowI).trans rfl
       have CQ := Lib.hid (kn_last S (numV 2 0) (numV 4 3) _ wr HSk.out (leaf_in wr _ 4 3 (by omega) (by omega) 0) w.heap.size hSw (HT.out.mono HKk.out.below))
       rw [show kS_last (numV 2 0) (numV 4 3) = (numV 4 3) from by kernel_rfl] at CQ
       go_wp2_with fail
       refine CQ.out.mono ?_
       rintro e w9 ⟨rfl, hs9, hr9⟩
       have HS9 := Lib.hid hs9
       have HR9 := Lib.hid (HRk.out.trans hr9 (fun _ _ h => h))
       clear d0 d1 d2 d3 d4 d5 CQ hs9 hr9
       go_wp2_with fail
       go_roundw
       case rel => exact ⟨3, by go_num, by omega, HS9.out, HR9.out⟩
       case measure => simp [intOf]
      ·skip
       have d0 := (cell_of_row wr PI 18 _ _ _ HKk.out.rowI).trans rfl
       have d1 := (cell_of_row wr PI 19 _ _ _ HKk.out.rowI).trans rfl
       have d2 := (cell_of_row wr PI 20 _ _ _ HKk.out.rowI).trans rfl
       have d3 := (cell_of_row wr PI 21 _ _ _ HKk.out.rowI).trans rfl
       have d4 := (cell_of_row wr PI 22 _ _ _ HKk.out.rowI).trans rfl
       have d5 := (cell_of_row wr PI 23 _ _ _ HKk.out.rowI).trans rfl
       have CQ := Lib.hid (kn_last S (numV 4 3) (numV 3 3) _ wr HSk.out (leaf_in wr _ 3 3 (by omega) (by omega) 0) w.heap.size hSw (HT.out.mono HKk.out.below))
       rw [show kS_last (numV 4 3) (numV 3 3) = (numV 3 3) from by kernel_rfl] at CQ
       go_wp2_with fail
       refine CQ.out.mono ?_
       rintro e w9 ⟨rfl, hs9, hr9⟩
       have HS9 := Lib.hid hs9
       have HR9 := Lib.hid (HRk.out.trans hr9 (fun _ _ h => h))
       clear d0 d1 d2 d3 d4 d5 CQ hs9 hr9
       go_wp2_with fail
       go_roundw
       case rel => exact ⟨4, by go_num, by omega, HS9.out, HR9.out⟩
       case measure => simp [intOf]
      ·skip
       have d0 := (cell_of_row wr PI 24 _ _ _ HKk.out.rowI).trans rfl
       have d1 := (cell_of_row wr PI 25 _ _ _ HKk.out.rowI).trans rfl
       have d2 := (cell_of_row wr PI 26 _ _ _ HKk.out.rowI).trans rfl
       have d3 := (cell_of_row wr PI 27 _ _ _ HKk.out.rowI).trans rfl
       have d4 := (cell_of_row wr PI 28 _ _ _ HKk.out.rowI).trans rfl
       have d5 := (cell_of_row wr PI 29 _ _ _ HKk.out.rowI).trans rfl
       have CQ := Lib.hid (kn_last S (numV 3 3) (numV 0 0) _ wr HSk.out (leaf_in wr _ 0 0 (by omega) (by omega) 0) w.heap.size hSw (HT.out.mono HKk.out.below))
       rw [show kS_last (numV 3 3) (numV 0 0) = (numV 2 0) from by kernel_rfl] at CQ
       go_wp2_with fail
       refine CQ.out.mono ?_
       rintro e w9 ⟨rfl, hs9, hr9⟩
       have HS9 := Lib.hid hs9
       have HR9 := Lib.hid (HRk.out.trans hr9 (fun _ _ h => h))
       clear d0 d1 d2 d3 d4 d5 CQ hs9 hr9
       go_wp2_with fail
       go_roundw
       case rel => exact ⟨5, by go_num, by omega, HS9.out, HR9.out⟩
       case measure => simp [intOf]
      ·omega
     obtain rfl : k = 5 := by omega
     have HS5 : Hid (KSt wr S 18 (numV 2 0)) := HSk.out
     clear HSk hk hk5
     have CV := Lib.hid (kn_value S _ _ wr HS5.out)
     rw [show (orN (numV 2 0)).kind = 2 from by kernel_rfl, show (orN (numV 2 0)).n = 0 from by kernel_rfl] at CV
     have hx5 := box_rm2 HX6.out HRk.out (by omega)
     go_wp2_with fail
     refine CV.out.mono ?_
     rintro e w7 ⟨tv, av1, av2, av3, pv1, pv2, pv3, pv4, pv5, pv6, rfl, hb7⟩
     have HX7 := Lib.hid (hx5.keep hb7)
     have HK7 := Lib.hid (HKk.out.keep hb7)
     clear hx5
     obtain ⟨W8, hW8⟩ : ∃ W, W = w7.alloc (.cells #[.int .i64 2, .int .i64 0, .string tv, .slice av1 pv1 pv2, .slice av2 pv3 pv4, .slice av3 pv5 pv6] 32) := ⟨_, rfl⟩
     obtain ⟨P8, hP8⟩ : ∃ P, P = w7.heap.size := ⟨_, rfl⟩
     have hb8 : Below w7.heap.size w7 W8 := by rw [hW8]; exact (Below.refl _ _).alloc (Nat.le_refl _) _
     have hx8 : IsBox W8 P8 (.int .i64 2) (.int .i64 0) (.string tv) (.slice av1 pv1 pv2) (.slice av2 pv3 pv4) (.slice av3 pv5 pv6) := by rw [hW8, hP8]; exact IsBox.new w7 _ _ _ _ _ _
     have HK8 := Lib.hid (HK7.out.keep hb8)
     obtain ⟨c0, c1, c2, c3, c4, c5⟩ := (HX7.out.keep hb8).cells
     obtain ⟨e0, e1, e2, e3, e4, e5⟩ := hx8.cells
     have HW8 := Lib.hid hW8; have HP8 := Lib.hid hP8
     clear hb7 hb8 hx8 hW8 hP8 CV
     go_upto_region 19 with fail
     rw [← HW8.out, ← HP8.out]
     go_wp2_with fail
     go_roundw
     case rel =>
      first
      | exact ⟨5, by go_num, by omega, HK8.out⟩
      | (repeat apply Exists.intro; refine ⟨?_, rfl⟩; exact ⟨5, by go_num, by omega, HK8.out⟩)
     case measure => simp [intOf]
   ·skip
    have hcn := (cell_of_row wr PN 5 _ _ _ HK.out.rowN).trans rfl
    have CK := Lib.hid (kind12_any ⟨#[36, 112, 117, 115, 104]⟩ 5 (by kernel_rfl) (by omega) (by omega) wr (HN.out.keep HK.out.below))
    obtain ⟨S, hS⟩ : ∃ s, s = wr.heap.size := ⟨_, rfl⟩
    have CN := Lib.hid (newk_push S wr hS (HT.out.mono HK.out.below).now)
    have hIS : PI < S := by rw [hS]; exact (Array.getElem?_eq_some_iff.1 HK.out.rowI).1
    have hNS : PN < S := by rw [hS]; exact (Array.getElem?_eq_some_iff.1 HK.out.rowN).1
    have hSw : w.heap.size ≤ S := by have := HK.out.below.size; omega
    have HS := Lib.hid hS
    clear hS
    go_wp2_with fail
    refine CK.out.mono ?_
    rintro e wk ⟨rfl, rfl⟩
    clear hcn CK
    go_wp2_with fail
    refine CN.out.mono ?_
    rintro e w3 ⟨rfl, hc3, hb3⟩
    have HK3 := Lib.hid (HK.out.keep hb3)
    clear CN
    have hrow3 := hc3.row
    have hb3s : S + 1 ≤ w3.heap.size := hc3.lt
    have HS3 : Hid (PushAt w3 S (S + 1) 0 (.slice none 0 0) (5) [] []) := ⟨hrow3, Acc.nil _ _ _ _⟩
    have HZ3 := Lib.hid hb3s
    clear hc3 hb3 hrow3 hb3s
    have CV := Lib.hid (value_lst S (S + 1) 0 _ _ _ _ _ _ _ _ _ w3 HS3.out.row HS3.out.acc (by simp))
    go_wp2_with fail
    refine CV.out.mono ?_
    rintro e w4 ⟨v4, rfl, hv4, hb4⟩
    obtain ⟨k4, n4, t4, x1, x2, x3, q1, q2, q3, q4, q5, q6, rfl, e1, e2, -, -, -, e6, -⟩ := hv4.letters
    obtain rfl : k4 = 7 := e1
    obtain rfl : n4 = 0 := e2
    obtain rfl : q5 = 0 := e6
    obtain ⟨W6, hW6⟩ : ∃ W, W = w4.alloc (.cells #[.int .i64 7, .int .i64 0, .string t4, .slice x1 q1 q2, .slice x2 q3 q4, .slice x3 0 q6] 32) := ⟨_, rfl⟩
    obtain ⟨P6, hP6⟩ : ∃ P, P = w4.heap.size := ⟨_, rfl⟩
    have hb6 : Below w3.heap.size w3 W6 := by rw [hW6]; exact hb4.alloc hb4.size _
    have hx6 : IsBox W6 P6 (.int .i64 7) (.int .i64 0) (.string t4) (.slice x1 q1 q2) (.slice x2 q3 q4) (.slice x3 0 q6) := by rw [hW6, hP6]; exact IsBox.new w4 _ _ _ _ _ _
    have hP6S : S < P6 := by have := HZ3.out; have := hb4.size; omega
    have hZ6 : S + 1 ≤ W6.heap.size := by have := HZ3.out; have := hb6.size; omega
    have HS6 := Lib.hid (HS3.out.keep hb6)
    have HK6 := Lib.hid (HK3.out.keep hb6)
    have HX6 := Lib.hid hx6
    have HW6 := Lib.hid hW6; have HP6 := Lib.hid hP6
    clear hb4 hv4 hb6 hx6 hW6 hP6 CV HS3 HZ3
    go_upto_region 13 with fail
    rw [← HW6.out, ← HP6.out]
    go_wp2_with fail
    obtain ⟨SK, hSK⟩ : ∃ f : Nat → World → Prop, f = fun k wq => match k with | 0 => (∃ lv xs, PushAt wq S (S + 1) 0 lv (5) [] xs ∧ lv.ownBlock ≠ some P6) | 1 => (∃ lv xs, PushAt wq S (S + 1) 0 lv (5) [] xs ∧ lv.ownBlock ≠ some P6) | 2 => (∃ lv xs, PushAt wq S (S + 1) 0 lv (8) [(numV 2 0)] xs ∧ lv.ownBlock ≠ some P6) | 3 => (∃ lv xs, PushAt wq S (S + 1) 0 lv (19) [(numV 2 0), (numV 4 3)] xs ∧ lv.ownBlock ≠ some P6) | 4 => (∃ lv xs, PushAt wq S (S + 1) 0 lv (26) [(numV 2 0), (numV 4 3), (numV 3 3)] xs ∧ lv.ownBlock ≠ some P6) | _ => (∃ lv xs, PushAt wq S (S + 1) 0 lv (26) [(numV 2 0), (numV 4 3), (numV 3 3)] xs ∧ lv.ownBlock ≠ some P6) := ⟨_, rfl⟩
    have HSK := Lib.hid hSK
    have hsk0 : SK 0 W6 := by rw [hSK]; exact ⟨_, _, HS6.out, by simp [Value.ownBlock]⟩
    have HSK0 := Lib.hid hsk0
    clear hSK hsk0
    go_loopw [7] (fun k_ wq => ∃ k : Nat, k_ = .int .i64 k ∧ k ≤ 5 ∧ Hid (SK k wq) ∧ Hid (IsBox wq P6 (.int .i64 7) (.int .i64 0) (.string t4) (.slice x1 q1 q2) (.slice x2 q3 q4) (.slice x3 0 q6)) ∧ Hid (KW w PI PN wq)) (fun k_ _ => 5 - (intOf k_).toNat)
    case atStart => exact ⟨0, rfl, Nat.zero_le _, HSK0.out, HX6.out, HK6.out⟩
    case round =>
     obtain ⟨k, rfl, hk5, HSk, HXk, HKk⟩ := hrel
     have hP6w : P6 < wr.heap.size := (Array.getElem?_eq_some_iff.1 HXk.out).1
     have hbase : S + 1 ≤ wr.heap.size := by omega
     by_cases hk : k < 5
     ·skip
      rcases k with _ | _ | _ | _ | _ | k
      ·skip
       have d0 := (cell_of_row wr PI 0 _ _ _ HKk.out.rowI).trans rfl
       have d1 := (cell_of_row wr PI 1 _ _ _ HKk.out.rowI).trans rfl
       have d2 := (cell_of_row wr PI 2 _ _ _ HKk.out.rowI).trans rfl
       have d3 := (cell_of_row wr PI 3 _ _ _ HKk.out.rowI).trans rfl
       have d4 := (cell_of_row wr PI 4 _ _ _ HKk.out.rowI).trans rfl
       have d5 := (cell_of_row wr PI 5 _ _ _ HKk.out.rowI).trans rfl
       have hsk : (∃ lv xs, PushAt wr S (S + 1) 0 lv (5) [] xs ∧ lv.ownBlock ≠ some P6) := by have h := HSk.out; rw [HSK.out] at h; exact h
       obtain ⟨lv, xs, hs, hl6⟩ := hsk
       have CQ := add_push w.heap.size S (S + 1) 0 lv (5) [] xs (numV 0 0) _ (fun _ => False) wr hSw (by omega) hbase hs (leaf_in wr (fun _ => False) 0 0 (by omega) (by omega) 0) (HT.out.mono HKk.out.below) (by simp) (by omega) (by omega)
       have CQ2 : Calls Tryd.prog 7 #[.pointer (some ⟨S, 0, none⟩), leafA 0 0] wr (fun e w' => e = .returned (.int .i64 0) ∧ Below wr.heap.size wr w') := CQ.mono (fun e w' h => by unfold AddPushPost at h; rw [if_pos (show (numV 0 0).kind = 0 from rfl)] at h; exact h)
       have HCQ := Lib.hid CQ2
       unfold leafA at HCQ
       have HSs := Lib.hid hs
       clear CQ CQ2 hs
       go_wp2_with fail
       refine HCQ.out.mono ?_
       clear HCQ d0 d1 d2 d3 d4 d5
       rintro e w9 ⟨rfl, hb9⟩
       have HS9 : Hid (SK 1 w9) := by rw [HSK.out]; exact ⟨lv, xs, HSs.out.keep hb9, hl6⟩
       have HX9 := Lib.hid (HXk.out.keep hb9)
       have HK9 := Lib.hid (HKk.out.keep hb9)
       clear hb9
       go_wp2_with fail
       go_roundw
       case rel => exact ⟨1, by go_num, by omega, HS9, HX9, HK9⟩
       case measure => simp [intOf]
      ·skip
       have d0 := (cell_of_row wr PI 6 _ _ _ HKk.out.rowI).trans rfl
       have d1 := (cell_of_row wr PI 7 _ _ _ HKk.out.rowI).trans rfl
       have d2 := (cell_of_row wr PI 8 _ _ _ HKk.out.rowI).trans rfl
       have d3 := (cell_of_row wr PI 9 _ _ _ HKk.out.rowI).trans rfl
       have d4 := (cell_of_row wr PI 10 _ _ _ HKk.out.rowI).trans rfl
       have d5 := (cell_of_row wr PI 11 _ _ _ HKk.out.rowI).trans rfl
       have hsk : (∃ lv xs, PushAt wr S (S + 1) 0 lv (5) [] xs ∧ lv.ownBlock ≠ some P6) := by have h := HSk.out; rw [HSK.out] at h; exact h
       obtain ⟨lv, xs, hs, hl6⟩ := hsk
       have CQ := add_push w.heap.size S (S + 1) 0 lv (5) [] xs (numV 2 0) _ (fun _ => False) wr hSw (by omega) hbase hs (leaf_in wr (fun _ => False) 2 0 (by omega) (by omega) 0) (HT.out.mono HKk.out.below) (by simp) (by omega) (by omega)
       have CQ2 : Calls Tryd.prog 7 #[.pointer (some ⟨S, 0, none⟩), leafA 2 0] wr (fun e w' => e = .returned (.int .i64 0) ∧ PushMore wr S (S + 1) 0 lv (8) [] (numV 2 0) w') := CQ.mono (fun e w' h => by unfold AddPushPost at h; rw [if_neg (show ¬ (numV 2 0).kind = 0 by show ¬ ((2 : Int) = 0); omega), show growV (numV 2 0) (List.length []) = 3 from by kernel_rfl, if_neg (by omega)] at h; exact h)
       have HCQ := Lib.hid CQ2
       unfold leafA at HCQ
       have HSs := Lib.hid hs
       clear CQ CQ2 hs
       go_wp2_with fail
       refine HCQ.out.mono ?_
       clear HCQ d0 d1 d2 d3 d4 d5
       rintro e w9 ⟨rfl, lv9, xs9, hs9, hr9, hl9⟩
       have hlb : ∀ g, lv.ownBlock = some g → S + 1 ≤ g := fun g hg => (owns_block HSs.out.acc.own hg).1
       have HS9 : Hid (SK 2 w9) := by
        rw [HSK.out]
        refine ⟨lv9, xs9, hs9, fun e => ?_⟩
        rcases hl9 with e9 | ⟨g, e9, hg⟩
        ·exact hl6 (e9 ▸ e)
        ·rw [e] at e9; have := Option.some.inj e9; omega
       have HX9 : Hid (IsBox w9 P6 (.int .i64 7) (.int .i64 0) (.string t4) (.slice x1 q1 q2) (.slice x2 q3 q4) (.slice x3 0 q6)) := (hr9.block P6 hP6w (fun e => e.elim (fun e2 => by omega) hl6)).trans HXk.out
       have HK9 := Lib.hid (HKk.out.rm (hr9.mono (G := fun g => S ≤ g) (fun g _ h => h.elim (fun e => by omega) (fun e => by have := hlb g e; omega))) hSw hIS hNS)
       clear hs9 hr9 hl9 hlb
       go_wp2_with fail
       go_roundw
       case rel => exact ⟨2, by go_num, by omega, HS9, HX9, HK9⟩
       case measure => simp [intOf]
      ·skip
       have d0 := (cell_of_row wr PI 12 _ _ _ HKk.out.rowI).trans rfl
       have d1 := (cell_of_row wr PI 13 _ _ _ HKk.out.rowI).trans rfl
       have d2 := (cell_of_row wr PI 14 _ _ _ HKk.out.rowI).trans rfl
       have d3 := (cell_of_row wr PI 15 _ _ _ HKk.out.rowI).trans rfl
       have d4 := (cell_of_row wr PI 16 _ _ _ HKk.out.rowI).trans rfl
       have d5 := (cell_of_row wr PI 17 _ _ _ HKk.out.rowI).trans rfl
       have hsk : (∃ lv xs, PushAt wr S (S + 1) 0 lv (8) [(numV 2 0)] xs ∧ lv.ownBlock ≠ some P6) := by have h := HSk.out; rw [HSK.out] at h; exact h
       obtain ⟨lv, xs, hs, hl6⟩ := hsk
       have CQ := add_push w.heap.size S (S + 1) 0 lv (8) [(numV 2 0)] xs (numV 4 3) _ (fun _ => False) wr hSw (by omega) hbase hs (leaf_in wr (fun _ => False) 4 3 (by omega) (by omega) 0) (HT.out.mono HKk.out.below) (by simp) (by omega) (by omega)
       have CQ2 : Calls Tryd.prog 7 #[.pointer (some ⟨S, 0, none⟩), leafA 4 3] wr (fun e w' => e = .returned (.int .i64 0) ∧ PushMore wr S (S + 1) 0 lv (19) [(numV 2 0)] (numV 4 3) w') := CQ.mono (fun e w' h => by unfold AddPushPost at h; rw [if_neg (show ¬ (numV 4 3).kind = 0 by show ¬ ((4 : Int) = 0); omega), show growV (numV 4 3) (List.length [(numV 2 0)]) = 11 from by kernel_rfl, if_neg (by omega)] at h; exact h)
       have HCQ := Lib.hid CQ2
       unfold leafA at HCQ
       have HSs := Lib.hid hs
       clear CQ CQ2 hs
       go_wp2_with fail
       refine HCQ.out.mono ?_
       clear HCQ d0 d1 d2 d3 d4 d5
       rintro e w9 ⟨rfl, lv9, xs9, hs9, hr9, hl9⟩
       have hlb : ∀ g, lv.ownBlock = some g → S + 1 ≤ g := fun g hg => (owns_block HSs.out.acc.own hg).1
       have HS9 : Hid (SK 3 w9) := by
        rw [HSK.out]
        refine ⟨lv9, xs9, hs9, fun e => ?_⟩
        rcases hl9 with e9 | ⟨g, e9, hg⟩
        ·exact hl6 (e9 ▸ e)
        ·rw [e] at e9; have := Option.some.inj e9; omega
       have HX9 : Hid (IsBox w9 P6 (.int .i64 7) (.int .i64 0) (.string t4) (.slice x1 q1 q2) (.slice x2 q3 q4) (.slice x3 0 q6)) := (hr9.block P6 hP6w (fun e => e.elim (fun e2 => by omega) hl6)).trans HXk.out
       have HK9 := Lib.hid (HKk.out.rm (hr9.mono (G := fun g => S ≤ g) (fun g _ h => h.elim (fun e => by omega) (fun e => by have := hlb g e; omega))) hSw hIS hNS)
       clear hs9 hr9 hl9 hlb
       go_wp2_with fail
       go_roundw
       case rel => exact ⟨3, by go_num, by omega, HS9, HX9, HK9⟩
       case measure => simp [intOf]
      ·skip
       have d0 := (cell_of_row wr PI 18 _ _ _ HKk.out.rowI).trans rfl
       have d1 := (cell_of_row wr PI 19 _ _ _ HKk.out.rowI).trans rfl
       have d2 := (cell_of_row wr PI 20 _ _ _ HKk.out.rowI).trans rfl
       have d3 := (cell_of_row wr PI 21 _ _ _ HKk.out.rowI).trans rfl
       have d4 := (cell_of_row wr PI 22 _ _ _ HKk.out.rowI).trans rfl
       have d5 := (cell_of_row wr PI 23 _ _ _ HKk.out.rowI).trans rfl
       have hsk : (∃ lv xs, PushAt wr S (S + 1) 0 lv (19) [(numV 2 0), (numV 4 3)] xs ∧ lv.ownBlock ≠ some P6) := by have h := HSk.out; rw [HSK.out] at h; exact h
       obtain ⟨lv, xs, hs, hl6⟩ := hsk
       have CQ := add_push w.heap.size S (S + 1) 0 lv (19) [(numV 2 0), (numV 4 3)] xs (numV 3 3) _ (fun _ => False) wr hSw (by omega) hbase hs (leaf_in wr (fun _ => False) 3 3 (by omega) (by omega) 0) (HT.out.mono HKk.out.below) (by simp) (by omega) (by omega)
       have CQ2 : Calls Tryd.prog 7 #[.pointer (some ⟨S, 0, none⟩), leafA 3 3] wr (fun e w' => e = .returned (.int .i64 0) ∧ PushMore wr S (S + 1) 0 lv (26) [(numV 2 0), (numV 4 3)] (numV 3 3) w') := CQ.mono (fun e w' h => by unfold AddPushPost at h; rw [if_neg (show ¬ (numV 3 3).kind = 0 by show ¬ ((3 : Int) = 0); omega), show growV (numV 3 3) (List.length [(numV 2 0), (numV 4 3)]) = 7 from by kernel_rfl, if_neg (by omega)] at h; exact h)
       have HCQ := Lib.hid CQ2
       unfold leafA at HCQ
       have HSs := Lib.hid hs
       clear CQ CQ2 hs
       go_wp2_with fail
       refine HCQ.out.mono ?_
       clear HCQ d0 d1 d2 d3 d4 d5
       rintro e w9 ⟨rfl, lv9, xs9, hs9, hr9, hl9⟩
       have hlb : ∀ g, lv.ownBlock = some g → S + 1 ≤ g := fun g hg => (owns_block HSs.out.acc.own hg).1
       have HS9 : Hid (SK 4 w9) := by
        rw [HSK.out]
        refine ⟨lv9, xs9, hs9, fun e => ?_⟩
        rcases hl9 with e9 | ⟨g, e9, hg⟩
        ·exact hl6 (e9 ▸ e)
        ·rw [e] at e9; have := Option.some.inj e9; omega
       have HX9 : Hid (IsBox w9 P6 (.int .i64 7) (.int .i64 0) (.string t4) (.slice x1 q1 q2) (.slice x2 q3 q4) (.slice x3 0 q6)) := (hr9.block P6 hP6w (fun e => e.elim (fun e2 => by omega) hl6)).trans HXk.out
       have HK9 := Lib.hid (HKk.out.rm (hr9.mono (G := fun g => S ≤ g) (fun g _ h => h.elim (fun e => by omega) (fun e => by have := hlb g e; omega))) hSw hIS hNS)
       clear hs9 hr9 hl9 hlb
       go_wp2_with fail
       go_roundw
       case rel => exact ⟨4, by go_num, by omega, HS9, HX9, HK9⟩
       case measure => simp [intOf]
      ·skip
       have d0 := (cell_of_row wr PI 24 _ _ _ HKk.out.rowI).trans rfl
       have d1 := (cell_of_row wr PI 25 _ _ _ HKk.out.rowI).trans rfl
       have d2 := (cell_of_row wr PI 26 _ _ _ HKk.out.rowI).trans rfl
       have d3 := (cell_of_row wr PI 27 _ _ _ HKk.out.rowI).trans rfl
       have d4 := (cell_of_row wr PI 28 _ _ _ HKk.out.rowI).trans rfl
       have d5 := (cell_of_row wr PI 29 _ _ _ HKk.out.rowI).trans rfl
       have hsk : (∃ lv xs, PushAt wr S (S + 1) 0 lv (26) [(numV 2 0), (numV 4 3), (numV 3 3)] xs ∧ lv.ownBlock ≠ some P6) := by have h := HSk.out; rw [HSK.out] at h; exact h
       obtain ⟨lv, xs, hs, hl6⟩ := hsk
       have CQ := add_push w.heap.size S (S + 1) 0 lv (26) [(numV 2 0), (numV 4 3), (numV 3 3)] xs (numV 0 0) _ (fun _ => False) wr hSw (by omega) hbase hs (leaf_in wr (fun _ => False) 0 0 (by omega) (by omega) 0) (HT.out.mono HKk.out.below) (by simp) (by omega) (by omega)
       have CQ2 : Calls Tryd.prog 7 #[.pointer (some ⟨S, 0, none⟩), leafA 0 0] wr (fun e w' => e = .returned (.int .i64 0) ∧ Below wr.heap.size wr w') := CQ.mono (fun e w' h => by unfold AddPushPost at h; rw [if_pos (show (numV 0 0).kind = 0 from rfl)] at h; exact h)
       have HCQ := Lib.hid CQ2
       unfold leafA at HCQ
       have HSs := Lib.hid hs
       clear CQ CQ2 hs
       go_wp2_with fail
       refine HCQ.out.mono ?_
       clear HCQ d0 d1 d2 d3 d4 d5
       rintro e w9 ⟨rfl, hb9⟩
       have HS9 : Hid (SK 5 w9) := by rw [HSK.out]; exact ⟨lv, xs, HSs.out.keep hb9, hl6⟩
       have HX9 := Lib.hid (HXk.out.keep hb9)
       have HK9 := Lib.hid (HKk.out.keep hb9)
       clear hb9
       go_wp2_with fail
       go_roundw
       case rel => exact ⟨5, by go_num, by omega, HS9, HX9, HK9⟩
       case measure => simp [intOf]
      ·omega
     obtain rfl : k = 5 := by omega
     have hsk : (∃ lv xs, PushAt wr S (S + 1) 0 lv (26) [(numV 2 0), (numV 4 3), (numV 3 3)] xs ∧ lv.ownBlock ≠ some P6) := by have h := HSk.out; rw [HSK.out] at h; exact h
     obtain ⟨lv, xs, hs, -⟩ := hsk
     have CV := Lib.hid (value_lst S (S + 1) 0 _ _ _ _ _ _ _ _ _ wr hs.row hs.acc (by simp))
     clear hs HSk
     go_wp2_with fail
     refine CV.out.mono ?_
     rintro e w7 ⟨v7, rfl, hv7, hb7⟩
     obtain ⟨k7, n7, t7, z1, z2, z3, r1, r2, r3, r4, r5, r6, rfl, e1, e2, -, -, -, e6, -, -, hI7⟩ := hv7.letters
     obtain rfl : k7 = 7 := e1
     obtain rfl : n7 = 0 := e2
     obtain rfl : r5 = 3 := e6
     obtain ⟨g7, o7, rfl, -, hall⟩ := hI7.resolve_left (fun e => by cases e)
     obtain ⟨u7, hsix7, hV7⟩ := hall 0 (by decide)
     obtain ⟨f0, f1, f2, f3, f4, f5, rfl, hf0, -⟩ := hsix7
     obtain ⟨kk, nn, ss, y1, y2, y3, y4, y5, y6, y7, y8, y9, h0, -⟩ := six_of hV7
     subst h0
     have hkk := hV7.letters
     obtain ⟨k9, n9, s9, j1, j2, j3, m1, m2, m3, m4, m5, m6, e9, ek9, -⟩ := hkk
     simp only [Value.agg.injEq, Array.mk.injEq, List.cons.injEq, Value.int.injEq, true_and] at e9
     obtain rfl : kk = 2 := e9.1.trans ek9
     have hf8 := hf0
     clear hall hV7 e9 ek9 hI7 hv7
     have HX7 := Lib.hid (HXk.out.keep hb7)
     have HK7 := Lib.hid (HKk.out.keep hb7)
     obtain ⟨W8, hW8⟩ : ∃ W, W = w7.alloc (.cells #[.int .i64 7, .int .i64 0, .string t7, .slice z1 r1 r2, .slice z2 r3 r4, .slice (some ⟨g7, o7, none⟩) 3 r6] 32) := ⟨_, rfl⟩
     obtain ⟨P8, hP8⟩ : ∃ P, P = w7.heap.size := ⟨_, rfl⟩
     have hb8 : Below w7.heap.size w7 W8 := by rw [hW8]; exact (Below.refl _ _).alloc (Nat.le_refl _) _
     have hx8 : IsBox W8 P8 (.int .i64 7) (.int .i64 0) (.string t7) (.slice z1 r1 r2) (.slice z2 r3 r4) (.slice (some ⟨g7, o7, none⟩) 3 r6) := by rw [hW8, hP8]; exact IsBox.new w7 _ _ _ _ _ _
     have hf9 := cell_keep hb8 hf8
     have HK8 := Lib.hid (HK7.out.keep hb8)
     obtain ⟨c0, c1, c2, c3, c4, c5⟩ := (HX7.out.keep hb8).cells
     obtain ⟨e0, e1, e2, e3, e4, e5⟩ := hx8.cells
     have HW8 := Lib.hid hW8; have HP8 := Lib.hid hP8
     simp only [Nat.zero_mul, Nat.one_mul, Nat.add_zero] at hf9
     clear hb7 hb8 hx8 hW8 hP8 CV hf8 hf0
     go_upto_region 19 with fail
     rw [← HW8.out, ← HP8.out]
     go_wp2_with fail
     go_roundw
     case rel =>
      first
      | exact ⟨6, by go_num, by omega, HK8.out⟩
      | (repeat apply Exists.intro; refine ⟨?_, rfl⟩; exact ⟨6, by go_num, by omega, HK8.out⟩)
     case measure => simp [intOf]
   ·skip
    have hcn := (cell_of_row wr PN 6 _ _ _ HK.out.rowN).trans rfl
    have CK := Lib.hid (kind12_any ⟨#[36, 97, 100, 100, 84, 111, 83, 101, 116]⟩ 6 (by kernel_rfl) (by omega) (by omega) wr (HN.out.keep HK.out.below))
    obtain ⟨S, hS⟩ : ∃ s, s = wr.heap.size := ⟨_, rfl⟩
    have CN := Lib.hid (newk_set S wr hS (HT.out.mono HK.out.below).now)
    have hIS : PI < S := by rw [hS]; exact (Array.getElem?_eq_some_iff.1 HK.out.rowI).1
    have hNS : PN < S := by rw [hS]; exact (Array.getElem?_eq_some_iff.1 HK.out.rowN).1
    have hSw : w.heap.size ≤ S := by have := HK.out.below.size; omega
    have HS := Lib.hid hS
    clear hS
    go_wp2_with fail
    refine CK.out.mono ?_
    rintro e wk ⟨rfl, rfl⟩
    clear hcn CK
    go_wp2_with fail
    refine CN.out.mono ?_
    rintro e w3 ⟨rfl, hc3, hb3⟩
    have HK3 := Lib.hid (HK.out.keep hb3)
    clear CN
    have hrow3 := hc3.row
    have hb3s : S + 1 ≤ w3.heap.size := hc3.lt
    have HS3 : Hid (SetAt w3 S (S + 1) 0 (mOf 21 S) (.slice none 0 0) (.slice none 0 0) (5) [] [] []) := ⟨hrow3, Acc.nil _ _ _ _, World.ownsRow_nil _ _ _ _, (fun _ h => by cases h)⟩
    have HZ3 := Lib.hid hb3s
    clear hc3 hb3 hrow3 hb3s
    have CV := Lib.hid (value_lst S (S + 1) 0 _ _ _ _ _ _ _ _ _ w3 HS3.out.row HS3.out.acc (by simp))
    go_wp2_with fail
    refine CV.out.mono ?_
    rintro e w4 ⟨v4, rfl, hv4, hb4⟩
    obtain ⟨k4, n4, t4, x1, x2, x3, q1, q2, q3, q4, q5, q6, rfl, e1, e2, -, -, -, e6, -⟩ := hv4.letters
    obtain rfl : k4 = 7 := e1
    obtain rfl : n4 = 0 := e2
    obtain rfl : q5 = 0 := e6
    obtain ⟨W6, hW6⟩ : ∃ W, W = w4.alloc (.cells #[.int .i64 7, .int .i64 0, .string t4, .slice x1 q1 q2, .slice x2 q3 q4, .slice x3 0 q6] 32) := ⟨_, rfl⟩
    obtain ⟨P6, hP6⟩ : ∃ P, P = w4.heap.size := ⟨_, rfl⟩
    have hb6 : Below w3.heap.size w3 W6 := by rw [hW6]; exact hb4.alloc hb4.size _
    have hx6 : IsBox W6 P6 (.int .i64 7) (.int .i64 0) (.string t4) (.slice x1 q1 q2) (.slice x2 q3 q4) (.slice x3 0 q6) := by rw [hW6, hP6]; exact IsBox.new w4 _ _ _ _ _ _
    have hP6S : S < P6 := by have := HZ3.out; have := hb4.size; omega
    have hZ6 : S + 1 ≤ W6.heap.size := by have := HZ3.out; have := hb6.size; omega
    have HS6 := Lib.hid (HS3.out.keep hb6)
    have HK6 := Lib.hid (HK3.out.keep hb6)
    have HX6 := Lib.hid hx6
    have HW6 := Lib.hid hW6; have HP6 := Lib.hid hP6
    clear hb4 hv4 hb6 hx6 hW6 hP6 CV HS3 HZ3
    go_upto_region 13 with fail
    rw [← HW6.out, ← HP6.out]
    go_wp2_with fail
    obtain ⟨SK, hSK⟩ : ∃ f : Nat → World → Prop, f = fun k wq => match k with | 0 => (∃ lv rv xs, SetAt wq S (S + 1) 0 (mOf 21 S) lv rv (5) [] xs [] ∧ lv.ownBlock ≠ some P6 ∧ rv.ownBlock ≠ some P6) | 1 => (∃ lv rv xs, SetAt wq S (S + 1) 0 (mOf 21 S) lv rv (5) [] xs [] ∧ lv.ownBlock ≠ some P6 ∧ rv.ownBlock ≠ some P6) | 2 => (∃ lv rv xs, SetAt wq S (S + 1) 0 (mOf 21 S) lv rv (8) [(numV 2 0)] xs [0] ∧ lv.ownBlock ≠ some P6 ∧ rv.ownBlock ≠ some P6) | 3 => (∃ lv rv xs, SetAt wq S (S + 1) 0 (mOf 21 S) lv rv (19) [(numV 2 0), (numV 4 3)] xs [0, 1] ∧ lv.ownBlock ≠ some P6 ∧ rv.ownBlock ≠ some P6) | 4 => (∃ lv rv xs, SetAt wq S (S + 1) 0 (mOf 21 S) lv rv (19) [(numV 2 0), (numV 4 3)] xs [0, 1] ∧ lv.ownBlock ≠ some P6 ∧ rv.ownBlock ≠ some P6) | _ => (∃ lv rv xs, SetAt wq S (S + 1) 0 (mOf 21 S) lv rv (19) [(numV 2 0), (numV 4 3)] xs [0, 1] ∧ lv.ownBlock ≠ some P6 ∧ rv.ownBlock ≠ some P6) := ⟨_, rfl⟩
    have HSK := Lib.hid hSK
    have hsk0 : SK 0 W6 := by rw [hSK]; exact ⟨_, _, _, HS6.out, by simp [Value.ownBlock], by simp [Value.ownBlock]⟩
    have HSK0 := Lib.hid hsk0
    clear hSK hsk0
    go_loopw [7] (fun k_ wq => ∃ k : Nat, k_ = .int .i64 k ∧ k ≤ 5 ∧ Hid (SK k wq) ∧ Hid (IsBox wq P6 (.int .i64 7) (.int .i64 0) (.string t4) (.slice x1 q1 q2) (.slice x2 q3 q4) (.slice x3 0 q6)) ∧ Hid (KW w PI PN wq)) (fun k_ _ => 5 - (intOf k_).toNat)
    case atStart => exact ⟨0, rfl, Nat.zero_le _, HSK0.out, HX6.out, HK6.out⟩
    case round =>
     obtain ⟨k, rfl, hk5, HSk, HXk, HKk⟩ := hrel
     have hP6w : P6 < wr.heap.size := (Array.getElem?_eq_some_iff.1 HXk.out).1
     have hbase : S + 1 ≤ wr.heap.size := by omega
     by_cases hk : k < 5
     ·skip
      rcases k with _ | _ | _ | _ | _ | k
      ·skip
       have d0 := (cell_of_row wr PI 0 _ _ _ HKk.out.rowI).trans rfl
       have d1 := (cell_of_row wr PI 1 _ _ _ HKk.out.rowI).trans rfl
       have d2 := (cell_of_row wr PI 2 _ _ _ HKk.out.rowI).trans rfl
       have d3 := (cell_of_row wr PI 3 _ _ _ HKk.out.rowI).trans rfl
       have d4 := (cell_of_row wr PI 4 _ _ _ HKk.out.rowI).trans rfl
       have d5 := (cell_of_row wr PI 5 _ _ _ HKk.out.rowI).trans rfl
       have hsk : (∃ lv rv xs, SetAt wr S (S + 1) 0 (mOf 21 S) lv rv (5) [] xs [] ∧ lv.ownBlock ≠ some P6 ∧ rv.ownBlock ≠ some P6) := by have h := HSk.out; rw [HSK.out] at h; exact h
       obtain ⟨lv, rv, xs, hs, hl6, hr6⟩ := hsk
       have CQ := add_set w.heap.size S (S + 1) 0 lv rv (5) [] xs [] (numV 0 0) _ (fun _ => False) wr hSw (by omega) hbase hs (leaf_in wr (fun _ => False) 0 0 (by omega) (by omega) 0) (HT.out.mono HKk.out.below) (by simp) (by omega) (by omega) (by simp) (fun a b h1 h2 _ => absurd h2 (Nat.not_lt_zero _))
       have CQ2 : Calls Tryd.prog 7 #[.pointer (some ⟨S, 0, none⟩), leafA 0 0] wr (fun e w' => e = .returned (.int .i64 0) ∧ Below wr.heap.size wr w') := CQ.mono (fun e w' h => by unfold AddSetPost SetPost at h; rw [if_pos (.inr rfl)] at h; exact h)
       have HCQ := Lib.hid CQ2
       unfold leafA at HCQ
       have HSs := Lib.hid hs
       clear CQ CQ2 hs
       go_wp2_with fail
       refine HCQ.out.mono ?_
       clear HCQ d0 d1 d2 d3 d4 d5
       rintro e w9 ⟨rfl, hb9⟩
       have HS9 : Hid (SK 1 w9) := by rw [HSK.out]; exact ⟨lv, rv, xs, HSs.out.keep hb9, hl6, hr6⟩
       have HX9 := Lib.hid (HXk.out.keep hb9)
       have HK9 := Lib.hid (HKk.out.keep hb9)
       clear hb9
       go_wp2_with fail
       go_roundw
       case rel => exact ⟨1, by go_num, by omega, HS9, HX9, HK9⟩
       case measure => simp [intOf]
      ·skip
       have d0 := (cell_of_row wr PI 6 _ _ _ HKk.out.rowI).trans rfl
       have d1 := (cell_of_row wr PI 7 _ _ _ HKk.out.rowI).trans rfl
       have d2 := (cell_of_row wr PI 8 _ _ _ HKk.out.rowI).trans rfl
       have d3 := (cell_of_row wr PI 9 _ _ _ HKk.out.rowI).trans rfl
       have d4 := (cell_of_row wr PI 10 _ _ _ HKk.out.rowI).trans rfl
       have d5 := (cell_of_row wr PI 11 _ _ _ HKk.out.rowI).trans rfl
       have hsk : (∃ lv rv xs, SetAt wr S (S + 1) 0 (mOf 21 S) lv rv (5) [] xs [] ∧ lv.ownBlock ≠ some P6 ∧ rv.ownBlock ≠ some P6) := by have h := HSk.out; rw [HSK.out] at h; exact h
       obtain ⟨lv, rv, xs, hs, hl6, hr6⟩ := hsk
       have CQ := add_set w.heap.size S (S + 1) 0 lv rv (5) [] xs [] (numV 2 0) _ (fun _ => False) wr hSw (by omega) hbase hs (leaf_in wr (fun _ => False) 2 0 (by omega) (by omega) 0) (HT.out.mono HKk.out.below) (by simp) (by omega) (by omega) (by simp) (fun a b h1 h2 _ => absurd h2 (Nat.not_lt_zero _))
       have CQ2 : Calls Tryd.prog 7 #[.pointer (some ⟨S, 0, none⟩), leafA 2 0] wr (fun e w' => e = .returned (.int .i64 0) ∧ SetMore wr S (S + 1) 0 (mOf 21 S) lv rv (8) [] [] 0 (numV 2 0) w') := CQ.mono (fun e w' h => by unfold AddSetPost SetPost at h; rw [show foundB 0 [] [] (numV 2 0) (List.length []) = false from by kernel_rfl, show growV (numV 2 0) (List.length []) = 3 from by kernel_rfl, show bpos (cF 0 [] [] (numV 2 0)) (List.length []) = 0 from by kernel_rfl, if_neg (fun h0 => h0.elim (fun e => by cases e) (fun e => absurd e (show ¬ ((2 : Int) = 0) by omega))), if_neg (by omega)] at h; exact h)
       have HCQ := Lib.hid CQ2
       unfold leafA at HCQ
       have HSs := Lib.hid hs
       clear CQ CQ2 hs
       go_wp2_with fail
       refine HCQ.out.mono ?_
       clear HCQ d0 d1 d2 d3 d4 d5
       rintro e w9 ⟨rfl, lv9, rv9, xs9, hs9, hr9, hl9, hv9⟩
       have hlb : ∀ g, lv.ownBlock = some g → S + 1 ≤ g := fun g hg => (owns_block HSs.out.acc.own hg).1
       have hrb : ∀ g, rv.ownBlock = some g → S + 1 ≤ g := fun g hg => (owns_block HSs.out.rise hg).1
       have HS9 : Hid (SK 2 w9) := by
        rw [HSK.out]
        refine ⟨lv9, rv9, xs9, hs9, fun e => ?_, fun e => ?_⟩
        ·rcases hl9 with e9 | ⟨g, e9, hg⟩
         ·exact hl6 (e9 ▸ e)
         ·rw [e] at e9; have := Option.some.inj e9; omega
        ·rcases hv9 with e9 | ⟨g, e9, hg⟩
         ·exact hr6 (e9 ▸ e)
         ·rw [e] at e9; have := Option.some.inj e9; omega
       have HX9 : Hid (IsBox w9 P6 (.int .i64 7) (.int .i64 0) (.string t4) (.slice x1 q1 q2) (.slice x2 q3 q4) (.slice x3 0 q6)) := (hr9.block P6 hP6w (fun e => e.elim (fun e2 => by omega) (fun e => e.elim hl6 hr6))).trans HXk.out
       have HK9 := Lib.hid (HKk.out.rm (hr9.mono (G := fun g => S ≤ g) (fun g _ h => h.elim (fun e => by omega) (fun e => e.elim (fun e => by have := hlb g e; omega) (fun e => by have := hrb g e; omega)))) hSw hIS hNS)
       clear hs9 hr9 hl9 hv9 hlb hrb
       go_wp2_with fail
       go_roundw
       case rel => exact ⟨2, by go_num, by omega, HS9, HX9, HK9⟩
       case measure => simp [intOf]
      ·skip
       have d0 := (cell_of_row wr PI 12 _ _ _ HKk.out.rowI).trans rfl
       have d1 := (cell_of_row wr PI 13 _ _ _ HKk.out.rowI).trans rfl
       have d2 := (cell_of_row wr PI 14 _ _ _ HKk.out.rowI).trans rfl
       have d3 := (cell_of_row wr PI 15 _ _ _ HKk.out.rowI).trans rfl
       have d4 := (cell_of_row wr PI 16 _ _ _ HKk.out.rowI).trans rfl
       have d5 := (cell_of_row wr PI 17 _ _ _ HKk.out.rowI).trans rfl
       have hsk : (∃ lv rv xs, SetAt wr S (S + 1) 0 (mOf 21 S) lv rv (8) [(numV 2 0)] xs [0] ∧ lv.ownBlock ≠ some P6 ∧ rv.ownBlock ≠ some P6) := by have h := HSk.out; rw [HSK.out] at h; exact h
       obtain ⟨lv, rv, xs, hs, hl6, hr6⟩ := hsk
       have CQ := add_set w.heap.size S (S + 1) 0 lv rv (8) [(numV 2 0)] xs [0] (numV 4 3) _ (fun _ => False) wr hSw (by omega) hbase hs (leaf_in wr (fun _ => False) 4 3 (by omega) (by omega) 0) (HT.out.mono HKk.out.below) (by simp) (by omega) (by omega) (by simp) (fun a b h1 h2 h3 => by have hb0 : b < 1 := h2; obtain rfl : a = b := (by omega); exact h3)
       have CQ2 : Calls Tryd.prog 7 #[.pointer (some ⟨S, 0, none⟩), leafA 4 3] wr (fun e w' => e = .returned (.int .i64 0) ∧ SetMore wr S (S + 1) 0 (mOf 21 S) lv rv (19) [(numV 2 0)] [0] 1 (numV 4 3) w') := CQ.mono (fun e w' h => by unfold AddSetPost SetPost at h; rw [show foundB 0 [(numV 2 0)] [0] (numV 4 3) (List.length [(numV 2 0)]) = false from by kernel_rfl, show growV (numV 4 3) (List.length [(numV 2 0)]) = 11 from by kernel_rfl, show bpos (cF 0 [(numV 2 0)] [0] (numV 4 3)) (List.length [(numV 2 0)]) = 1 from by kernel_rfl, if_neg (fun h0 => h0.elim (fun e => by cases e) (fun e => absurd e (show ¬ ((4 : Int) = 0) by omega))), if_neg (by omega)] at h; exact h)
       have HCQ := Lib.hid CQ2
       unfold leafA at HCQ
       have HSs := Lib.hid hs
       clear CQ CQ2 hs
       go_wp2_with fail
       refine HCQ.out.mono ?_
       clear HCQ d0 d1 d2 d3 d4 d5
       rintro e w9 ⟨rfl, lv9, rv9, xs9, hs9, hr9, hl9, hv9⟩
       have hlb : ∀ g, lv.ownBlock = some g → S + 1 ≤ g := fun g hg => (owns_block HSs.out.acc.own hg).1
       have hrb : ∀ g, rv.ownBlock = some g → S + 1 ≤ g := fun g hg => (owns_block HSs.out.rise hg).1
       have HS9 : Hid (SK 3 w9) := by
        rw [HSK.out]
        refine ⟨lv9, rv9, xs9, hs9, fun e => ?_, fun e => ?_⟩
        ·rcases hl9 with e9 | ⟨g, e9, hg⟩
         ·exact hl6 (e9 ▸ e)
         ·rw [e] at e9; have := Option.some.inj e9; omega
        ·rcases hv9 with e9 | ⟨g, e9, hg⟩
         ·exact hr6 (e9 ▸ e)
         ·rw [e] at e9; have := Option.some.inj e9; omega
       have HX9 : Hid (IsBox w9 P6 (.int .i64 7) (.int .i64 0) (.string t4) (.slice x1 q1 q2) (.slice x2 q3 q4) (.slice x3 0 q6)) := (hr9.block P6 hP6w (fun e => e.elim (fun e2 => by omega) (fun e => e.elim hl6 hr6))).trans HXk.out
       have HK9 := Lib.hid (HKk.out.rm (hr9.mono (G := fun g => S ≤ g) (fun g _ h => h.elim (fun e => by omega) (fun e => e.elim (fun e => by have := hlb g e; omega) (fun e => by have := hrb g e; omega)))) hSw hIS hNS)
       clear hs9 hr9 hl9 hv9 hlb hrb
       go_wp2_with fail
       go_roundw
       case rel => exact ⟨3, by go_num, by omega, HS9, HX9, HK9⟩
       case measure => simp [intOf]
      ·skip
       have d0 := (cell_of_row wr PI 18 _ _ _ HKk.out.rowI).trans rfl
       have d1 := (cell_of_row wr PI 19 _ _ _ HKk.out.rowI).trans rfl
       have d2 := (cell_of_row wr PI 20 _ _ _ HKk.out.rowI).trans rfl
       have d3 := (cell_of_row wr PI 21 _ _ _ HKk.out.rowI).trans rfl
       have d4 := (cell_of_row wr PI 22 _ _ _ HKk.out.rowI).trans rfl
       have d5 := (cell_of_row wr PI 23 _ _ _ HKk.out.rowI).trans rfl
       have hsk : (∃ lv rv xs, SetAt wr S (S + 1) 0 (mOf 21 S) lv rv (19) [(numV 2 0), (numV 4 3)] xs [0, 1] ∧ lv.ownBlock ≠ some P6 ∧ rv.ownBlock ≠ some P6) := by have h := HSk.out; rw [HSK.out] at h; exact h
       obtain ⟨lv, rv, xs, hs, hl6, hr6⟩ := hsk
       have CQ := add_set w.heap.size S (S + 1) 0 lv rv (19) [(numV 2 0), (numV 4 3)] xs [0, 1] (numV 3 3) _ (fun _ => False) wr hSw (by omega) hbase hs (leaf_in wr (fun _ => False) 3 3 (by omega) (by omega) 0) (HT.out.mono HKk.out.below) (by simp) (by omega) (by omega) (by simp) (fun a b h1 h2 h3 => by have hb0 : b < 2 := h2; have hab : a = b ∨ (a = 0 ∧ b = 1) := (by omega); rcases hab with rfl | ⟨rfl, rfl⟩; (exact h3); exact absurd h3 (by rw [show cF 0 [(numV 2 0), (numV 4 3)] [0, 1] (numV 3 3) 1 = 0 from by kernel_rfl]; omega))
       have CQ2 : Calls Tryd.prog 7 #[.pointer (some ⟨S, 0, none⟩), leafA 3 3] wr (fun e w' => e = .returned (.int .i64 0) ∧ Below wr.heap.size wr w') := CQ.mono (fun e w' h => by unfold AddSetPost SetPost at h; rw [if_pos (.inl (by kernel_rfl))] at h; exact h)
       have HCQ := Lib.hid CQ2
       unfold leafA at HCQ
       have HSs := Lib.hid hs
       clear CQ CQ2 hs
       go_wp2_with fail
       refine HCQ.out.mono ?_
       clear HCQ d0 d1 d2 d3 d4 d5
       rintro e w9 ⟨rfl, hb9⟩
       have HS9 : Hid (SK 4 w9) := by rw [HSK.out]; exact ⟨lv, rv, xs, HSs.out.keep hb9, hl6, hr6⟩
       have HX9 := Lib.hid (HXk.out.keep hb9)
       have HK9 := Lib.hid (HKk.out.keep hb9)
       clear hb9
       go_wp2_with fail
       go_roundw
       case rel => exact ⟨4, by go_num, by omega, HS9, HX9, HK9⟩
       case measure => simp [intOf]
      ·skip
       have d0 := (cell_of_row wr PI 24 _ _ _ HKk.out.rowI).trans rfl
       have d1 := (cell_of_row wr PI 25 _ _ _ HKk.out.rowI).trans rfl
       have d2 := (cell_of_row wr PI 26 _ _ _ HKk.out.rowI).trans rfl
       have d3 := (cell_of_row wr PI 27 _ _ _ HKk.out.rowI).trans rfl
       have d4 := (cell_of_row wr PI 28 _ _ _ HKk.out.rowI).trans rfl
       have d5 := (cell_of_row wr PI 29 _ _ _ HKk.out.rowI).trans rfl
       have hsk : (∃ lv rv xs, SetAt wr S (S + 1) 0 (mOf 21 S) lv rv (19) [(numV 2 0), (numV 4 3)] xs [0, 1] ∧ lv.ownBlock ≠ some P6 ∧ rv.ownBlock ≠ some P6) := by have h := HSk.out; rw [HSK.out] at h; exact h
       obtain ⟨lv, rv, xs, hs, hl6, hr6⟩ := hsk
       have CQ := add_set w.heap.size S (S + 1) 0 lv rv (19) [(numV 2 0), (numV 4 3)] xs [0, 1] (numV 0 0) _ (fun _ => False) wr hSw (by omega) hbase hs (leaf_in wr (fun _ => False) 0 0 (by omega) (by omega) 0) (HT.out.mono HKk.out.below) (by simp) (by omega) (by omega) (by simp) (fun a b h1 h2 h3 => by have hb0 : b < 2 := h2; have hab : a = b ∨ (a = 0 ∧ b = 1) := (by omega); rcases hab with rfl | ⟨rfl, rfl⟩; (exact h3); exact absurd h3 (by rw [show cF 0 [(numV 2 0), (numV 4 3)] [0, 1] (numV 0 0) 1 = 1 from by kernel_rfl]; omega))
       have CQ2 : Calls Tryd.prog 7 #[.pointer (some ⟨S, 0, none⟩), leafA 0 0] wr (fun e w' => e = .returned (.int .i64 0) ∧ Below wr.heap.size wr w') := CQ.mono (fun e w' h => by unfold AddSetPost SetPost at h; rw [if_pos (.inr rfl)] at h; exact h)
       have HCQ := Lib.hid CQ2
       unfold leafA at HCQ
       have HSs := Lib.hid hs
       clear CQ CQ2 hs
       go_wp2_with fail
       refine HCQ.out.mono ?_
       clear HCQ d0 d1 d2 d3 d4 d5
       rintro e w9 ⟨rfl, hb9⟩
       have HS9 : Hid (SK 5 w9) := by rw [HSK.out]; exact ⟨lv, rv, xs, HSs.out.keep hb9, hl6, hr6⟩
       have HX9 := Lib.hid (HXk.out.keep hb9)
       have HK9 := Lib.hid (HKk.out.keep hb9)
       clear hb9
       go_wp2_with fail
       go_roundw
       case rel => exact ⟨5, by go_num, by omega, HS9, HX9, HK9⟩
       case measure => simp [intOf]
      ·omega
     obtain rfl : k = 5 := by omega
     have hsk : (∃ lv rv xs, SetAt wr S (S + 1) 0 (mOf 21 S) lv rv (19) [(numV 2 0), (numV 4 3)] xs [0, 1] ∧ lv.ownBlock ≠ some P6 ∧ rv.ownBlock ≠ some P6) := by have h := HSk.out; rw [HSK.out] at h; exact h
     obtain ⟨lv, rv, xs, hs, -, -⟩ := hsk
     have CV := Lib.hid (value_lst S (S + 1) 0 _ _ _ _ _ _ _ _ _ wr hs.row hs.acc (by simp))
     clear hs HSk
     go_wp2_with fail
     refine CV.out.mono ?_
     rintro e w7 ⟨v7, rfl, hv7, hb7⟩
     obtain ⟨k7, n7, t7, z1, z2, z3, r1, r2, r3, r4, r5, r6, rfl, e1, e2, -, -, -, e6, -, -, hI7⟩ := hv7.letters
     obtain rfl : k7 = 7 := e1
     obtain rfl : n7 = 0 := e2
     obtain rfl : r5 = 2 := e6
     obtain ⟨g7, o7, rfl, -, hall⟩ := hI7.resolve_left (fun e => by cases e)
     obtain ⟨u7, hsix7, hV7⟩ := hall 1 (by decide)
     obtain ⟨f0, f1, f2, f3, f4, f5, rfl, hf0, -⟩ := hsix7
     obtain ⟨kk, nn, ss, y1, y2, y3, y4, y5, y6, y7, y8, y9, h0, -⟩ := six_of hV7
     subst h0
     have hkk := hV7.letters
     obtain ⟨k9, n9, s9, j1, j2, j3, m1, m2, m3, m4, m5, m6, e9, ek9, -⟩ := hkk
     simp only [Value.agg.injEq, Array.mk.injEq, List.cons.injEq, Value.int.injEq, true_and] at e9
     obtain rfl : kk = 4 := e9.1.trans ek9
     have hf8 := hf0
     clear hall hV7 e9 ek9 hI7 hv7
     have HX7 := Lib.hid (HXk.out.keep hb7)
     have HK7 := Lib.hid (HKk.out.keep hb7)
     obtain ⟨W8, hW8⟩ : ∃ W, W = w7.alloc (.cells #[.int .i64 7, .int .i64 0, .string t7, .slice z1 r1 r2, .slice z2 r3 r4, .slice (some ⟨g7, o7, none⟩) 2 r6] 32) := ⟨_, rfl⟩
     obtain ⟨P8, hP8⟩ : ∃ P, P = w7.heap.size := ⟨_, rfl⟩
     have hb8 : Below w7.heap.size w7 W8 := by rw [hW8]; exact (Below.refl _ _).alloc (Nat.le_refl _) _
     have hx8 : IsBox W8 P8 (.int .i64 7) (.int .i64 0) (.string t7) (.slice z1 r1 r2) (.slice z2 r3 r4) (.slice (some ⟨g7, o7, none⟩) 2 r6) := by rw [hW8, hP8]; exact IsBox.new w7 _ _ _ _ _ _
     have hf9 := cell_keep hb8 hf8
     have HK8 := Lib.hid (HK7.out.keep hb8)
     obtain ⟨c0, c1, c2, c3, c4, c5⟩ := (HX7.out.keep hb8).cells
     obtain ⟨e0, e1, e2, e3, e4, e5⟩ := hx8.cells
     have HW8 := Lib.hid hW8; have HP8 := Lib.hid hP8
     simp only [Nat.zero_mul, Nat.one_mul, Nat.add_zero] at hf9
     clear hb7 hb8 hx8 hW8 hP8 CV hf8 hf0
     go_upto_region 19 with fail
     rw [← HW8.out, ← HP8.out]
     go_wp2_with fail
     go_roundw
     case rel =>
      first
      | exact ⟨7, by go_num, by omega, HK8.out⟩
      | (repeat apply Exists.intro; refine ⟨?_, rfl⟩; exact ⟨7, by go_num, by omega, HK8.out⟩)
     case measure => simp [intOf]
   ·skip
    have hcn := (cell_of_row wr PN 7 _ _ _ HK.out.rowN).trans rfl
    have CK := Lib.hid (kind12_any ⟨#[36, 99, 111, 117, 110, 116]⟩ 7 (by kernel_rfl) (by omega) (by omega) wr (HN.out.keep HK.out.below))
    obtain ⟨S, hS⟩ : ∃ s, s = wr.heap.size := ⟨_, rfl⟩
    have CN := Lib.hid (newk_count S wr hS (HT.out.mono HK.out.below).now)
    have hIS : PI < S := by rw [hS]; exact (Array.getElem?_eq_some_iff.1 HK.out.rowI).1
    have hNS : PN < S := by rw [hS]; exact (Array.getElem?_eq_some_iff.1 HK.out.rowN).1
    have hSw : w.heap.size ≤ S := by have := HK.out.below.size; omega
    have HS := Lib.hid hS
    clear hS
    go_wp2_with fail
    refine CK.out.mono ?_
    rintro e wk ⟨rfl, rfl⟩
    clear hcn CK
    go_wp2_with fail
    refine CN.out.mono ?_
    rintro e w3 ⟨rfl, hc3, hb3⟩
    have HK3 := Lib.hid (HK.out.keep hb3)
    clear CN
    have HS3 : Hid (KSt w3 S 22 (numV 3 0)) := ⟨_, st_new (by unfold Num.In; omega) (by unfold Num.In; omega) hc3 (fun g => g ≠ S) (fun h => h rfl) 0⟩
    clear hc3 hb3
    have CV := Lib.hid (kn_value S _ _ w3 HS3.out)
    rw [show (orN (numV 3 0)).kind = 3 from by kernel_rfl, show (orN (numV 3 0)).n = 0 from by kernel_rfl] at CV
    go_wp2_with fail
    refine CV.out.mono ?_
    rintro e w4 ⟨tu, au1, au2, au3, pu1, pu2, pu3, pu4, pu5, pu6, rfl, hb4⟩
    obtain ⟨W6, hW6⟩ : ∃ W, W = w4.alloc (.cells #[.int .i64 3, .int .i64 0, .string tu, .slice au1 pu1 pu2, .slice au2 pu3 pu4, .slice au3 pu5 pu6] 32) := ⟨_, rfl⟩
    obtain ⟨P6, hP6⟩ : ∃ P, P = w4.heap.size := ⟨_, rfl⟩
    have hb6 : Below w3.heap.size w3 W6 := by rw [hW6]; exact hb4.alloc hb4.size _
    have hx6 : IsBox W6 P6 (.int .i64 3) (.int .i64 0) (.string tu) (.slice au1 pu1 pu2) (.slice au2 pu3 pu4) (.slice au3 pu5 pu6) := by rw [hW6, hP6]; exact IsBox.new w4 _ _ _ _ _ _
    have hP6S : S < P6 := by have := HS3.out; obtain ⟨_, h⟩ := this; have := h.lt; have := hb4.size; omega
    have HS6 := Lib.hid (HS3.out.below hb6)
    have HK6 := Lib.hid (HK3.out.keep hb6)
    have HX6 := Lib.hid hx6
    have HW6 := Lib.hid hW6; have HP6 := Lib.hid hP6
    clear hb4 hb6 hx6 hW6 hP6 CV HS3
    go_upto_region 13 with fail
    rw [← HW6.out, ← HP6.out]
    go_wp2_with fail
    go_loopw [7] (fun k_ wq => ∃ k : Nat, k_ = .int .i64 k ∧ k ≤ 5 ∧ Hid (KSt wq S 22 ([(numV 3 0), (numV 3 1), (numV 3 2), (numV 3 3), (numV 3 4), (numV 3 5)].getD k (numV 0 0))) ∧ Hid (RM (fun g => g = S) W6 wq)) (fun k_ _ => 5 - (intOf k_).toNat)
    case atStart => exact ⟨0, rfl, Nat.zero_le _, HS6.out, RM.refl _ _⟩
    case round =>
     obtain ⟨k, rfl, hk5, HSk, HRk⟩ := hrel
     have HKk : Hid (KW w PI PN wr) := HK6.out.rm (HRk.out.mono (fun k _ h => by omega)) hSw hIS hNS
     by_cases hk : k < 5
     ·skip
      rcases k with _ | _ | _ | _ | _ | k
      ·skip
       have d0 := (cell_of_row wr PI 0 _ _ _ HKk.out.rowI).trans rfl
       have d1 := (cell_of_row wr PI 1 _ _ _ HKk.out.rowI).trans rfl
       have d2 := (cell_of_row wr PI 2 _ _ _ HKk.out.rowI).trans rfl
       have d3 := (cell_of_row wr PI 3 _ _ _ HKk.out.rowI).trans rfl
       have d4 := (cell_of_row wr PI 4 _ _ _ HKk.out.rowI).trans rfl
       have d5 := (cell_of_row wr PI 5 _ _ _ HKk.out.rowI).trans rfl
       have CQ := Lib.hid (kn_count S (numV 3 0) (numV 0 0) _ wr HSk.out (leaf_in wr _ 0 0 (by omega) (by omega) 0) w.heap.size hSw (HT.out.mono HKk.out.below) (by show (0 : Int) + 1 ≤ _; omega))
       rw [show kS_count (numV 3 0) (numV 0 0) = (numV 3 1) from by kernel_rfl] at CQ
       go_wp2_with fail
       refine CQ.out.mono ?_
       rintro e w9 ⟨rfl, hs9, hr9⟩
       have HS9 := Lib.hid hs9
       have HR9 := Lib.hid (HRk.out.trans hr9 (fun _ _ h => h))
       clear d0 d1 d2 d3 d4 d5 CQ hs9 hr9
       go_wp2_with fail
       go_roundw
       case rel => exact ⟨1, by go_num, by omega, HS9.out, HR9.out⟩
       case measure => simp [intOf]
      ·skip
       have d0 := (cell_of_row wr PI 6 _ _ _ HKk.out.rowI).trans rfl
       have d1 := (cell_of_row wr PI 7 _ _ _ HKk.out.rowI).trans rfl
       have d2 := (cell_of_row wr PI 8 _ _ _ HKk.out.rowI).trans rfl
       have d3 := (cell_of_row wr PI 9 _ _ _ HKk.out.rowI).trans rfl
       have d4 := (cell_of_row wr PI 10 _ _ _ HKk.out.rowI).trans rfl
       have d5 := (cell_of_row wr PI 11 _ _ _ HKk.out.rowI).trans rfl
       have CQ := Lib.hid (kn_count S (numV 3 1) (numV 2 0) _ wr HSk.out (leaf_in wr _ 2 0 (by omega) (by omega) 0) w.heap.size hSw (HT.out.mono HKk.out.below) (by show (1 : Int) + 1 ≤ _; omega))
       rw [show kS_count (numV 3 1) (numV 2 0) = (numV 3 2) from by kernel_rfl] at CQ
       go_wp2_with fail
       refine CQ.out.mono ?_
       rintro e w9 ⟨rfl, hs9, hr9⟩
       have HS9 := Lib.hid hs9
       have HR9 := Lib.hid (HRk.out.trans hr9 (fun _ _ h => h))
       clear d0 d1 d2 d3 d4 d5 CQ hs9 hr9
       go_wp2_with fail
       go_roundw
       case rel => exact ⟨2, by go_num, by omega, HS9.out, HR9.out⟩
       case measure => simp [intOf]
      ·skip
       have d0 := (cell_of_row wr PI 12 _ _ _ HKk.out.rowI).trans rfl
       have d1 := (cell_of_row wr PI 13 _ _ _ HKk.out.rowI).trans rfl
       have d2 := (cell_of_row wr PI 14 _ _ _ HKk.out.rowI).trans rfl
       have d3 := (cell_of_row wr PI 15 _ _ _ HKk.out.rowI).trans rfl
       have d4 := (cell_of_row wr PI 16 _ _ _ HKk.out.rowI).trans rfl
       have d5 := (cell_of_row wr PI 17 _ _ _ HKk.out.rowI).trans rfl
       have CQ := Lib.hid (kn_count S (numV 3 2) (numV 4 3) _ wr HSk.out (leaf_in wr _ 4 3 (by omega) (by omega) 0) w.heap.size hSw (HT.out.mono HKk.out.below) (by show (2 : Int) + 1 ≤ _; omega))
       rw [show kS_count (numV 3 2) (numV 4 3) = (numV 3 3) from by kernel_rfl] at CQ
       go_wp2_with fail
       refine CQ.out.mono ?_
       rintro e w9 ⟨rfl, hs9, hr9⟩
       have HS9 := Lib.hid hs9
       have HR9 := Lib.hid (HRk.out.trans hr9 (fun _ _ h => h))
       clear d0 d1 d2 d3 d4 d5 CQ hs9 hr9
       go_wp2_with fail
       go_roundw
       case rel => exact ⟨3, by go_num, by omega, HS9.out, HR9.out⟩
       case measure => simp [intOf]
      ·skip
       have d0 := (cell_of_row wr PI 18 _ _ _ HKk.out.rowI).trans rfl
       have d1 := (cell_of_row wr PI 19 _ _ _ HKk.out.rowI).trans rfl
       have d2 := (cell_of_row wr PI 20 _ _ _ HKk.out.rowI).trans rfl
       have d3 := (cell_of_row wr PI 21 _ _ _ HKk.out.rowI).trans rfl
       have d4 := (cell_of_row wr PI 22 _ _ _ HKk.out.rowI).trans rfl
       have d5 := (cell_of_row wr PI 23 _ _ _ HKk.out.rowI).trans rfl
       have CQ := Lib.hid (kn_count S (numV 3 3) (numV 3 3) _ wr HSk.out (leaf_in wr _ 3 3 (by omega) (by omega) 0) w.heap.size hSw (HT.out.mono HKk.out.below) (by show (3 : Int) + 1 ≤ _; omega))
       rw [show kS_count (numV 3 3) (numV 3 3) = (numV 3 4) from by kernel_rfl] at CQ
       go_wp2_with fail
       refine CQ.out.mono ?_
       rintro e w9 ⟨rfl, hs9, hr9⟩
       have HS9 := Lib.hid hs9
       have HR9 := Lib.hid (HRk.out.trans hr9 (fun _ _ h => h))
       clear d0 d1 d2 d3 d4 d5 CQ hs9 hr9
       go_wp2_with fail
       go_roundw
       case rel => exact ⟨4, by go_num, by omega, HS9.out, HR9.out⟩
       case measure => simp [intOf]
      ·skip
       have d0 := (cell_of_row wr PI 24 _ _ _ HKk.out.rowI).trans rfl
       have d1 := (cell_of_row wr PI 25 _ _ _ HKk.out.rowI).trans rfl
       have d2 := (cell_of_row wr PI 26 _ _ _ HKk.out.rowI).trans rfl
       have d3 := (cell_of_row wr PI 27 _ _ _ HKk.out.rowI).trans rfl
       have d4 := (cell_of_row wr PI 28 _ _ _ HKk.out.rowI).trans rfl
       have d5 := (cell_of_row wr PI 29 _ _ _ HKk.out.rowI).trans rfl
       have CQ := Lib.hid (kn_count S (numV 3 4) (numV 0 0) _ wr HSk.out (leaf_in wr _ 0 0 (by omega) (by omega) 0) w.heap.size hSw (HT.out.mono HKk.out.below) (by show (4 : Int) + 1 ≤ _; omega))
       rw [show kS_count (numV 3 4) (numV 0 0) = (numV 3 5) from by kernel_rfl] at CQ
       go_wp2_with fail
       refine CQ.out.mono ?_
       rintro e w9 ⟨rfl, hs9, hr9⟩
       have HS9 := Lib.hid hs9
       have HR9 := Lib.hid (HRk.out.trans hr9 (fun _ _ h => h))
       clear d0 d1 d2 d3 d4 d5 CQ hs9 hr9
       go_wp2_with fail
       go_roundw
       case rel => exact ⟨5, by go_num, by omega, HS9.out, HR9.out⟩
       case measure => simp [intOf]
      ·omega
     obtain rfl : k = 5 := by omega
     have HS5 : Hid (KSt wr S 22 (numV 3 5)) := HSk.out
     clear HSk hk hk5
     have CV := Lib.hid (kn_value S _ _ wr HS5.out)
     rw [show (orN (numV 3 5)).kind = 3 from by kernel_rfl, show (orN (numV 3 5)).n = 5 from by kernel_rfl] at CV
     have hx5 := box_rm2 HX6.out HRk.out (by omega)
     go_wp2_with fail
     refine CV.out.mono ?_
     rintro e w7 ⟨tv, av1, av2, av3, pv1, pv2, pv3, pv4, pv5, pv6, rfl, hb7⟩
     have HX7 := Lib.hid (hx5.keep hb7)
     have HK7 := Lib.hid (HKk.out.keep hb7)
     clear hx5
     obtain ⟨W8, hW8⟩ : ∃ W, W = w7.alloc (.cells #[.int .i64 3, .int .i64 5, .string tv, .slice av1 pv1 pv2, .slice av2 pv3 pv4, .slice av3 pv5 pv6] 32) := ⟨_, rfl⟩
     obtain ⟨P8, hP8⟩ : ∃ P, P = w7.heap.size := ⟨_, rfl⟩
     have hb8 : Below w7.heap.size w7 W8 := by rw [hW8]; exact (Below.refl _ _).alloc (Nat.le_refl _) _
     have hx8 : IsBox W8 P8 (.int .i64 3) (.int .i64 5) (.string tv) (.slice av1 pv1 pv2) (.slice av2 pv3 pv4) (.slice av3 pv5 pv6) := by rw [hW8, hP8]; exact IsBox.new w7 _ _ _ _ _ _
     have HK8 := Lib.hid (HK7.out.keep hb8)
     obtain ⟨c0, c1, c2, c3, c4, c5⟩ := (HX7.out.keep hb8).cells
     obtain ⟨e0, e1, e2, e3, e4, e5⟩ := hx8.cells
     have HW8 := Lib.hid hW8; have HP8 := Lib.hid hP8
     clear hb7 hb8 hx8 hW8 hP8 CV
     go_upto_region 19 with fail
     rw [← HW8.out, ← HP8.out]
     go_wp2_with fail
     go_roundw
     case rel =>
      first
      | exact ⟨8, by go_num, by omega, HK8.out⟩
      | (repeat apply Exists.intro; refine ⟨?_, rfl⟩; exact ⟨8, by go_num, by omega, HK8.out⟩)
     case measure => simp [intOf]
   ·omega
  obtain rfl : i = 8 := by omega
  obtain ⟨S, hS⟩ : ∃ s, s = wr.heap.size := ⟨_, rfl⟩
  have CN := Lib.hid (newk_sum S wr hS (HT.out.mono HK.out.below).now)
  have hSw : w.heap.size ≤ S := by have := HK.out.below.size; omega
  clear hS hi hi8
  go_wp2_with fail
  refine CN.out.mono ?_
  rintro e v3 ⟨rfl, hc3, hb3⟩
  have HS3 : Hid (KSt v3 S 12 (numV 3 0)) := ⟨_, st_new (by unfold Num.In; omega) (by unfold Num.In; omega) hc3 (fun g => g ≠ S) (fun h => h rfl) 0⟩
  have HB3 := Lib.hid (HK.out.below.trans (hb3.mono HK.out.below.size))
  clear hc3 hb3 CN
  go_wp2_with fail
  refine (C10.out (9223372036854775807) v3).mono ?_
  rintro e v4 ⟨rfl, hb⟩
  have HS4 := Lib.hid (HS3.out.below hb)
  have HB4 := Lib.hid (HB3.out.trans (hb.mono HB3.out.size))
  clear hb
  have CQ := Lib.hid (kn_sum S (numV 3 0) (numV 4 (9223372036854775807)) _ v4 HS4.out (leaf_in v4 _ 4 (9223372036854775807) (by omega) (by omega) 0) w.heap.size hSw (HT.out.mono HB4.out))
  rw [show kE_sum (numV 3 0) (numV 4 (9223372036854775807)) = 0 from by kernel_rfl, show kS_sum (numV 3 0) (numV 4 (9223372036854775807)) = (numV 4 9223372036854775807) from by kernel_rfl] at CQ
  go_wp2_with fail
  refine CQ.out.mono ?_
  rintro e v5 ⟨rfl, hs, hr⟩
  have HS5 := Lib.hid hs
  have HB5 := Lib.hid (HB4.out.trans (hr.below HB4.out.size (fun k hk => by omega)))
  clear hs hr CQ
  go_wp2_with fail
  refine (C10.out (1) v5).mono ?_
  rintro e v6 ⟨rfl, hb⟩
  have HS6 := Lib.hid (HS5.out.below hb)
  have HB6 := Lib.hid (HB5.out.trans (hb.mono HB5.out.size))
  clear hb
  have CQ := Lib.hid (kn_sum S (numV 4 9223372036854775807) (numV 4 (1)) _ v6 HS6.out (leaf_in v6 _ 4 (1) (by omega) (by omega) 0) w.heap.size hSw (HT.out.mono HB6.out))
  rw [show kE_sum (numV 4 9223372036854775807) (numV 4 (1)) = 10 from by kernel_rfl, show kS_sum (numV 4 9223372036854775807) (numV 4 (1)) = (numV 4 9223372036854775807) from by kernel_rfl] at CQ
  go_wp2_with fail
  refine CQ.out.mono ?_
  rintro e v7 ⟨rfl, hs, hr⟩
  have HS7 := Lib.hid hs
  have HB7 := Lib.hid (HB6.out.trans (hr.below HB6.out.size (fun k hk => by omega)))
  clear hs hr CQ
  go_wp2_with fail
  refine (C10.out (-1) v7).mono ?_
  rintro e v8 ⟨rfl, hb⟩
  have HS8 := Lib.hid (HS7.out.below hb)
  have HB8 := Lib.hid (HB7.out.trans (hb.mono HB7.out.size))
  clear hb
  have CQ := Lib.hid (kn_sum S (numV 4 9223372036854775807) (numV 4 (-1)) _ v8 HS8.out (leaf_in v8 _ 4 (-1) (by omega) (by omega) 0) w.heap.size hSw (HT.out.mono HB8.out))
  rw [show kE_sum (numV 4 9223372036854775807) (numV 4 (-1)) = 0 from by kernel_rfl, show kS_sum (numV 4 9223372036854775807) (numV 4 (-1)) = (numV 4 9223372036854775806) from by kernel_rfl] at CQ
  go_wp2_with fail
  refine CQ.out.mono ?_
  rintro e v9 ⟨rfl, hs, hr⟩
  have HS9 := Lib.hid hs
  have HB9 := Lib.hid (HB8.out.trans (hr.below HB8.out.size (fun k hk => by omega)))
  clear hs hr CQ
  have CV := Lib.hid (kn_value S _ _ v9 HS9.out)
  rw [show (orN (numV 4 9223372036854775806)).kind = 4 from by kernel_rfl, show (orN (numV 4 9223372036854775806)).n = 9223372036854775806 from by kernel_rfl] at CV
  go_wp2_with fail
  refine CV.out.mono ?_
  rintro e v10 ⟨tu, au1, au2, au3, pu1, pu2, pu3, pu4, pu5, pu6, rfl, hb⟩
  have HB10 := Lib.hid (HB9.out.trans (hb.mono HB9.out.size))
  clear hb CV
  have hfd := fun W : World => (show (Instr.field 32 (.agg #[.int .i64 4, .int .i64 9223372036854775806, .string tu, .slice au1 pu1 pu2, .slice au2 pu3 pu4, .slice au3 pu5 pu6]) 1).run Tryd.prog W = .ok (.int .i64 9223372036854775806) W from by kernel_rfl)
  have CK := Lib.hid (kind12_any ⟨#[115, 117, 109]⟩ (-1) (by kernel_rfl) (by omega) (by omega) v10 (HN.out.keep HB10.out))
  go_wp2_with fail
  refine CK.out.mono ?_
  rintro e vk ⟨rfl, rfl⟩
  go_wp2_with fail
  go_ret
  exact ⟨rfl, HB10.out⟩
end Acc
end Go.Proofs.YtngllchoiffniaaDoor
end
