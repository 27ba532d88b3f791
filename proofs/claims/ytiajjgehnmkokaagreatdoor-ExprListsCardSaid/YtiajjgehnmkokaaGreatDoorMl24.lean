/- ExprPaths, ExprLawOp, ExprAwake, ExprListsEval, ExprListsMath, ExprListsReg. -/
import Derived.Test.YtiajjgehnmkokaaGreatDoorMl23
import Derived.Test.YtiajjgehnmkokaaGreatDoorMl0
import Derived.Test.YtiajjgehnmkokaaGreatDoorMl3
import Derived.Test.YtiajjgehnmkokaaGreatDoorMl15
import Derived.Test.YtiajjgehnmkokaaGreatDoorMl1
set_option maxRecDepth 100000
set_option maxHeartbeats 20000000
section
namespace Go.Proofs.YtiajjgehnmkokaaGreatDoor
open Go.RowKit
open Seal
open Bson (Val)
theorem pathsV_short : ∀ {h : Nat} {x : Val}, ∀ p ∈ pathsV h x, p.length ≤ 16
 | 0, _, p, hp => by cases hp
 | h + 1, x, p, hp => by
  have hl : ∀ l : List Val, p ∈ (l.map (pathsV h)).flatten → p.length ≤ 16 := fun l hp => by
   obtain ⟨q, hq, hpq⟩ := List.mem_flatten.1 hp
   obtain ⟨y, -, rfl⟩ := List.mem_map.1 hq
   exact pathsV_short p hpq
  rw [pathsV] at hp
  split at hp
  ·split at hp
   ·rw [List.mem_singleton.1 hp]
    unfold Expr.pathOf
    cases e : Path.parse (x.s.data.toList.drop 1) with
    | none => simp
    | some q => show (Path.names q).length ≤ 16; rw [Path.names_length]; exact parse_len e
   ·cases hp
  ·split at hp
   ·exact hl _ hp
   ·split at hp
    ·split at hp
     ·split at hp
      ·split at hp
       ·cases hp
       ·exact hl _ hp
      ·cases hp
     ·obtain ⟨q, hq, hpq⟩ := List.mem_flatten.1 hp
      obtain ⟨y, -, rfl⟩ := List.mem_map.1 hq
      exact pathsV_short p hpq
    ·cases hp
theorem cloneS_any (p : List ByteArray) (v : Value) (w : World) (hl : p.length ≤ 16) (h : w.ownsRow 0 9 1 v p.length (txtV p)) :
  Calls Tryz.prog 37 #[v] w fun e w' => ∃ a n c, e = .returned (.slice a n c) ∧ Below w.heap.size w w' := by
 rcases id h with ⟨hx, ⟨rfl, hn⟩ | ⟨g, cap, cur, rfl, hg, hrow, hc, hm, hsz, htake⟩⟩
 ·refine (Tryz.slices_Clone_string_nil 0 0 w).mono ?_
  rintro e w' ⟨rfl, rfl⟩
  exact ⟨none, 0, 0, rfl, Below.refl _ _⟩
 ·refine (Tryz.slices_Clone_string g 0 p.length cap p w (Nat.le_refl _) (by omega) (fun j hj => ?_)).mono ?_
  ·rw [Nat.zero_add, cell_of_row w g j _ _ _ hrow, ← Array.getElem?_toList]
   have e2 : cur.toList[j]? = (txtV p)[j]? := by rw [← htake, List.getElem?_take_of_lt (by omega)]
   rw [e2]
   unfold txtV
   rw [List.getElem?_map, List.getElem?_eq_getElem hj, List.getD_eq_getElem?_getD, List.getElem?_eq_getElem hj]; rfl
  ·rintro e w' ⟨v', rfl, hown, -, hb⟩
   obtain ⟨a, c, e⟩ := owns_shape hown
   exact ⟨a, _, c, by rw [e], hb⟩
theorem paths_any (N C h base ge : Nat) (x : Val) (w : World) (he : ExprAt w base ge N C h x) (hm : (pathsV h x).length ≤ 1000000) :
  Calls Tryz.prog 20 #[.pointer (some ⟨ge, 0, none⟩)] w fun e w' => ∃ a c, e = .returned (.slice a (pathsV h x).length c) ∧ Below w.heap.size w w' := by
 obtain ⟨i0, hi, hz0, hz1, hz2⟩ := info_parts infoNames
 obtain ⟨ik, im, is_, b0, f0, l0, bb0, bc0, fb0, fc0, lb0, lc0, pa, pn, pc, T0, rv0, hblk, -, -, hp⟩ := he
 have c7 : w.cell? ⟨ge, 7, none⟩ = some (.slice pa pn pc) := (cell_of_row w ge 7 _ _ _ hblk).trans rfl
 obtain ⟨pb, xs, hown, hall⟩ := hp
 have hsh : ∀ i (hi : i < (pathsV h x).length), ((pathsV h x)[i]).length ≤ 16 := fun i hi => pathsV_short _ (List.getElem_mem hi)
 generalize pathsV h x = L at *
 obtain ⟨n, hn⟩ : ∃ z, z = L.length := ⟨_, rfl⟩
 have hpn : pn = n := by
  obtain ⟨a', c', e⟩ := owns_shape hown
  injection e with _ e2 _
  rw [e2, hn]
 subst hpn
 rw [← hn] at hm ⊢
 have HOWN := Lib.hid hown
 have HALL : Hid (∀ i (hi : i < L.length), ∃ v, xs[i]? = some v ∧ w.ownsRow 0 9 1 v L[i].length (txtV L[i])) := hall
 have HSH : Hid (∀ i (hi : i < L.length), L[i].length ≤ 16) := hsh
 have HN := Lib.hid hn
 clear hblk hown hall hsh hn
 go_enter Tryz.func20, Tryz.ntmps20
 go_wp2_with fail
 go_loopw [3, 13] (fun rv i wr => ∃ (k : Nat) (ys : List Value), k ≤ pn ∧ i = .int .i64 k ∧ Hid (wr.ownsRow w.heap.size 42 1 rv k ys) ∧ Hid (Below w.heap.size w wr)) (fun _ i _ => pn - (intOf i).toNat)
 case atStart => exact ⟨0, [], Nat.zero_le _, rfl, World.ownsRow_nil _ _ _ _, Below.refl _ _⟩
 case round =>
  obtain ⟨k, ys, hk, rfl, HO, HB⟩ := hrel
  by_cases hlt : k < pn
  ·have hkl : k < L.length := by rw [← HN.out]; exact hlt
   obtain ⟨v, hxv, hrowv⟩ := HALL.out k hkl
   rcases id HOWN.out with ⟨hx, ⟨e, hn0⟩ | ⟨g, cap, cur, e, hg, hrow, hc, hmm, hsz, htake⟩⟩
   ·omega
   injection e with e1 e2 e3
   subst e1
   clear e2 e3
   have hcell : w.cell? ⟨g, k, none⟩ = some v := by
    rw [cell_of_row w g k _ _ _ hrow, ← Array.getElem?_toList]
    have e2 : cur.toList[k]? = xs[k]? := by rw [← htake, List.getElem?_take_of_lt (by omega)]
    rw [e2, hxv]
   have hcr := cell_keep HB.out hcell
   obtain ⟨va, vc, hv⟩ := owns_shape hrowv
   obtain ⟨vn, hvn⟩ : ∃ z, z = L[k].length := ⟨_, rfl⟩
   rw [← hvn] at hv
   subst hv
   have CC := Lib.hid (cloneS_any L[k] _ wr (HSH.out k hkl) (owns_below hrowv HB.out))
   clear hxv hrowv hx hrow hc hmm hsz htake hcell hvn
   go_wp2_with fail
   refine CC.out.mono ?_
   rintro e w2 ⟨a2, n2, c2, rfl, hb2⟩
   have hB2 : Below w.heap.size w w2 := HB.out.trans (hb2.mono HB.out.size)
   have hb3 : Below w2.heap.size w2 (w2.alloc (.cells #[.slice a2 n2 c2] 42)) := (Below.refl _ _).alloc (Nat.le_refl _) _
   have HO3 := Lib.hid (owns_below (owns_below HO.out hb2) hb3)
   have HB3 := Lib.hid (hB2.trans (hb3.mono hB2.size))
   have HNW := Lib.hid (one_new w2 (.slice a2 n2 c2) 42)
   have HS3 : Hid (w.heap.size ≤ (w2.alloc (.cells #[.slice a2 n2 c2] 42)).heap.size) := Nat.le_trans hB2.size hb3.size
   clear hb2 hB2 hb3 CC hcr
   go_wp2_with (at_builtin; refine wpList_append_sz _ rfl (.tmp 17) (.tmp 20) 52 rfl w.heap.size 42 i0 (.slice none 0 0) 1 24 Tryz.underlying52 hi hz0 hz1 hz2 rfl u3 k ys rfl HO3.out ⟨w2.heap.size, 0, none⟩ 1 1 [.slice a2 n2 c2] rfl rfl (by decide) (by decide) HNW.out (by intro u hu; rw [List.mem_singleton.1 hu]; rfl) (by unfold maxLen; omega) (by omega) HS3.out ?_)
   intro v5 w5 hown5 hlies5
   have HB5 : Hid (Below w.heap.size w w5) := HB3.out.grown (Wrote.of_lies hlies5).1 HS3.out (fun j hj => (owns_block HO3.out hj).1)
   have HO5 := Lib.hid hown5
   clear hown5 hlies5
   go_wp2_with fail
   go_roundw
   case rel => exact ⟨k + 1, _, by omega, by go_num, HO5.out, HB5.out⟩
   case measure => simp [intOf]; omega
  ·obtain rfl : pn = k := by omega
   obtain ⟨a, c, hsl⟩ := owns_shape HO.out
   have HSL := Lib.hid hsl
   clear hsl
   go_wp2_with fail
   refine bodyPost_ret (v := u3) ?_ rfl ?_
   ·simp [results, Tryz.results20, go_sem, *]
   ·exact ⟨a, c, by rw [HSL.out], HB.out⟩
def opVl (name : ByteArray) (l : List Val) : Val := .mk 6 0 ⟨#[]⟩ [] [(name, .mk 7 0 ⟨#[]⟩ [] [] l)] []
def shortB : Nat → Val → Bool
 | 0, _ => false
 | n + 1, x => decide (x.s.size ≤ 4294967280) && x.f.all (fun p => shortB n p.2) && x.l.all (shortB n)
theorem short_of : ∀ {n : Nat} {x : Val}, shortB n x = true → ShortV x
 | 0, _, h => by cases h
 | n + 1, x, h => by
  rw [shortB, Bool.and_eq_true, Bool.and_eq_true] at h
  exact .mk x (by simpa using h.1.1) (fun p hp => short_of (List.all_eq_true.1 h.1.2 p hp)) (fun y hy => short_of (List.all_eq_true.1 h.2 y hy))
theorem parse_ok (N C h : Nat) (hN : 16 ≤ N) (hC : 3 * h ≤ C) (Q : Nat → Prop) (x : Val) (v : Value) (w : World) (hG : Ground w) (hv : VIn w Q h x v) (hs : ShortV x) (hz : exprCode h x = 0) :
  Calls Tryz.prog 9 #[v] w fun e w' => ∃ ge, e = .returned (.tuple #[.pointer (some ⟨ge, 0, none⟩), .int .i64 0]) ∧ ExprAt w' w.heap.size ge N C h x ∧ Below w.heap.size w w' :=
 (parse_any N C h hN hC Q x v w hG hv hs).mono fun e w' hp => by
  obtain ⟨hb, ⟨-, ge, he, -, hx⟩ | ⟨hne, -⟩⟩ := hp
  ·exact ⟨ge, he, hx, hb⟩
  ·exact absurd hz hne
theorem num10_any (n : Int) (w : World) : Calls Tryz.prog 17 #[.int .i64 n] w fun e w' => e = .returned (.agg #[.int .i64 3, .int .i64 n, .string ⟨#[]⟩, .slice none 0 0, .slice none 0 0, .slice none 0 0]) ∧ Below w.heap.size w w' := by
 have hb : Below w.heap.size w (w.alloc (.cells #[.int .i64 3, .int .i64 n, .string ⟨#[]⟩, .slice none 0 0, .slice none 0 0, .slice none 0 0] 26)) := (Below.refl _ _).alloc (Nat.le_refl _) _
 have HB := Lib.hid hb
 clear hb
 go_enter Tryz.func17, Tryz.ntmps17
 go_wp2_with fail
 refine bodyPost_ret (v := .agg #[.int .i64 3, .int .i64 n, .string ⟨#[]⟩, .slice none 0 0, .slice none 0 0, .slice none 0 0]) ?_ rfl ?_
 ·simp [results, Tryz.results17, go_sem, *]
 ·exact ⟨rfl, HB.out⟩
theorem listL_in {w : World} {Q : Nat → Prop} {H n c : Nat} {a : Option Addr} {l : List Val} (hn : l.length = n) (hm : n ≤ 3000) (hc : n ≤ c ∧ c ≤ 9223372036854775807) (hI : ItemsIn w Q (VIn w Q H) a l) :
  VIn w Q (H + 1) (.mk 7 0 ⟨#[]⟩ [] [] l) (.agg #[.int .i64 7, .int .i64 0, .string ⟨#[]⟩, .slice none 0 0, .slice none 0 0, .slice a n c]) := by
 subst hn
 exact ⟨none, none, a, 0, 0, c, rfl, plain_lim 7 0 [] l (by omega) (by omega) (by simp) (by omega), ⟨Nat.le_refl _, by omega⟩, ⟨Nat.le_refl _, by omega⟩, hc, .inl rfl, .inl rfl, hI⟩
theorem op10_any (nm : ByteArray) (hnm : nm.size ≤ 140737488355328) (Q : Nat → Prop) (H : Nat) (a : Option Addr) (n c : Nat) (l : List Val) (w : World) (hn : l.length = n) (hm : n ≤ 3000) (hc : n ≤ c ∧ c ≤ 9223372036854775807) (hI : ItemsIn w Q (VIn w Q H) a l) :
  Calls Tryz.prog 15 #[.string nm, .slice a n c] w fun e w' => ∃ g, e = .returned (.agg #[.int .i64 6, .int .i64 0, .string ⟨#[]⟩, .slice none 0 0, .slice (some ⟨g, 0, none⟩) 1 1, .slice none 0 0]) ∧ VIn w' (fun k => Q k ∨ w.heap.size ≤ k) (H + 2) (opVl nm l) (.agg #[.int .i64 6, .int .i64 0, .string ⟨#[]⟩, .slice none 0 0, .slice (some ⟨g, 0, none⟩) 1 1, .slice none 0 0]) ∧ Below w.heap.size w w' := by
 have HI := Lib.hid hI
 have HN := Lib.hid hn
 clear hI hn
 go_enter Tryz.func15, Tryz.ntmps15
 go_wp2_with fail
 refine bodyPost_ret (v := .agg #[.int .i64 6, .int .i64 0, .string ⟨#[]⟩, .slice none 0 0, .slice (some ⟨w.heap.size + 1, 0, none⟩) 1 1, .slice none 0 0]) ?_ rfl ?_
 ·simp [results, Tryz.results15, go_sem, *]
 ·have b1 : Below w.heap.size w (w.alloc (.cells #[.int .i64 6, .int .i64 0, .string ⟨#[]⟩, .slice none 0 0, .slice (some ⟨w.heap.size + 1, 0, none⟩) 1 1, .slice none 0 0] 26)) := (Below.refl _ _).alloc (Nat.le_refl _) _
  have hs : (w.alloc (.cells #[.int .i64 6, .int .i64 0, .string ⟨#[]⟩, .slice none 0 0, .slice (some ⟨w.heap.size + 1, 0, none⟩) 1 1, .slice none 0 0] 26)).heap.size = w.heap.size + 1 := by simp
  generalize (w.alloc (.cells #[.int .i64 6, .int .i64 0, .string ⟨#[]⟩, .slice none 0 0, .slice (some ⟨w.heap.size + 1, 0, none⟩) 1 1, .slice none 0 0] 26)) = w1 at *
  have b2 : Below w1.heap.size w1 (w1.alloc (.cells #[.string nm, .int .i64 7, .int .i64 0, .string ⟨#[]⟩, .slice none 0 0, .slice none 0 0, .slice a n c] 40)) := (Below.refl _ _).alloc (Nat.le_refl _) _
  have hr := heap_alloc_new w1 (.cells #[.string nm, .int .i64 7, .int .i64 0, .string ⟨#[]⟩, .slice none 0 0, .slice none 0 0, .slice a n c] 40)
  rw [hs] at hr
  have hb := b1.trans (b2.mono b1.size)
  refine ⟨w.heap.size + 1, rfl, ?_, hb⟩
  refine doc_in hr (.inr (by omega)) hnm ?_
  exact listL_in HN.out hm hc (HI.out.kept (Kept.of_below hb) (fun _ h => .inl h) (fun _ _ h => VIn.kept (Kept.of_below hb) (fun _ h => .inl h) h))
def awX : Val := opVl ⟨#[36, 97, 100, 100]⟩ [.mk 5 0 ⟨#[36, 97]⟩ [] [] [], .mk 3 3 ⟨#[]⟩ [] [] []]
def awD : Val := .mk 6 0 ⟨#[]⟩ [] [(⟨#[97]⟩, .mk 3 2 ⟨#[]⟩ [] [] [])] []
theorem awX_code : exprCode 3 awX = 0 := by kernel_rfl
theorem awX_nodes : (measureV 3 awX).1 = 4 := by kernel_rfl
theorem awX_paths : (pathsV 3 awX).length = 1 := by kernel_rfl
theorem awX_eval : evF 16 9 3 awX 1 awD = (0, .mk 3 5 ⟨#[]⟩ [] [] []) := by kernel_rfl
theorem awX_short : ShortV awX := short_of (n := 4) (by kernel_rfl)
theorem textL_in (w : World) (Q : Nat → Prop) (s : ByteArray) (hs : s.size ≤ 140737488355328) (h : Nat) : VIn w Q (h + 1) (.mk 5 0 s [] [] []) (.agg #[.int .i64 5, .int .i64 0, .string s, .slice none 0 0, .slice none 0 0, .slice none 0 0]) :=
 ⟨none, none, none, 0, 0, 0, rfl, ⟨by show (-9223372036854775808 : Int) ≤ 5; omega, by show (5 : Int) ≤ _; omega, by show (-9223372036854775808 : Int) ≤ 0; omega, by show (0 : Int) ≤ _; omega, hs, by show (0 : Nat) ≤ _; omega, by show (0 : Nat) ≤ _; omega, by show (0 : Nat) ≤ _; omega, (fun _ h => by cases h)⟩, ⟨Nat.le_refl _, by omega⟩, ⟨Nat.le_refl _, by omega⟩, ⟨Nat.le_refl _, by omega⟩, .inl rfl, .inl rfl, .inl rfl⟩
theorem VIn.leaf {w : World} {Q : Nat → Prop} {H : Nat} {k m k' m' : Int} {s s' : ByteArray} {ba fa la : Option Addr} {bn bc fn fc ln lc : Nat} (hv : VIn w Q H (.mk k m s [] [] []) (.agg #[.int .i64 k', .int .i64 m', .string s', .slice ba bn bc, .slice fa fn fc, .slice la ln lc])) : k' = k ∧ m' = m ∧ s' = s := by
 obtain ⟨e1, e2, e3, -, -⟩ := hv.top
 exact ⟨e1, e2, e3⟩
theorem awake10_any (w : World) (hG : Ground w) : Calls Tryz.prog 7 #[] w fun e w' => e = .returned (.bool true) ∧ Below w.heap.size w w' := by
 have HG := Lib.hid hG
 have CN3 := Lib.hid (num10_any 3 w)
 clear hG
 go_enter Tryz.func7, Tryz.ntmps7
 go_wp2_with fail
 refine CN3.out.mono ?_
 rintro e w1 ⟨rfl, hb1⟩
 obtain ⟨W2, hW2⟩ : ∃ W, W = w1.alloc (.cells #[.int .i64 5, .int .i64 0, .string ⟨#[36, 97]⟩, .slice none 0 0, .slice none 0 0, .slice none 0 0, .int .i64 3, .int .i64 3, .string ⟨#[]⟩, .slice none 0 0, .slice none 0 0, .slice none 0 0] 26) := ⟨_, rfl⟩
 obtain ⟨P2, hP2⟩ : ∃ P, P = w1.heap.size := ⟨_, rfl⟩
 have hb2 : Below w1.heap.size w1 W2 := by rw [hW2]; exact (Below.refl _ _).alloc (Nat.le_refl _) _
 have hr2 : W2.heap[P2]? = some (.cells #[.int .i64 5, .int .i64 0, .string ⟨#[36, 97]⟩, .slice none 0 0, .slice none 0 0, .slice none 0 0, .int .i64 3, .int .i64 3, .string ⟨#[]⟩, .slice none 0 0, .slice none 0 0, .slice none 0 0] 26 (0, 0)) := by rw [hW2, hP2]; exact heap_alloc_new w1 _
 have hit := two_items (Q := fun _ => True) hr2 trivial (textL_in W2 (fun _ => True) ⟨#[36, 97]⟩ (by decide) 0) (leaf_in W2 (fun _ => True) 3 3 (by omega) (by omega) 0)
 have HB2 : Hid (Below w.heap.size w W2) := hb1.trans (hb2.mono hb1.size)
 have CO := Lib.hid (op10_any ⟨#[36, 97, 100, 100]⟩ (by decide) (fun _ => True) 1 _ 2 2 _ W2 rfl (by omega) ⟨by omega, by omega⟩ hit)
 have HW2 := Lib.hid hW2
 have HP2 := Lib.hid hP2
 clear hb1 hb2 hr2 hit hW2 hP2 CN3
 go_wp2_with fail
 rw [← HW2.out, ← HP2.out]
 refine CO.out.mono ?_
 rintro e w3 ⟨g3, rfl, hv3, hb3⟩
 have HB3 : Hid (Below w.heap.size w w3) := HB2.out.trans (hb3.mono HB2.out.size)
 have CP := Lib.hid (parse_ok 16 9 3 (by omega) (by omega) _ awX _ w3 (HG.out.keep HB3.out) hv3 awX_short awX_code)
 clear hv3 hb3 CO
 go_wp2_with fail
 refine CP.out.mono ?_
 rintro e w4 ⟨ge, rfl, hx4, hb4⟩
 have HB4 : Hid (Below w.heap.size w w4) := HB3.out.trans (hb4.mono HB3.out.size)
 have HX4 := Lib.hid hx4
 have CN2 := Lib.hid (num10_any 2 w4)
 clear hx4 hb4 CP
 go_wp2_with fail
 refine CN2.out.mono ?_
 rintro e w5 ⟨rfl, hb5⟩
 obtain ⟨W6, hW6⟩ : ∃ W, W = w5.alloc (.cells #[.string ⟨#[97]⟩, .int .i64 3, .int .i64 2, .string ⟨#[]⟩, .slice none 0 0, .slice none 0 0, .slice none 0 0] 40) := ⟨_, rfl⟩
 obtain ⟨P6, hP6⟩ : ∃ P, P = w5.heap.size := ⟨_, rfl⟩
 have hb6 : Below w5.heap.size w5 W6 := by rw [hW6]; exact (Below.refl _ _).alloc (Nat.le_refl _) _
 have hr6 : W6.heap[P6]? = some (.cells #[.string ⟨#[97]⟩, .int .i64 3, .int .i64 2, .string ⟨#[]⟩, .slice none 0 0, .slice none 0 0, .slice none 0 0] 40 (0, 0)) := by rw [hW6, hP6]; exact heap_alloc_new w5 _
 have hd6 := doc_in (Q := fun _ => True) hr6 trivial (by decide) (leaf_in W6 (fun _ => True) 3 2 (by omega) (by omega) 0)
 have hb46 : Below w4.heap.size w4 W6 := hb5.trans (hb6.mono hb5.size)
 have HX6 := Lib.hid (HX4.out.keep hb46)
 have HB6 : Hid (Below w.heap.size w W6) := HB4.out.trans (hb46.mono HB4.out.size)
 have CE0 := eval_any 16 9 3 1 w3.heap.size ge awX awD _ (fun _ => True) W6 HX6.out hd6
 rw [awX_eval] at CE0
 have CE := Lib.hid CE0
 have HW6 := Lib.hid hW6
 have HP6 := Lib.hid hP6
 clear hb5 hb6 hr6 hd6 hb46 hW6 hP6 CN2 CE0 HX4
 go_wp2_with fail
 rw [← HW6.out, ← HP6.out]
 refine CE.out.mono ?_
 rintro e w7 ⟨v7, rfl, hv7, hb7⟩
 obtain ⟨rk, rn, rs, ra, rf, rl, rab, rac, rfb, rfc, rlb, rlc, rfl⟩ := hv7.shape
 obtain ⟨rfl, rfl, -⟩ := hv7.leaf
 obtain ⟨W8, hW8⟩ : ∃ W, W = w7.alloc (.cells #[.int .i64 3, .int .i64 5, .string rs, .slice ra rab rac, .slice rf rfb rfc, .slice rl rlb rlc] 26) := ⟨_, rfl⟩
 obtain ⟨P8, hP8⟩ : ∃ P, P = w7.heap.size := ⟨_, rfl⟩
 have hb8 : Below w7.heap.size w7 W8 := by rw [hW8]; exact (Below.refl _ _).alloc (Nat.le_refl _) _
 have hX8 : IsBox W8 P8 (.int .i64 3) (.int .i64 5) (.string rs) (.slice ra rab rac) (.slice rf rfb rfc) (.slice rl rlb rlc) := by rw [hW8, hP8]; exact IsBox.new w7 (.int .i64 3) (.int .i64 5) (.string rs) (.slice ra rab rac) (.slice rf rfb rfc) (.slice rl rlb rlc)
 have hb68 := hb7.trans (hb8.mono hb7.size)
 have HX8 := Lib.hid (HX6.out.keep hb68)
 have HB8 : Hid (Below w.heap.size w W8) := HB6.out.trans (hb68.mono HB6.out.size)
 have CPA0 := paths_any 16 9 3 w3.heap.size ge awX W8 HX8.out (by rw [awX_paths]; omega)
 rw [awX_paths] at CPA0
 have CPA := Lib.hid CPA0
 have HBX := Lib.hid hX8
 have HW8 := Lib.hid hW8
 have HP8 := Lib.hid hP8
 clear hv7 hb7 hb8 hX8 hb68 CPA0 hW8 hP8 CE HX6
 go_upto_region 5 with fail
 rw [← HW8.out, ← HP8.out]
 obtain ⟨x0, x1, x2, x3, x4, x5⟩ := HBX.out.cells
 go_wp2_with fail
 refine CPA.out.mono ?_
 rintro e w9 ⟨a9, c9, rfl, hb9⟩
 have CNO0 := nodes_any 16 9 3 w3.heap.size ge awX w9 (HX8.out.keep hb9)
 rw [awX_nodes] at CNO0
 have CNO := Lib.hid CNO0
 have HB9 : Hid (Below w.heap.size w w9) := HB8.out.trans (hb9.mono HB8.out.size)
 clear hb9 CPA CNO0 x0 x1 x2 x3 x4 x5
 go_wp2_with fail
 refine CNO.out.mono ?_
 rintro e w10 ⟨rfl, hb10⟩
 have HB10 : Hid (Below w.heap.size w w10) := HB9.out.trans (hb10.mono HB9.out.size)
 clear hb10 CNO
 go_wp2_with fail
 refine bodyPost_ret (v := .bool true) ?_ rfl ?_
 ·simp [results, Tryz.results7, go_sem, *]
 ·exact ⟨rfl, HB10.out⟩
theorem evalc_any (N C h hd : Nat) (hN : 16 ≤ N) (hC : 3 * h ≤ C) (Q Q2 : Nat → Prop) (x d : Val) (v d0 d1 d2 d3 d4 d5 : Value) (PD : Nat) (w : World) (hG : Ground w) (hv : VIn w Q h x v) (hs : ShortV x) (hz : exprCode h x = 0) (hbx : IsBox w PD d0 d1 d2 d3 d4 d5) (hdv : VIn w Q2 (hd + 1) d (.agg #[d0, d1, d2, d3, d4, d5])) :
  Calls Tryz.prog 16 #[v, .pointer (some ⟨PD, 0, none⟩)] w (EvPost w (3 * h + hd) (evF N C h x hd d)) := by
 obtain ⟨ik, im, is_, b0, f0, l0, bb0, bc0, fb0, fc0, lb0, lc0, rfl⟩ := hv.shape
 obtain ⟨dk, dn, ds, da, df, dl, ba, bc, fa, fc, la, lc, hsh⟩ := hdv.shape
 simp only [Value.agg.injEq, Array.mk.injEq, List.cons.injEq, and_true] at hsh
 obtain ⟨rfl, rfl, rfl, rfl, rfl, rfl⟩ := hsh
 obtain ⟨W1, hW1⟩ : ∃ W, W = (w.alloc (.cells #[.int .i64 ik, .int .i64 im, .string is_, .slice b0 bb0 bc0, .slice f0 fb0 fc0, .slice l0 lb0 lc0] 26)).alloc (.cells #[.int .i64 0, .int .i64 0, .string ⟨#[]⟩, .slice none 0 0, .slice none 0 0, .slice none 0 0] 26) := ⟨_, rfl⟩
 obtain ⟨hb1, hsz, hx1, hr1⟩ := ev_boxes2 w (.int .i64 ik) (.int .i64 im) (.string is_) (.slice b0 bb0 bc0) (.slice f0 fb0 fc0) (.slice l0 lb0 lc0) W1 hW1
 have CP := Lib.hid (parse_ok N C h hN hC Q x _ W1 (hG.keep hb1) (VIn.keep hb1 hv) hs hz)
 obtain ⟨ou, hou⟩ : ∃ z, z = evF N C h x hd d := ⟨_, rfl⟩
 rw [← hou]
 have HOU := Lib.hid hou
 have HB1 := Lib.hid hb1
 have HSZ := Lib.hid hsz
 have HX1 := Lib.hid hx1
 have HR1 := Lib.hid hr1
 have HW1 := Lib.hid hW1
 have HBX := Lib.hid (hbx.keep hb1)
 have HDV := Lib.hid (VIn.keep hb1 hdv)
 clear hb1 hsz hx1 hr1 hW1 hbx hdv hv hs hz hG hou
 go_enter Tryz.func16, Tryz.ntmps16
 go_upto_region 1 with fail
 rw [← HW1.out]
 obtain ⟨x0, x1, x2, x3, x4, x5⟩ := HX1.out.cells
 go_wp2_with fail
 refine CP.out.mono ?_
 rintro e w2 ⟨ge, rfl, hx2, hb2⟩
 have CE0 := eval_any N C h hd _ ge x d _ Q2 w2 hx2 (VIn.keep hb2 HDV.out)
 rw [← HOU.out] at CE0
 have CE := Lib.hid CE0
 have HB2 : Hid (Below w.heap.size w w2) := HB1.out.trans (hb2.mono HB1.out.size)
 have HR2 := Lib.hid (HR1.out.keep hb2)
 have HS2 : Hid (w.heap.size + 2 ≤ w2.heap.size) := by have := HSZ.out; have := hb2.size; show _ ≤ _; omega
 obtain ⟨y0, y1, y2, y3, y4, y5⟩ := (HBX.out.keep hb2).cells
 clear hx2 CE0 hb2 CP x0 x1 x2 x3 x4 x5
 go_wp2_with fail
 refine CE.out.mono ?_
 rintro e w3 ⟨v3, rfl, hv3, hb3⟩
 obtain ⟨k, m, s, b1, f1, l1, b2, b3, f2, f3, l2, l3, rfl⟩ := hv3.shape
 obtain ⟨W4, hW4⟩ : ∃ W, W = w3.alloc (.cells #[.int .i64 k, .int .i64 m, .string s, .slice b1 b2 b3, .slice f1 f2 f3, .slice l1 l2 l3] 26) := ⟨_, rfl⟩
 obtain ⟨P4, hP4⟩ : ∃ P, P = w3.heap.size := ⟨_, rfl⟩
 have hb4 : Below w3.heap.size w3 W4 := by rw [hW4]; exact (Below.refl _ _).alloc (Nat.le_refl _) _
 have hx4 : IsBox W4 P4 (.int .i64 k) (.int .i64 m) (.string s) (.slice b1 b2 b3) (.slice f1 f2 f3) (.slice l1 l2 l3) := by rw [hW4, hP4]; exact IsBox.new w3 (.int .i64 k) (.int .i64 m) (.string s) (.slice b1 b2 b3) (.slice f1 f2 f3) (.slice l1 l2 l3)
 have hb24 := hb3.trans (hb4.mono hb3.size)
 have HB4 : Hid (Below w.heap.size w W4) := HB2.out.trans (hb24.mono HB2.out.size)
 have HR4 := Lib.hid (HR2.out.keep hb24)
 have HV4 := Lib.hid (VIn.keep hb4 hv3)
 have HX4 := Lib.hid hx4
 have HW4 := Lib.hid hW4
 have HP4 := Lib.hid hP4
 have HEND : Hid (VIn (puts W4 (w.heap.size + 1) 0 [.int .i64 k, .int .i64 m, .string s, .slice b1 b2 b3, .slice f1 f2 f3, .slice l1 l2 l3]) (fun g => w.heap.size ≤ g) (3 * h + hd) ou.2 (.agg #[.int .i64 k, .int .i64 m, .string s, .slice b1 b2 b3, .slice f1 f2 f3, .slice l1 l2 l3]) ∧ Below w.heap.size w (puts W4 (w.heap.size + 1) 0 [.int .i64 k, .int .i64 m, .string s, .slice b1 b2 b3, .slice f1 f2 f3, .slice l1 l2 l3])) :=
  ⟨HV4.out.kept (puts_kept (fun g => w2.heap.size ≤ g) (by have := HS2.out; omega) _ _) (fun g hg => by have := HS2.out; omega), puts_below HB4.out (by omega) _ _⟩
 clear hv3 hb3 hb4 hx4 hb24 hW4 hP4 CE y0 y1 y2 y3 y4 y5
 go_upto_region 5 with fail
 rw [← HW4.out, ← HP4.out]
 obtain ⟨x0, x1, x2, x3, x4, x5⟩ := HX4.out.cells
 obtain ⟨r0, r1, r2, r3, r4, r5⟩ := HR4.out.cells
 obtain ⟨q0, q1, q2, q3, q4, q5⟩ := HR4.out.thaw
 go_wp2_with fail
 refine bodyPost_ret (v := .tuple #[.agg #[.int .i64 k, .int .i64 m, .string s, .slice b1 b2 b3, .slice f1 f2 f3, .slice l1 l2 l3], .int .i64 ou.1]) ?_ rfl ?_
 ·simp [results, Tryz.results16, go_sem, *]
 ·exact ⟨_, rfl, HEND.out.1, HEND.out.2⟩
def txtL (s : ByteArray) : Val := .mk 5 0 s [] [] []
def litX (s : ByteArray) : Val := .mk 6 0 ⟨#[]⟩ [] [(Expr.literal, txtL s)] []
def catX (ts : List ByteArray) : Val := opVl ⟨#[36, 99, 111, 110, 99, 97, 116]⟩ (ts.map litX)
def elX (n : Int) : Val := opVl ⟨#[36, 97, 114, 114, 97, 121, 69, 108, 101, 109, 65, 116]⟩ [txtL ⟨#[36, 108]⟩, .mk 4 n ⟨#[]⟩ [] [] []]
def szX : Val := opVl ⟨#[36, 115, 105, 122, 101]⟩ [txtL ⟨#[36, 108]⟩]
def tyX (n : Int) : Val := opVl ⟨#[36, 116, 121, 112, 101]⟩ [opVl ⟨#[36, 97, 114, 114, 97, 121, 69, 108, 101, 109, 65, 116]⟩ [txtL ⟨#[36, 108]⟩, .mk 3 n ⟨#[]⟩ [] [] []]]
def lisD (l : List Val) : Val := .mk 6 0 ⟨#[]⟩ [] [(⟨#[108]⟩, .mk 7 0 ⟨#[]⟩ [] [] l)] []
theorem reach_l (n : Nat) (l : List Val) : Bson.reach (16 + n) (lisD l) [⟨#[108]⟩] = .mk 7 0 ⟨#[]⟩ [] [] l := by
 rw [show 16 + n = 15 + n + 1 by omega, Bson.reach_doc _ _ _ _ rfl, Bson.reach_nil]
 rfl
theorem elX_code (n : Int) : exprCode 3 (elX n) = 0 := by kernel_rfl
theorem szX_code : exprCode 3 szX = 0 := by kernel_rfl
theorem tyX_code (n : Int) : exprCode 5 (tyX n) = 0 := by kernel_rfl
theorem elX_short (n : Int) : ShortV (elX n) := short_of (n := 4) (by kernel_rfl)
theorem szX_short : ShortV szX := short_of (n := 4) (by kernel_rfl)
theorem tyX_short (n : Int) : ShortV (tyX n) := short_of (n := 6) (by kernel_rfl)
def itemL (l : List Val) (n : Int) : Val := if n < 0 then (if 0 ≤ n + l.length then l.getD (n + l.length).toNat Bson.zero else Bson.zero) else l.getD n.toNat Bson.zero
theorem elX_args (n : Int) (hd : Nat) (d : Val) : evF 16 9 3 (elX n) hd d = Expr.apply (9 + hd) .arrayElemAt [(0, Bson.reach (16 + hd) d [⟨#[108]⟩]), (0, .mk 4 n ⟨#[]⟩ [] [] [])] := by kernel_rfl
theorem elX_eval (n : Int) (hd : Nat) (l : List Val) : evF 16 9 3 (elX n) hd (lisD l) = (0, itemL l n) := by
 rw [elX_args, reach_l]; rfl
theorem szX_args (hd : Nat) (d : Val) : evF 16 9 3 szX hd d = Expr.apply (9 + hd) .size_ [(0, Bson.reach (16 + hd) d [⟨#[108]⟩])] := by kernel_rfl
theorem szX_eval (hd : Nat) (l : List Val) : evF 16 9 3 szX hd (lisD l) = (0, .mk 3 l.length ⟨#[]⟩ [] [] []) := by
 rw [szX_args, reach_l]; rfl
theorem tyX_args (n : Int) (hd : Nat) (d : Val) : evF 16 15 5 (tyX n) hd d = Expr.apply (15 + hd) .type_ [Expr.apply (15 + hd) .arrayElemAt [(0, Bson.reach (16 + hd) d [⟨#[108]⟩]), (0, .mk 3 n ⟨#[]⟩ [] [] [])]] := by kernel_rfl
theorem tyX_eval (n : Int) (hd : Nat) (l : List Val) : evF 16 15 5 (tyX n) hd (lisD l) = (0, txtL (Expr.kindName (itemL l n).kind)) := by
 rw [tyX_args, reach_l]; rfl
theorem itemL_at (l : List Val) (i : Nat) (hi : i < l.length) : itemL l (i : Int) = l[i] := by
 unfold itemL
 rw [if_neg (by omega)]
 simp [List.getD_eq_getElem?_getD, hi]
-- $concat of literals
theorem lit_cnt (s : ByteArray) (m : Nat) (hm : m + 2 ≤ 400) : Expr.cnt 2 3 (litX s) (m, false) = some (m + 2, false) := by
 have e1 : Expr.cnt 1 4 (txtL s) (m + 1, false) = some (m + 2, false) := by
  rw [Expr.cnt, if_neg (by show ¬ (400 < m + 1 + 1 ∨ 256 < 0 ∨ 256 < 0); omega)]
  rfl
 rw [Expr.cnt, if_neg (by show ¬ (400 < m + 1 ∨ 256 < 1 ∨ 256 < 0); omega)]
 show (Option.bind (Option.bind (Expr.cnt 1 4 (txtL s) (m + 1, false)) _) _) = _
 rw [e1]; rfl
theorem lits_cnt : ∀ (ts : List ByteArray) (m : Nat), m + 2 * ts.length ≤ 400 → Expr.cntAll (Expr.cnt 2 3) (ts.map litX) (m, false) = some (m + 2 * ts.length, false)
 | [], m, _ => rfl
 | s :: r, m, h => by
  simp only [List.length_cons] at h
  show Option.bind (Expr.cnt 2 3 (litX s) (m, false)) _ = _
  rw [lit_cnt s m (by omega)]
  show Expr.cntAll (Expr.cnt 2 3) (r.map litX) (m + 2, false) = _
  rw [lits_cnt r (m + 2) (by omega)]
  simp only [List.length_cons, Option.some.injEq, Prod.mk.injEq, and_true]; omega
theorem lits_parse : ∀ ts : List ByteArray, Expr.parseAll (Expr.parseV 3) (ts.map litX) = 0
 | [] => rfl
 | s :: r => by
  have h1 : Expr.parseV 3 (litX s) = 0 := by kernel_rfl
  show (if Expr.parseV 3 (litX s) = 0 then _ else _) = _
  rw [if_pos h1]; exact lits_parse r
theorem catX_cnt (ts : List ByteArray) (h : ts.length ≤ 20) : Expr.cnt 4 1 (catX ts) (0, false) = some (2 + 2 * ts.length, false) := by
 have e1 : Expr.cnt 3 2 (.mk 7 0 ⟨#[]⟩ [] [] (ts.map litX)) (1, false) = some (2 + 2 * ts.length, false) := by
  rw [Expr.cnt, if_neg (by show ¬ (400 < 1 + 1 ∨ 256 < 0 ∨ 256 < (ts.map litX).length); rw [List.length_map]; omega)]
  show Expr.cntAll (Expr.cnt 2 3) (ts.map litX) (2, false) = _
  exact lits_cnt ts 2 (by omega)
 rw [Expr.cnt, if_neg (by show ¬ (400 < 0 + 1 ∨ 256 < 1 ∨ 256 < 0); omega)]
 show (Option.bind (Option.bind (Expr.cnt 3 2 (.mk 7 0 ⟨#[]⟩ [] [] (ts.map litX)) (1, false)) _) _) = _
 rw [e1]; rfl
theorem catX_code (ts : List ByteArray) (h : ts.length ≤ 20) : exprCode 4 (catX ts) = 0 := by
 have e1 : (measureV 4 (catX ts)).2 = 0 := by unfold measureV; rw [catX_cnt ts h]; rfl
 unfold exprCode
 rw [if_pos e1, parseV_op 3 (catX ts) (.mk 7 0 ⟨#[]⟩ [] [] (ts.map litX)) ⟨#[36, 99, 111, 110, 99, 97, 116]⟩ rfl rfl (by kernel_rfl), if_neg (by decide)]
 have ho : Expr.opOf ⟨#[36, 99, 111, 110, 99, 97, 116]⟩ = some .concat := by kernel_rfl
 rw [ho]
 exact (if_pos (by rfl)).trans (lits_parse ts)
theorem catX_short (ts : List ByteArray) (h : ∀ t ∈ ts, t.size ≤ 100) : ShortV (catX ts) := by
 have hl : ∀ t ∈ ts, ShortV (litX t) := fun t ht => .mk _ (by show (0 : Nat) ≤ _; omega) (fun p hp => by
  rw [List.mem_singleton.1 hp]
  exact .mk _ (by have := h t ht; show t.size ≤ _; omega) (fun p hp => by cases hp) (fun y hy => by cases hy)) (fun y hy => by cases hy)
 refine .mk _ (by show (0 : Nat) ≤ _; omega) (fun p hp => ?_) (fun y hy => by cases hy)
 rw [List.mem_singleton.1 hp]
 refine .mk _ (by show (0 : Nat) ≤ _; omega) (fun p hp => by cases hp) (fun y hy => ?_)
 obtain ⟨t, ht, rfl⟩ := List.mem_map.1 hy
 exact hl t ht
theorem lit_eval (n c : Nat) (s : ByteArray) (d : Val) : Expr.evalV n c d 3 (litX s) = (0, txtL s) := by kernel_rfl
def joinB (ts : List ByteArray) : ByteArray := Expr.joinS (ts.map txtL)
theorem joinS_snoc : ∀ (l : List Val) (x : Val), Expr.joinS (l ++ [x]) = Expr.joinS l ++ x.s
 | [], x => by
  show x.s ++ ⟨#[]⟩ = ⟨#[]⟩ ++ x.s
  apply ByteArray.ext
  simp
 | y :: r, x => by
  show y.s ++ Expr.joinS (r ++ [x]) = y.s ++ Expr.joinS r ++ x.s
  rw [joinS_snoc r x, ByteArray.append_assoc]
theorem joinB_snoc (ts : List ByteArray) (s : ByteArray) : joinB (ts ++ [s]) = joinB ts ++ s := by
 unfold joinB
 rw [List.map_append]
 exact joinS_snoc _ _
theorem cat_sum : ∀ (ts : List ByteArray), (∀ t ∈ ts, t.size ≤ 100) → ((ts.map txtL).map fun x => x.s.size).sum ≤ 100 * ts.length
 | [], _ => by simp
 | t :: r, h => by
  have h1 := h t List.mem_cons_self
  have h2 := cat_sum r fun u hu => h u (List.mem_cons_of_mem _ hu)
  simp only [List.map_cons, List.sum_cons, List.length_cons] at h2 ⊢
  have e : (txtL t).s.size = t.size := rfl
  omega
theorem catX_eval (ts : List ByteArray) (hl : ts.length ≤ 20) (h : ∀ t ∈ ts, t.size ≤ 100) (hd : Nat) (d : Val) : evF 16 12 4 (catX ts) hd d = (0, txtL (joinB ts)) := by
 rw [evF_op 16 12 3 (catX ts) (.mk 7 0 ⟨#[]⟩ [] [] (ts.map litX)) ⟨#[36, 99, 111, 110, 99, 97, 116]⟩ .concat rfl rfl (by kernel_rfl) (by decide) (by kernel_rfl)]
 show Expr.apply (12 + hd) .concat (outsOf (List.map (evF 16 12 3) (Expr.args (.mk 7 0 ⟨#[]⟩ [] [] (ts.map litX)))) hd d) = _
 rw [outs_evF, Expr.apply_concat]
 have e1 : (Expr.args (.mk 7 0 ⟨#[]⟩ [] [] (ts.map litX))).map (Expr.evalV (16 + hd) (12 + hd) d 3) = ts.map fun s => (0, txtL s) := by
  show (ts.map litX).map _ = _
  rw [List.map_map]
  exact List.map_congr_left fun s _ => lit_eval _ _ s d
 rw [e1]
 unfold Expr.all
 have e2 : Expr.allO (ts.map fun s => ((0 : Int), txtL s)) = (0, ts.map txtL) := by
  rw [Expr.allO_ok (fun x hx => by obtain ⟨s, -, rfl⟩ := List.mem_map.1 hx; rfl), List.map_map]; rfl
 rw [e2, if_pos rfl]
 unfold Expr.concatV
 rw [if_neg, if_neg, if_neg]
 ·rfl
 ·exact Nat.not_lt.2 (Nat.le_trans (cat_sum ts h) (by omega))
 ·rw [List.any_eq_true]
  rintro ⟨x, hx, h5⟩
  obtain ⟨s, -, rfl⟩ := List.mem_map.1 hx
  cases h5
 ·rw [List.any_eq_true]
  rintro ⟨x, hx, h5⟩
  obtain ⟨s, -, rfl⟩ := List.mem_map.1 hx
  cases h5
end Go.Proofs.YtiajjgehnmkokaaGreatDoor
end
section
namespace Go.Proofs.YtiajjgehnmkokaaGreatDoor
open Go.RowKit
open Seal
open Bson (Val)
def AnsT (nm : ByteArray) (v : Value) : Prop := ∃ b1 b2 b3 f1 f2 f3 l1 l2 l3, v = .tuple #[.agg #[.int .i64 5, .int .i64 0, .string nm, .slice b1 b2 b3, .slice f1 f2 f3, .slice l1 l2 l3], .int .i64 0]
def Fact.ans (nm : ByteArray) : Fact := ⟨fun v _ => AnsT nm v, fun _ _ _ h _ => h⟩
def Fact.row1 (x : Val) : Fact := ⟨fun v W => ∃ g gd, v = .slice (some ⟨g, 0, none⟩) 1 1 ∧ W.heap[g]? = some (.cells #[.int .i64 6, .int .i64 0, .string ⟨#[]⟩, .slice none 0 0, .slice (some ⟨gd, 0, none⟩) 1 1, .slice none 0 0] 26 (0, 0)) ∧ VIn W (fun _ => True) 3 x (.agg #[.int .i64 6, .int .i64 0, .string ⟨#[]⟩, .slice none 0 0, .slice (some ⟨gd, 0, none⟩) 1 1, .slice none 0 0]), fun _ _ _ ⟨g, gd, e, h, hv⟩ hb => ⟨g, gd, e, (hb.block g (Array.getElem?_eq_some_iff.1 h).1).trans h, VIn.keep hb hv⟩⟩
def Fact.rowC (cs : Array Value) (n : Nat) : Fact := ⟨fun v W => ∃ g, v = .slice (some ⟨g, 0, none⟩) n n ∧ W.heap[g]? = some (.cells cs 26 (0, 0)), fun _ _ _ ⟨g, e, h⟩ hb => ⟨g, e, (hb.block g (Array.getElem?_eq_some_iff.1 h).1).trans h⟩⟩
def Fact.docH (H : Nat) (x : Val) : Fact := ⟨fun v W => ∃ g, v = .agg #[.int .i64 6, .int .i64 0, .string ⟨#[]⟩, .slice none 0 0, .slice (some ⟨g, 0, none⟩) 1 1, .slice none 0 0] ∧ VIn W (fun _ => True) H x (.agg #[.int .i64 6, .int .i64 0, .string ⟨#[]⟩, .slice none 0 0, .slice (some ⟨g, 0, none⟩) 1 1, .slice none 0 0]), fun _ _ _ ⟨g, e, h⟩ hb => ⟨g, e, VIn.keep hb h⟩⟩
structure KI (w0 : World) (fs : List Fact) (nm : ByteArray) (D : Nat → Bool) (V : Nat → Value) (W : World) : Prop where
 bel : Below w0.heap.size w0 W
 f : D 13 = false → ∀ j, j < 9 → D j = true → (factAt fs j).p (V j) W
 al : D 13 = false → D 12 = true → ∃ p, V 12 = .pointer (some ⟨p, 0, none⟩) ∧ w0.heap.size ≤ p ∧ IsBox W p (.int .i64 0) (.int .i64 0) (.string ⟨#[]⟩) (.slice none 0 0) (.slice none 0 0) (.slice none 0 0)
 t : D 9 = true → AnsT nm (V 9)
 full : D 13 = true → (∀ j, j < 11 → D j = true) ∧ D 12 = true
 late : D 13 = true → ∃ p b1 b2 b3 f1 f2 f3 l1 l2 l3, V 12 = .pointer (some ⟨p, 0, none⟩) ∧ IsBox W p (.int .i64 5) (.int .i64 0) (.string nm) (.slice b1 b2 b3) (.slice f1 f2 f3) (.slice l1 l2 l3)
 c10 : D 10 = true → D 9 = true ∧ ∀ y e, V 9 = .tuple #[y, e] → V 10 = y
 c11 : D 11 = true → V 11 = .int .i64 0
 c14 : D 14 = true → V 14 = .int .i64 0
section
variable {w0 W W' : World} {fs : List Fact} {nm : ByteArray} {D : Nat → Bool} {V : Nat → Value}
theorem ksetD_o {i j : Nat} (h : j ≠ i) : setD D i j = D j := if_neg h
theorem kupd_o {i j : Nat} {v : Value} (h : j ≠ i) : upd V i v j = V j := if_neg h
theorem ksetD_s {i : Nat} : setD D i i = true := if_pos rfl
theorem kupd_s {i : Nat} {v : Value} : upd V i v i = v := if_pos rfl
theorem ksetD_m {i j : Nat} (h : D j = true) : setD D i j = true := by
 by_cases e : j = i
 ·subst e; exact ksetD_s
 ·rw [ksetD_o e]; exact h
theorem KI.start {V : Nat → Value} : KI w0 fs nm (fun _ => false) V { w0 with drawn := w0.drawn + 1 } :=
 ⟨⟨rfl, rfl, rfl, Nat.le_refl _, fun _ _ => rfl⟩, fun _ _ _ h => (by cases h), fun _ h => (by cases h), fun h => (by cases h), fun h => (by cases h), fun h => (by cases h), fun h => (by cases h), fun h => (by cases h), fun h => (by cases h)⟩
theorem KI.not13 (h : KI w0 fs nm D V W) {j : Nat} (hj : j < 11 ∨ j = 12) (hd : D j = false) : D 13 = false := by
 cases e : D 13 with
 | false => rfl
 | true =>
  rcases hj with hj | rfl
  ·rw [(h.full e).1 j hj] at hd; cases hd
  ·rw [(h.full e).2] at hd; cases hd
theorem KI.step (h : KI w0 fs nm D V W) {j : Nat} (hj : j < 9) (hd : D j = false) {v : Value} (hb : Below W.heap.size W W') (hf : (factAt fs j).p v W') : KI w0 fs nm (setD D j) (upd V j v) W' := by
 have h13 := h.not13 (.inl (by omega)) hd
 have e : ∀ i, i ≠ j → setD D j i = D i := fun i hi => ksetD_o hi
 have u : ∀ i, i ≠ j → upd V j v i = V i := fun i hi => kupd_o hi
 refine ⟨h.bel.trans (hb.mono h.bel.size), fun _ i hi hdi => ?_, fun _ h12 => ?_, fun h9 => ?_, fun h' => ?_, fun h' => ?_, fun h' => ?_, fun h' => ?_, fun h' => ?_⟩
 ·by_cases ei : i = j
  ·subst ei; rw [kupd_s]; exact hf
  ·rw [e i ei] at hdi; rw [u i ei]; exact (factAt fs i).keep _ _ _ (h.f h13 i hi hdi) hb
 ·rw [e 12 (by omega)] at h12
  obtain ⟨p, h1, h2, h3⟩ := h.al h13 h12
  exact ⟨p, by rw [u 12 (by omega)]; exact h1, h2, h3.keep hb⟩
 ·rw [e 9 (by omega)] at h9; rw [u 9 (by omega)]; exact h.t h9
 ·rw [e 13 (by omega), h13] at h'; cases h'
 ·rw [e 13 (by omega), h13] at h'; cases h'
 ·rw [e 10 (by omega)] at h'; rw [e 9 (by omega), u 9 (by omega), u 10 (by omega)]; exact h.c10 h'
 ·rw [e 11 (by omega)] at h'; rw [u 11 (by omega)]; exact h.c11 h'
 ·rw [e 14 (by omega)] at h'; rw [u 14 (by omega)]; exact h.c14 h'
theorem KI.plain (h : KI w0 fs nm D V W) {j : Nat} (hj : j = 9 ∨ j = 10 ∨ j = 11 ∨ j = 14) (hd : j = 9 ∨ j = 10 → D j = false) {v : Value} (h9 : j = 9 → AnsT nm v) (h10 : j = 10 → D 9 = true ∧ ∀ y e, V 9 = .tuple #[y, e] → v = y) (h11 : j = 11 → v = .int .i64 0) (h14 : j = 14 → v = .int .i64 0) : KI w0 fs nm (setD D j) (upd V j v) W := by
 have e : ∀ i, i ≠ j → setD D j i = D i := fun i hi => ksetD_o hi
 have u : ∀ i, i ≠ j → upd V j v i = V i := fun i hi => kupd_o hi
 refine ⟨h.bel, fun h' i hi hdi => ?_, fun h' h12 => ?_, fun h' => ?_, fun h' => ?_, fun h' => ?_, fun h' => ?_, fun h' => ?_, fun h' => ?_⟩
 ·rw [e 13 (by omega)] at h'; rw [e i (by omega)] at hdi; rw [u i (by omega)]; exact h.f h' i hi hdi
 ·rw [e 13 (by omega)] at h'; rw [e 12 (by omega)] at h12; rw [u 12 (by omega)]; exact h.al h' h12
 ·by_cases ej : j = 9
  ·rw [ej, kupd_s]; exact h9 ej
  ·rw [e 9 (fun x => ej x.symm)] at h'; rw [u 9 (fun x => ej x.symm)]; exact h.t h'
 ·rw [e 13 (by omega)] at h'
  exact ⟨fun i hi => ksetD_m ((h.full h').1 i hi), ksetD_m (h.full h').2⟩
 ·rw [e 13 (by omega)] at h'; rw [u 12 (by omega)]; exact h.late h'
 ·by_cases ej : j = 10
  ·subst ej
   rw [e 9 (by omega), u 9 (by omega), kupd_s]; exact h10 rfl
  ·rw [e 10 (fun x => ej x.symm)] at h'
   rw [u 10 (fun x => ej x.symm)]
   have h1 := h.c10 h'
   have n9 : j ≠ 9 := fun x => by
    have := hd (.inl x)
    rw [x, h1.1] at this; cases this
   rw [e 9 (fun x => n9 x.symm), u 9 (fun x => n9 x.symm)]; exact h1
 ·by_cases ej : j = 11
  ·rw [ej, kupd_s]; exact h11 ej
  ·rw [e 11 (fun x => ej x.symm)] at h'; rw [u 11 (fun x => ej x.symm)]; exact h.c11 h'
 ·by_cases ej : j = 14
  ·rw [ej, kupd_s]; exact h14 ej
  ·rw [e 14 (fun x => ej x.symm)] at h'; rw [u 14 (fun x => ej x.symm)]; exact h.c14 h'
theorem KI.made (h : KI w0 fs nm D V W) (hd : D 12 = false) : KI w0 fs nm (setD D 12) (upd V 12 (.pointer (some ⟨W.heap.size, 0, none⟩))) (W.alloc (.cells #[.int .i64 0, .int .i64 0, .string ⟨#[]⟩, .slice none 0 0, .slice none 0 0, .slice none 0 0] 26)) := by
 have h13 := h.not13 (.inr rfl) hd
 have hb : Below W.heap.size W (W.alloc (.cells #[.int .i64 0, .int .i64 0, .string ⟨#[]⟩, .slice none 0 0, .slice none 0 0, .slice none 0 0] 26)) := (Below.refl _ _).alloc (Nat.le_refl _) _
 have e : ∀ i, i ≠ 12 → setD D 12 i = D i := fun i hi => ksetD_o hi
 have u : ∀ i, i ≠ 12 → upd V 12 (.pointer (some ⟨W.heap.size, 0, none⟩)) i = V i := fun i hi => kupd_o hi
 refine ⟨h.bel.trans (hb.mono h.bel.size), fun _ i hi hdi => ?_, fun _ _ => ⟨W.heap.size, kupd_s, h.bel.size, IsBox.new W (.int .i64 0) (.int .i64 0) (.string ⟨#[]⟩) (.slice none 0 0) (.slice none 0 0) (.slice none 0 0)⟩, fun h' => ?_, fun h' => ?_, fun h' => ?_, fun h' => ?_, fun h' => ?_, fun h' => ?_⟩
 ·rw [e i (by omega)] at hdi; rw [u i (by omega)]; exact (factAt fs i).keep _ _ _ (h.f h13 i hi hdi) hb
 ·rw [e 9 (by omega)] at h'; rw [u 9 (by omega)]; exact h.t h'
 ·rw [e 13 (by omega), h13] at h'; cases h'
 ·rw [e 13 (by omega), h13] at h'; cases h'
 ·rw [e 10 (by omega)] at h'; rw [e 9 (by omega), u 9 (by omega), u 10 (by omega)]; exact h.c10 h'
 ·rw [e 11 (by omega)] at h'; rw [u 11 (by omega)]; exact h.c11 h'
 ·rw [e 14 (by omega)] at h'; rw [u 14 (by omega)]; exact h.c14 h'
theorem KI.kept (h : KI w0 fs nm D V W) (hd : D 13 = false) (h12 : D 12 = true) (h10 : D 10 = true) (hall : ∀ j, j < 11 → D j = true) : ∃ p b1 b2 b3 f1 f2 f3 l1 l2 l3, V 12 = .pointer (some ⟨p, 0, none⟩) ∧ V 10 = .agg #[.int .i64 5, .int .i64 0, .string nm, .slice b1 b2 b3, .slice f1 f2 f3, .slice l1 l2 l3] ∧ IsBox W p (.int .i64 0) (.int .i64 0) (.string ⟨#[]⟩) (.slice none 0 0) (.slice none 0 0) (.slice none 0 0) ∧
  KI w0 fs nm (setD D 13) (upd V 13 undef) (puts W p 0 [.int .i64 5, .int .i64 0, .string nm, .slice b1 b2 b3, .slice f1 f2 f3, .slice l1 l2 l3]) := by
 obtain ⟨p, hp, hlo, hbx⟩ := h.al hd h12
 obtain ⟨d9, hy⟩ := h.c10 h10
 obtain ⟨b1, b2, b3, f1, f2, f3, l1, l2, l3, h9⟩ := h.t d9
 have e : ∀ i, i ≠ 13 → setD D 13 i = D i := fun i hi => ksetD_o hi
 have u : ∀ i, i ≠ 13 → upd V 13 undef i = V i := fun i hi => kupd_o hi
 refine ⟨p, b1, b2, b3, f1, f2, f3, l1, l2, l3, hp, hy _ _ h9, hbx, puts_below h.bel hlo _ _, fun h' => ?_, fun h' => ?_, fun h' => ?_, fun _ => ⟨fun i hi => ksetD_m (hall i hi), ksetD_m h12⟩, fun _ => ⟨p, b1, b2, b3, f1, f2, f3, l1, l2, l3, by rw [u 12 (by omega)]; exact hp, hbx.put _ _ _ _ _ _⟩, fun h' => ?_, fun h' => ?_, fun h' => ?_⟩
 ·rw [ksetD_s] at h'; cases h'
 ·rw [ksetD_s] at h'; cases h'
 ·rw [e 9 (by omega)] at h'; rw [u 9 (by omega)]; exact h.t h'
 ·rw [e 10 (by omega)] at h'; rw [e 9 (by omega), u 9 (by omega), u 10 (by omega)]; exact h.c10 h'
 ·rw [e 11 (by omega)] at h'; rw [u 11 (by omega)]; exact h.c11 h'
 ·rw [e 14 (by omega)] at h'; rw [u 14 (by omega)]; exact h.c14 h'
theorem KI.end (h : KI w0 fs nm D V W) (hD : ∀ j, j < 15 → D j = true) : ∃ p b1 b2 b3 f1 f2 f3 l1 l2 l3, V 12 = .pointer (some ⟨p, 0, none⟩) ∧ V 14 = .int .i64 0 ∧ IsBox W p (.int .i64 5) (.int .i64 0) (.string nm) (.slice b1 b2 b3) (.slice f1 f2 f3) (.slice l1 l2 l3) ∧ Below w0.heap.size w0 W := by
 obtain ⟨p, b1, b2, b3, f1, f2, f3, l1, l2, l3, h1, h2⟩ := h.late (hD 13 (by omega))
 exact ⟨p, b1, b2, b3, f1, f2, f3, l1, l2, l3, h1, h.c14 (hD 14 (by omega)), h2, h.bel⟩
end
end Go.Proofs.YtiajjgehnmkokaaGreatDoor
end
