/- RefOwnT. -/
import Derived.Lib.AppendStr
import Derived.Deep.RegionHeld3
import Derived.Test.YtngllchoiffniaaGreatDoorMo29
import Derived.Test.YtngllchoiffniaaGreatDoorMo0
set_option maxRecDepth 100000
set_option maxHeartbeats 20000000
open List renaming getElem_toArray → zA, getElem_cons_succ → zB, getElem_cons_zero → zC, setIfInBounds_toArray → zD, set_cons_zero → zE, set_cons_succ → zF
section
namespace Go.Proofs.YtngllchoiffniaaGreatDoor
open Go.RowKit
open Seal
open Bson (Val)
section
variable {P : Program}
theorem step_append_str {ops : Array Oper} {o : Oper} {a : Act} {w : World} {K : Act → World → Prop} {Q : Exit → Act → World → Prop} {E : Prop}
  (hg : o.guard = none) (sl x : Operand) (t u : TypeId) (ho : o.op = .call { callee := .builtin .append, args := #[sl, x], argTypes := #[t, u] })
  (base : Nat) (e : TypeId) (i : TypeInfo) (ht : P.underlying t = some (.slice e)) (hu : P.underlying u = some .string) (hi : P.info? e = some i) (hz : i.zero = some (.int .u8 0))
  (hsize : i.size = 1) (hby : i.bytes = 1) (v : Value) (n : Nat) (xs : List Value) (hs : a.eval sl = v) (hown : w.ownsRow base e 1 v n xs) (s : ByteArray) (hx : a.eval x = .string s)
  (h63 : n + s.size ≤ maxLen) (hbytes : n + s.size ≤ 140737488355328) (hbase : base ≤ w.heap.size)
  (h : ∀ v' w', w'.ownsRow base e 1 v' (n + s.size) (xs ++ Lib.strCells s) → w.grownBy w' v.ownBlock → K (a.put o.dst v') w') :
  if Region.wanted o (yielded ops a.tmps) = true then Oper.wp P o a w K Q else E := by
 have hw : Region.wanted o (yielded ops a.tmps) = true := by simp [Region.wanted, hg]
 rw [if_pos hw]
 obtain ⟨v', w', hr, h2, h3, _⟩ := Lib.run_append_own_string (P := P) w base t u o.type e i ht hu hi hz hsize hby v n xs hown s h63 hbytes hbase
 unfold Oper.wp execOp
 simp only [ho, resolve, invoke, builtin, Sem.run_bind, Sem.run_pure, Result.andThen_ok, List.map_toArray, List.map_cons, List.map_nil, hs, hx, hr]
 exact h v' w' h2 h3
theorem step_append_src {ops : Array Oper} {o : Oper} {a : Act} {w : World} {K : Act → World → Prop} {Q : Exit → Act → World → Prop} {E : Prop}
  (hg : o.guard = none) (s x : Operand) (t : TypeId) (ho : o.op = .call { callee := .builtin .append, args := #[s, x], argTypes := #[t, t] })
  (base : Nat) (e : TypeId) (i : TypeInfo) (z : Value) (size bytes : Nat) (ht : P.underlying t = some (.slice e)) (hi : P.info? e = some i) (hz : i.zero = some z)
  (hsize : i.size = size) (hby : i.bytes = bytes) (hzs : z.cells.size = size) (hsz : 0 < size) (v : Value) (n : Nat) (xs : List Value) (hs : a.eval s = v) (hown : w.ownsRow base e size v n xs)
  (ad : Option Addr) (m c : Nat) (news : List Value) (hx : a.eval x = .slice ad m c) (hsrc : Src w ad m news) (hl : news.length = m * size) (h1 : ∀ u ∈ news, u.oneCell' = true)
  (h63 : n + m ≤ maxLen) (hbytes : (n + m) * bytes ≤ 140737488355328) (hbase : base ≤ w.heap.size)
  (h : ∀ v' w', w'.ownsRow base e size v' (n + m) (xs ++ news) → w.grownBy w' v.ownBlock → K (a.put o.dst v') w') :
  if Region.wanted o (yielded ops a.tmps) = true then Oper.wp P o a w K Q else E := by
 have hw : Region.wanted o (yielded ops a.tmps) = true := by simp [Region.wanted, hg]
 rw [if_pos hw]
 obtain ⟨v', w', hr, h2, h3⟩ := run_src (P := P) w base t o.type e i z size bytes ht hi hz hsize hby hzs hsz v n xs hown ad m c news hsrc hl h1 h63 hbytes hbase
 unfold Oper.wp execOp
 simp only [ho, resolve, invoke, builtin, Sem.run_bind, Sem.run_pure, Result.andThen_ok, List.map_toArray, List.map_cons, List.map_nil, hs, hx, hr]
 exact h v' w' h2 h3
end
theorem str_u8s (s : ByteArray) : Lib.strCells s = u8s (s.data.toList.map UInt8.toNat) := by
 unfold Lib.strCells u8s
 rw [List.map_map]
 rfl
theorem oct_str (s : ByteArray) : Oct (s.data.toList.map UInt8.toNat) := fun c hc => by
 obtain ⟨b, _, rfl⟩ := List.mem_map.1 hc
 exact b.toNat_lt
theorem oct_app {a b : List Nat} (ha : Oct a) (hb : Oct b) : Oct (a ++ b) := fun c hc => by
 rcases List.mem_append.1 hc with h | h
 ·exact ha c h
 ·exact hb c h
theorem u8s_app (a b : List Nat) : u8s (a ++ b) = u8s a ++ u8s b := by unfold u8s; exact List.map_append
theorem oct_nought : Oct [0] := fun c hc => by rw [List.mem_singleton.1 hc]; decide
structure Mine (w : World) (base : Nat) (v : Value) (n : Nat) : Prop where
 row : ∃ l, w.ownsRow base 5 1 v n (u8s l) ∧ Oct l
 size : base ≤ w.heap.size
theorem Mine.below {w w' : World} {base : Nat} {v : Value} {n : Nat} (h : Mine w base v n) (hb : Below w.heap.size w w') : Mine w' base v n := by
 obtain ⟨⟨l, h1, h2⟩, h3⟩ := h
 exact ⟨⟨l, owns_below h1 hb, h2⟩, Nat.le_trans h3 hb.size⟩
theorem Mine.bytes {w : World} {base B : Nat} {v : Value} {n : Nat} (h : Mine w base v n) (hB : B ≤ base) : BytesAt w (fun g => B ≤ g) v n := by
 obtain ⟨⟨l, h1, h2⟩, _⟩ := h
 exact (owns_bytes h1 h2).mono (fun g hg => Nat.le_trans hB hg)
def NoughtAt (w : World) (N : Nat) : Prop := N < w.heap.size ∧ w.cell? ⟨N, 0, none⟩ = some (.int .u8 0)
theorem NoughtAt.keep {w w' : World} {N : Nat} (h : NoughtAt w N) (hb : Below w.heap.size w w') : NoughtAt w' N := ⟨Nat.lt_of_lt_of_le h.1 hb.size, cell_keep hb h.2⟩
theorem NoughtAt.new (w : World) (t : TypeId) : NoughtAt (w.alloc (.cells #[.int .u8 0] t)) w.heap.size :=
 ⟨(Array.getElem?_eq_some_iff.1 (heap_alloc_new w _)).1, (cell_of_row _ _ 0 _ _ _ (heap_alloc_new w _)).trans rfl⟩
theorem NoughtAt.reads {w : World} {N : Nat} (h : NoughtAt w N) : ∀ j u, ([.int .u8 0] : List Value)[j]? = some u → w.cell? (Addr.add ⟨N, 0, none⟩ j) = some u := by
 intro j u hj
 cases j with
 | zero => simp at hj; subst hj; exact h.2
 | succ j => simp at hj
theorem Mine.str {w' : World} {base : Nat} {v' : Value} {n : Nat} {s : ByteArray} {l : List Nat} (ho : w'.ownsRow base 5 1 v' (n + s.size) (u8s l ++ Lib.strCells s)) (hl : Oct l) (hb : base ≤ w'.heap.size) : Mine w' base v' (n + s.size) := by
 rw [str_u8s, ← u8s_app] at ho
 exact ⟨⟨_, ho, oct_app hl (oct_str s)⟩, hb⟩
theorem Mine.more {w' : World} {base : Nat} {v' : Value} {n m : Nat} {l k : List Nat} (ho : w'.ownsRow base 5 1 v' (n + m) (u8s l ++ u8s k)) (hl : Oct l) (hk : Oct k) (hb : base ≤ w'.heap.size) : Mine w' base v' (n + m) := by
 rw [← u8s_app] at ho
 exact ⟨⟨_, ho, oct_app hl hk⟩, hb⟩
theorem src_bytes {w : World} {Q : Nat → Prop} {a : Option Addr} {n : Nat} {l : List Nat} (hl : l.length = n) (hr : BytesIn w Q a l) : Src w a n (u8s l) := by
 rcases hr with rfl | ⟨g, o, rfl, _, hr⟩
 ·exact ⟨fun _ => by simpa using hl.symm, fun ad _ j u hj => by simp [u8s] at hj⟩
 ·refine ⟨fun e => (by cases e), fun ad e j u hj => ?_⟩
  cases e
  have hjl : j < l.length := by
   have := (List.getElem?_eq_some_iff.1 hj).1
   simpa [u8s] using this
  rw [Addr.add_mid, hr j hjl, ← hj]
  simp [u8s, Go.Proofs.YtngllchoiffniaaGreatDoor.u8, List.getElem?_eq_getElem hjl, List.getD_eq_getElem?_getD]
theorem u8s_one (l : List Nat) : ∀ u ∈ u8s l, u.oneCell' = true := fun u hu => by
 obtain ⟨b, _, rfl⟩ := List.mem_map.1 hu
 rfl
theorem own_text (Q : Nat → Prop) (h : Nat) (x : Val) (u : Value) (w : World) (d : Int) (hk : x.kind = 5) (hv : VIn w Q (h + 1) x u) :
  Calls Tryz.prog 52 #[u, .int .i64 d] w (OwnPost Q w) := by
 obtain ⟨xk, xn, xs, ba, fa, la, bn, bc, fn, fc, ln, lc, rfl, hxk, hxn, hxs, hbn, hfn, hln, hL, hF, hI⟩ := hv.letters
 obtain rfl : xk = 5 := by rw [hxk, hk]
 have HV0 : Hid (VIn (w.alloc (.cells #[.int .i64 5, .int .i64 xn, .string xs, .slice ba bn bc, .slice fa fn fc, .slice la ln lc] 35)) Q (h + 1) x (.agg #[.int .i64 5, .int .i64 xn, .string xs, .slice ba bn bc, .slice fa fn fc, .slice la ln lc])) := VIn.keep ((Below.refl _ w).alloc (Nat.le_refl _) _) hv
 have HB0 : Hid (Below w.heap.size w (w.alloc (.cells #[.int .i64 5, .int .i64 xn, .string xs, .slice ba bn bc, .slice fa fn fc, .slice la ln lc] 35))) := (Below.refl _ w).alloc (Nat.le_refl _) _
 have hS := SixIs.new w (.int .i64 5) (.int .i64 xn) (.string xs) (.slice ba bn bc) (.slice fa fn fc) (.slice la ln lc) 35
 have HS0 := Lib.hid hS
 have HXS : Hid (xs.size ≤ 140737488355328) := by rw [hxs]; exact hL.s
 clear hv hxk hk hS hxn hxs hbn hfn hln hL hF hI
 generalize hW : w.alloc (.cells #[.int .i64 5, .int .i64 xn, .string xs, .slice ba bn bc, .slice fa fn fc, .slice la ln lc] 35) = W0 at *
 obtain ⟨e0, e1, e2, e3, e4, e5⟩ := HS0.out
 have hf : W0.cell? ⟨w.heap.size, 0, none⟩ = some (.int .i64 5) ∧ W0.cell? ⟨w.heap.size, 1, none⟩ = some (.int .i64 xn) ∧ W0.cell? ⟨w.heap.size, 2, none⟩ = some (.string xs) ∧ W0.cell? ⟨w.heap.size, 3, none⟩ = some (.slice ba bn bc) ∧ W0.cell? ⟨w.heap.size, 4, none⟩ = some (.slice fa fn fc) ∧ W0.cell? ⟨w.heap.size, 5, none⟩ = some (.slice la ln lc) := HS0.out
 have HDR : Hid (Below W0.heap.size W0 W0.drew) := (Below.refl _ W0).drew
 obtain ⟨i0, hi, hz0, hz1, hz2⟩ := info_parts infoU8
 obtain ⟨b2, hb2⟩ : ∃ b2, b2 = Bson.bare x false true false false false := ⟨_, rfl⟩
 have HBARE : Hid (∀ wx, VIn wx Q (h + 1) x (.agg #[.int .i64 5, .int .i64 xn, .string xs, .slice ba bn bc, .slice fa fn fc, .slice la ln lc]) → Calls Tryz.prog 69 #[.agg #[.int .i64 5, .int .i64 xn, .string xs, .slice ba bn bc, .slice fa fn fc, .slice la ln lc], .bool false, .bool true, .bool false, .bool false, .bool false] wx fun e w' => e = .returned (.bool b2) ∧ Below wx.heap.size wx w') := fun wx hx => by rw [hb2]; exact bare_some2 Q (h + 1) x _ wx hx
 clear hb2
 have HUTF : Hid (∀ wx, Below W0.heap.size W0 wx → Calls Tryz.prog 71 #[.string xs] wx fun e w' => e = .returned (.bool (Lib.validD xs.data.toList)) ∧ Below wx.heap.size wx w') := fun wx _ => utf8ref_any xs wx HXS.out
 by_cases hsz : 65536 < xs.size
 ·have dz : decide ((65536 : Int) < (xs.size : Int)) = true := decide_eq_true (by omega)
  go_enter Tryz.func52, Tryz.ntmps52
  go_wp2_with fail
  clear hW
  refine bodyPost_ret (v := .tuple #[.slice none 0 0, .bool false]) (by simp [results, Tryz.results52, go_sem]) rfl ?_
  exact ⟨_, false, 0, rfl, BytesAt.none _ _, fun _ => by omega, HB0.out⟩
 have dz : decide ((65536 : Int) < (xs.size : Int)) = false := decide_eq_false (by omega)
 cases b2
 ·go_enter Tryz.func52, Tryz.ntmps52
  go_wp2_with fail
  clear hW
  refine wp_region_held_drew (S := fun W => W.cell? ⟨w.heap.size, 0, none⟩ = some (.int .i64 5) ∧ W.cell? ⟨w.heap.size, 1, none⟩ = some (.int .i64 xn) ∧ W.cell? ⟨w.heap.size, 2, none⟩ = some (.string xs) ∧ W.cell? ⟨w.heap.size, 3, none⟩ = some (.slice ba bn bc) ∧ W.cell? ⟨w.heap.size, 4, none⟩ = some (.slice fa fn fc) ∧ W.cell? ⟨w.heap.size, 5, none⟩ = some (.slice la ln lc)) (by kernel_rfl) (by exact hf) (fun hHeld => ?_)
  generalize W0.drew = wd at *
  refine wpAnyH_take (i := 0) (v := ?_) rfl (by kernel_rfl) (by kernel_rfl) (by kernel_rfl) (fun _ _ _ h => h) (Or.inl ⟨by kernel_rfl, ?_⟩) (by assumption) ?_
  rotate_left
  ·intro wS hSw
   (try dsimp only at hSw)
   go_simp
   try (with_reducible rfl)
  try simp only [zA, zC, Act.put, zD, zE, zF]
  refine wpAnyH_take (i := 1) (v := ?_) rfl (by kernel_rfl) (by kernel_rfl) (by kernel_rfl) (fun _ _ _ h => h) (Or.inl ⟨by kernel_rfl, ?_⟩) (by assumption) ?_
  rotate_left
  ·intro wS hSw
   (try dsimp only at hSw)
   go_simp
   try (with_reducible rfl)
  try simp only [zA, zB, zC, Act.put, zD, zE, zF]
  refine wpAnyH_take (i := 2) (v := ?_) rfl (by kernel_rfl) (by kernel_rfl) (by kernel_rfl) (fun _ _ _ h => h) (Or.inl ⟨by kernel_rfl, ?_⟩) (by assumption) ?_
  rotate_left
  ·intro wS hSw
   (try dsimp only at hSw)
   go_simp
   try (with_reducible rfl)
  try simp only [zA, zB, zC, Act.put, zD, zE, zF]
  refine wpAnyH_take (i := 3) (v := ?_) rfl (by kernel_rfl) (by kernel_rfl) (by kernel_rfl) (fun _ _ _ h => h) (Or.inl ⟨by kernel_rfl, ?_⟩) (by assumption) ?_
  rotate_left
  ·intro wS hSw
   (try dsimp only at hSw)
   go_simp
   try (with_reducible rfl)
  try simp only [zA, zB, zC, Act.put, zD, zE, zF]
  refine wpAnyH_take (i := 5) (v := ?_) rfl (by kernel_rfl) (by kernel_rfl) (by kernel_rfl) (fun _ _ _ h => h) (Or.inl ⟨by kernel_rfl, ?_⟩) (by assumption) ?_
  rotate_left
  ·intro wS hSw
   (try dsimp only at hSw)
   go_simp
   try (with_reducible rfl)
  try simp only [zA, zB, zC, Act.put, zD, zE, zF]
  refine wpAnyH_take (i := 6) (v := ?_) rfl (by kernel_rfl) (by kernel_rfl) (by kernel_rfl) (fun _ _ _ h => h) (Or.inl ⟨by kernel_rfl, ?_⟩) (by assumption) ?_
  rotate_left
  ·intro wS hSw
   (try dsimp only at hSw)
   go_simp
   try (with_reducible rfl)
  try simp only [zA, zB, zC, Act.put, zD, zE, zF]
  refine wpAnyH_take (i := 10) (v := ?_) rfl (by kernel_rfl) (by kernel_rfl) (by kernel_rfl) (fun _ _ _ h => h) (Or.inl ⟨by kernel_rfl, ?_⟩) (by assumption) ?_
  rotate_left
  ·intro wS hSw
   (try dsimp only at hSw)
   go_simp
   try (with_reducible rfl)
  try simp only [zA, zB, zC, Act.put, zD, zE, zF]
  refine wpAnyH_ready (rs := [4, 8]) (by kernel_rfl) (by simp) ?_
  refine AllReadyH.cons rfl (fun K hK => ?_) (AllReadyH.cons rfl (fun K hK => ?_) (AllReadyH.nil))
  ·go_simp
   go_at_call 70
   refine (num_own _ 4 wd (by decide)).mono ?_
   rintro e w1 ⟨v1, lv1, rfl, ho, hl, hoct, hb⟩
   have HBw1 : Hid (Below W0.heap.size W0 w1) := HDR.out.trans (hb.mono HDR.out.size)
   have HMw1 : Hid (Mine w1 wd.heap.size v1 4) := ⟨⟨_, ho, hoct⟩, hb.size⟩
   have HBSw1 : Hid (W0.heap.size ≤ wd.heap.size) := HDR.out.size
   have hfw1 := HS0.out.keep HBw1.out
   unfold SixIs at hfw1
   clear ho hl hoct hb
   refine hK.out _ _ (by exact hfw1) (fun hHeld => ?_)
   clear hK K
   try simp only [zA, zB, zC, Act.put, zD, zE, zF]
   refine wpAnyH_ready (rs := [7, 8]) (by kernel_rfl) (by simp) ?_
   refine AllReadyH.cons rfl (fun K hK => ?_) (AllReadyH.cons rfl (fun K hK => ?_) (AllReadyH.nil))
   ·obtain ⟨⟨lv2, ho1, hoct1⟩, hbs1⟩ := HMw1.out
    refine step_append_str rfl (.tmp 68) (.tmp 70) 32 9 rfl (wd.heap.size) 5 i0 Tryz.underlying32 Tryz.underlying9 hi hz0 hz1 hz2 v1 4 (u8s lv2) rfl ho1 xs rfl (by unfold maxLen; omega) (by omega) hbs1 ?_
    intro v2 w2 ho hg
    have HBw2 : Hid (Below W0.heap.size W0 w2) := HBw1.out.grown hg HBw1.out.size (fun j hj => Nat.le_trans HBSw1.out (owns_block ho1 hj).1)
    have HMw2 : Hid (Mine w2 (wd.heap.size) v2 (4 + xs.size)) := Mine.str ho hoct1 (Nat.le_trans hbs1 hg.size)
    have hfw2 := HS0.out.keep HBw2.out
    unfold SixIs at hfw2
    clear ho hg ho1 hoct1 hbs1
    refine hK.out _ _ (by exact hfw2) (fun hHeld => ?_)
    clear hK K
    try simp only [zA, zB, zC, Act.put, zD, zE, zF]
    refine wpAnyH_ready (rs := [8]) (by kernel_rfl) (by simp) ?_
    refine AllReadyH.cons rfl (fun K hK => ?_) (AllReadyH.nil)
    go_simp
    have HBw3 : Hid (Below W0.heap.size W0 (w2.alloc (.cells #[.int .u8 0] 5))) := HBw2.out.alloc HBw2.out.size _
    have HNw3 : Hid (NoughtAt (w2.alloc (.cells #[.int .u8 0] 5)) w2.heap.size) := NoughtAt.new w2 _
    have HMw3 : Hid (Mine (w2.alloc (.cells #[.int .u8 0] 5)) (wd.heap.size) v2 (4 + xs.size)) := HMw2.out.below ((Below.refl _ _).alloc (Nat.le_refl _) _)
    have HDw3 : Hid (∀ g, v2.ownBlock = some g → g ≠ w2.heap.size) := fun g hg e => by obtain ⟨⟨l, h1, _⟩, _⟩ := HMw2.out; have := (owns_block h1 hg).2; omega
    have HNSw3 : Hid (W0.heap.size ≤ w2.heap.size) := HBw2.out.size
    generalize w2.alloc (.cells #[.int .u8 0] 5) = w3 at *
    have hfw3 := HS0.out.keep HBw3.out
    unfold SixIs at hfw3
    refine hK.out _ _ (by exact hfw3) (fun hHeld => ?_)
    clear hK K
    try simp only [zA, zB, zC, Act.put, zD, zE, zF]
    refine wpAnyH_ready (rs := [9]) (by kernel_rfl) (by simp) ?_
    refine AllReadyH.cons rfl (fun K hK => ?_) (AllReadyH.nil)
    obtain ⟨⟨lv4, ho1, hoct1⟩, hbs1⟩ := HMw3.out
    refine step_append_src rfl (.tmp 71) (.tmp 72) 32 rfl (wd.heap.size) 5 i0 (.int .u8 0) 1 1 Tryz.underlying32 hi hz0 hz1 hz2 rfl (by decide) v2 (4 + xs.size) (u8s lv4) rfl ho1 (some ⟨w2.heap.size, 0, none⟩) 1 1 (u8s [0]) rfl ⟨fun e => (by cases e), fun ad e => (by cases e; exact HNw3.out.reads)⟩ rfl (fun u hu => by simp [u8s] at hu; subst hu; rfl) (by unfold maxLen; omega) (by omega) hbs1 ?_
    intro v4 w4 ho hg
    have HBw4 : Hid (Below W0.heap.size W0 w4) := HBw3.out.grown hg HBw3.out.size (fun j hj => Nat.le_trans HBSw1.out (owns_block ho1 hj).1)
    have HMw4 : Hid (Mine w4 (wd.heap.size) v4 (4 + xs.size + 1)) := Mine.more ho hoct1 oct_nought (Nat.le_trans hbs1 hg.size)
    have hfw4 := HS0.out.keep HBw4.out
    unfold SixIs at hfw4
    clear ho hg ho1 hoct1 hbs1
    refine hK.out _ _ (by exact hfw4) (fun hHeld => ?_)
    clear hK K
    try simp only [zA, zB, zC, Act.put, zD, zE, zF]
    refine wpAnyH_ready (rs := [11]) (by kernel_rfl) (by simp) ?_
    refine AllReadyH.cons rfl (fun K hK => ?_) (AllReadyH.nil)
    go_simp
    go_at_call 69
    refine (HBARE.out w4 (VIn.keep HBw4.out HV0.out)).mono ?_
    rintro e w5 ⟨rfl, hb⟩
    have HBw5 : Hid (Below W0.heap.size W0 w5) := HBw4.out.trans (hb.mono HBw4.out.size)
    have HMw5 : Hid (Mine w5 (wd.heap.size) v4 (4 + xs.size + 1)) := HMw4.out.below hb
    have hfw5 := HS0.out.keep HBw5.out
    unfold SixIs at hfw5
    clear hb
    refine hK.out _ _ (by exact hfw5) (fun hHeld => ?_)
    clear hK K
    try simp only [zA, zB, zC, Act.put, zD, zE, zF]
    refine wpAnyH_take (i := 12) (v := ?_) rfl (by kernel_rfl) (by kernel_rfl) (by kernel_rfl) (fun _ _ _ h => h) (Or.inl ⟨by kernel_rfl, ?_⟩) (by assumption) ?_
    rotate_left
    ·intro wS hSw
     (try dsimp only at hSw)
     go_simp
     try (with_reducible rfl)
    try simp only [zA, zB, zC, Act.put, zD, zE, zF]
    refine wpAnyH_take (i := 13) (v := undef) rfl (by kernel_rfl) (by kernel_rfl) (by kernel_rfl) (fun _ _ _ h => h) (Or.inr ⟨by kernel_rfl, rfl⟩) (by assumption) ?_
    try simp only [zA, zB, zC, Act.put, zD, zE, zF]
    refine wpAnyH_take (i := 14) (v := undef) rfl (by kernel_rfl) (by kernel_rfl) (by kernel_rfl) (fun _ _ _ h => h) (Or.inr ⟨by kernel_rfl, rfl⟩) (by assumption) ?_
    try simp only [zA, zB, zC, Act.put, zD, zE, zF]
    refine wpAnyH_take (i := 15) (v := undef) rfl (by kernel_rfl) (by kernel_rfl) (by kernel_rfl) (fun _ _ _ h => h) (Or.inr ⟨by kernel_rfl, rfl⟩) (by assumption) ?_
    try simp only [zA, zB, zC, Act.put, zD, zE, zF]
    refine wpAnyH_take (i := 17) (v := ?_) rfl (by kernel_rfl) (by kernel_rfl) (by kernel_rfl) (fun _ _ _ h => h) (Or.inl ⟨by kernel_rfl, ?_⟩) (by assumption) ?_
    rotate_left
    ·intro wS hSw
     (try dsimp only at hSw)
     go_simp
     try (with_reducible rfl)
    try simp only [zA, zB, zC, Act.put, zD, zE, zF]
    refine wpAnyH_take (i := 16) (v := ?_) rfl (by kernel_rfl) (by kernel_rfl) (by kernel_rfl) (fun _ _ _ h => h) (Or.inl ⟨by kernel_rfl, ?_⟩) (by assumption) ?_
    rotate_left
    ·intro wS hSw
     (try dsimp only at hSw)
     go_simp
     try (with_reducible rfl)
    try simp only [zA, zB, zC, Act.put, zD, zE, zF]
    refine wpAnyH_take (i := 18) (v := ?_) rfl (by kernel_rfl) (by kernel_rfl) (by kernel_rfl) (fun _ _ _ h => h) (Or.inl ⟨by kernel_rfl, ?_⟩) (by assumption) ?_
    rotate_left
    ·intro wS hSw
     (try dsimp only at hSw)
     go_simp
     try (with_reducible rfl)
    try simp only [zA, zB, zC, Act.put, zD, zE, zF]
    refine wpAnyH_done (by kernel_rfl) ?_ _
    go_wp2_with fail
    refine bodyPost_ret (v := .tuple #[v4, .bool _]) (by simp [results, Tryz.results52, go_sem]; rfl) rfl ?_
    exact ⟨_, _, 4 + xs.size + 1, rfl, (HMw5.out.bytes (Nat.le_trans HB0.out.size HBSw1.out)).mono (fun g hg => .inr hg), fun _ => by omega, HB0.out.trans (HBw5.out.mono HB0.out.size)⟩
   ·go_simp
    have HBw6 : Hid (Below W0.heap.size W0 (w1.alloc (.cells #[.int .u8 0] 5))) := HBw1.out.alloc HBw1.out.size _
    have HNw6 : Hid (NoughtAt (w1.alloc (.cells #[.int .u8 0] 5)) w1.heap.size) := NoughtAt.new w1 _
    have HMw6 : Hid (Mine (w1.alloc (.cells #[.int .u8 0] 5)) (wd.heap.size) v1 (4)) := HMw1.out.below ((Below.refl _ _).alloc (Nat.le_refl _) _)
    have HDw6 : Hid (∀ g, v1.ownBlock = some g → g ≠ w1.heap.size) := fun g hg e => by obtain ⟨⟨l, h1, _⟩, _⟩ := HMw1.out; have := (owns_block h1 hg).2; omega
    have HNSw6 : Hid (W0.heap.size ≤ w1.heap.size) := HBw1.out.size
    generalize w1.alloc (.cells #[.int .u8 0] 5) = w6 at *
    have hfw6 := HS0.out.keep HBw6.out
    unfold SixIs at hfw6
    refine hK.out _ _ (by exact hfw6) (fun hHeld => ?_)
    clear hK K
    try simp only [zA, zB, zC, Act.put, zD, zE, zF]
    refine wpAnyH_ready (rs := [7]) (by kernel_rfl) (by simp) ?_
    refine AllReadyH.cons rfl (fun K hK => ?_) (AllReadyH.nil)
    obtain ⟨⟨lv7, ho1, hoct1⟩, hbs1⟩ := HMw6.out
    refine step_append_str rfl (.tmp 68) (.tmp 70) 32 9 rfl (wd.heap.size) 5 i0 Tryz.underlying32 Tryz.underlying9 hi hz0 hz1 hz2 v1 4 (u8s lv7) rfl ho1 xs rfl (by unfold maxLen; omega) (by omega) hbs1 ?_
    intro v7 w7 ho hg
    have HBw7 : Hid (Below W0.heap.size W0 w7) := HBw6.out.grown hg HBw6.out.size (fun j hj => Nat.le_trans HBSw1.out (owns_block ho1 hj).1)
    have HMw7 : Hid (Mine w7 (wd.heap.size) v7 (4 + xs.size)) := Mine.str ho hoct1 (Nat.le_trans hbs1 hg.size)
    have HNw7 : Hid (NoughtAt w7 (w1.heap.size)) := ⟨Nat.lt_of_lt_of_le HNw6.out.1 hg.size, hg.cell HNw6.out.2 (fun e => HDw6.out _ e.symm rfl)⟩
    have hfw7 := HS0.out.keep HBw7.out
    unfold SixIs at hfw7
    clear ho hg ho1 hoct1 hbs1
    refine hK.out _ _ (by exact hfw7) (fun hHeld => ?_)
    clear hK K
    try simp only [zA, zB, zC, Act.put, zD, zE, zF]
    refine wpAnyH_ready (rs := [9]) (by kernel_rfl) (by simp) ?_
    refine AllReadyH.cons rfl (fun K hK => ?_) (AllReadyH.nil)
    obtain ⟨⟨lv8, ho1, hoct1⟩, hbs1⟩ := HMw7.out
    refine step_append_src rfl (.tmp 71) (.tmp 72) 32 rfl (wd.heap.size) 5 i0 (.int .u8 0) 1 1 Tryz.underlying32 hi hz0 hz1 hz2 rfl (by decide) v7 (4 + xs.size) (u8s lv8) rfl ho1 (some ⟨w1.heap.size, 0, none⟩) 1 1 (u8s [0]) rfl ⟨fun e => (by cases e), fun ad e => (by cases e; exact HNw7.out.reads)⟩ rfl (fun u hu => by simp [u8s] at hu; subst hu; rfl) (by unfold maxLen; omega) (by omega) hbs1 ?_
    intro v8 w8 ho hg
    have HBw8 : Hid (Below W0.heap.size W0 w8) := HBw7.out.grown hg HBw7.out.size (fun j hj => Nat.le_trans HBSw1.out (owns_block ho1 hj).1)
    have HMw8 : Hid (Mine w8 (wd.heap.size) v8 (4 + xs.size + 1)) := Mine.more ho hoct1 oct_nought (Nat.le_trans hbs1 hg.size)
    have hfw8 := HS0.out.keep HBw8.out
    unfold SixIs at hfw8
    clear ho hg ho1 hoct1 hbs1
    refine hK.out _ _ (by exact hfw8) (fun hHeld => ?_)
    clear hK K
    try simp only [zA, zB, zC, Act.put, zD, zE, zF]
    refine wpAnyH_ready (rs := [11]) (by kernel_rfl) (by simp) ?_
    refine AllReadyH.cons rfl (fun K hK => ?_) (AllReadyH.nil)
    go_simp
    go_at_call 69
    refine (HBARE.out w8 (VIn.keep HBw8.out HV0.out)).mono ?_
    rintro e w9 ⟨rfl, hb⟩
    have HBw9 : Hid (Below W0.heap.size W0 w9) := HBw8.out.trans (hb.mono HBw8.out.size)
    have HMw9 : Hid (Mine w9 (wd.heap.size) v8 (4 + xs.size + 1)) := HMw8.out.below hb
    have hfw9 := HS0.out.keep HBw9.out
    unfold SixIs at hfw9
    clear hb
    refine hK.out _ _ (by exact hfw9) (fun hHeld => ?_)
    clear hK K
    try simp only [zA, zB, zC, Act.put, zD, zE, zF]
    refine wpAnyH_take (i := 12) (v := ?_) rfl (by kernel_rfl) (by kernel_rfl) (by kernel_rfl) (fun _ _ _ h => h) (Or.inl ⟨by kernel_rfl, ?_⟩) (by assumption) ?_
    rotate_left
    ·intro wS hSw
     (try dsimp only at hSw)
     go_simp
     try (with_reducible rfl)
    try simp only [zA, zB, zC, Act.put, zD, zE, zF]
    refine wpAnyH_take (i := 13) (v := undef) rfl (by kernel_rfl) (by kernel_rfl) (by kernel_rfl) (fun _ _ _ h => h) (Or.inr ⟨by kernel_rfl, rfl⟩) (by assumption) ?_
    try simp only [zA, zB, zC, Act.put, zD, zE, zF]
    refine wpAnyH_take (i := 14) (v := undef) rfl (by kernel_rfl) (by kernel_rfl) (by kernel_rfl) (fun _ _ _ h => h) (Or.inr ⟨by kernel_rfl, rfl⟩) (by assumption) ?_
    try simp only [zA, zB, zC, Act.put, zD, zE, zF]
    refine wpAnyH_take (i := 15) (v := undef) rfl (by kernel_rfl) (by kernel_rfl) (by kernel_rfl) (fun _ _ _ h => h) (Or.inr ⟨by kernel_rfl, rfl⟩) (by assumption) ?_
    try simp only [zA, zB, zC, Act.put, zD, zE, zF]
    refine wpAnyH_take (i := 17) (v := ?_) rfl (by kernel_rfl) (by kernel_rfl) (by kernel_rfl) (fun _ _ _ h => h) (Or.inl ⟨by kernel_rfl, ?_⟩) (by assumption) ?_
    rotate_left
    ·intro wS hSw
     (try dsimp only at hSw)
     go_simp
     try (with_reducible rfl)
    try simp only [zA, zB, zC, Act.put, zD, zE, zF]
    refine wpAnyH_take (i := 16) (v := ?_) rfl (by kernel_rfl) (by kernel_rfl) (by kernel_rfl) (fun _ _ _ h => h) (Or.inl ⟨by kernel_rfl, ?_⟩) (by assumption) ?_
    rotate_left
    ·intro wS hSw
     (try dsimp only at hSw)
     go_simp
     try (with_reducible rfl)
    try simp only [zA, zB, zC, Act.put, zD, zE, zF]
    refine wpAnyH_take (i := 18) (v := ?_) rfl (by kernel_rfl) (by kernel_rfl) (by kernel_rfl) (fun _ _ _ h => h) (Or.inl ⟨by kernel_rfl, ?_⟩) (by assumption) ?_
    rotate_left
    ·intro wS hSw
     (try dsimp only at hSw)
     go_simp
     try (with_reducible rfl)
    try simp only [zA, zB, zC, Act.put, zD, zE, zF]
    refine wpAnyH_done (by kernel_rfl) ?_ _
    go_wp2_with fail
    refine bodyPost_ret (v := .tuple #[v8, .bool _]) (by simp [results, Tryz.results52, go_sem]; rfl) rfl ?_
    exact ⟨_, _, 4 + xs.size + 1, rfl, (HMw9.out.bytes (Nat.le_trans HB0.out.size HBSw1.out)).mono (fun g hg => .inr hg), fun _ => by omega, HB0.out.trans (HBw9.out.mono HB0.out.size)⟩
  ·go_simp
   have HBw10 : Hid (Below W0.heap.size W0 (wd.alloc (.cells #[.int .u8 0] 5))) := HDR.out.alloc HDR.out.size _
   have HNw10 : Hid (NoughtAt (wd.alloc (.cells #[.int .u8 0] 5)) wd.heap.size) := NoughtAt.new wd _
   have HNSw10 : Hid (W0.heap.size ≤ wd.heap.size) := HDR.out.size
   generalize wd.alloc (.cells #[.int .u8 0] 5) = w10 at *
   have hfw10 := HS0.out.keep HBw10.out
   unfold SixIs at hfw10
   refine hK.out _ _ (by exact hfw10) (fun hHeld => ?_)
   clear hK K
   try simp only [zA, zB, zC, Act.put, zD, zE, zF]
   refine wpAnyH_ready (rs := [4]) (by kernel_rfl) (by simp) ?_
   refine AllReadyH.cons rfl (fun K hK => ?_) (AllReadyH.nil)
   go_simp
   go_at_call 70
   refine (num_own _ 4 w10 (by decide)).mono ?_
   rintro e w11 ⟨v11, lv11, rfl, ho, hl, hoct, hb⟩
   have HBw11 : Hid (Below W0.heap.size W0 w11) := HBw10.out.trans (hb.mono HBw10.out.size)
   have HMw11 : Hid (Mine w11 w10.heap.size v11 4) := ⟨⟨_, ho, hoct⟩, hb.size⟩
   have HNw11 : Hid (NoughtAt w11 wd.heap.size) := HNw10.out.keep hb
   have HDw11 : Hid (∀ g, v11.ownBlock = some g → g ≠ wd.heap.size) := fun g hg e => by have := (owns_block ho hg).1; have := HNw10.out.1; omega
   have HBSw11 : Hid (W0.heap.size ≤ w10.heap.size) := HBw10.out.size
   have hfw11 := HS0.out.keep HBw11.out
   unfold SixIs at hfw11
   clear ho hl hoct hb
   refine hK.out _ _ (by exact hfw11) (fun hHeld => ?_)
   clear hK K
   try simp only [zA, zB, zC, Act.put, zD, zE, zF]
   refine wpAnyH_ready (rs := [7]) (by kernel_rfl) (by simp) ?_
   refine AllReadyH.cons rfl (fun K hK => ?_) (AllReadyH.nil)
   obtain ⟨⟨lv12, ho1, hoct1⟩, hbs1⟩ := HMw11.out
   refine step_append_str rfl (.tmp 68) (.tmp 70) 32 9 rfl (w10.heap.size) 5 i0 Tryz.underlying32 Tryz.underlying9 hi hz0 hz1 hz2 v11 4 (u8s lv12) rfl ho1 xs rfl (by unfold maxLen; omega) (by omega) hbs1 ?_
   intro v12 w12 ho hg
   have HBw12 : Hid (Below W0.heap.size W0 w12) := HBw11.out.grown hg HBw11.out.size (fun j hj => Nat.le_trans HBSw11.out (owns_block ho1 hj).1)
   have HMw12 : Hid (Mine w12 (w10.heap.size) v12 (4 + xs.size)) := Mine.str ho hoct1 (Nat.le_trans hbs1 hg.size)
   have HNw12 : Hid (NoughtAt w12 (wd.heap.size)) := ⟨Nat.lt_of_lt_of_le HNw11.out.1 hg.size, hg.cell HNw11.out.2 (fun e => HDw11.out _ e.symm rfl)⟩
   have hfw12 := HS0.out.keep HBw12.out
   unfold SixIs at hfw12
   clear ho hg ho1 hoct1 hbs1
   refine hK.out _ _ (by exact hfw12) (fun hHeld => ?_)
   clear hK K
   try simp only [zA, zB, zC, Act.put, zD, zE, zF]
   refine wpAnyH_ready (rs := [9]) (by kernel_rfl) (by simp) ?_
   refine AllReadyH.cons rfl (fun K hK => ?_) (AllReadyH.nil)
   obtain ⟨⟨lv13, ho1, hoct1⟩, hbs1⟩ := HMw12.out
   refine step_append_src rfl (.tmp 71) (.tmp 72) 32 rfl (w10.heap.size) 5 i0 (.int .u8 0) 1 1 Tryz.underlying32 hi hz0 hz1 hz2 rfl (by decide) v12 (4 + xs.size) (u8s lv13) rfl ho1 (some ⟨wd.heap.size, 0, none⟩) 1 1 (u8s [0]) rfl ⟨fun e => (by cases e), fun ad e => (by cases e; exact HNw12.out.reads)⟩ rfl (fun u hu => by simp [u8s] at hu; subst hu; rfl) (by unfold maxLen; omega) (by omega) hbs1 ?_
   intro v13 w13 ho hg
   have HBw13 : Hid (Below W0.heap.size W0 w13) := HBw12.out.grown hg HBw12.out.size (fun j hj => Nat.le_trans HBSw11.out (owns_block ho1 hj).1)
   have HMw13 : Hid (Mine w13 (w10.heap.size) v13 (4 + xs.size + 1)) := Mine.more ho hoct1 oct_nought (Nat.le_trans hbs1 hg.size)
   have hfw13 := HS0.out.keep HBw13.out
   unfold SixIs at hfw13
   clear ho hg ho1 hoct1 hbs1
   refine hK.out _ _ (by exact hfw13) (fun hHeld => ?_)
   clear hK K
   try simp only [zA, zB, zC, Act.put, zD, zE, zF]
   refine wpAnyH_ready (rs := [11]) (by kernel_rfl) (by simp) ?_
   refine AllReadyH.cons rfl (fun K hK => ?_) (AllReadyH.nil)
   go_simp
   go_at_call 69
   refine (HBARE.out w13 (VIn.keep HBw13.out HV0.out)).mono ?_
   rintro e w14 ⟨rfl, hb⟩
   have HBw14 : Hid (Below W0.heap.size W0 w14) := HBw13.out.trans (hb.mono HBw13.out.size)
   have HMw14 : Hid (Mine w14 (w10.heap.size) v13 (4 + xs.size + 1)) := HMw13.out.below hb
   have hfw14 := HS0.out.keep HBw14.out
   unfold SixIs at hfw14
   clear hb
   refine hK.out _ _ (by exact hfw14) (fun hHeld => ?_)
   clear hK K
   try simp only [zA, zB, zC, Act.put, zD, zE, zF]
   refine wpAnyH_take (i := 12) (v := ?_) rfl (by kernel_rfl) (by kernel_rfl) (by kernel_rfl) (fun _ _ _ h => h) (Or.inl ⟨by kernel_rfl, ?_⟩) (by assumption) ?_
   rotate_left
   ·intro wS hSw
    (try dsimp only at hSw)
    go_simp
    try (with_reducible rfl)
   try simp only [zA, zB, zC, Act.put, zD, zE, zF]
   refine wpAnyH_take (i := 13) (v := undef) rfl (by kernel_rfl) (by kernel_rfl) (by kernel_rfl) (fun _ _ _ h => h) (Or.inr ⟨by kernel_rfl, rfl⟩) (by assumption) ?_
   try simp only [zA, zB, zC, Act.put, zD, zE, zF]
   refine wpAnyH_take (i := 14) (v := undef) rfl (by kernel_rfl) (by kernel_rfl) (by kernel_rfl) (fun _ _ _ h => h) (Or.inr ⟨by kernel_rfl, rfl⟩) (by assumption) ?_
   try simp only [zA, zB, zC, Act.put, zD, zE, zF]
   refine wpAnyH_take (i := 15) (v := undef) rfl (by kernel_rfl) (by kernel_rfl) (by kernel_rfl) (fun _ _ _ h => h) (Or.inr ⟨by kernel_rfl, rfl⟩) (by assumption) ?_
   try simp only [zA, zB, zC, Act.put, zD, zE, zF]
   refine wpAnyH_take (i := 17) (v := ?_) rfl (by kernel_rfl) (by kernel_rfl) (by kernel_rfl) (fun _ _ _ h => h) (Or.inl ⟨by kernel_rfl, ?_⟩) (by assumption) ?_
   rotate_left
   ·intro wS hSw
    (try dsimp only at hSw)
    go_simp
    try (with_reducible rfl)
   try simp only [zA, zB, zC, Act.put, zD, zE, zF]
   refine wpAnyH_take (i := 16) (v := ?_) rfl (by kernel_rfl) (by kernel_rfl) (by kernel_rfl) (fun _ _ _ h => h) (Or.inl ⟨by kernel_rfl, ?_⟩) (by assumption) ?_
   rotate_left
   ·intro wS hSw
    (try dsimp only at hSw)
    go_simp
    try (with_reducible rfl)
   try simp only [zA, zB, zC, Act.put, zD, zE, zF]
   refine wpAnyH_take (i := 18) (v := ?_) rfl (by kernel_rfl) (by kernel_rfl) (by kernel_rfl) (fun _ _ _ h => h) (Or.inl ⟨by kernel_rfl, ?_⟩) (by assumption) ?_
   rotate_left
   ·intro wS hSw
    (try dsimp only at hSw)
    go_simp
    try (with_reducible rfl)
   try simp only [zA, zB, zC, Act.put, zD, zE, zF]
   refine wpAnyH_done (by kernel_rfl) ?_ _
   go_wp2_with fail
   refine bodyPost_ret (v := .tuple #[v13, .bool _]) (by simp [results, Tryz.results52, go_sem]; rfl) rfl ?_
   exact ⟨_, _, 4 + xs.size + 1, rfl, (HMw14.out.bytes (Nat.le_trans HB0.out.size HBSw11.out)).mono (fun g hg => .inr hg), fun _ => by omega, HB0.out.trans (HBw14.out.mono HB0.out.size)⟩
 ·go_enter Tryz.func52, Tryz.ntmps52
  go_wp2_with fail
  clear hW
  refine wp_region_held_drew (S := fun W => W.cell? ⟨w.heap.size, 0, none⟩ = some (.int .i64 5) ∧ W.cell? ⟨w.heap.size, 1, none⟩ = some (.int .i64 xn) ∧ W.cell? ⟨w.heap.size, 2, none⟩ = some (.string xs) ∧ W.cell? ⟨w.heap.size, 3, none⟩ = some (.slice ba bn bc) ∧ W.cell? ⟨w.heap.size, 4, none⟩ = some (.slice fa fn fc) ∧ W.cell? ⟨w.heap.size, 5, none⟩ = some (.slice la ln lc)) (by kernel_rfl) (by exact hf) (fun hHeld => ?_)
  generalize W0.drew = wd at *
  refine wpAnyH_take (i := 0) (v := ?_) rfl (by kernel_rfl) (by kernel_rfl) (by kernel_rfl) (fun _ _ _ h => h) (Or.inl ⟨by kernel_rfl, ?_⟩) (by assumption) ?_
  rotate_left
  ·intro wS hSw
   (try dsimp only at hSw)
   go_simp
   try (with_reducible rfl)
  try simp only [zA, zC, Act.put, zD, zE, zF]
  refine wpAnyH_take (i := 1) (v := ?_) rfl (by kernel_rfl) (by kernel_rfl) (by kernel_rfl) (fun _ _ _ h => h) (Or.inl ⟨by kernel_rfl, ?_⟩) (by assumption) ?_
  rotate_left
  ·intro wS hSw
   (try dsimp only at hSw)
   go_simp
   try (with_reducible rfl)
  try simp only [zA, zB, zC, Act.put, zD, zE, zF]
  refine wpAnyH_take (i := 2) (v := ?_) rfl (by kernel_rfl) (by kernel_rfl) (by kernel_rfl) (fun _ _ _ h => h) (Or.inl ⟨by kernel_rfl, ?_⟩) (by assumption) ?_
  rotate_left
  ·intro wS hSw
   (try dsimp only at hSw)
   go_simp
   try (with_reducible rfl)
  try simp only [zA, zB, zC, Act.put, zD, zE, zF]
  refine wpAnyH_take (i := 3) (v := ?_) rfl (by kernel_rfl) (by kernel_rfl) (by kernel_rfl) (fun _ _ _ h => h) (Or.inl ⟨by kernel_rfl, ?_⟩) (by assumption) ?_
  rotate_left
  ·intro wS hSw
   (try dsimp only at hSw)
   go_simp
   try (with_reducible rfl)
  try simp only [zA, zB, zC, Act.put, zD, zE, zF]
  refine wpAnyH_take (i := 5) (v := ?_) rfl (by kernel_rfl) (by kernel_rfl) (by kernel_rfl) (fun _ _ _ h => h) (Or.inl ⟨by kernel_rfl, ?_⟩) (by assumption) ?_
  rotate_left
  ·intro wS hSw
   (try dsimp only at hSw)
   go_simp
   try (with_reducible rfl)
  try simp only [zA, zB, zC, Act.put, zD, zE, zF]
  refine wpAnyH_take (i := 6) (v := ?_) rfl (by kernel_rfl) (by kernel_rfl) (by kernel_rfl) (fun _ _ _ h => h) (Or.inl ⟨by kernel_rfl, ?_⟩) (by assumption) ?_
  rotate_left
  ·intro wS hSw
   (try dsimp only at hSw)
   go_simp
   try (with_reducible rfl)
  try simp only [zA, zB, zC, Act.put, zD, zE, zF]
  refine wpAnyH_take (i := 10) (v := ?_) rfl (by kernel_rfl) (by kernel_rfl) (by kernel_rfl) (fun _ _ _ h => h) (Or.inl ⟨by kernel_rfl, ?_⟩) (by assumption) ?_
  rotate_left
  ·intro wS hSw
   (try dsimp only at hSw)
   go_simp
   try (with_reducible rfl)
  try simp only [zA, zB, zC, Act.put, zD, zE, zF]
  refine wpAnyH_ready (rs := [4, 8]) (by kernel_rfl) (by simp) ?_
  refine AllReadyH.cons rfl (fun K hK => ?_) (AllReadyH.cons rfl (fun K hK => ?_) (AllReadyH.nil))
  ·go_simp
   go_at_call 70
   refine (num_own _ 4 wd (by decide)).mono ?_
   rintro e w15 ⟨v15, lv15, rfl, ho, hl, hoct, hb⟩
   have HBw15 : Hid (Below W0.heap.size W0 w15) := HDR.out.trans (hb.mono HDR.out.size)
   have HMw15 : Hid (Mine w15 wd.heap.size v15 4) := ⟨⟨_, ho, hoct⟩, hb.size⟩
   have HBSw15 : Hid (W0.heap.size ≤ wd.heap.size) := HDR.out.size
   have hfw15 := HS0.out.keep HBw15.out
   unfold SixIs at hfw15
   clear ho hl hoct hb
   refine hK.out _ _ (by exact hfw15) (fun hHeld => ?_)
   clear hK K
   try simp only [zA, zB, zC, Act.put, zD, zE, zF]
   refine wpAnyH_ready (rs := [7, 8]) (by kernel_rfl) (by simp) ?_
   refine AllReadyH.cons rfl (fun K hK => ?_) (AllReadyH.cons rfl (fun K hK => ?_) (AllReadyH.nil))
   ·obtain ⟨⟨lv16, ho1, hoct1⟩, hbs1⟩ := HMw15.out
    refine step_append_str rfl (.tmp 68) (.tmp 70) 32 9 rfl (wd.heap.size) 5 i0 Tryz.underlying32 Tryz.underlying9 hi hz0 hz1 hz2 v15 4 (u8s lv16) rfl ho1 xs rfl (by unfold maxLen; omega) (by omega) hbs1 ?_
    intro v16 w16 ho hg
    have HBw16 : Hid (Below W0.heap.size W0 w16) := HBw15.out.grown hg HBw15.out.size (fun j hj => Nat.le_trans HBSw15.out (owns_block ho1 hj).1)
    have HMw16 : Hid (Mine w16 (wd.heap.size) v16 (4 + xs.size)) := Mine.str ho hoct1 (Nat.le_trans hbs1 hg.size)
    have hfw16 := HS0.out.keep HBw16.out
    unfold SixIs at hfw16
    clear ho hg ho1 hoct1 hbs1
    refine hK.out _ _ (by exact hfw16) (fun hHeld => ?_)
    clear hK K
    try simp only [zA, zB, zC, Act.put, zD, zE, zF]
    refine wpAnyH_ready (rs := [8]) (by kernel_rfl) (by simp) ?_
    refine AllReadyH.cons rfl (fun K hK => ?_) (AllReadyH.nil)
    go_simp
    have HBw17 : Hid (Below W0.heap.size W0 (w16.alloc (.cells #[.int .u8 0] 5))) := HBw16.out.alloc HBw16.out.size _
    have HNw17 : Hid (NoughtAt (w16.alloc (.cells #[.int .u8 0] 5)) w16.heap.size) := NoughtAt.new w16 _
    have HMw17 : Hid (Mine (w16.alloc (.cells #[.int .u8 0] 5)) (wd.heap.size) v16 (4 + xs.size)) := HMw16.out.below ((Below.refl _ _).alloc (Nat.le_refl _) _)
    have HDw17 : Hid (∀ g, v16.ownBlock = some g → g ≠ w16.heap.size) := fun g hg e => by obtain ⟨⟨l, h1, _⟩, _⟩ := HMw16.out; have := (owns_block h1 hg).2; omega
    have HNSw17 : Hid (W0.heap.size ≤ w16.heap.size) := HBw16.out.size
    generalize w16.alloc (.cells #[.int .u8 0] 5) = w17 at *
    have hfw17 := HS0.out.keep HBw17.out
    unfold SixIs at hfw17
    refine hK.out _ _ (by exact hfw17) (fun hHeld => ?_)
    clear hK K
    try simp only [zA, zB, zC, Act.put, zD, zE, zF]
    refine wpAnyH_ready (rs := [9]) (by kernel_rfl) (by simp) ?_
    refine AllReadyH.cons rfl (fun K hK => ?_) (AllReadyH.nil)
    obtain ⟨⟨lv18, ho1, hoct1⟩, hbs1⟩ := HMw17.out
    refine step_append_src rfl (.tmp 71) (.tmp 72) 32 rfl (wd.heap.size) 5 i0 (.int .u8 0) 1 1 Tryz.underlying32 hi hz0 hz1 hz2 rfl (by decide) v16 (4 + xs.size) (u8s lv18) rfl ho1 (some ⟨w16.heap.size, 0, none⟩) 1 1 (u8s [0]) rfl ⟨fun e => (by cases e), fun ad e => (by cases e; exact HNw17.out.reads)⟩ rfl (fun u hu => by simp [u8s] at hu; subst hu; rfl) (by unfold maxLen; omega) (by omega) hbs1 ?_
    intro v18 w18 ho hg
    have HBw18 : Hid (Below W0.heap.size W0 w18) := HBw17.out.grown hg HBw17.out.size (fun j hj => Nat.le_trans HBSw15.out (owns_block ho1 hj).1)
    have HMw18 : Hid (Mine w18 (wd.heap.size) v18 (4 + xs.size + 1)) := Mine.more ho hoct1 oct_nought (Nat.le_trans hbs1 hg.size)
    have hfw18 := HS0.out.keep HBw18.out
    unfold SixIs at hfw18
    clear ho hg ho1 hoct1 hbs1
    refine hK.out _ _ (by exact hfw18) (fun hHeld => ?_)
    clear hK K
    try simp only [zA, zB, zC, Act.put, zD, zE, zF]
    refine wpAnyH_ready (rs := [11]) (by kernel_rfl) (by simp) ?_
    refine AllReadyH.cons rfl (fun K hK => ?_) (AllReadyH.nil)
    go_simp
    go_at_call 69
    refine (HBARE.out w18 (VIn.keep HBw18.out HV0.out)).mono ?_
    rintro e w19 ⟨rfl, hb⟩
    have HBw19 : Hid (Below W0.heap.size W0 w19) := HBw18.out.trans (hb.mono HBw18.out.size)
    have HMw19 : Hid (Mine w19 (wd.heap.size) v18 (4 + xs.size + 1)) := HMw18.out.below hb
    have hfw19 := HS0.out.keep HBw19.out
    unfold SixIs at hfw19
    clear hb
    refine hK.out _ _ (by exact hfw19) (fun hHeld => ?_)
    clear hK K
    try simp only [zA, zB, zC, Act.put, zD, zE, zF]
    refine wpAnyH_take (i := 12) (v := ?_) rfl (by kernel_rfl) (by kernel_rfl) (by kernel_rfl) (fun _ _ _ h => h) (Or.inl ⟨by kernel_rfl, ?_⟩) (by assumption) ?_
    rotate_left
    ·intro wS hSw
     (try dsimp only at hSw)
     go_simp
     try (with_reducible rfl)
    try simp only [zA, zB, zC, Act.put, zD, zE, zF]
    refine wpAnyH_take (i := 13) (v := ?_) rfl (by kernel_rfl) (by kernel_rfl) (by kernel_rfl) (fun _ _ _ h => h) (Or.inl ⟨by kernel_rfl, ?_⟩) (by assumption) ?_
    rotate_left
    ·intro wS hSw
     (try dsimp only at hSw)
     go_simp
     try (with_reducible rfl)
    try simp only [zA, zB, zC, Act.put, zD, zE, zF]
    refine wpAnyH_take (i := 14) (v := ?_) rfl (by kernel_rfl) (by kernel_rfl) (by kernel_rfl) (fun _ _ _ h => h) (Or.inl ⟨by kernel_rfl, ?_⟩) (by assumption) ?_
    rotate_left
    ·intro wS hSw
     (try dsimp only at hSw)
     go_simp
     try (with_reducible rfl)
    try simp only [zA, zB, zC, Act.put, zD, zE, zF]
    refine wpAnyH_ready (rs := [15]) (by kernel_rfl) (by simp) ?_
    refine AllReadyH.cons rfl (fun K hK => ?_) (AllReadyH.nil)
    go_simp
    go_at_call 71
    refine (HUTF.out w19 HBw19.out).mono ?_
    rintro e w20 ⟨rfl, hb⟩
    have HBw20 : Hid (Below W0.heap.size W0 w20) := HBw19.out.trans (hb.mono HBw19.out.size)
    have HMw20 : Hid (Mine w20 (wd.heap.size) v18 (4 + xs.size + 1)) := HMw19.out.below hb
    have hfw20 := HS0.out.keep HBw20.out
    unfold SixIs at hfw20
    clear hb
    refine hK.out _ _ (by exact hfw20) (fun hHeld => ?_)
    clear hK K
    try simp only [zA, zB, zC, Act.put, zD, zE, zF]
    refine wpAnyH_take (i := 17) (v := ?_) rfl (by kernel_rfl) (by kernel_rfl) (by kernel_rfl) (fun _ _ _ h => h) (Or.inl ⟨by kernel_rfl, ?_⟩) (by assumption) ?_
    rotate_left
    ·intro wS hSw
     (try dsimp only at hSw)
     go_simp
     try (with_reducible rfl)
    try simp only [zA, zB, zC, Act.put, zD, zE, zF]
    refine wpAnyH_take (i := 16) (v := ?_) rfl (by kernel_rfl) (by kernel_rfl) (by kernel_rfl) (fun _ _ _ h => h) (Or.inl ⟨by kernel_rfl, ?_⟩) (by assumption) ?_
    rotate_left
    ·intro wS hSw
     (try dsimp only at hSw)
     go_simp
     try (with_reducible rfl)
    try simp only [zA, zB, zC, Act.put, zD, zE, zF]
    refine wpAnyH_take (i := 18) (v := ?_) rfl (by kernel_rfl) (by kernel_rfl) (by kernel_rfl) (fun _ _ _ h => h) (Or.inl ⟨by kernel_rfl, ?_⟩) (by assumption) ?_
    rotate_left
    ·intro wS hSw
     (try dsimp only at hSw)
     go_simp
     try (with_reducible rfl)
    try simp only [zA, zB, zC, Act.put, zD, zE, zF]
    refine wpAnyH_done (by kernel_rfl) ?_ _
    go_wp2_with fail
    refine bodyPost_ret (v := .tuple #[v18, .bool _]) (by simp [results, Tryz.results52, go_sem]; rfl) rfl ?_
    exact ⟨_, _, 4 + xs.size + 1, rfl, (HMw20.out.bytes (Nat.le_trans HB0.out.size HBSw15.out)).mono (fun g hg => .inr hg), fun _ => by omega, HB0.out.trans (HBw20.out.mono HB0.out.size)⟩
   ·go_simp
    have HBw21 : Hid (Below W0.heap.size W0 (w15.alloc (.cells #[.int .u8 0] 5))) := HBw15.out.alloc HBw15.out.size _
    have HNw21 : Hid (NoughtAt (w15.alloc (.cells #[.int .u8 0] 5)) w15.heap.size) := NoughtAt.new w15 _
    have HMw21 : Hid (Mine (w15.alloc (.cells #[.int .u8 0] 5)) (wd.heap.size) v15 (4)) := HMw15.out.below ((Below.refl _ _).alloc (Nat.le_refl _) _)
    have HDw21 : Hid (∀ g, v15.ownBlock = some g → g ≠ w15.heap.size) := fun g hg e => by obtain ⟨⟨l, h1, _⟩, _⟩ := HMw15.out; have := (owns_block h1 hg).2; omega
    have HNSw21 : Hid (W0.heap.size ≤ w15.heap.size) := HBw15.out.size
    generalize w15.alloc (.cells #[.int .u8 0] 5) = w21 at *
    have hfw21 := HS0.out.keep HBw21.out
    unfold SixIs at hfw21
    refine hK.out _ _ (by exact hfw21) (fun hHeld => ?_)
    clear hK K
    try simp only [zA, zB, zC, Act.put, zD, zE, zF]
    refine wpAnyH_ready (rs := [7]) (by kernel_rfl) (by simp) ?_
    refine AllReadyH.cons rfl (fun K hK => ?_) (AllReadyH.nil)
    obtain ⟨⟨lv22, ho1, hoct1⟩, hbs1⟩ := HMw21.out
    refine step_append_str rfl (.tmp 68) (.tmp 70) 32 9 rfl (wd.heap.size) 5 i0 Tryz.underlying32 Tryz.underlying9 hi hz0 hz1 hz2 v15 4 (u8s lv22) rfl ho1 xs rfl (by unfold maxLen; omega) (by omega) hbs1 ?_
    intro v22 w22 ho hg
    have HBw22 : Hid (Below W0.heap.size W0 w22) := HBw21.out.grown hg HBw21.out.size (fun j hj => Nat.le_trans HBSw15.out (owns_block ho1 hj).1)
    have HMw22 : Hid (Mine w22 (wd.heap.size) v22 (4 + xs.size)) := Mine.str ho hoct1 (Nat.le_trans hbs1 hg.size)
    have HNw22 : Hid (NoughtAt w22 (w15.heap.size)) := ⟨Nat.lt_of_lt_of_le HNw21.out.1 hg.size, hg.cell HNw21.out.2 (fun e => HDw21.out _ e.symm rfl)⟩
    have hfw22 := HS0.out.keep HBw22.out
    unfold SixIs at hfw22
    clear ho hg ho1 hoct1 hbs1
    refine hK.out _ _ (by exact hfw22) (fun hHeld => ?_)
    clear hK K
    try simp only [zA, zB, zC, Act.put, zD, zE, zF]
    refine wpAnyH_ready (rs := [9]) (by kernel_rfl) (by simp) ?_
    refine AllReadyH.cons rfl (fun K hK => ?_) (AllReadyH.nil)
    obtain ⟨⟨lv23, ho1, hoct1⟩, hbs1⟩ := HMw22.out
    refine step_append_src rfl (.tmp 71) (.tmp 72) 32 rfl (wd.heap.size) 5 i0 (.int .u8 0) 1 1 Tryz.underlying32 hi hz0 hz1 hz2 rfl (by decide) v22 (4 + xs.size) (u8s lv23) rfl ho1 (some ⟨w15.heap.size, 0, none⟩) 1 1 (u8s [0]) rfl ⟨fun e => (by cases e), fun ad e => (by cases e; exact HNw22.out.reads)⟩ rfl (fun u hu => by simp [u8s] at hu; subst hu; rfl) (by unfold maxLen; omega) (by omega) hbs1 ?_
    intro v23 w23 ho hg
    have HBw23 : Hid (Below W0.heap.size W0 w23) := HBw22.out.grown hg HBw22.out.size (fun j hj => Nat.le_trans HBSw15.out (owns_block ho1 hj).1)
    have HMw23 : Hid (Mine w23 (wd.heap.size) v23 (4 + xs.size + 1)) := Mine.more ho hoct1 oct_nought (Nat.le_trans hbs1 hg.size)
    have hfw23 := HS0.out.keep HBw23.out
    unfold SixIs at hfw23
    clear ho hg ho1 hoct1 hbs1
    refine hK.out _ _ (by exact hfw23) (fun hHeld => ?_)
    clear hK K
    try simp only [zA, zB, zC, Act.put, zD, zE, zF]
    refine wpAnyH_ready (rs := [11]) (by kernel_rfl) (by simp) ?_
    refine AllReadyH.cons rfl (fun K hK => ?_) (AllReadyH.nil)
    go_simp
    go_at_call 69
    refine (HBARE.out w23 (VIn.keep HBw23.out HV0.out)).mono ?_
    rintro e w24 ⟨rfl, hb⟩
    have HBw24 : Hid (Below W0.heap.size W0 w24) := HBw23.out.trans (hb.mono HBw23.out.size)
    have HMw24 : Hid (Mine w24 (wd.heap.size) v23 (4 + xs.size + 1)) := HMw23.out.below hb
    have hfw24 := HS0.out.keep HBw24.out
    unfold SixIs at hfw24
    clear hb
    refine hK.out _ _ (by exact hfw24) (fun hHeld => ?_)
    clear hK K
    try simp only [zA, zB, zC, Act.put, zD, zE, zF]
    refine wpAnyH_take (i := 12) (v := ?_) rfl (by kernel_rfl) (by kernel_rfl) (by kernel_rfl) (fun _ _ _ h => h) (Or.inl ⟨by kernel_rfl, ?_⟩) (by assumption) ?_
    rotate_left
    ·intro wS hSw
     (try dsimp only at hSw)
     go_simp
     try (with_reducible rfl)
    try simp only [zA, zB, zC, Act.put, zD, zE, zF]
    refine wpAnyH_take (i := 13) (v := ?_) rfl (by kernel_rfl) (by kernel_rfl) (by kernel_rfl) (fun _ _ _ h => h) (Or.inl ⟨by kernel_rfl, ?_⟩) (by assumption) ?_
    rotate_left
    ·intro wS hSw
     (try dsimp only at hSw)
     go_simp
     try (with_reducible rfl)
    try simp only [zA, zB, zC, Act.put, zD, zE, zF]
    refine wpAnyH_take (i := 14) (v := ?_) rfl (by kernel_rfl) (by kernel_rfl) (by kernel_rfl) (fun _ _ _ h => h) (Or.inl ⟨by kernel_rfl, ?_⟩) (by assumption) ?_
    rotate_left
    ·intro wS hSw
     (try dsimp only at hSw)
     go_simp
     try (with_reducible rfl)
    try simp only [zA, zB, zC, Act.put, zD, zE, zF]
    refine wpAnyH_ready (rs := [15]) (by kernel_rfl) (by simp) ?_
    refine AllReadyH.cons rfl (fun K hK => ?_) (AllReadyH.nil)
    go_simp
    go_at_call 71
    refine (HUTF.out w24 HBw24.out).mono ?_
    rintro e w25 ⟨rfl, hb⟩
    have HBw25 : Hid (Below W0.heap.size W0 w25) := HBw24.out.trans (hb.mono HBw24.out.size)
    have HMw25 : Hid (Mine w25 (wd.heap.size) v23 (4 + xs.size + 1)) := HMw24.out.below hb
    have hfw25 := HS0.out.keep HBw25.out
    unfold SixIs at hfw25
    clear hb
    refine hK.out _ _ (by exact hfw25) (fun hHeld => ?_)
    clear hK K
    try simp only [zA, zB, zC, Act.put, zD, zE, zF]
    refine wpAnyH_take (i := 17) (v := ?_) rfl (by kernel_rfl) (by kernel_rfl) (by kernel_rfl) (fun _ _ _ h => h) (Or.inl ⟨by kernel_rfl, ?_⟩) (by assumption) ?_
    rotate_left
    ·intro wS hSw
     (try dsimp only at hSw)
     go_simp
     try (with_reducible rfl)
    try simp only [zA, zB, zC, Act.put, zD, zE, zF]
    refine wpAnyH_take (i := 16) (v := ?_) rfl (by kernel_rfl) (by kernel_rfl) (by kernel_rfl) (fun _ _ _ h => h) (Or.inl ⟨by kernel_rfl, ?_⟩) (by assumption) ?_
    rotate_left
    ·intro wS hSw
     (try dsimp only at hSw)
     go_simp
     try (with_reducible rfl)
    try simp only [zA, zB, zC, Act.put, zD, zE, zF]
    refine wpAnyH_take (i := 18) (v := ?_) rfl (by kernel_rfl) (by kernel_rfl) (by kernel_rfl) (fun _ _ _ h => h) (Or.inl ⟨by kernel_rfl, ?_⟩) (by assumption) ?_
    rotate_left
    ·intro wS hSw
     (try dsimp only at hSw)
     go_simp
     try (with_reducible rfl)
    try simp only [zA, zB, zC, Act.put, zD, zE, zF]
    refine wpAnyH_done (by kernel_rfl) ?_ _
    go_wp2_with fail
    refine bodyPost_ret (v := .tuple #[v23, .bool _]) (by simp [results, Tryz.results52, go_sem]; rfl) rfl ?_
    exact ⟨_, _, 4 + xs.size + 1, rfl, (HMw25.out.bytes (Nat.le_trans HB0.out.size HBSw15.out)).mono (fun g hg => .inr hg), fun _ => by omega, HB0.out.trans (HBw25.out.mono HB0.out.size)⟩
  ·go_simp
   have HBw26 : Hid (Below W0.heap.size W0 (wd.alloc (.cells #[.int .u8 0] 5))) := HDR.out.alloc HDR.out.size _
   have HNw26 : Hid (NoughtAt (wd.alloc (.cells #[.int .u8 0] 5)) wd.heap.size) := NoughtAt.new wd _
   have HNSw26 : Hid (W0.heap.size ≤ wd.heap.size) := HDR.out.size
   generalize wd.alloc (.cells #[.int .u8 0] 5) = w26 at *
   have hfw26 := HS0.out.keep HBw26.out
   unfold SixIs at hfw26
   refine hK.out _ _ (by exact hfw26) (fun hHeld => ?_)
   clear hK K
   try simp only [zA, zB, zC, Act.put, zD, zE, zF]
   refine wpAnyH_ready (rs := [4]) (by kernel_rfl) (by simp) ?_
   refine AllReadyH.cons rfl (fun K hK => ?_) (AllReadyH.nil)
   go_simp
   go_at_call 70
   refine (num_own _ 4 w26 (by decide)).mono ?_
   rintro e w27 ⟨v27, lv27, rfl, ho, hl, hoct, hb⟩
   have HBw27 : Hid (Below W0.heap.size W0 w27) := HBw26.out.trans (hb.mono HBw26.out.size)
   have HMw27 : Hid (Mine w27 w26.heap.size v27 4) := ⟨⟨_, ho, hoct⟩, hb.size⟩
   have HNw27 : Hid (NoughtAt w27 wd.heap.size) := HNw26.out.keep hb
   have HDw27 : Hid (∀ g, v27.ownBlock = some g → g ≠ wd.heap.size) := fun g hg e => by have := (owns_block ho hg).1; have := HNw26.out.1; omega
   have HBSw27 : Hid (W0.heap.size ≤ w26.heap.size) := HBw26.out.size
   have hfw27 := HS0.out.keep HBw27.out
   unfold SixIs at hfw27
   clear ho hl hoct hb
   refine hK.out _ _ (by exact hfw27) (fun hHeld => ?_)
   clear hK K
   try simp only [zA, zB, zC, Act.put, zD, zE, zF]
   refine wpAnyH_ready (rs := [7]) (by kernel_rfl) (by simp) ?_
   refine AllReadyH.cons rfl (fun K hK => ?_) (AllReadyH.nil)
   obtain ⟨⟨lv28, ho1, hoct1⟩, hbs1⟩ := HMw27.out
   refine step_append_str rfl (.tmp 68) (.tmp 70) 32 9 rfl (w26.heap.size) 5 i0 Tryz.underlying32 Tryz.underlying9 hi hz0 hz1 hz2 v27 4 (u8s lv28) rfl ho1 xs rfl (by unfold maxLen; omega) (by omega) hbs1 ?_
   intro v28 w28 ho hg
   have HBw28 : Hid (Below W0.heap.size W0 w28) := HBw27.out.grown hg HBw27.out.size (fun j hj => Nat.le_trans HBSw27.out (owns_block ho1 hj).1)
   have HMw28 : Hid (Mine w28 (w26.heap.size) v28 (4 + xs.size)) := Mine.str ho hoct1 (Nat.le_trans hbs1 hg.size)
   have HNw28 : Hid (NoughtAt w28 (wd.heap.size)) := ⟨Nat.lt_of_lt_of_le HNw27.out.1 hg.size, hg.cell HNw27.out.2 (fun e => HDw27.out _ e.symm rfl)⟩
   have hfw28 := HS0.out.keep HBw28.out
   unfold SixIs at hfw28
   clear ho hg ho1 hoct1 hbs1
   refine hK.out _ _ (by exact hfw28) (fun hHeld => ?_)
   clear hK K
   try simp only [zA, zB, zC, Act.put, zD, zE, zF]
   refine wpAnyH_ready (rs := [9]) (by kernel_rfl) (by simp) ?_
   refine AllReadyH.cons rfl (fun K hK => ?_) (AllReadyH.nil)
   obtain ⟨⟨lv29, ho1, hoct1⟩, hbs1⟩ := HMw28.out
   refine step_append_src rfl (.tmp 71) (.tmp 72) 32 rfl (w26.heap.size) 5 i0 (.int .u8 0) 1 1 Tryz.underlying32 hi hz0 hz1 hz2 rfl (by decide) v28 (4 + xs.size) (u8s lv29) rfl ho1 (some ⟨wd.heap.size, 0, none⟩) 1 1 (u8s [0]) rfl ⟨fun e => (by cases e), fun ad e => (by cases e; exact HNw28.out.reads)⟩ rfl (fun u hu => by simp [u8s] at hu; subst hu; rfl) (by unfold maxLen; omega) (by omega) hbs1 ?_
   intro v29 w29 ho hg
   have HBw29 : Hid (Below W0.heap.size W0 w29) := HBw28.out.grown hg HBw28.out.size (fun j hj => Nat.le_trans HBSw27.out (owns_block ho1 hj).1)
   have HMw29 : Hid (Mine w29 (w26.heap.size) v29 (4 + xs.size + 1)) := Mine.more ho hoct1 oct_nought (Nat.le_trans hbs1 hg.size)
   have hfw29 := HS0.out.keep HBw29.out
   unfold SixIs at hfw29
   clear ho hg ho1 hoct1 hbs1
   refine hK.out _ _ (by exact hfw29) (fun hHeld => ?_)
   clear hK K
   try simp only [zA, zB, zC, Act.put, zD, zE, zF]
   refine wpAnyH_ready (rs := [11]) (by kernel_rfl) (by simp) ?_
   refine AllReadyH.cons rfl (fun K hK => ?_) (AllReadyH.nil)
   go_simp
   go_at_call 69
   refine (HBARE.out w29 (VIn.keep HBw29.out HV0.out)).mono ?_
   rintro e w30 ⟨rfl, hb⟩
   have HBw30 : Hid (Below W0.heap.size W0 w30) := HBw29.out.trans (hb.mono HBw29.out.size)
   have HMw30 : Hid (Mine w30 (w26.heap.size) v29 (4 + xs.size + 1)) := HMw29.out.below hb
   have hfw30 := HS0.out.keep HBw30.out
   unfold SixIs at hfw30
   clear hb
   refine hK.out _ _ (by exact hfw30) (fun hHeld => ?_)
   clear hK K
   try simp only [zA, zB, zC, Act.put, zD, zE, zF]
   refine wpAnyH_take (i := 12) (v := ?_) rfl (by kernel_rfl) (by kernel_rfl) (by kernel_rfl) (fun _ _ _ h => h) (Or.inl ⟨by kernel_rfl, ?_⟩) (by assumption) ?_
   rotate_left
   ·intro wS hSw
    (try dsimp only at hSw)
    go_simp
    try (with_reducible rfl)
   try simp only [zA, zB, zC, Act.put, zD, zE, zF]
   refine wpAnyH_take (i := 13) (v := ?_) rfl (by kernel_rfl) (by kernel_rfl) (by kernel_rfl) (fun _ _ _ h => h) (Or.inl ⟨by kernel_rfl, ?_⟩) (by assumption) ?_
   rotate_left
   ·intro wS hSw
    (try dsimp only at hSw)
    go_simp
    try (with_reducible rfl)
   try simp only [zA, zB, zC, Act.put, zD, zE, zF]
   refine wpAnyH_take (i := 14) (v := ?_) rfl (by kernel_rfl) (by kernel_rfl) (by kernel_rfl) (fun _ _ _ h => h) (Or.inl ⟨by kernel_rfl, ?_⟩) (by assumption) ?_
   rotate_left
   ·intro wS hSw
    (try dsimp only at hSw)
    go_simp
    try (with_reducible rfl)
   try simp only [zA, zB, zC, Act.put, zD, zE, zF]
   refine wpAnyH_ready (rs := [15]) (by kernel_rfl) (by simp) ?_
   refine AllReadyH.cons rfl (fun K hK => ?_) (AllReadyH.nil)
   go_simp
   go_at_call 71
   refine (HUTF.out w30 HBw30.out).mono ?_
   rintro e w31 ⟨rfl, hb⟩
   have HBw31 : Hid (Below W0.heap.size W0 w31) := HBw30.out.trans (hb.mono HBw30.out.size)
   have HMw31 : Hid (Mine w31 (w26.heap.size) v29 (4 + xs.size + 1)) := HMw30.out.below hb
   have hfw31 := HS0.out.keep HBw31.out
   unfold SixIs at hfw31
   clear hb
   refine hK.out _ _ (by exact hfw31) (fun hHeld => ?_)
   clear hK K
   try simp only [zA, zB, zC, Act.put, zD, zE, zF]
   refine wpAnyH_take (i := 17) (v := ?_) rfl (by kernel_rfl) (by kernel_rfl) (by kernel_rfl) (fun _ _ _ h => h) (Or.inl ⟨by kernel_rfl, ?_⟩) (by assumption) ?_
   rotate_left
   ·intro wS hSw
    (try dsimp only at hSw)
    go_simp
    try (with_reducible rfl)
   try simp only [zA, zB, zC, Act.put, zD, zE, zF]
   refine wpAnyH_take (i := 16) (v := ?_) rfl (by kernel_rfl) (by kernel_rfl) (by kernel_rfl) (fun _ _ _ h => h) (Or.inl ⟨by kernel_rfl, ?_⟩) (by assumption) ?_
   rotate_left
   ·intro wS hSw
    (try dsimp only at hSw)
    go_simp
    try (with_reducible rfl)
   try simp only [zA, zB, zC, Act.put, zD, zE, zF]
   refine wpAnyH_take (i := 18) (v := ?_) rfl (by kernel_rfl) (by kernel_rfl) (by kernel_rfl) (fun _ _ _ h => h) (Or.inl ⟨by kernel_rfl, ?_⟩) (by assumption) ?_
   rotate_left
   ·intro wS hSw
    (try dsimp only at hSw)
    go_simp
    try (with_reducible rfl)
   try simp only [zA, zB, zC, Act.put, zD, zE, zF]
   refine wpAnyH_done (by kernel_rfl) ?_ _
   go_wp2_with fail
   refine bodyPost_ret (v := .tuple #[v29, .bool _]) (by simp [results, Tryz.results52, go_sem]; rfl) rfl ?_
   exact ⟨_, _, 4 + xs.size + 1, rfl, (HMw31.out.bytes (Nat.le_trans HB0.out.size HBSw27.out)).mono (fun g hg => .inr hg), fun _ => by omega, HB0.out.trans (HBw31.out.mono HB0.out.size)⟩
-- BYTES
theorem own_bytes (Q : Nat → Prop) (h : Nat) (x : Val) (u : Value) (w : World) (d : Int) (hk : x.kind = 8) (hv : VIn w Q (h + 1) x u) :
  Calls Tryz.prog 52 #[u, .int .i64 d] w (OwnPost Q w) := by
 obtain ⟨xk, xn, xs, ba, fa, la, bn, bc, fn, fc, ln, lc, rfl, hxk, hxn, hxs, hbn, hfn, hln, hL, hF, hI⟩ := hv.letters
 obtain rfl : xk = 8 := by rw [hxk, hk]
 have HV0 : Hid (VIn (w.alloc (.cells #[.int .i64 8, .int .i64 xn, .string xs, .slice ba bn bc, .slice fa fn fc, .slice la ln lc] 35)) Q (h + 1) x (.agg #[.int .i64 8, .int .i64 xn, .string xs, .slice ba bn bc, .slice fa fn fc, .slice la ln lc])) := VIn.keep ((Below.refl _ w).alloc (Nat.le_refl _) _) hv
 have HB0 : Hid (Below w.heap.size w (w.alloc (.cells #[.int .i64 8, .int .i64 xn, .string xs, .slice ba bn bc, .slice fa fn fc, .slice la ln lc] 35))) := (Below.refl _ w).alloc (Nat.le_refl _) _
 have hS := SixIs.new w (.int .i64 8) (.int .i64 xn) (.string xs) (.slice ba bn bc) (.slice fa fn fc) (.slice la ln lc) 35
 have HS0 := Lib.hid hS
 have HY : Hid (BytesAt w Q (.slice ba bn bc) bn) := hv.bytes_at.1
 clear hv hxk hk hS hxn hxs hbn hfn hln hL hF hI
 generalize hW : w.alloc (.cells #[.int .i64 8, .int .i64 xn, .string xs, .slice ba bn bc, .slice fa fn fc, .slice la ln lc] 35) = W0 at *
 obtain ⟨e0, e1, e2, e3, e4, e5⟩ := HS0.out
 have hf : W0.cell? ⟨w.heap.size, 0, none⟩ = some (.int .i64 8) ∧ W0.cell? ⟨w.heap.size, 1, none⟩ = some (.int .i64 xn) ∧ W0.cell? ⟨w.heap.size, 2, none⟩ = some (.string xs) ∧ W0.cell? ⟨w.heap.size, 3, none⟩ = some (.slice ba bn bc) ∧ W0.cell? ⟨w.heap.size, 4, none⟩ = some (.slice fa fn fc) ∧ W0.cell? ⟨w.heap.size, 5, none⟩ = some (.slice la ln lc) := HS0.out
 have HDR : Hid (Below W0.heap.size W0 W0.drew) := (Below.refl _ W0).drew
 obtain ⟨i0, hi, hz0, hz1, hz2⟩ := info_parts infoU8
 obtain ⟨b2, hb2⟩ : ∃ b2, b2 = Bson.bare x false false true false false := ⟨_, rfl⟩
 have HBARE : Hid (∀ wx, VIn wx Q (h + 1) x (.agg #[.int .i64 8, .int .i64 xn, .string xs, .slice ba bn bc, .slice fa fn fc, .slice la ln lc]) → Calls Tryz.prog 69 #[.agg #[.int .i64 8, .int .i64 xn, .string xs, .slice ba bn bc, .slice fa fn fc, .slice la ln lc], .bool false, .bool false, .bool true, .bool false, .bool false] wx fun e w' => e = .returned (.bool b2) ∧ Below wx.heap.size wx w') := fun wx hx => by rw [hb2]; exact bare_some3 Q (h + 1) x _ wx hx
 clear hb2
 by_cases hsz : 65536 < bn
 ·have dz : decide ((65536 : Int) < (bn : Int)) = true := decide_eq_true (by omega)
  go_enter Tryz.func52, Tryz.ntmps52
  go_wp2_with fail
  clear hW
  refine bodyPost_ret (v := .tuple #[.slice none 0 0, .bool false]) (by simp [results, Tryz.results52, go_sem]) rfl ?_
  exact ⟨_, false, 0, rfl, BytesAt.none _ _, fun _ => by omega, HB0.out⟩
 have dz : decide ((65536 : Int) < (bn : Int)) = false := decide_eq_false (by omega)
 go_enter Tryz.func52, Tryz.ntmps52
 go_wp2_with fail
 clear hW
 refine wp_region_held_drew (S := fun W => W.cell? ⟨w.heap.size, 0, none⟩ = some (.int .i64 8) ∧ W.cell? ⟨w.heap.size, 1, none⟩ = some (.int .i64 xn) ∧ W.cell? ⟨w.heap.size, 2, none⟩ = some (.string xs) ∧ W.cell? ⟨w.heap.size, 3, none⟩ = some (.slice ba bn bc) ∧ W.cell? ⟨w.heap.size, 4, none⟩ = some (.slice fa fn fc) ∧ W.cell? ⟨w.heap.size, 5, none⟩ = some (.slice la ln lc)) (by kernel_rfl) (by exact hf) (fun hHeld => ?_)
 generalize W0.drew = wd at *
 refine wpAnyH_take (i := 0) (v := ?_) rfl (by kernel_rfl) (by kernel_rfl) (by kernel_rfl) (fun _ _ _ h => h) (Or.inl ⟨by kernel_rfl, ?_⟩) (by assumption) ?_
 rotate_left
 ·intro wS hSw
  (try dsimp only at hSw)
  go_simp
  try (with_reducible rfl)
 try simp only [zA, zC, Act.put, zD, zE, zF]
 refine wpAnyH_take (i := 1) (v := ?_) rfl (by kernel_rfl) (by kernel_rfl) (by kernel_rfl) (fun _ _ _ h => h) (Or.inl ⟨by kernel_rfl, ?_⟩) (by assumption) ?_
 rotate_left
 ·intro wS hSw
  (try dsimp only at hSw)
  go_simp
  try (with_reducible rfl)
 try simp only [zA, zB, zC, Act.put, zD, zE, zF]
 refine wpAnyH_take (i := 2) (v := ?_) rfl (by kernel_rfl) (by kernel_rfl) (by kernel_rfl) (fun _ _ _ h => h) (Or.inl ⟨by kernel_rfl, ?_⟩) (by assumption) ?_
 rotate_left
 ·intro wS hSw
  (try dsimp only at hSw)
  go_simp
  try (with_reducible rfl)
 try simp only [zA, zB, zC, Act.put, zD, zE, zF]
 refine wpAnyH_take (i := 6) (v := ?_) rfl (by kernel_rfl) (by kernel_rfl) (by kernel_rfl) (fun _ _ _ h => h) (Or.inl ⟨by kernel_rfl, ?_⟩) (by assumption) ?_
 rotate_left
 ·intro wS hSw
  (try dsimp only at hSw)
  go_simp
  try (with_reducible rfl)
 try simp only [zA, zB, zC, Act.put, zD, zE, zF]
 refine wpAnyH_take (i := 7) (v := ?_) rfl (by kernel_rfl) (by kernel_rfl) (by kernel_rfl) (fun _ _ _ h => h) (Or.inl ⟨by kernel_rfl, ?_⟩) (by assumption) ?_
 rotate_left
 ·intro wS hSw
  (try dsimp only at hSw)
  go_simp
  try (with_reducible rfl)
 try simp only [zA, zB, zC, Act.put, zD, zE, zF]
 refine wpAnyH_take (i := 9) (v := ?_) rfl (by kernel_rfl) (by kernel_rfl) (by kernel_rfl) (fun _ _ _ h => h) (Or.inl ⟨by kernel_rfl, ?_⟩) (by assumption) ?_
 rotate_left
 ·intro wS hSw
  (try dsimp only at hSw)
  go_simp
  try (with_reducible rfl)
 try simp only [zA, zB, zC, Act.put, zD, zE, zF]
 refine wpAnyH_ready (rs := [3, 4]) (by kernel_rfl) (by simp) ?_
 refine AllReadyH.cons rfl (fun K hK => ?_) (AllReadyH.cons rfl (fun K hK => ?_) (AllReadyH.nil))
 ·go_simp
  go_at_call 70
  refine (num_own _ 4 wd (by decide)).mono ?_
  rintro e w32 ⟨v32, lv32, rfl, ho, hl, hoct, hb⟩
  have HBw32 : Hid (Below W0.heap.size W0 w32) := HDR.out.trans (hb.mono HDR.out.size)
  have HMw32 : Hid (Mine w32 wd.heap.size v32 4) := ⟨⟨_, ho, hoct⟩, hb.size⟩
  have HBSw32 : Hid (W0.heap.size ≤ wd.heap.size) := HDR.out.size
  have hfw32 := HS0.out.keep HBw32.out
  unfold SixIs at hfw32
  clear ho hl hoct hb
  refine hK.out _ _ (by exact hfw32) (fun hHeld => ?_)
  clear hK K
  try simp only [zA, zB, zC, Act.put, zD, zE, zF]
  refine wpAnyH_ready (rs := [4]) (by kernel_rfl) (by simp) ?_
  refine AllReadyH.cons rfl (fun K hK => ?_) (AllReadyH.nil)
  go_simp
  have HBw33 : Hid (Below W0.heap.size W0 (w32.alloc (.cells #[.int .u8 0] 5))) := HBw32.out.alloc HBw32.out.size _
  have HNw33 : Hid (NoughtAt (w32.alloc (.cells #[.int .u8 0] 5)) w32.heap.size) := NoughtAt.new w32 _
  have HMw33 : Hid (Mine (w32.alloc (.cells #[.int .u8 0] 5)) (wd.heap.size) v32 (4)) := HMw32.out.below ((Below.refl _ _).alloc (Nat.le_refl _) _)
  have HDw33 : Hid (∀ g, v32.ownBlock = some g → g ≠ w32.heap.size) := fun g hg e => by obtain ⟨⟨l, h1, _⟩, _⟩ := HMw32.out; have := (owns_block h1 hg).2; omega
  have HNSw33 : Hid (W0.heap.size ≤ w32.heap.size) := HBw32.out.size
  generalize w32.alloc (.cells #[.int .u8 0] 5) = w33 at *
  have hfw33 := HS0.out.keep HBw33.out
  unfold SixIs at hfw33
  refine hK.out _ _ (by exact hfw33) (fun hHeld => ?_)
  clear hK K
  try simp only [zA, zB, zC, Act.put, zD, zE, zF]
  refine wpAnyH_ready (rs := [5]) (by kernel_rfl) (by simp) ?_
  refine AllReadyH.cons rfl (fun K hK => ?_) (AllReadyH.nil)
  obtain ⟨⟨lv34, ho1, hoct1⟩, hbs1⟩ := HMw33.out
  refine step_append_src rfl (.tmp 90) (.tmp 91) 32 rfl (wd.heap.size) 5 i0 (.int .u8 0) 1 1 Tryz.underlying32 hi hz0 hz1 hz2 rfl (by decide) v32 (4) (u8s lv34) rfl ho1 (some ⟨w32.heap.size, 0, none⟩) 1 1 (u8s [0]) rfl ⟨fun e => (by cases e), fun ad e => (by cases e; exact HNw33.out.reads)⟩ rfl (fun u hu => by simp [u8s] at hu; subst hu; rfl) (by unfold maxLen; omega) (by omega) hbs1 ?_
  intro v34 w34 ho hg
  have HBw34 : Hid (Below W0.heap.size W0 w34) := HBw33.out.grown hg HBw33.out.size (fun j hj => Nat.le_trans HBSw32.out (owns_block ho1 hj).1)
  have HMw34 : Hid (Mine w34 (wd.heap.size) v34 (4 + 1)) := Mine.more ho hoct1 oct_nought (Nat.le_trans hbs1 hg.size)
  have hfw34 := HS0.out.keep HBw34.out
  unfold SixIs at hfw34
  clear ho hg ho1 hoct1 hbs1
  refine hK.out _ _ (by exact hfw34) (fun hHeld => ?_)
  clear hK K
  try simp only [zA, zB, zC, Act.put, zD, zE, zF]
  refine wpAnyH_ready (rs := [8]) (by kernel_rfl) (by simp) ?_
  refine AllReadyH.cons rfl (fun K hK => ?_) (AllReadyH.nil)
  obtain ⟨⟨lv35, ho1, hoct1⟩, hbs1⟩ := HMw34.out
  obtain ⟨_, _, lb, eb, hlb, hob, hrb⟩ := (HY.out.keep (HB0.out.trans (HBw34.out.mono HB0.out.size)))
  injection eb with eb1 eb2 eb3
  subst eb1
  subst eb3
  refine step_append_src rfl (.tmp 92) (.tmp 94) 32 rfl (wd.heap.size) 5 i0 (.int .u8 0) 1 1 Tryz.underlying32 hi hz0 hz1 hz2 rfl (by decide) v34 (4 + 1) (u8s lv35) rfl ho1 ba bn bc (u8s lb) rfl (src_bytes hlb hrb) (by simp [u8s, hlb]) (u8s_one lb) (by unfold maxLen; omega) (by omega) hbs1 ?_
  intro v35 w35 ho hg
  have HBw35 : Hid (Below W0.heap.size W0 w35) := HBw34.out.grown hg HBw34.out.size (fun j hj => Nat.le_trans HBSw32.out (owns_block ho1 hj).1)
  have HMw35 : Hid (Mine w35 (wd.heap.size) v35 (4 + 1 + bn)) := Mine.more ho hoct1 hob (Nat.le_trans hbs1 hg.size)
  have hfw35 := HS0.out.keep HBw35.out
  unfold SixIs at hfw35
  clear ho hg ho1 hoct1 hbs1 hrb hlb hob
  refine hK.out _ _ (by exact hfw35) (fun hHeld => ?_)
  clear hK K
  try simp only [zA, zB, zC, Act.put, zD, zE, zF]
  refine wpAnyH_ready (rs := [10]) (by kernel_rfl) (by simp) ?_
  refine AllReadyH.cons rfl (fun K hK => ?_) (AllReadyH.nil)
  go_simp
  go_at_call 69
  refine (HBARE.out w35 (VIn.keep HBw35.out HV0.out)).mono ?_
  rintro e w36 ⟨rfl, hb⟩
  have HBw36 : Hid (Below W0.heap.size W0 w36) := HBw35.out.trans (hb.mono HBw35.out.size)
  have HMw36 : Hid (Mine w36 (wd.heap.size) v35 (4 + 1 + bn)) := HMw35.out.below hb
  have hfw36 := HS0.out.keep HBw36.out
  unfold SixIs at hfw36
  clear hb
  refine hK.out _ _ (by exact hfw36) (fun hHeld => ?_)
  clear hK K
  try simp only [zA, zB, zC, Act.put, zD, zE, zF]
  refine wpAnyH_take (i := 11) (v := ?_) rfl (by kernel_rfl) (by kernel_rfl) (by kernel_rfl) (fun _ _ _ h => h) (Or.inl ⟨by kernel_rfl, ?_⟩) (by assumption) ?_
  rotate_left
  ·intro wS hSw
   (try dsimp only at hSw)
   go_simp
   try (with_reducible rfl)
  try simp only [zA, zB, zC, Act.put, zD, zE, zF]
  refine wpAnyH_take (i := 12) (v := ?_) rfl (by kernel_rfl) (by kernel_rfl) (by kernel_rfl) (fun _ _ _ h => h) (Or.inl ⟨by kernel_rfl, ?_⟩) (by assumption) ?_
  rotate_left
  ·intro wS hSw
   (try dsimp only at hSw)
   go_simp
   try (with_reducible rfl)
  try simp only [zA, zB, zC, Act.put, zD, zE, zF]
  refine wpAnyH_done (by kernel_rfl) ?_ _
  go_wp2_with fail
  refine bodyPost_ret (v := .tuple #[v35, .bool _]) (by simp [results, Tryz.results52, go_sem]; rfl) rfl ?_
  exact ⟨_, _, 4 + 1 + bn, rfl, (HMw36.out.bytes (Nat.le_trans HB0.out.size HBSw32.out)).mono (fun g hg => .inr hg), fun _ => by omega, HB0.out.trans (HBw36.out.mono HB0.out.size)⟩
 ·go_simp
  have HBw37 : Hid (Below W0.heap.size W0 (wd.alloc (.cells #[.int .u8 0] 5))) := HDR.out.alloc HDR.out.size _
  have HNw37 : Hid (NoughtAt (wd.alloc (.cells #[.int .u8 0] 5)) wd.heap.size) := NoughtAt.new wd _
  have HNSw37 : Hid (W0.heap.size ≤ wd.heap.size) := HDR.out.size
  generalize wd.alloc (.cells #[.int .u8 0] 5) = w37 at *
  have hfw37 := HS0.out.keep HBw37.out
  unfold SixIs at hfw37
  refine hK.out _ _ (by exact hfw37) (fun hHeld => ?_)
  clear hK K
  try simp only [zA, zB, zC, Act.put, zD, zE, zF]
  refine wpAnyH_ready (rs := [3]) (by kernel_rfl) (by simp) ?_
  refine AllReadyH.cons rfl (fun K hK => ?_) (AllReadyH.nil)
  go_simp
  go_at_call 70
  refine (num_own _ 4 w37 (by decide)).mono ?_
  rintro e w38 ⟨v38, lv38, rfl, ho, hl, hoct, hb⟩
  have HBw38 : Hid (Below W0.heap.size W0 w38) := HBw37.out.trans (hb.mono HBw37.out.size)
  have HMw38 : Hid (Mine w38 w37.heap.size v38 4) := ⟨⟨_, ho, hoct⟩, hb.size⟩
  have HNw38 : Hid (NoughtAt w38 wd.heap.size) := HNw37.out.keep hb
  have HDw38 : Hid (∀ g, v38.ownBlock = some g → g ≠ wd.heap.size) := fun g hg e => by have := (owns_block ho hg).1; have := HNw37.out.1; omega
  have HBSw38 : Hid (W0.heap.size ≤ w37.heap.size) := HBw37.out.size
  have hfw38 := HS0.out.keep HBw38.out
  unfold SixIs at hfw38
  clear ho hl hoct hb
  refine hK.out _ _ (by exact hfw38) (fun hHeld => ?_)
  clear hK K
  try simp only [zA, zB, zC, Act.put, zD, zE, zF]
  refine wpAnyH_ready (rs := [5]) (by kernel_rfl) (by simp) ?_
  refine AllReadyH.cons rfl (fun K hK => ?_) (AllReadyH.nil)
  obtain ⟨⟨lv39, ho1, hoct1⟩, hbs1⟩ := HMw38.out
  refine step_append_src rfl (.tmp 90) (.tmp 91) 32 rfl (w37.heap.size) 5 i0 (.int .u8 0) 1 1 Tryz.underlying32 hi hz0 hz1 hz2 rfl (by decide) v38 (4) (u8s lv39) rfl ho1 (some ⟨wd.heap.size, 0, none⟩) 1 1 (u8s [0]) rfl ⟨fun e => (by cases e), fun ad e => (by cases e; exact HNw38.out.reads)⟩ rfl (fun u hu => by simp [u8s] at hu; subst hu; rfl) (by unfold maxLen; omega) (by omega) hbs1 ?_
  intro v39 w39 ho hg
  have HBw39 : Hid (Below W0.heap.size W0 w39) := HBw38.out.grown hg HBw38.out.size (fun j hj => Nat.le_trans HBSw38.out (owns_block ho1 hj).1)
  have HMw39 : Hid (Mine w39 (w37.heap.size) v39 (4 + 1)) := Mine.more ho hoct1 oct_nought (Nat.le_trans hbs1 hg.size)
  have hfw39 := HS0.out.keep HBw39.out
  unfold SixIs at hfw39
  clear ho hg ho1 hoct1 hbs1
  refine hK.out _ _ (by exact hfw39) (fun hHeld => ?_)
  clear hK K
  try simp only [zA, zB, zC, Act.put, zD, zE, zF]
  refine wpAnyH_ready (rs := [8]) (by kernel_rfl) (by simp) ?_
  refine AllReadyH.cons rfl (fun K hK => ?_) (AllReadyH.nil)
  obtain ⟨⟨lv40, ho1, hoct1⟩, hbs1⟩ := HMw39.out
  obtain ⟨_, _, lb, eb, hlb, hob, hrb⟩ := (HY.out.keep (HB0.out.trans (HBw39.out.mono HB0.out.size)))
  injection eb with eb1 eb2 eb3
  subst eb1
  subst eb3
  refine step_append_src rfl (.tmp 92) (.tmp 94) 32 rfl (w37.heap.size) 5 i0 (.int .u8 0) 1 1 Tryz.underlying32 hi hz0 hz1 hz2 rfl (by decide) v39 (4 + 1) (u8s lv40) rfl ho1 ba bn bc (u8s lb) rfl (src_bytes hlb hrb) (by simp [u8s, hlb]) (u8s_one lb) (by unfold maxLen; omega) (by omega) hbs1 ?_
  intro v40 w40 ho hg
  have HBw40 : Hid (Below W0.heap.size W0 w40) := HBw39.out.grown hg HBw39.out.size (fun j hj => Nat.le_trans HBSw38.out (owns_block ho1 hj).1)
  have HMw40 : Hid (Mine w40 (w37.heap.size) v40 (4 + 1 + bn)) := Mine.more ho hoct1 hob (Nat.le_trans hbs1 hg.size)
  have hfw40 := HS0.out.keep HBw40.out
  unfold SixIs at hfw40
  clear ho hg ho1 hoct1 hbs1 hrb hlb hob
  refine hK.out _ _ (by exact hfw40) (fun hHeld => ?_)
  clear hK K
  try simp only [zA, zB, zC, Act.put, zD, zE, zF]
  refine wpAnyH_ready (rs := [10]) (by kernel_rfl) (by simp) ?_
  refine AllReadyH.cons rfl (fun K hK => ?_) (AllReadyH.nil)
  go_simp
  go_at_call 69
  refine (HBARE.out w40 (VIn.keep HBw40.out HV0.out)).mono ?_
  rintro e w41 ⟨rfl, hb⟩
  have HBw41 : Hid (Below W0.heap.size W0 w41) := HBw40.out.trans (hb.mono HBw40.out.size)
  have HMw41 : Hid (Mine w41 (w37.heap.size) v40 (4 + 1 + bn)) := HMw40.out.below hb
  have hfw41 := HS0.out.keep HBw41.out
  unfold SixIs at hfw41
  clear hb
  refine hK.out _ _ (by exact hfw41) (fun hHeld => ?_)
  clear hK K
  try simp only [zA, zB, zC, Act.put, zD, zE, zF]
  refine wpAnyH_take (i := 11) (v := ?_) rfl (by kernel_rfl) (by kernel_rfl) (by kernel_rfl) (fun _ _ _ h => h) (Or.inl ⟨by kernel_rfl, ?_⟩) (by assumption) ?_
  rotate_left
  ·intro wS hSw
   (try dsimp only at hSw)
   go_simp
   try (with_reducible rfl)
  try simp only [zA, zB, zC, Act.put, zD, zE, zF]
  refine wpAnyH_take (i := 12) (v := ?_) rfl (by kernel_rfl) (by kernel_rfl) (by kernel_rfl) (fun _ _ _ h => h) (Or.inl ⟨by kernel_rfl, ?_⟩) (by assumption) ?_
  rotate_left
  ·intro wS hSw
   (try dsimp only at hSw)
   go_simp
   try (with_reducible rfl)
  try simp only [zA, zB, zC, Act.put, zD, zE, zF]
  refine wpAnyH_done (by kernel_rfl) ?_ _
  go_wp2_with fail
  refine bodyPost_ret (v := .tuple #[v40, .bool _]) (by simp [results, Tryz.results52, go_sem]; rfl) rfl ?_
  exact ⟨_, _, 4 + 1 + bn, rfl, (HMw41.out.bytes (Nat.le_trans HB0.out.size HBSw38.out)).mono (fun g hg => .inr hg), fun _ => by omega, HB0.out.trans (HBw41.out.mono HB0.out.size)⟩
end Go.Proofs.YtngllchoiffniaaGreatDoor
end
