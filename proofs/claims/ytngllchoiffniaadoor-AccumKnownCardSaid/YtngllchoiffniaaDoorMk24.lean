/- AccumSearch, AccumSet. -/
import Derived.Test.YtngllchoiffniaaDoorMk23
set_option maxRecDepth 100000
set_option maxHeartbeats 20000000
section
namespace Go.Proofs.YtngllchoiffniaaDoor
open Go.RowKit
open Seal
open Bson (Val)
namespace Acc
theorem compareItem_any (s n lvc : Nat) (la0 : Option Addr) (H k : Nat) (ys : List Val) (m k1 k2 k3 k4 k5 wt rv : Value) (y : Val) (v : Value) (Q Qy : Nat → Prop) (w : World) (hk : k < ys.length) (hn : n = ys.length)
  (hrow : w.heap[s]? = some (.cells #[m, k1, k2, k3, k4, k5, .slice la0 n lvc, wt, rv] 41 (0, 0))) (hI : ItemsIn w Q (VIn w Q (H + 1)) la0 ys) (hv : VIn w Qy (H + 1) y v) :
  Calls Tryd.prog 34 #[.pointer (some ⟨s, 0, none⟩), .int .i64 (k : Int), v] w (CmpPost (Order.cmp (H + 1) ys[k] y) w) := by
 have hlt : s < w.heap.size := (Array.getElem?_eq_some_iff.1 hrow).1
 obtain ⟨yk, yn, ys0, ba, fa, la, bn, bc, fn, fc, ln, lc, rfl, -⟩ := hv.letters
 obtain ⟨g, o, rfl, -, hall⟩ := hI.resolve_left (fun e => by rw [e] at hk; cases hk)
 obtain ⟨u, hsix, hV⟩ := hall k hk
 obtain ⟨xk, xn, xs0, xa, xb, xc, p1, p2, p3, p4, p5, p6, rfl⟩ := VIn.shape (h := H + 1) hV
 obtain ⟨W1, hW1⟩ : ∃ W, W = w.alloc (.cells #[.int .i64 yk, .int .i64 yn, .string ys0, .slice ba bn bc, .slice fa fn fc, .slice la ln lc] 32) := ⟨_, rfl⟩
 have hb1 : Below w.heap.size w W1 := by rw [hW1]; exact (Below.refl _ _).alloc (Nat.le_refl _) _
 have hx1 : IsBox W1 w.heap.size (.int .i64 yk) (.int .i64 yn) (.string ys0) (.slice ba bn bc) (.slice fa fn fc) (.slice la ln lc) := by rw [hW1]; exact IsBox.new w (.int .i64 yk) (.int .i64 yn) (.string ys0) (.slice ba bn bc) (.slice fa fn fc) (.slice la ln lc)
 have HW1 := Lib.hid hW1; have HB1 := Lib.hid hb1; have HX1 := Lib.hid hx1
 obtain ⟨c, hc⟩ : ∃ c, c = Order.cmp (H + 1) ys[k] y := ⟨_, rfl⟩
 rw [← hc]
 have CC : Hid (∀ W, Below W1.heap.size W1 W → Calls Tryd.prog 43 #[.agg #[.int .i64 xk, .int .i64 xn, .string xs0, .slice xa p1 p2, .slice xb p3 p4, .slice xc p5 p6], .agg #[.int .i64 yk, .int .i64 yn, .string ys0, .slice ba bn bc, .slice fa fn fc, .slice la ln lc]] W (CmpPost c W)) := fun W hW => by rw [hc]; exact compare_any (H + 1) Q Qy ys[k] y _ _ W (VIn.keep (h := H + 1) hW (VIn.keep (h := H + 1) hb1 hV)) (VIn.keep hW (VIn.keep hb1 hv))
 have HROW := Lib.hid hrow
 have HSIX := Lib.hid hsix
 have hkn : (k : Int) < (n : Int) := by rw [hn]; omega
 have hkn2 : k < n := by omega
 clear hW1 hb1 hx1 hc hrow hsix hall hV hv hI hn hk
 go_enter Tryd.func34, Tryd.ntmps34
 go_upto_region 1 with fail
 rw [← HW1.out]
 refine wp_region_facts (fun V => { tmps := #[.pointer (some ⟨s, 0, none⟩), .int .i64 (k : Int), .agg #[.int .i64 yk, .int .i64 yn, .string ys0, .slice ba bn bc, .slice fa fn fc, .slice la ln lc], undef, undef, .pointer (some ⟨w.heap.size, 0, none⟩), V 10, V 0, V 1, V 2, V 3, V 4, V 5, V 6, V 7, V 8, V 9], defers := [] }) [Fact.is (.pointer (some ⟨s, 0, none⟩)), Fact.is (.pointer (some ⟨s, 0, none⟩)), Fact.is (.pointer (some ⟨s, 1, none⟩)), Fact.is (.pointer (some ⟨s, 6, none⟩)), Fact.is (.slice (some ⟨g, o, none⟩) n lvc), Fact.is (.int .i64 (k : Int)), Fact.is (.pointer (some ⟨g, o + k * 6, none⟩)), Fact.is (.agg #[.int .i64 xk, .int .i64 xn, .string xs0, .slice xa p1 p2, .slice xb p3 p4, .slice xc p5 p6]), Fact.is (.agg #[.int .i64 yk, .int .i64 yn, .string ys0, .slice ba bn bc, .slice fa fn fc, .slice la ln lc]), Fact.is (.int .i64 c), Fact.is (.int .i64 c)] (by kernel_rfl) (by kernel_rfl) (by kernel_rfl) (fun V => by kernel_rfl) ?_ ?_
 ·refine ⟨?_, ?_⟩
  ·refine fact_free rfl (fun V w5 hB hF K hK => ?_)
   go_simp
   exact put_is (by kernel_rfl) (hK.out (.pointer (some ⟨s, 0, none⟩)) w5 (Below.refl _ _) rfl)
  refine ⟨?_, ?_⟩
  ·refine fact_free rfl (fun V w5 hB hF K hK => ?_)
   have h0 : V 0 = .pointer (some ⟨s, 0, none⟩) := hF.out 0 (by kernel_rfl)
   go_simp
   exact put_is (by rw [h0]; kernel_rfl) (hK.out (.pointer (some ⟨s, 0, none⟩)) w5 (Below.refl _ _) rfl)
  refine ⟨?_, ?_⟩
  ·refine fact_free rfl (fun V w5 hB hF K hK => ?_)
   have h1 : V 1 = .pointer (some ⟨s, 0, none⟩) := hF.out 1 (by kernel_rfl)
   go_simp
   exact put_is (by rw [h1]; kernel_rfl) (hK.out (.pointer (some ⟨s, 1, none⟩)) w5 (Below.refl _ _) rfl)
  refine ⟨?_, ?_⟩
  ·refine fact_free rfl (fun V w5 hB hF K hK => ?_)
   have h2 : V 2 = .pointer (some ⟨s, 1, none⟩) := hF.out 2 (by kernel_rfl)
   go_simp
   exact put_is (by rw [h2]; kernel_rfl) (hK.out (.pointer (some ⟨s, 6, none⟩)) w5 (Below.refl _ _) rfl)
  refine ⟨?_, ?_⟩
  ·refine fact_free rfl (fun V w5 hB hF K hK => ?_)
   have h3 : V 3 = .pointer (some ⟨s, 6, none⟩) := hF.out 3 (by kernel_rfl)
   have c6 := (cell_of_row w5 _ 6 _ _ _ ((hB.block s (Nat.lt_of_lt_of_le hlt HB1.out.size)).trans ((HB1.out.block s hlt).trans HROW.out))).trans rfl
   go_simp
   exact put_is (by rw [h3]; kernel_rfl) (hK.out (.slice (some ⟨g, o, none⟩) n lvc) w5 (Below.refl _ _) rfl)
  refine ⟨?_, ?_⟩
  ·refine fact_free rfl (fun V w5 hB hF K hK => ?_)
   go_simp
   exact put_is (by kernel_rfl) (hK.out (.int .i64 (k : Int)) w5 (Below.refl _ _) rfl)
  refine ⟨?_, ?_⟩
  ·refine fact_free rfl (fun V w5 hB hF K hK => ?_)
   have h4 : V 4 = .slice (some ⟨g, o, none⟩) n lvc := hF.out 4 (by kernel_rfl)
   have h5 : V 5 = .int .i64 (k : Int) := hF.out 5 (by kernel_rfl)
   go_simp
   exact put_is (by rw [h4, h5]; kernel_rfl) (hK.out (.pointer (some ⟨g, o + k * 6, none⟩)) w5 (Below.refl _ _) rfl)
  refine ⟨?_, ?_⟩
  ·refine fact_free rfl (fun V w5 hB hF K hK => ?_)
   have h6 : V 6 = .pointer (some ⟨g, o + k * 6, none⟩) := hF.out 6 (by kernel_rfl)
   obtain ⟨s0, s1, s2, s3, s4, s5⟩ := (HSIX.out.keep (HB1.out.trans (hB.mono HB1.out.size))).cells
   go_simp
   exact put_is (by rw [h6]; kernel_rfl) (hK.out (.agg #[.int .i64 xk, .int .i64 xn, .string xs0, .slice xa p1 p2, .slice xb p3 p4, .slice xc p5 p6]) w5 (Below.refl _ _) rfl)
  refine ⟨?_, ?_⟩
  ·refine fact_free rfl (fun V w5 hB hF K hK => ?_)
   obtain ⟨b0, b1, b2, b3, b4, b5⟩ := (HX1.out.keep hB).cells
   go_simp
   exact put_is (by kernel_rfl) (hK.out (.agg #[.int .i64 yk, .int .i64 yn, .string ys0, .slice ba bn bc, .slice fa fn fc, .slice la ln lc]) w5 (Below.refl _ _) rfl)
  refine ⟨?_, ?_⟩
  ·refine fact_free rfl (fun V w5 hB hF K hK => ?_)
   have h7 : V 7 = .agg #[.int .i64 xk, .int .i64 xn, .string xs0, .slice xa p1 p2, .slice xb p3 p4, .slice xc p5 p6] := hF.out 7 (by kernel_rfl)
   have h8 : V 8 = .agg #[.int .i64 yk, .int .i64 yn, .string ys0, .slice ba bn bc, .slice fa fn fc, .slice la ln lc] := hF.out 8 (by kernel_rfl)
   go_simp
   refine (CC.out w5 hB).mono ?_
   rintro e w6 ⟨rfl, hb6⟩
   exact put_is (by rw [h7, h8]; kernel_rfl) (hK.out (.int .i64 c) w6 hb6 rfl)
  refine ⟨?_, ?_⟩
  ·refine fact_free rfl (fun V w5 hB hF K hK => ?_)
   have h9 : V 9 = .int .i64 c := hF.out 9 (by kernel_rfl)
   go_simp
   exact put_is (by rw [h9]; kernel_rfl) (hK.out (.int .i64 c) w5 (Below.refl _ _) rfl)
  trivial
 intro V w2 hB hF
 have h10 : V 10 = .int .i64 c := hF 10 (by decide)
 rw [h10]
 have HB2 : Hid (Below w.heap.size w w2) := HB1.out.trans (hB.mono HB1.out.size)
 clear hB hF h10
 go_wp2_with fail
 go_ret
 exact ⟨rfl, HB2.out⟩
def bpos (c : Nat → Int) : Nat → Nat
 | 0 => 0
 | n + 1 => if c n < 0 then n + 1 else bpos c n
theorem bpos_le (c : Nat → Int) : ∀ n, bpos c n ≤ n
 | 0 => Nat.le_refl _
 | n + 1 => by have := bpos_le c n; unfold bpos; split <;> omega
theorem bpos_is (c : Nat → Int) : ∀ (n a : Nat), a ≤ n → (∀ t, t < a → c t < 0) → (∀ t, a ≤ t → t < n → 0 ≤ c t) → bpos c n = a
 | 0, a, h, _, _ => by unfold bpos; omega
 | n + 1, a, h, h1, h2 => by
  unfold bpos
  by_cases e : c n < 0
  ·rw [if_pos e]
   refine Nat.le_antisymm (Nat.le_of_not_lt fun hlt => ?_) h
   have := h2 n (by omega) (by omega); omega
  ·rw [if_neg e]
   refine bpos_is c n a (Nat.le_of_not_lt fun hlt => ?_) h1 (fun t h3 h4 => h2 t h3 (by omega))
   exact e (h1 n (by omega))
theorem bsearch_any (s n rc : Nat) (ra : Option Addr) (rs : List Nat) (c : Nat → Int) (v : Value) (w : World) (hv : ∃ (yk yn : Int) (ys0 : ByteArray) (ba fa la : Option Addr) (bn bc fn fc ln lc : Nat), v = .agg #[.int .i64 yk, .int .i64 yn, .string ys0, .slice ba bn bc, .slice fa fn fc, .slice la ln lc]) (hn : rs.length = n) (hnb : n ≤ 4611686018427387903)
  (hR : rs = [] ∨ ∃ g o, ra = some ⟨g, o, none⟩ ∧ ∀ i (hi : i < rs.length), w.cell? ⟨g, o + i, none⟩ = some (.int .i64 (rs[i] : Int)))
  (hC : ∀ W, Below w.heap.size w W → ∀ i (hi : i < rs.length), Calls Tryd.prog 34 #[.pointer (some ⟨s, 0, none⟩), .int .i64 (rs[i] : Int), v] W (CmpPost (c i) W))
  (hmono : ∀ a b, a ≤ b → b < n → c b < 0 → c a < 0) :
  Calls Tryd.prog 33 #[.slice ra n rc, v, .func (.func 34) #[.pointer (some ⟨s, 0, none⟩)] #[]] w fun e w' => e = .returned (.tuple #[.int .i64 (bpos c n : Int), .bool (decide (bpos c n < n) && decide (c (bpos c n) = 0))]) ∧ Below w.heap.size w w' := by
 obtain ⟨yk, yn, ys0, ba, fa, la, bn, bc, fn, fc, ln, lc, rfl⟩ := hv
 obtain ⟨W1, hW1⟩ : ∃ W, W = w.alloc (.cells #[.int .i64 yk, .int .i64 yn, .string ys0, .slice ba bn bc, .slice fa fn fc, .slice la ln lc] 32) := ⟨_, rfl⟩
 have hb1 : Below w.heap.size w W1 := by rw [hW1]; exact (Below.refl _ _).alloc (Nat.le_refl _) _
 have hx1 : IsBox W1 w.heap.size (.int .i64 yk) (.int .i64 yn) (.string ys0) (.slice ba bn bc) (.slice fa fn fc) (.slice la ln lc) := by rw [hW1]; exact IsBox.new w (.int .i64 yk) (.int .i64 yn) (.string ys0) (.slice ba bn bc) (.slice fa fn fc) (.slice la ln lc)
 have HW1 := Lib.hid hW1; have HB1 := Lib.hid hb1; have HX1 := Lib.hid hx1
 have HR := Lib.hid hR; have HC := Lib.hid hC; have HM := Lib.hid hmono; have HN := Lib.hid hn
 have HPO : Hid (∀ a : Nat, a ≤ n → (∀ t, t < a → c t < 0) → (∀ t, a ≤ t → t < n → 0 ≤ c t) → bpos c n = a) := fun a => bpos_is c n a
 clear hW1 hb1 hx1 hR hC hmono hn
 go_enter Tryd.func33, Tryd.ntmps33
 go_upto_region 1 with fail
 rw [← HW1.out]
 go_wp2_with fail
 go_loopw [9, 10] (fun s9 s10 wr => ∃ lo hi : Nat, s9 = .int .i64 lo ∧ s10 = .int .i64 hi ∧ lo ≤ hi ∧ hi ≤ n ∧ Hid (Below W1.heap.size W1 wr) ∧ Hid ((∀ t, t < lo → c t < 0) ∧ (∀ t, hi ≤ t → t < n → 0 ≤ c t))) (fun s9 s10 _ => (intOf s10).toNat - (intOf s9).toNat)
 case atStart => exact ⟨0, n, rfl, rfl, Nat.zero_le _, Nat.le_refl _, Below.refl _ _, fun t ht => absurd ht (Nat.not_lt_zero _), fun t h1 h2 => by omega⟩
 case round =>
  obtain ⟨lo, hi, rfl, rfl, hlh, hin, HB, HI⟩ := hrel
  by_cases hlt : lo < hi
  ·skip
   obtain ⟨q, hq⟩ : ∃ q, q = (lo + hi) / 2 := ⟨_, rfl⟩
   have hq0 : lo ≤ q := by omega
   have hq1 : q < hi := by omega
   have hqi : ((lo : Int) + (hi : Int)) / 2 = (q : Int) := by omega
   have hqn : q < rs.length := by rw [HN.out]; omega
   obtain ⟨gr, go, rfl, hcell⟩ := HR.out.resolve_left (fun e => by rw [e] at hqn; cases hqn)
   have hcq := hcell q hqn
   obtain ⟨pl, hpl⟩ : ∃ p, p = rs[q] := ⟨_, rfl⟩
   rw [← hpl] at hcq
   obtain ⟨cq, hcqe⟩ : ∃ z, z = c q := ⟨_, rfl⟩
   have CQ : Hid (∀ W, Below w.heap.size w W → Calls Tryd.prog 34 #[.pointer (some ⟨s, 0, none⟩), .int .i64 (pl : Int), .agg #[.int .i64 yk, .int .i64 yn, .string ys0, .slice ba bn bc, .slice fa fn fc, .slice la ln lc]] W (CmpPost cq W)) := fun W hW => by rw [hpl, hcqe]; exact HC.out W hW q hqn
   have HCQ := Lib.hid hcqe
   have HCELL := Lib.hid hcq
   have hqz : (q : Int) < (n : Int) := by omega
   have hqz2 : q < n := by omega
   have HQ := Lib.hid hq
   clear hcell hcq hpl hcqe hq
   by_cases hyx : cq < 0
   ·skip
    go_upto_region 5 with fail
    refine wp_region_facts (fun V => { tmps := #[Value.slice (some ⟨gr, go, none⟩) n rc, Value.agg #[Value.int .i64 yk, Value.int .i64 yn, Value.string ys0, Value.slice ba bn bc, Value.slice fa fn fc, Value.slice la ln lc], Value.func (Fn.func 34) #[Value.pointer (some ⟨s, 0, none⟩)] #[], undef, Value.pointer (some ⟨w.heap.size, 0, none⟩), undef, Value.int .i64 0, Value.bool false, Value.int .i64 (n : Int), Value.int .i64 (lo : Int), Value.int .i64 (hi : Int), Value.int .i64 (q : Int), Value.slice (some ⟨gr, go, none⟩) n rc, Value.int .i64 (n : Int), Value.int .i64 (n : Int), Value.int .i64 (lo : Int), Value.int .i64 (hi : Int), Value.bool true, Value.int .i64 (lo : Int), Value.int .i64 (hi : Int), Value.int .i64 ((lo : Int) + (hi : Int)), Value.int IntKind.u64 ((lo : Int) + (hi : Int)), Value.int IntKind.u64 (q : Int), Value.int .i64 (q : Int), V 0, V 1, V 2, V 3, V 4, V 5, V 6, V 7, u32, u33, u34, undef, undef, undef, undef, undef, undef, undef, undef, undef, undef, undef, undef, undef, undef], defers := [] }) [Fact.is (.func (.func 34) #[.pointer (some ⟨s, 0, none⟩)] #[]), Fact.is (.slice (some ⟨gr, go, none⟩) n rc), Fact.is (.int .i64 (q : Int)), Fact.is (.pointer (some ⟨gr, go + q, none⟩)), Fact.is (.int .i64 (pl : Int)), Fact.is (.agg #[.int .i64 yk, .int .i64 yn, .string ys0, .slice ba bn bc, .slice fa fn fc, .slice la ln lc]), Fact.is (.int .i64 cq), Fact.is (.bool true)] (by kernel_rfl) (by kernel_rfl) (by kernel_rfl) (fun V => by kernel_rfl) ?_ ?_
    ·refine ⟨?_, ?_⟩
     ·refine fact_free rfl (fun V w5 hB hF K hK => ?_)
      go_simp
      exact put_is (by kernel_rfl) (hK.out (.func (.func 34) #[.pointer (some ⟨s, 0, none⟩)] #[]) w5 (Below.refl _ _) rfl)
     refine ⟨?_, ?_⟩
     ·refine fact_free rfl (fun V w5 hB hF K hK => ?_)
      go_simp
      exact put_is (by kernel_rfl) (hK.out (.slice (some ⟨gr, go, none⟩) n rc) w5 (Below.refl _ _) rfl)
     refine ⟨?_, ?_⟩
     ·refine fact_free rfl (fun V w5 hB hF K hK => ?_)
      go_simp
      exact put_is (by kernel_rfl) (hK.out (.int .i64 (q : Int)) w5 (Below.refl _ _) rfl)
     refine ⟨?_, ?_⟩
     ·refine fact_free rfl (fun V w5 hB hF K hK => ?_)
      have h1 : V 1 = .slice (some ⟨gr, go, none⟩) n rc := hF.out 1 (by kernel_rfl)
      have h2 : V 2 = .int .i64 (q : Int) := hF.out 2 (by kernel_rfl)
      go_simp
      exact put_is (by rw [h1, h2]; kernel_rfl) (hK.out (.pointer (some ⟨gr, go + q, none⟩)) w5 (Below.refl _ _) rfl)
     refine ⟨?_, ?_⟩
     ·refine fact_free rfl (fun V w5 hB hF K hK => ?_)
      have h3 : V 3 = .pointer (some ⟨gr, go + q, none⟩) := hF.out 3 (by kernel_rfl)
      have hcq := cell_keep (HB1.out.trans (HB.out.trans (hB.mono HB.out.size) |>.mono HB1.out.size)) HCELL.out
      go_simp
      exact put_is (by rw [h3]; kernel_rfl) (hK.out (.int .i64 (pl : Int)) w5 (Below.refl _ _) rfl)
     refine ⟨?_, ?_⟩
     ·refine fact_free rfl (fun V w5 hB hF K hK => ?_)
      obtain ⟨b0, b1, b2, b3, b4, b5⟩ := (HX1.out.keep (HB.out.trans (hB.mono HB.out.size))).cells
      go_simp
      exact put_is (by kernel_rfl) (hK.out (.agg #[.int .i64 yk, .int .i64 yn, .string ys0, .slice ba bn bc, .slice fa fn fc, .slice la ln lc]) w5 (Below.refl _ _) rfl)
     refine ⟨?_, ?_⟩
     ·refine fact_free rfl (fun V w5 hB hF K hK => ?_)
      have h0 : V 0 = .func (.func 34) #[.pointer (some ⟨s, 0, none⟩)] #[] := hF.out 0 (by kernel_rfl)
      have h4 : V 4 = .int .i64 (pl : Int) := hF.out 4 (by kernel_rfl)
      have h5 : V 5 = .agg #[.int .i64 yk, .int .i64 yn, .string ys0, .slice ba bn bc, .slice fa fn fc, .slice la ln lc] := hF.out 5 (by kernel_rfl)
      go_simp
      refine (CQ.out w5 (HB1.out.trans (HB.out.trans (hB.mono HB.out.size) |>.mono HB1.out.size))).mono ?_
      rintro e w6 ⟨rfl, hb6⟩
      exact put_is (by rw [h0, h4, h5]; kernel_rfl) (hK.out (.int .i64 cq) w6 hb6 rfl)
     refine ⟨?_, ?_⟩
     ·refine fact_free rfl (fun V w5 hB hF K hK => ?_)
      have h6 : V 6 = .int .i64 cq := hF.out 6 (by kernel_rfl)
      go_simp
      exact put_is (by rw [h6]; kernel_rfl) (hK.out (.bool true) w5 (Below.refl _ _) rfl)
     trivial
    intro V w2 hB hF
    have h7 : V 7 = .bool true := hF 7 (by decide)
    rw [h7]
    have HB5 := Lib.hid (HB.out.trans (hB.mono HB.out.size))
    clear hB hF h7
    have I2 : Hid ((∀ t, t < q + 1 → c t < 0) ∧ (∀ t, hi ≤ t → t < n → 0 ≤ c t)) := ⟨fun t ht => HM.out t q (by omega) (by omega) (by rw [← HCQ.out]; exact hyx), HI.out.2⟩
    go_wp2_with fail
    go_roundw
    case rel => exact ⟨q + 1, hi, by go_num, rfl, by omega, hin, HB5, I2⟩
    case measure => simp [intOf]; omega
   ·skip
    go_upto_region 5 with fail
    refine wp_region_facts (fun V => { tmps := #[Value.slice (some ⟨gr, go, none⟩) n rc, Value.agg #[Value.int .i64 yk, Value.int .i64 yn, Value.string ys0, Value.slice ba bn bc, Value.slice fa fn fc, Value.slice la ln lc], Value.func (Fn.func 34) #[Value.pointer (some ⟨s, 0, none⟩)] #[], undef, Value.pointer (some ⟨w.heap.size, 0, none⟩), undef, Value.int .i64 0, Value.bool false, Value.int .i64 (n : Int), Value.int .i64 (lo : Int), Value.int .i64 (hi : Int), Value.int .i64 (q : Int), Value.slice (some ⟨gr, go, none⟩) n rc, Value.int .i64 (n : Int), Value.int .i64 (n : Int), Value.int .i64 (lo : Int), Value.int .i64 (hi : Int), Value.bool true, Value.int .i64 (lo : Int), Value.int .i64 (hi : Int), Value.int .i64 ((lo : Int) + (hi : Int)), Value.int IntKind.u64 ((lo : Int) + (hi : Int)), Value.int IntKind.u64 (q : Int), Value.int .i64 (q : Int), V 0, V 1, V 2, V 3, V 4, V 5, V 6, V 7, u32, u33, u34, undef, undef, undef, undef, undef, undef, undef, undef, undef, undef, undef, undef, undef, undef], defers := [] }) [Fact.is (.func (.func 34) #[.pointer (some ⟨s, 0, none⟩)] #[]), Fact.is (.slice (some ⟨gr, go, none⟩) n rc), Fact.is (.int .i64 (q : Int)), Fact.is (.pointer (some ⟨gr, go + q, none⟩)), Fact.is (.int .i64 (pl : Int)), Fact.is (.agg #[.int .i64 yk, .int .i64 yn, .string ys0, .slice ba bn bc, .slice fa fn fc, .slice la ln lc]), Fact.is (.int .i64 cq), Fact.is (.bool false)] (by kernel_rfl) (by kernel_rfl) (by kernel_rfl) (fun V => by kernel_rfl) ?_ ?_
    ·refine ⟨?_, ?_⟩
     ·refine fact_free rfl (fun V w5 hB hF K hK => ?_)
      go_simp
      exact put_is (by kernel_rfl) (hK.out (.func (.func 34) #[.pointer (some ⟨s, 0, none⟩)] #[]) w5 (Below.refl _ _) rfl)
     refine ⟨?_, ?_⟩
     ·refine fact_free rfl (fun V w5 hB hF K hK => ?_)
      go_simp
      exact put_is (by kernel_rfl) (hK.out (.slice (some ⟨gr, go, none⟩) n rc) w5 (Below.refl _ _) rfl)
     refine ⟨?_, ?_⟩
     ·refine fact_free rfl (fun V w5 hB hF K hK => ?_)
      go_simp
      exact put_is (by kernel_rfl) (hK.out (.int .i64 (q : Int)) w5 (Below.refl _ _) rfl)
     refine ⟨?_, ?_⟩
     ·refine fact_free rfl (fun V w5 hB hF K hK => ?_)
      have h1 : V 1 = .slice (some ⟨gr, go, none⟩) n rc := hF.out 1 (by kernel_rfl)
      have h2 : V 2 = .int .i64 (q : Int) := hF.out 2 (by kernel_rfl)
      go_simp
      exact put_is (by rw [h1, h2]; kernel_rfl) (hK.out (.pointer (some ⟨gr, go + q, none⟩)) w5 (Below.refl _ _) rfl)
     refine ⟨?_, ?_⟩
     ·refine fact_free rfl (fun V w5 hB hF K hK => ?_)
      have h3 : V 3 = .pointer (some ⟨gr, go + q, none⟩) := hF.out 3 (by kernel_rfl)
      have hcq := cell_keep (HB1.out.trans (HB.out.trans (hB.mono HB.out.size) |>.mono HB1.out.size)) HCELL.out
      go_simp
      exact put_is (by rw [h3]; kernel_rfl) (hK.out (.int .i64 (pl : Int)) w5 (Below.refl _ _) rfl)
     refine ⟨?_, ?_⟩
     ·refine fact_free rfl (fun V w5 hB hF K hK => ?_)
      obtain ⟨b0, b1, b2, b3, b4, b5⟩ := (HX1.out.keep (HB.out.trans (hB.mono HB.out.size))).cells
      go_simp
      exact put_is (by kernel_rfl) (hK.out (.agg #[.int .i64 yk, .int .i64 yn, .string ys0, .slice ba bn bc, .slice fa fn fc, .slice la ln lc]) w5 (Below.refl _ _) rfl)
     refine ⟨?_, ?_⟩
     ·refine fact_free rfl (fun V w5 hB hF K hK => ?_)
      have h0 : V 0 = .func (.func 34) #[.pointer (some ⟨s, 0, none⟩)] #[] := hF.out 0 (by kernel_rfl)
      have h4 : V 4 = .int .i64 (pl : Int) := hF.out 4 (by kernel_rfl)
      have h5 : V 5 = .agg #[.int .i64 yk, .int .i64 yn, .string ys0, .slice ba bn bc, .slice fa fn fc, .slice la ln lc] := hF.out 5 (by kernel_rfl)
      go_simp
      refine (CQ.out w5 (HB1.out.trans (HB.out.trans (hB.mono HB.out.size) |>.mono HB1.out.size))).mono ?_
      rintro e w6 ⟨rfl, hb6⟩
      exact put_is (by rw [h0, h4, h5]; kernel_rfl) (hK.out (.int .i64 cq) w6 hb6 rfl)
     refine ⟨?_, ?_⟩
     ·refine fact_free rfl (fun V w5 hB hF K hK => ?_)
      have h6 : V 6 = .int .i64 cq := hF.out 6 (by kernel_rfl)
      go_simp
      exact put_is (by rw [h6]; kernel_rfl) (hK.out (.bool false) w5 (Below.refl _ _) rfl)
     trivial
    intro V w2 hB hF
    have h7 : V 7 = .bool false := hF 7 (by decide)
    rw [h7]
    have HB5 := Lib.hid (HB.out.trans (hB.mono HB.out.size))
    clear hB hF h7
    have I2 : Hid ((∀ t, t < lo → c t < 0) ∧ (∀ t, q ≤ t → t < n → 0 ≤ c t)) := ⟨HI.out.1, fun t ht htn => Int.not_lt.1 fun h => by have := HM.out q t ht htn h; rw [← HCQ.out] at this; omega⟩
    go_wp2_with fail
    go_roundw
    case rel => exact ⟨lo, q, rfl, rfl, by omega, by omega, HB5, I2⟩
    case measure => simp [intOf]; omega
  obtain rfl : hi = lo := by omega
  have hpos : bpos c n = hi := HPO.out hi hin HI.out.1 HI.out.2
  have HPOS := Lib.hid hpos
  clear hpos
  by_cases hn2 : hi < n
  ·skip
   have hqn : hi < rs.length := by rw [HN.out]; omega
   obtain ⟨gr, go, rfl, hcell⟩ := HR.out.resolve_left (fun e => by rw [e] at hqn; cases hqn)
   have hcq := hcell hi hqn
   obtain ⟨pl, hpl⟩ : ∃ p, p = rs[hi] := ⟨_, rfl⟩
   rw [← hpl] at hcq
   obtain ⟨cq, hcqe⟩ : ∃ z, z = c hi := ⟨_, rfl⟩
   have CQ : Hid (∀ W, Below w.heap.size w W → Calls Tryd.prog 34 #[.pointer (some ⟨s, 0, none⟩), .int .i64 (pl : Int), .agg #[.int .i64 yk, .int .i64 yn, .string ys0, .slice ba bn bc, .slice fa fn fc, .slice la ln lc]] W (CmpPost cq W)) := fun W hW => by rw [hpl, hcqe]; exact HC.out W hW hi hqn
   have HCQ := Lib.hid hcqe
   have HCELL := Lib.hid hcq
   have hqz : (hi : Int) < (n : Int) := by omega
   clear hcell hcq hpl hcqe
   by_cases hyx : cq = 0
   ·skip
    have ec : ((cq : Int) == 0) = true := by rw [beq_iff_eq]; exact hyx
    have HYX := Lib.hid hyx
    clear hyx
    go_upto_region 8 with fail
    refine wp_region_facts (fun V => { tmps := #[Value.slice (some ⟨gr, go, none⟩) n rc, Value.agg #[Value.int .i64 yk, Value.int .i64 yn, Value.string ys0, Value.slice ba bn bc, Value.slice fa fn fc, Value.slice la ln lc], Value.func (Fn.func 34) #[Value.pointer (some ⟨s, 0, none⟩)] #[], undef, Value.pointer (some ⟨w.heap.size, 0, none⟩), undef, V 14, V 15, Value.int .i64 (n : Int), Value.int .i64 (hi : Int), Value.int .i64 (hi : Int), u11, Value.slice (some ⟨gr, go, none⟩) n rc, Value.int .i64 (n : Int), Value.int .i64 (n : Int), Value.int .i64 (hi : Int), Value.int .i64 (hi : Int), Value.bool false, u18, u19, u20, u21, u22, u23, u24, u25, u26, u27, u28, u29, u30, u31, u32, u33, u34, V 0, V 1, V 2, V 3, V 4, V 5, V 6, V 7, V 8, V 9, V 10, V 11, V 12, V 13], defers := [] }) [Fact.is (.int .i64 (hi : Int)), Fact.is (.int .i64 (hi : Int)), Fact.is (.int .i64 (n : Int)), Fact.is (.bool true), Fact.is (.bool true), Fact.is (.func (.func 34) #[.pointer (some ⟨s, 0, none⟩)] #[]), Fact.is (.slice (some ⟨gr, go, none⟩) n rc), Fact.is (.int .i64 (hi : Int)), Fact.is (.pointer (some ⟨gr, go + hi, none⟩)), Fact.is (.int .i64 (pl : Int)), Fact.is (.agg #[.int .i64 yk, .int .i64 yn, .string ys0, .slice ba bn bc, .slice fa fn fc, .slice la ln lc]), Fact.is (.int .i64 cq), Fact.is (.bool true), Fact.is (.bool true), Fact.is (.int .i64 (hi : Int)), Fact.is (.bool true)] (by kernel_rfl) (by kernel_rfl) (by kernel_rfl) (fun V => by kernel_rfl) ?_ ?_
    ·refine ⟨?_, ?_⟩
     ·refine fact_free rfl (fun V w5 hB hF K hK => ?_)
      go_simp
      exact put_is (by kernel_rfl) (hK.out (.int .i64 (hi : Int)) w5 (Below.refl _ _) rfl)
     refine ⟨?_, ?_⟩
     ·refine fact_free rfl (fun V w5 hB hF K hK => ?_)
      go_simp
      exact put_is (by kernel_rfl) (hK.out (.int .i64 (hi : Int)) w5 (Below.refl _ _) rfl)
     refine ⟨?_, ?_⟩
     ·refine fact_free rfl (fun V w5 hB hF K hK => ?_)
      go_simp
      exact put_is (by kernel_rfl) (hK.out (.int .i64 (n : Int)) w5 (Below.refl _ _) rfl)
     refine ⟨?_, ?_⟩
     ·refine fact_free rfl (fun V w5 hB hF K hK => ?_)
      have h1 : V 1 = .int .i64 (hi : Int) := hF.out 1 (by kernel_rfl)
      have h2 : V 2 = .int .i64 (n : Int) := hF.out 2 (by kernel_rfl)
      go_simp
      exact put_is (by rw [h1, h2]; kernel_rfl) (hK.out (.bool true) w5 (Below.refl _ _) rfl)
     refine ⟨?_, ?_⟩
     ·refine fact_free rfl (fun V w5 hB hF K hK => ?_)
      have h3 : V 3 = .bool true := hF.out 3 (by kernel_rfl)
      go_simp
      exact put_is (by rw [h3]; kernel_rfl) (hK.out (.bool true) w5 (Below.refl _ _) rfl)
     refine ⟨?_, ?_⟩
     ·refine fact_on 4 true rfl (by kernel_rfl) (fun V => by kernel_rfl) (fun v w h => h) (fun V w5 hB hF K hK => ?_)
      go_simp
      exact put_is (by kernel_rfl) (hK.out (.func (.func 34) #[.pointer (some ⟨s, 0, none⟩)] #[]) w5 (Below.refl _ _) rfl)
     refine ⟨?_, ?_⟩
     ·refine fact_on 4 true rfl (by kernel_rfl) (fun V => by kernel_rfl) (fun v w h => h) (fun V w5 hB hF K hK => ?_)
      go_simp
      exact put_is (by kernel_rfl) (hK.out (.slice (some ⟨gr, go, none⟩) n rc) w5 (Below.refl _ _) rfl)
     refine ⟨?_, ?_⟩
     ·refine fact_on 4 true rfl (by kernel_rfl) (fun V => by kernel_rfl) (fun v w h => h) (fun V w5 hB hF K hK => ?_)
      go_simp
      exact put_is (by kernel_rfl) (hK.out (.int .i64 (hi : Int)) w5 (Below.refl _ _) rfl)
     refine ⟨?_, ?_⟩
     ·refine fact_on 4 true rfl (by kernel_rfl) (fun V => by kernel_rfl) (fun v w h => h) (fun V w5 hB hF K hK => ?_)
      have h6 : V 6 = .slice (some ⟨gr, go, none⟩) n rc := hF.out 6 (by kernel_rfl)
      have h7 : V 7 = .int .i64 (hi : Int) := hF.out 7 (by kernel_rfl)
      go_simp
      exact put_is (by rw [h6, h7]; kernel_rfl) (hK.out (.pointer (some ⟨gr, go + hi, none⟩)) w5 (Below.refl _ _) rfl)
     refine ⟨?_, ?_⟩
     ·refine fact_on 4 true rfl (by kernel_rfl) (fun V => by kernel_rfl) (fun v w h => h) (fun V w5 hB hF K hK => ?_)
      have h8 : V 8 = .pointer (some ⟨gr, go + hi, none⟩) := hF.out 8 (by kernel_rfl)
      have hcq := cell_keep (HB1.out.trans (HB.out.trans (hB.mono HB.out.size) |>.mono HB1.out.size)) HCELL.out
      go_simp
      exact put_is (by rw [h8]; kernel_rfl) (hK.out (.int .i64 (pl : Int)) w5 (Below.refl _ _) rfl)
     refine ⟨?_, ?_⟩
     ·refine fact_on 4 true rfl (by kernel_rfl) (fun V => by kernel_rfl) (fun v w h => h) (fun V w5 hB hF K hK => ?_)
      obtain ⟨b0, b1, b2, b3, b4, b5⟩ := (HX1.out.keep (HB.out.trans (hB.mono HB.out.size))).cells
      go_simp
      exact put_is (by kernel_rfl) (hK.out (.agg #[.int .i64 yk, .int .i64 yn, .string ys0, .slice ba bn bc, .slice fa fn fc, .slice la ln lc]) w5 (Below.refl _ _) rfl)
     refine ⟨?_, ?_⟩
     ·refine fact_on 4 true rfl (by kernel_rfl) (fun V => by kernel_rfl) (fun v w h => h) (fun V w5 hB hF K hK => ?_)
      have h5 : V 5 = .func (.func 34) #[.pointer (some ⟨s, 0, none⟩)] #[] := hF.out 5 (by kernel_rfl)
      have h9 : V 9 = .int .i64 (pl : Int) := hF.out 9 (by kernel_rfl)
      have h10 : V 10 = .agg #[.int .i64 yk, .int .i64 yn, .string ys0, .slice ba bn bc, .slice fa fn fc, .slice la ln lc] := hF.out 10 (by kernel_rfl)
      go_simp
      refine (CQ.out w5 (HB1.out.trans (HB.out.trans (hB.mono HB.out.size) |>.mono HB1.out.size))).mono ?_
      rintro e w6 ⟨rfl, hb6⟩
      exact put_is (by rw [h5, h9, h10]; kernel_rfl) (hK.out (.int .i64 cq) w6 hb6 rfl)
     refine ⟨?_, ?_⟩
     ·refine fact_on 4 true rfl (by kernel_rfl) (fun V => by kernel_rfl) (fun v w h => h) (fun V w5 hB hF K hK => ?_)
      have h11 : V 11 = .int .i64 cq := hF.out 11 (by kernel_rfl)
      go_simp
      exact put_is (by rw [h11]; kernel_rfl) (hK.out (.bool true) w5 (Below.refl _ _) rfl)
     refine ⟨?_, ?_⟩
     ·refine fact_free rfl (fun V w5 hB hF K hK => ?_)
      have h4 : V 4 = .bool true := hF.out 4 (by kernel_rfl)
      have h12 : V 12 = .bool true := hF.out 12 (by kernel_rfl)
      go_simp
      exact put_is (by rw [h4, h12]; kernel_rfl) (hK.out (.bool true) w5 (Below.refl _ _) rfl)
     refine ⟨?_, ?_⟩
     ·refine fact_free rfl (fun V w5 hB hF K hK => ?_)
      have h0 : V 0 = .int .i64 (hi : Int) := hF.out 0 (by kernel_rfl)
      go_simp
      exact put_is (by rw [h0]; kernel_rfl) (hK.out (.int .i64 (hi : Int)) w5 (Below.refl _ _) rfl)
     refine ⟨?_, ?_⟩
     ·refine fact_free rfl (fun V w5 hB hF K hK => ?_)
      have h13 : V 13 = .bool true := hF.out 13 (by kernel_rfl)
      go_simp
      exact put_is (by rw [h13]; kernel_rfl) (hK.out (.bool true) w5 (Below.refl _ _) rfl)
     trivial
    intro V w2 hB hF
    have h14 : V 14 = .int .i64 (hi : Int) := hF 14 (by decide)
    have h15 : V 15 = .bool true := hF 15 (by decide)
    rw [h14, h15]
    have HB5 := Lib.hid (HB1.out.trans (HB.out.trans (hB.mono HB.out.size) |>.mono HB1.out.size))
    clear hB hF h14 h15
    go_wp2_with fail
    go_ret2
    refine ⟨?_, HB5.out⟩
    have hyx := HYX.out
    rw [HPOS.out, ← HCQ.out]
    simp [hn2, hyx]
   ·skip
    have ec : ((cq : Int) == 0) = false := by rw [beq_eq_false_iff_ne]; exact hyx
    have HYX := Lib.hid hyx
    clear hyx
    go_upto_region 8 with fail
    refine wp_region_facts (fun V => { tmps := #[Value.slice (some ⟨gr, go, none⟩) n rc, Value.agg #[Value.int .i64 yk, Value.int .i64 yn, Value.string ys0, Value.slice ba bn bc, Value.slice fa fn fc, Value.slice la ln lc], Value.func (Fn.func 34) #[Value.pointer (some ⟨s, 0, none⟩)] #[], undef, Value.pointer (some ⟨w.heap.size, 0, none⟩), undef, V 14, V 15, Value.int .i64 (n : Int), Value.int .i64 (hi : Int), Value.int .i64 (hi : Int), u11, Value.slice (some ⟨gr, go, none⟩) n rc, Value.int .i64 (n : Int), Value.int .i64 (n : Int), Value.int .i64 (hi : Int), Value.int .i64 (hi : Int), Value.bool false, u18, u19, u20, u21, u22, u23, u24, u25, u26, u27, u28, u29, u30, u31, u32, u33, u34, V 0, V 1, V 2, V 3, V 4, V 5, V 6, V 7, V 8, V 9, V 10, V 11, V 12, V 13], defers := [] }) [Fact.is (.int .i64 (hi : Int)), Fact.is (.int .i64 (hi : Int)), Fact.is (.int .i64 (n : Int)), Fact.is (.bool true), Fact.is (.bool true), Fact.is (.func (.func 34) #[.pointer (some ⟨s, 0, none⟩)] #[]), Fact.is (.slice (some ⟨gr, go, none⟩) n rc), Fact.is (.int .i64 (hi : Int)), Fact.is (.pointer (some ⟨gr, go + hi, none⟩)), Fact.is (.int .i64 (pl : Int)), Fact.is (.agg #[.int .i64 yk, .int .i64 yn, .string ys0, .slice ba bn bc, .slice fa fn fc, .slice la ln lc]), Fact.is (.int .i64 cq), Fact.is (.bool false), Fact.is (.bool false), Fact.is (.int .i64 (hi : Int)), Fact.is (.bool false)] (by kernel_rfl) (by kernel_rfl) (by kernel_rfl) (fun V => by kernel_rfl) ?_ ?_
    ·refine ⟨?_, ?_⟩
     ·refine fact_free rfl (fun V w5 hB hF K hK => ?_)
      go_simp
      exact put_is (by kernel_rfl) (hK.out (.int .i64 (hi : Int)) w5 (Below.refl _ _) rfl)
     refine ⟨?_, ?_⟩
     ·refine fact_free rfl (fun V w5 hB hF K hK => ?_)
      go_simp
      exact put_is (by kernel_rfl) (hK.out (.int .i64 (hi : Int)) w5 (Below.refl _ _) rfl)
     refine ⟨?_, ?_⟩
     ·refine fact_free rfl (fun V w5 hB hF K hK => ?_)
      go_simp
      exact put_is (by kernel_rfl) (hK.out (.int .i64 (n : Int)) w5 (Below.refl _ _) rfl)
     refine ⟨?_, ?_⟩
     ·refine fact_free rfl (fun V w5 hB hF K hK => ?_)
      have h1 : V 1 = .int .i64 (hi : Int) := hF.out 1 (by kernel_rfl)
      have h2 : V 2 = .int .i64 (n : Int) := hF.out 2 (by kernel_rfl)
      go_simp
      exact put_is (by rw [h1, h2]; kernel_rfl) (hK.out (.bool true) w5 (Below.refl _ _) rfl)
     refine ⟨?_, ?_⟩
     ·refine fact_free rfl (fun V w5 hB hF K hK => ?_)
      have h3 : V 3 = .bool true := hF.out 3 (by kernel_rfl)
      go_simp
      exact put_is (by rw [h3]; kernel_rfl) (hK.out (.bool true) w5 (Below.refl _ _) rfl)
     refine ⟨?_, ?_⟩
     ·refine fact_on 4 true rfl (by kernel_rfl) (fun V => by kernel_rfl) (fun v w h => h) (fun V w5 hB hF K hK => ?_)
      go_simp
      exact put_is (by kernel_rfl) (hK.out (.func (.func 34) #[.pointer (some ⟨s, 0, none⟩)] #[]) w5 (Below.refl _ _) rfl)
     refine ⟨?_, ?_⟩
     ·refine fact_on 4 true rfl (by kernel_rfl) (fun V => by kernel_rfl) (fun v w h => h) (fun V w5 hB hF K hK => ?_)
      go_simp
      exact put_is (by kernel_rfl) (hK.out (.slice (some ⟨gr, go, none⟩) n rc) w5 (Below.refl _ _) rfl)
     refine ⟨?_, ?_⟩
     ·refine fact_on 4 true rfl (by kernel_rfl) (fun V => by kernel_rfl) (fun v w h => h) (fun V w5 hB hF K hK => ?_)
      go_simp
      exact put_is (by kernel_rfl) (hK.out (.int .i64 (hi : Int)) w5 (Below.refl _ _) rfl)
     refine ⟨?_, ?_⟩
     ·refine fact_on 4 true rfl (by kernel_rfl) (fun V => by kernel_rfl) (fun v w h => h) (fun V w5 hB hF K hK => ?_)
      have h6 : V 6 = .slice (some ⟨gr, go, none⟩) n rc := hF.out 6 (by kernel_rfl)
      have h7 : V 7 = .int .i64 (hi : Int) := hF.out 7 (by kernel_rfl)
      go_simp
      exact put_is (by rw [h6, h7]; kernel_rfl) (hK.out (.pointer (some ⟨gr, go + hi, none⟩)) w5 (Below.refl _ _) rfl)
     refine ⟨?_, ?_⟩
     ·refine fact_on 4 true rfl (by kernel_rfl) (fun V => by kernel_rfl) (fun v w h => h) (fun V w5 hB hF K hK => ?_)
      have h8 : V 8 = .pointer (some ⟨gr, go + hi, none⟩) := hF.out 8 (by kernel_rfl)
      have hcq := cell_keep (HB1.out.trans (HB.out.trans (hB.mono HB.out.size) |>.mono HB1.out.size)) HCELL.out
      go_simp
      exact put_is (by rw [h8]; kernel_rfl) (hK.out (.int .i64 (pl : Int)) w5 (Below.refl _ _) rfl)
     refine ⟨?_, ?_⟩
     ·refine fact_on 4 true rfl (by kernel_rfl) (fun V => by kernel_rfl) (fun v w h => h) (fun V w5 hB hF K hK => ?_)
      obtain ⟨b0, b1, b2, b3, b4, b5⟩ := (HX1.out.keep (HB.out.trans (hB.mono HB.out.size))).cells
      go_simp
      exact put_is (by kernel_rfl) (hK.out (.agg #[.int .i64 yk, .int .i64 yn, .string ys0, .slice ba bn bc, .slice fa fn fc, .slice la ln lc]) w5 (Below.refl _ _) rfl)
     refine ⟨?_, ?_⟩
     ·refine fact_on 4 true rfl (by kernel_rfl) (fun V => by kernel_rfl) (fun v w h => h) (fun V w5 hB hF K hK => ?_)
      have h5 : V 5 = .func (.func 34) #[.pointer (some ⟨s, 0, none⟩)] #[] := hF.out 5 (by kernel_rfl)
      have h9 : V 9 = .int .i64 (pl : Int) := hF.out 9 (by kernel_rfl)
      have h10 : V 10 = .agg #[.int .i64 yk, .int .i64 yn, .string ys0, .slice ba bn bc, .slice fa fn fc, .slice la ln lc] := hF.out 10 (by kernel_rfl)
      go_simp
      refine (CQ.out w5 (HB1.out.trans (HB.out.trans (hB.mono HB.out.size) |>.mono HB1.out.size))).mono ?_
      rintro e w6 ⟨rfl, hb6⟩
      exact put_is (by rw [h5, h9, h10]; kernel_rfl) (hK.out (.int .i64 cq) w6 hb6 rfl)
     refine ⟨?_, ?_⟩
     ·refine fact_on 4 true rfl (by kernel_rfl) (fun V => by kernel_rfl) (fun v w h => h) (fun V w5 hB hF K hK => ?_)
      have h11 : V 11 = .int .i64 cq := hF.out 11 (by kernel_rfl)
      go_simp
      exact put_is (by rw [h11]; kernel_rfl) (hK.out (.bool false) w5 (Below.refl _ _) rfl)
     refine ⟨?_, ?_⟩
     ·refine fact_free rfl (fun V w5 hB hF K hK => ?_)
      have h4 : V 4 = .bool true := hF.out 4 (by kernel_rfl)
      have h12 : V 12 = .bool false := hF.out 12 (by kernel_rfl)
      go_simp
      exact put_is (by rw [h4, h12]; kernel_rfl) (hK.out (.bool false) w5 (Below.refl _ _) rfl)
     refine ⟨?_, ?_⟩
     ·refine fact_free rfl (fun V w5 hB hF K hK => ?_)
      have h0 : V 0 = .int .i64 (hi : Int) := hF.out 0 (by kernel_rfl)
      go_simp
      exact put_is (by rw [h0]; kernel_rfl) (hK.out (.int .i64 (hi : Int)) w5 (Below.refl _ _) rfl)
     refine ⟨?_, ?_⟩
     ·refine fact_free rfl (fun V w5 hB hF K hK => ?_)
      have h13 : V 13 = .bool false := hF.out 13 (by kernel_rfl)
      go_simp
      exact put_is (by rw [h13]; kernel_rfl) (hK.out (.bool false) w5 (Below.refl _ _) rfl)
     trivial
    intro V w2 hB hF
    have h14 : V 14 = .int .i64 (hi : Int) := hF 14 (by decide)
    have h15 : V 15 = .bool false := hF 15 (by decide)
    rw [h14, h15]
    have HB5 := Lib.hid (HB1.out.trans (HB.out.trans (hB.mono HB.out.size) |>.mono HB1.out.size))
    clear hB hF h14 h15
    go_wp2_with fail
    go_ret2
    refine ⟨?_, HB5.out⟩
    have hyx := HYX.out
    rw [HPOS.out, ← HCQ.out]
    simp [hn2, hyx]
  obtain rfl : hi = n := by omega
  go_upto_region 8 with fail
  go_quiet (fail)
  go_wp2_with fail
  go_ret2
  refine ⟨by rw [HPOS.out]; simp, ?_⟩
  exact bel_drewN (HB1.out.trans (HB.out.mono HB1.out.size)) _
end Acc
namespace Acc
def cF (H : Nat) (ys : List Val) (rs : List Nat) (y : Val) (i : Nat) : Int := Order.cmp (H + 1) (ys.getD (rs.getD i 0) Bson.zero) y
structure SetAt (w : World) (s base H : Nat) (m lv rv : Value) (wt : Int) (ys : List Val) (xs : List Value) (rs : List Nat) : Prop where
 row : w.heap[s]? = some (.cells #[m, .int .i64 7, .int .i64 0, .string ⟨#[]⟩, .slice none 0 0, .slice none 0 0, lv, .int .i64 wt, rv] 41 (0, 0))
 acc : Acc w base lv (fun g => g ≠ s ∧ rv.ownBlock ≠ some g) (H + 1) ys xs
 rise : w.ownsRow base 3 1 rv ys.length (cellsOf rs)
 apart : ∀ g, lv.ownBlock = some g → rv.ownBlock ≠ some g
theorem SetAt.keep {w w' : World} {s base H : Nat} {m lv rv : Value} {wt : Int} {ys : List Val} {xs : List Value} {rs : List Nat} (h : SetAt w s base H m lv rv wt ys xs rs) (hb : Below w.heap.size w w') : SetAt w' s base H m lv rv wt ys xs rs :=
 ⟨(hb.block s (Array.getElem?_eq_some_iff.1 h.row).1).trans h.row, h.acc.keep hb, owns_below h.rise hb, h.apart⟩
def OwnOf (s : Nat) (lv rv : Value) (g : Nat) : Prop := g = s ∨ lv.ownBlock = some g ∨ rv.ownBlock = some g
def SetMore (w : World) (s base H : Nat) (m lv rv : Value) (wt : Int) (ys : List Val) (rs : List Nat) (at_ : Nat) (y : Val) (w' : World) : Prop := ∃ lv' rv' xs', SetAt w' s base H m lv' rv' wt (ys ++ [y]) xs' (insAt rs at_ ys.length) ∧ RM (OwnOf s lv rv) w w' ∧
 (lv'.ownBlock = lv.ownBlock ∨ ∃ g, lv'.ownBlock = some g ∧ w.heap.size ≤ g) ∧ (rv'.ownBlock = rv.ownBlock ∨ ∃ g, rv'.ownBlock = some g ∧ w.heap.size ≤ g)
def foundB (H : Nat) (ys : List Val) (rs : List Nat) (y : Val) (n : Nat) : Bool := decide (bpos (cF H ys rs y) n < n) && decide (cF H ys rs y (bpos (cF H ys rs y) n) = 0)
def SetPost (w : World) (s base H : Nat) (m lv rv : Value) (wt : Int) (ys : List Val) (rs : List Nat) (y : Val) (fb : Bool) (at_ : Nat) (gv : Int) (e : Ending) (w' : World) : Prop :=
 if fb = true ∨ y.kind = 0 then e = .returned (.int .i64 0) ∧ Below w.heap.size w w'
 else if gv = 0 ∨ 65536 < 7 + wt + gv then e = .returned (.int .i64 3) ∧ Below w.heap.size w w'
 else e = .returned (.int .i64 0) ∧ SetMore w s base H m lv rv (wt + gv) ys rs at_ y w' 
theorem set_any (B s base : Nat) (H : Nat) (ys : List Val) (xs : List Value) (rs : List Nat) (lv m rv : Value) (wt : Int) (y : Val) (v : Value) (Qy : Nat → Prop) (w : World) (hB : B ≤ s) (hsb : s < base) (hbase : base ≤ w.heap.size) (hS : SetAt w s base H m lv rv wt ys xs rs) (hv : VIn w Qy (H + 1) y v) (hT : TabsAt B w) (hlen : ys.length ≤ 60000) (hw0 : 0 ≤ wt) (hw1 : wt ≤ 70000) (hrs : ∀ x ∈ rs, x < ys.length) (hmono : ∀ a b, a ≤ b → b < ys.length → cF H ys rs y b < 0 → cF H ys rs y a < 0) :
  Calls Tryd.prog 21 #[.pointer (some ⟨s, 0, none⟩), v] w (SetPost w s base H m lv rv wt ys rs y (foundB H ys rs y ys.length) (bpos (cF H ys rs y) ys.length) (growV y ys.length)) := by
 have hrow := hS.row
 have hlt : s < w.heap.size := (Array.getElem?_eq_some_iff.1 hrow).1
 obtain ⟨yk, yn, ys0, ba, fa, la, bn, bc, fn, fc, ln, lc, rfl, hyk, -⟩ := hv.letters
 obtain ⟨n, hn⟩ : ∃ n, n = ys.length := ⟨_, rfl⟩
 have hrl : rs.length = n := by have := hS.rise.1; rw [cellsOf_len] at this; omega
 obtain ⟨ra, rc, hrv⟩ : ∃ a c, rv = .slice a n c := by
  obtain ⟨-, ⟨rfl, h0⟩ | ⟨g, cap, cur, rfl, -⟩⟩ := hS.rise
  ·exact ⟨none, 0, by rw [hn, h0]⟩
  ·exact ⟨_, _, by rw [hn]⟩
 obtain ⟨lo_, lc_, hlv, -, hItems⟩ := hS.acc.items (Q' := fun _ => True) (fun _ _ => trivial) (fun _ _ _ => trivial)
 rw [← hn] at hlv
 have hRC : rs = [] ∨ ∃ g o, ra = some ⟨g, o, none⟩ ∧ ∀ i (hi : i < rs.length), w.cell? ⟨g, o + i, none⟩ = some (.int .i64 (rs[i] : Int)) := by
  obtain ⟨-, ⟨e1, h0⟩ | ⟨g, cap, cur, e1, -, hr, -, -, -, ht⟩⟩ := hS.rise
  ·exact .inl (List.eq_nil_of_length_eq_zero (by omega))
  ·refine .inr ⟨g, 0, ?_, fun i hi => ?_⟩
   ·rw [hrv] at e1
    injection e1
   ·rw [Nat.zero_add, cell_of_row w g i _ _ _ hr, ← Array.getElem?_toList]
    have h1 : (cur.toList.take (ys.length * 1))[i]? = (cellsOf rs)[i]? := by rw [ht]
    rw [List.getElem?_take_of_lt (by omega)] at h1
    rw [h1]
    unfold cellsOf
    rw [List.getElem?_map, List.getElem?_eq_getElem hi]; rfl
 obtain ⟨W1, hW1⟩ : ∃ W, W = w.alloc (.cells #[.int .i64 yk, .int .i64 yn, .string ys0, .slice ba bn bc, .slice fa fn fc, .slice la ln lc] 32) := ⟨_, rfl⟩
 have hb1 : Below w.heap.size w W1 := by rw [hW1]; exact (Below.refl _ _).alloc (Nat.le_refl _) _
 have hx1 : IsBox W1 w.heap.size (.int .i64 yk) (.int .i64 yn) (.string ys0) (.slice ba bn bc) (.slice fa fn fc) (.slice la ln lc) := by rw [hW1]; exact IsBox.new w (.int .i64 yk) (.int .i64 yn) (.string ys0) (.slice ba bn bc) (.slice fa fn fc) (.slice la ln lc)
 obtain ⟨at_, hat⟩ : ∃ a, a = bpos (cF H ys rs y) n := ⟨_, rfl⟩
 obtain ⟨fb, hfb⟩ : ∃ b, b = foundB H ys rs y n := ⟨_, rfl⟩
 have hatn : at_ ≤ n := by rw [hat]; exact bpos_le _ n
 have CB : Hid (∀ W, Below w.heap.size w W → Calls Tryd.prog 33 #[.slice ra n rc, .agg #[.int .i64 yk, .int .i64 yn, .string ys0, .slice ba bn bc, .slice fa fn fc, .slice la ln lc], .func (.func 34) #[.pointer (some ⟨s, 0, none⟩)] #[]] W fun e w' => e = .returned (.tuple #[.int .i64 (at_ : Int), .bool fb]) ∧ Below W.heap.size W w') := fun W hW => by
  rw [hat, hfb]
  refine bsearch_any s n rc ra rs (cF H ys rs y) _ W ⟨_, _, _, _, _, _, _, _, _, _, _, _, rfl⟩ hrl (by omega) (hRC.imp id (fun ⟨g, o, e, h⟩ => ⟨g, o, e, fun i hi => cell_keep hW (h i hi)⟩)) (fun W2 hW2 i hi => ?_) (by rw [hn]; exact hmono)
  have hki : rs[i] < ys.length := hrs _ (List.getElem_mem hi)
  have hb2 : Below w.heap.size w W2 := hW.trans (hW2.mono hW.size)
  have hc : cF H ys rs y i = Order.cmp (H + 1) (ys[rs[i]]) y := by unfold cF; rw [List.getD_eq_getElem?_getD, List.getD_eq_getElem?_getD, List.getElem?_eq_getElem hi]; show Order.cmp _ (ys[rs[i]]?.getD _) _ = _; rw [List.getElem?_eq_getElem hki]; rfl
  rw [hc]
  exact compareItem_any s n lc_ lo_ H rs[i] ys m _ _ _ _ _ _ rv y _ (fun _ => True) Qy W2 hki hn (by rw [← hlv]; exact (hb2.block s hlt).trans hrow) (hItems.kept (Kept.of_below hb2) (fun _ z => z) (fun _ _ z => VIn.keep hb2 z)) (VIn.keep hb2 hv)
 obtain ⟨gv, hgv⟩ : ∃ g, g = growV y n := ⟨_, rfl⟩
 have hgb := grow_bound y n (by omega)
 rw [← hgv] at hgb
 have CP : Hid (∀ W, Below w.heap.size w W → Calls Tryd.prog 19 #[.pointer (some ⟨s, 0, none⟩), .agg #[.int .i64 yk, .int .i64 yn, .string ys0, .slice ba bn bc, .slice fa fn fc, .slice la ln lc]] W (PushPost W (fun g => rv.ownBlock ≠ some g) s base H ys lv m rv wt y)) := fun W hW => push_any B s base H ys xs lv m rv wt y _ Qy (fun g => rv.ownBlock ≠ some g) W hB hsb (Nat.le_trans hbase hW.size) ((hW.block s hlt).trans hrow) (hS.acc.keep hW) (fun g hg e => by have := (owns_block hS.rise e).2; have := hW.size; omega) (VIn.keep hW hv) (hT.mono (hW.mono hT.1)) hlen hw0 hw1
 unfold PushPost at CP
 rw [← hyk, ← hn, ← hgv] at CP
 show Calls _ _ _ _ (SetPost w s base H m lv rv wt ys rs y (foundB H ys rs y ys.length) (bpos (cF H ys rs y) ys.length) (growV y ys.length))
 rw [← hn, ← hat, ← hfb, ← hgv]
 have HYK := Lib.hid hyk
 have HW1 := Lib.hid hW1; have HB1 := Lib.hid hb1; have HX1 := Lib.hid hx1; have HROW := Lib.hid hrow; have HS := Lib.hid hS; have HV := Lib.hid hv; have HN := Lib.hid hn; have HRV := Lib.hid hrv; have HLV := Lib.hid hlv; have HRL := Lib.hid hrl; have HGB := Lib.hid hgb; have HATN := Lib.hid hatn; have HLEN := Lib.hid hlen
 clear hW1 hb1 hx1 hrow hS hv hn hrv hlv hrl hgb hT hItems hRC hat hfb hgv hrs hmono hyk hatn hlen
 obtain ⟨PP, hPP⟩ : ∃ P, P = SetPost w s base H m lv rv wt ys rs y fb at_ gv := ⟨_, rfl⟩
 rw [← hPP]
 have HPP := Lib.hid hPP
 clear hPP
 go_enter Tryd.func21, Tryd.ntmps21
 go_upto_region 1 with fail
 rw [← HW1.out]
 refine wp_region_facts (fun V => { tmps := #[.pointer (some ⟨s, 0, none⟩), .agg #[.int .i64 yk, .int .i64 yn, .string ys0, .slice ba bn bc, .slice fa fn fc, .slice la ln lc], undef, .pointer (some ⟨w.heap.size, 0, none⟩), .int .i64 0, V 11, V 12, undef, undef, V 8, V 0, V 1, V 2, V 3, V 4, V 5, V 6, V 7, V 9, V 10, undef, undef, undef, undef, undef, undef, undef, undef, undef, undef, undef, undef, undef, undef, undef, undef, undef, undef, undef, undef, undef, undef, undef, undef, undef, undef, undef, undef, undef], defers := [] }) [Fact.is (.pointer (some ⟨s, 0, none⟩)), Fact.is (.pointer (some ⟨s, 0, none⟩)), Fact.is (.pointer (some ⟨s, 8, none⟩)), Fact.is (.slice ra n rc), Fact.is (.agg #[.int .i64 yk, .int .i64 yn, .string ys0, .slice ba bn bc, .slice fa fn fc, .slice la ln lc]), Fact.is (.pointer (some ⟨s, 0, none⟩)), Fact.is (.func (.func 34) #[.pointer (some ⟨s, 0, none⟩)] #[]), Fact.is (.tuple #[.int .i64 (at_ : Int), .bool fb]), Fact.is (.tuple #[.int .i64 (at_ : Int), .bool fb]), Fact.is (.int .i64 (at_ : Int)), Fact.is (.bool fb), Fact.is (.int .i64 (at_ : Int)), Fact.is (.bool fb)] (by kernel_rfl) (by kernel_rfl) (by kernel_rfl) (fun V => by kernel_rfl) ?_ ?_
 ·refine ⟨?_, ?_⟩
  ·refine fact_free rfl (fun V w5 hB hF K hK => ?_)
   go_simp
   exact put_is (by kernel_rfl) (hK.out (.pointer (some ⟨s, 0, none⟩)) w5 (Below.refl _ _) rfl)
  refine ⟨?_, ?_⟩
  ·refine fact_free rfl (fun V w5 hB hF K hK => ?_)
   have h0 : V 0 = .pointer (some ⟨s, 0, none⟩) := hF.out 0 (by kernel_rfl)
   go_simp
   exact put_is (by rw [h0]; kernel_rfl) (hK.out (.pointer (some ⟨s, 0, none⟩)) w5 (Below.refl _ _) rfl)
  refine ⟨?_, ?_⟩
  ·refine fact_free rfl (fun V w5 hB hF K hK => ?_)
   have h1 : V 1 = .pointer (some ⟨s, 0, none⟩) := hF.out 1 (by kernel_rfl)
   go_simp
   exact put_is (by rw [h1]; kernel_rfl) (hK.out (.pointer (some ⟨s, 8, none⟩)) w5 (Below.refl _ _) rfl)
  refine ⟨?_, ?_⟩
  ·refine fact_free rfl (fun V w5 hB hF K hK => ?_)
   have h2 : V 2 = .pointer (some ⟨s, 8, none⟩) := hF.out 2 (by kernel_rfl)
   have c8 := (cell_of_row w5 _ 8 _ _ _ ((hB.block s (Nat.lt_of_lt_of_le hlt HB1.out.size)).trans ((HB1.out.block s hlt).trans HROW.out))).trans rfl
   rw [HRV.out] at c8
   go_simp
   exact put_is (by rw [h2]; kernel_rfl) (hK.out (.slice ra n rc) w5 (Below.refl _ _) rfl)
  refine ⟨?_, ?_⟩
  ·refine fact_free rfl (fun V w5 hB hF K hK => ?_)
   obtain ⟨b0, b1, b2, b3, b4, b5⟩ := (HX1.out.keep hB).cells
   go_simp
   exact put_is (by kernel_rfl) (hK.out (.agg #[.int .i64 yk, .int .i64 yn, .string ys0, .slice ba bn bc, .slice fa fn fc, .slice la ln lc]) w5 (Below.refl _ _) rfl)
  refine ⟨?_, ?_⟩
  ·refine fact_free rfl (fun V w5 hB hF K hK => ?_)
   go_simp
   exact put_is (by kernel_rfl) (hK.out (.pointer (some ⟨s, 0, none⟩)) w5 (Below.refl _ _) rfl)
  refine ⟨?_, ?_⟩
  ·refine fact_free rfl (fun V w5 hB hF K hK => ?_)
   have h5 : V 5 = .pointer (some ⟨s, 0, none⟩) := hF.out 5 (by kernel_rfl)
   go_simp
   exact put_is (by rw [h5]; kernel_rfl) (hK.out (.func (.func 34) #[.pointer (some ⟨s, 0, none⟩)] #[]) w5 (Below.refl _ _) rfl)
  refine ⟨?_, ?_⟩
  ·refine fact_free rfl (fun V w5 hB hF K hK => ?_)
   have h3 : V 3 = .slice ra n rc := hF.out 3 (by kernel_rfl)
   have h4 : V 4 = .agg #[.int .i64 yk, .int .i64 yn, .string ys0, .slice ba bn bc, .slice fa fn fc, .slice la ln lc] := hF.out 4 (by kernel_rfl)
   have h6 : V 6 = .func (.func 34) #[.pointer (some ⟨s, 0, none⟩)] #[] := hF.out 6 (by kernel_rfl)
   go_simp
   refine (CB.out w5 (HB1.out.trans (hB.mono HB1.out.size))).mono ?_
   rintro e w6 ⟨rfl, hb6⟩
   exact put_is (by rw [h3, h4, h6]; kernel_rfl) (hK.out (.tuple #[.int .i64 (at_ : Int), .bool fb]) w6 hb6 rfl)
  refine ⟨?_, ?_⟩
  ·refine fact_free rfl (fun V w5 hB hF K hK => ?_)
   have h7 : V 7 = .tuple #[.int .i64 (at_ : Int), .bool fb] := hF.out 7 (by kernel_rfl)
   go_simp
   exact put_is (by rw [h7]; kernel_rfl) (hK.out (.tuple #[.int .i64 (at_ : Int), .bool fb]) w5 (Below.refl _ _) rfl)
  refine ⟨?_, ?_⟩
  ·refine fact_free rfl (fun V w5 hB hF K hK => ?_)
   have h8 : V 8 = .tuple #[.int .i64 (at_ : Int), .bool fb] := hF.out 8 (by kernel_rfl)
   go_simp
   exact put_is (by rw [h8]; kernel_rfl) (hK.out (.int .i64 (at_ : Int)) w5 (Below.refl _ _) rfl)
  refine ⟨?_, ?_⟩
  ·refine fact_free rfl (fun V w5 hB hF K hK => ?_)
   have h8 : V 8 = .tuple #[.int .i64 (at_ : Int), .bool fb] := hF.out 8 (by kernel_rfl)
   go_simp
   exact put_is (by rw [h8]; kernel_rfl) (hK.out (.bool fb) w5 (Below.refl _ _) rfl)
  refine ⟨?_, ?_⟩
  ·refine fact_free rfl (fun V w5 hB hF K hK => ?_)
   have h9 : V 9 = .int .i64 (at_ : Int) := hF.out 9 (by kernel_rfl)
   go_simp
   exact put_is (by rw [h9]; kernel_rfl) (hK.out (.int .i64 (at_ : Int)) w5 (Below.refl _ _) rfl)
  refine ⟨?_, ?_⟩
  ·refine fact_free rfl (fun V w5 hB hF K hK => ?_)
   have h10 : V 10 = .bool fb := hF.out 10 (by kernel_rfl)
   go_simp
   exact put_is (by rw [h10]; kernel_rfl) (hK.out (.bool fb) w5 (Below.refl _ _) rfl)
  trivial
 intro V3 w2 hB hF
 have h11 : V3 11 = .int .i64 (at_ : Int) := hF 11 (by decide)
 have h12 : V3 12 = .bool fb := hF 12 (by decide)
 rw [h11, h12]
 have HB2 : Hid (Below w.heap.size w w2) := HB1.out.trans (hB.mono HB1.out.size)
 have HX2 := Lib.hid (HX1.out.keep hB)
 clear hB hF h11 h12 CB
 obtain ⟨b0, b1, b2, b3, b4, b5⟩ := HX2.out.cells
 cases fb with
 | true =>
  go_wp2_with fail
  rw [HPP.out]
  unfold SetPost
  rw [if_pos (.inl rfl)]
  exact ⟨rfl, HB2.out⟩
 | false =>
  by_cases y0 : yk = 0
  ·subst y0
   go_wp2_with fail
   rw [HPP.out]
   unfold SetPost
   rw [if_pos (.inr HYK.out.symm)]
   exact ⟨rfl, HB2.out⟩
  have ey0 : ((yk : Int) == 0) = false := by rw [beq_eq_false_iff_ne]; exact y0
  have HPQ : Hid (PP = fun (e : Ending) (w' : World) => if gv = 0 ∨ 65536 < 7 + wt + gv then e = .returned (.int .i64 3) ∧ Below w.heap.size w w' else e = .returned (.int .i64 0) ∧ SetMore w s base H m lv rv (wt + gv) ys rs at_ y w') := by
   rw [HPP.out]
   funext e w'
   unfold SetPost
   rw [if_neg (fun h => h.elim (fun e => by cases e) (fun e => y0 (HYK.out.trans e)))]
  have HY0 := Lib.hid y0
  clear y0 HPP
  have hr2 := (HB2.out.block s hlt).trans HROW.out
  have c6 := (cell_of_row w2 _ 6 _ _ _ hr2).trans rfl
  rw [HLV.out] at c6
  clear hr2
  have CP2 := Lib.hid (CP.out w2 HB2.out)
  clear CP
  go_upto_region 5 with fail
  clear c6
  go_wp2_with fail
  refine CP2.out.mono ?_
  rintro e w3 hp
  rw [if_neg HY0.out] at hp
  clear CP2
  by_cases hbad : gv = 0 ∨ 65536 < 7 + wt + gv
  ·rw [if_pos hbad] at hp
   obtain ⟨rfl, hb3⟩ := hp
   have HB3 := Lib.hid (HB2.out.trans (hb3.mono HB2.out.size))
   clear hb3
   go_wp2_with fail
   rw [HPQ.out]
   show (if _ then _ else _)
   rw [if_pos hbad]
   exact ⟨rfl, HB3.out⟩
  rw [if_neg hbad] at hp
  obtain ⟨rfl, lv3, xs3, hrow3, hacc3, hrm3, hlie3⟩ := hp
  have hrl3 : rv.ownBlock ≠ none → True := fun _ => trivial
  clear hrl3
  have hrise3 : w3.ownsRow base 3 1 rv n (cellsOf rs) := by
   have h1 := owns_below HS.out.rise HB2.out
   rw [← HN.out] at h1
   refine owns_same h1 (fun g hg => hrm3.block g (owns_block h1 hg).2 (fun e => ?_))
   rcases e with e | e
   ·have := (owns_block h1 hg).1; omega
   ·exact HS.out.apart g e hg
  have hsz3 : w.heap.size ≤ w3.heap.size := Nat.le_trans HB2.out.size hrm3.size
  have hrvl : ∀ g, rv.ownBlock = some g → base ≤ g ∧ g < w.heap.size := fun g hg => owns_block HS.out.rise hg
  have hapart3 : ∀ g, lv3.ownBlock = some g → rv.ownBlock ≠ some g := fun g h1 h2 => by
   rcases hlie3 with e | ⟨g3, e, h3⟩
   ·exact HS.out.apart g (e ▸ h1) h2
   ·rw [h1] at e; have := Option.some.inj e; have := (hrvl g h2).2; have := HB2.out.size; omega
  obtain ⟨W4, hW4⟩ : ∃ W, W = w3.alloc (.cells #[.int .i64 (n : Int)] 3) := ⟨_, rfl⟩
  obtain ⟨P4, hP4⟩ : ∃ P, P = w3.heap.size := ⟨_, rfl⟩
  have hb4 : Below w3.heap.size w3 W4 := by rw [hW4]; exact (Below.refl _ _).alloc (Nat.le_refl _) _
  have hr4 : W4.heap[P4]? = some (.cells #[.int .i64 (n : Int)] 3 (0, 0)) := by rw [hW4, hP4]; exact heap_alloc_new w3 _
  have CI := Lib.hid (insert_any base P4 n at_ n rv rs 3 W4 (owns_below hrise3 hb4) hr4 (fun e => by have := (hrvl P4 e).2; omega) HATN.out (by have := HLEN.out; have := HN.out; omega) (by have := hb4.size; omega))
  rw [HRV.out] at CI
  have c8 := (cell_of_row w3 _ 8 _ _ _ hrow3).trans rfl
  rw [HRV.out] at c8
  have HR3 := Lib.hid hrow3; have HA3 := Lib.hid hacc3; have HM3 := Lib.hid hrm3; have HL3 := Lib.hid hlie3; have HAP := Lib.hid hapart3; have HW4 := Lib.hid hW4; have HP4 := Lib.hid hP4; have HB4 := Lib.hid hb4; have HRVL := Lib.hid hrvl; have HSZ3 := Lib.hid hsz3
  clear hrow3 hacc3 hrm3 hlie3 hrise3 hapart3 hW4 hP4 hb4 hr4 hrvl hsz3 b0 b1 b2 b3 b4 b5
  go_wp2_with fail
  rw [← HW4.out, ← HP4.out]
  refine CI.out.mono ?_
  rintro e w5 ⟨rv5, rfl, hown5, hrm5, hlie5⟩
  rw [← HRV.out] at hrm5 hlie5
  have hs4 : W4.heap[s]? = w3.heap[s]? := HB4.out.block s (Array.getElem?_eq_some_iff.1 HR3.out).1
  have hns : rv.ownBlock ≠ some s := fun e => by have := (HRVL.out s e).1; omega
  have hr5 : w5.heap[s]? = some (.cells #[m, .int .i64 7, .int .i64 0, .string ⟨#[]⟩, .slice none 0 0, .slice none 0 0, lv3, .int .i64 (wt + gv), rv] 41 (0, 0)) := (hrm5.block s (by have := (Array.getElem?_eq_some_iff.1 HR3.out).1; have := HB4.out.size; omega) hns).trans (hs4.trans HR3.out)
  have c8 := (cell_of_row w5 _ 8 _ _ _ hr5).trans rfl
  have z8 := frozen_of_row w5 _ 8 _ _ hr5
  obtain ⟨ra5, rc5, hrv5⟩ : ∃ a c, rv5 = .slice a (n + 1) c := by
   obtain ⟨-, ⟨-, h0⟩ | ⟨g, cap, cur, e, -⟩⟩ := hown5
   ·omega
   ·exact ⟨_, _, e⟩
  have HR5 := Lib.hid hr5; have HO5 := Lib.hid hown5; have HM5 := Lib.hid hrm5; have HL5 := Lib.hid hlie5; have HRV5 := Lib.hid hrv5
  rw [hrv5]
  clear hs4 hr5 hown5 hrm5 hlie5 CI hrv5
  go_wp2_with fail
  rw [HPQ.out]
  show (if _ then _ else _)
  rw [if_neg hbad]
  rw [← HRV5.out]
  have hsz4 := HB4.out.size
  have hsz5 := HM5.out.size
  have hsz3 := HSZ3.out
  have hrw : RM (OwnOf s lv rv) w (puts w5 s 8 [rv5]) := RM.puts ((((RM.of_below HB2.out).trans HM3.out (G := fun g => g = s ∨ lv.ownBlock = some g) (F := OwnOf s lv rv) (fun k _ h => h.elim .inl (fun e => .inr (.inl e)))).trans (RM.of_below HB4.out) (fun k _ h => h)).trans HM5.out (fun k _ h => .inr (.inr h))) (.inl rfl) 8 _
  refine ⟨rfl, lv3, rv5, xs3, ⟨?_, ⟨?_, fun i hi => ?_⟩, ?_, ?_⟩, hrw, ?_, ?_⟩
  ·exact (heap_setCell_same w5 s 8 _ _ _ HR5.out).trans rfl
  ·refine owns_same HA3.out.own (fun g hg => ?_)
   have hgb := owns_block HA3.out.own hg
   exact (puts_other s g (by omega) [rv5] w5 8).trans ((HM5.out.block g (by omega) (fun e => HAP.out g hg e)).trans (HB4.out.block g hgb.2))
  ·obtain ⟨d0, d1, d2, d3, d4, d5, h0, h1, h2, h3, h4, h5, hd⟩ := HA3.out.at' i hi
   refine ⟨d0, d1, d2, d3, d4, d5, h0, h1, h2, h3, h4, h5, hd.lt.kept (fun g hg hl => (puts_other s g hg.1.1.1 [rv5] w5 8).trans ((HM5.out.block g (by omega) (fun e => hg.1.1.2 e)).trans (HB4.out.block g hl))) (fun g hg => ⟨⟨hg.1.1.1, fun e => ?_⟩, hg.1.2⟩)⟩
   rcases HL5.out with e5 | ⟨g5, e5, h6⟩
   ·exact hg.1.1.2 (e5 ▸ e)
   ·rw [e] at e5; have := Option.some.inj e5; have := hg.2; omega
  ·rw [List.length_append, List.length_singleton, ← HN.out]
   refine owns_same HO5.out (fun g hg => puts_other s g (fun e => ?_) [rv5] w5 8)
   have := (owns_block HO5.out hg).1; omega
  ·intro g h1 h2
   rcases HL5.out with e5 | ⟨g5, e5, h6⟩
   ·exact HAP.out g h1 (e5 ▸ h2)
   ·rw [h2] at e5; have := Option.some.inj e5; have := (owns_block HA3.out.own h1).2; omega
  ·rcases HL3.out with e | ⟨g, e, h⟩
   ·exact .inl e
   ·exact .inr ⟨g, e, by have := HB2.out.size; omega⟩
  ·rcases HL5.out with e | ⟨g, e, h⟩
   ·exact .inl e
   ·exact .inr ⟨g, e, by omega⟩
end Acc
end Go.Proofs.YtngllchoiffniaaDoor
end
