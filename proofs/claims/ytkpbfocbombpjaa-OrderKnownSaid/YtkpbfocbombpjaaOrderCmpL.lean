/- slices.CompareFunc of values and of fields, from Compare. -/
import Derived.Test.YtkpbfocbombpjaaOrderText
import Derived.Test.YtkpbfocbombpjaaValLets
import Derived.Test.YtkpbfocbombpjaaPathMem
namespace Go.Proofs.Ytkpbfocbombpjaa
open Go.RowKit
open Seal
open Bson (Val)
theorem VIn.kind_is {w : World} {Q : Nat → Prop} : ∀ {h : Nat} {x : Val} {k n : Int} {s : ByteArray} {ba fa la : Option Addr} {bn bc fn fc ln lc : Nat}, VIn w Q h x (.agg #[.int .i64 k, .int .i64 n, .string s, .slice ba bn bc, .slice fa fn fc, .slice la ln lc]) → k = x.kind
  | 0, _, _, _, _, _, _, _, _, _, _, _, _, _, hv => hv.elim
  | h + 1, x, k, n, s, ba, fa, la, bn, bc, fn, fc, ln, lc, hv => by
    obtain ⟨ba', fa', la', bc', fc', lc', e, _⟩ := hv
    unfold agg at e
    injection e with e; injection e with e; injection e with e; injection e with e _
theorem VIn.kind_bd {w : World} {Q : Nat → Prop} : ∀ {h : Nat} {x : Val} {k n : Int} {s : ByteArray} {ba fa la : Option Addr} {bn bc fn fc ln lc : Nat}, VIn w Q h x (.agg #[.int .i64 k, .int .i64 n, .string s, .slice ba bn bc, .slice fa fn fc, .slice la ln lc]) → -9223372036854775808 ≤ k ∧ k ≤ 9223372036854775807
  | 0, _, _, _, _, _, _, _, _, _, _, _, _, _, hv => hv.elim
  | h + 1, x, k, n, s, ba, fa, la, bn, bc, fn, fc, ln, lc, hv => by
    have e := hv.kind_is
    obtain ⟨_, _, _, _, _, _, _, hL, _⟩ := hv
    have h0 := hL.k0; have h1 := hL.k1
    omega
/-- A number, and nothing old has turned. -/
def CmpPost (n : Int) (w : World) (e : Ending) (w' : World) : Prop := e = .returned (.int .i64 n) ∧ Below w.heap.size w w'
def CmpAt (h : Nat) : Prop := ∀ (Q Q2 : Nat → Prop) (x y : Val) (u v : Value) (w : World), VIn w Q h x u → VIn w Q2 h y v → Calls Try.prog 6 #[u, v] w (CmpPost (Order.cmp h x y) w)
def LexGo {α : Type} (c : α → α → Int) (l m : List α) (k : Nat) : Prop := Order.lex c l m = Order.lex c (l.drop k) (m.drop k)
section
variable {α : Type} {c : α → α → Int} {l m : List α} {k n n2 : Nat}
theorem LexGo.next (h : LexGo c l m k) (ha : k < l.length) (hb : k < m.length) (e : c l[k] m[k] = 0) : LexGo c l m (k + 1) := by
  unfold LexGo at h ⊢; rw [h]; exact Order.lex_step ha hb e
theorem LexGo.here (h : LexGo c l m k) (ha : k < l.length) (hb : k < m.length) (e : ¬ c l[k] m[k] = 0) : Order.lex c l m = c l[k] m[k] := by
  unfold LexGo at h; rw [h]; exact Order.lex_here ha hb e
theorem LexGo.last (h : LexGo c l m k) (ha : k ≤ l.length) (hb : k ≤ m.length) (e : ¬ (k < l.length ∧ k < m.length)) : Order.lex c l m = Order.sgn (l.length : Int) (m.length : Int) := by
  unfold LexGo at h; rw [h]; exact Order.lex_end ha hb (by omega)
end
set_option maxRecDepth 100000 in
set_option maxHeartbeats 4000000 in
theorem cmpV_any (h : Nat) (IH0 : CmpAt h) (Q Q2 : Nat → Prop) (a b : Option Addr) (n c m d : Nat) (l l2 : List Val) (w : World) (hn : l.length = n) (hm : l2.length = m) (hnb : n ≤ 1353245080339) (hI : ItemsIn w Q (VIn w Q h) a l) (hJ : ItemsIn w Q2 (VIn w Q2 h) b l2) :
    Calls Try.prog 14 #[.slice a n c, .slice b m d, .func (.func 6) #[] #[]] w (CmpPost (Order.lex (Order.cmp h) l l2) w) := by
  have IH := Lib.hid IH0
  have HI := Lib.hid hI
  have HJ := Lib.hid hJ
  have HN := Lib.hid hn
  have HM := Lib.hid hm
  clear hI hJ IH0 hn hm
  go_enter Try.func14, Try.ntmps14
  go_wp2_with fail
  go_loopw [13] (fun i wr => ∃ k : Nat, i = .int .i64 k ∧ k ≤ n ∧ k ≤ m ∧ Hid (LexGo (Order.cmp h) l l2 k) ∧ Hid (Below w.heap.size w wr)) (fun i _ => n - (intOf i).toNat)
  case atStart => exact ⟨0, rfl, Nat.zero_le _, Nat.zero_le _, rfl, Below.refl _ _⟩
  case round =>
    obtain ⟨k, rfl, hk, hk2, HT, HB⟩ := hrel
    by_cases hlt : k < n
    · obtain ⟨g, o, hla, _, hall⟩ := HI.out.resolve_left (fun e => by have := HN.out; rw [e] at this; simp at this; omega)
      obtain ⟨v1, hsix, hV⟩ := hall k (by have := HN.out; omega)
      obtain rfl := hla
      obtain ⟨ka, na, sa, ba, fa, la, bl, bc, fl, fc, ll, lc, rfl⟩ := hV.shape
      have HV := Lib.hid (VIn.keep HB.out hV)
      obtain ⟨s0, s1, s2, s3, s4, s5⟩ := (hsix.keep HB.out).cells
      clear hall hsix hV
      by_cases hlt2 : k < m
      · obtain ⟨g2, o2, hlb, _, hall⟩ := HJ.out.resolve_left (fun e => by have := HM.out; rw [e] at this; simp at this; omega)
        obtain ⟨v2, hsix, hV2⟩ := hall k (by have := HM.out; omega)
        obtain rfl := hlb
        obtain ⟨kd, nd, sd, bd, fd, ld, bm, bz, fm, fz, lm, lz, rfl⟩ := hV2.shape
        have HV2 := Lib.hid (VIn.keep HB.out hV2)
        have hz := (hsix.keep HB.out).keep ((Below.refl _ wr).alloc (Nat.le_refl _) (.cells #[.int .i64 ka, .int .i64 na, .string sa, .slice ba bl bc, .slice fa fl fc, .slice la ll lc] 27))
        obtain ⟨z0, z1, z2, z3, z4, z5⟩ := hz.cells
        clear hall hsix hV2 hz
        have HB2 : Hid (Below wr.heap.size wr ((wr.alloc (.cells #[.int .i64 ka, .int .i64 na, .string sa, .slice ba bl bc, .slice fa fl fc, .slice la ll lc] 27)).alloc (.cells #[.int .i64 kd, .int .i64 nd, .string sd, .slice bd bm bz, .slice fd fm fz, .slice ld lm lz] 27))) := ((Below.refl _ wr).alloc (Nat.le_refl _) _).alloc (by simp) _
        have HVa := Lib.hid (VIn.keep HB2.out HV.out)
        have HVb := Lib.hid (VIn.keep HB2.out HV2.out)
        have HC := Lib.hid (IH.out _ _ _ _ _ _ _ HVa.out HVb.out)
        by_cases e : Order.cmp h (l[k]'(by have := HN.out; omega)) (l2[k]'(by have := HM.out; omega)) = 0
        · have HL := Lib.hid (HT.out.next (by have := HN.out; omega) (by have := HM.out; omega) e)
          have hb : (Order.cmp h (l[k]'(by have := HN.out; omega)) (l2[k]'(by have := HM.out; omega)) != 0) = false := by rw [e]; rfl
          clear e
          go_wp2_with fail
          refine HC.out.mono ?_
          rintro e w2 ⟨rfl, hb2⟩
          have HB3 : Hid (Below w.heap.size w w2) := HB.out.trans ((HB2.out.trans (hb2.mono HB2.out.size)).mono HB.out.size)
          clear hb2
          go_wp2_with fail
          go_roundw
          case rel => exact ⟨k + 1, by go_num, by omega, by omega, HL, HB3⟩
          case measure => simp [intOf]; omega
        · have HL := Lib.hid (HT.out.here (by have := HN.out; omega) (by have := HM.out; omega) e)
          have hb : (Order.cmp h (l[k]'(by have := HN.out; omega)) (l2[k]'(by have := HM.out; omega)) != 0) = true := by rw [bne_iff_ne]; exact e
          clear e
          go_wp2_with fail
          refine HC.out.mono ?_
          rintro e w2 ⟨rfl, hb2⟩
          have HB3 : Hid (Below w.heap.size w w2) := HB.out.trans ((HB2.out.trans (hb2.mono HB2.out.size)).mono HB.out.size)
          clear hb2
          go_wp2_with fail
          go_ret
          exact ⟨ret_i HL.out.symm, HB3.out⟩
      · have HL := Lib.hid (HT.out.last (by have := HN.out; omega) (by have := HM.out; omega) (by have := HM.out; omega))
        have HS := Lib.hid (show Order.sgn (l.length : Int) (l2.length : Int) = 1 from Order.sgn_gt (by have := HN.out; have := HM.out; omega))
        have HB2 : Hid (Below w.heap.size w (wr.alloc (.cells #[.int .i64 ka, .int .i64 na, .string sa, .slice ba bl bc, .slice fa fl fc, .slice la ll lc] 27))) := HB.out.alloc HB.out.size _
        go_wp2_with fail
        go_ret
        exact ⟨ret_i (HL.out.trans HS.out).symm, HB2.out⟩
    · have HL := Lib.hid (HT.out.last (by have := HN.out; omega) (by have := HM.out; omega) (by have := HN.out; omega))
      by_cases e : k < m
      · have HS := Lib.hid (show Order.sgn (l.length : Int) (l2.length : Int) = -1 from Order.sgn_lt (by have := HN.out; have := HM.out; omega))
        have hd : decide (n < m) = true := by rw [decide_eq_true_eq]; omega
        go_wp2_with fail
        go_ret
        exact ⟨ret_i (HL.out.trans HS.out).symm, HB.out⟩
      · have HS := Lib.hid (show Order.sgn (l.length : Int) (l2.length : Int) = 0 from Order.sgn_zero.2 (by have := HN.out; have := HM.out; omega))
        have hd : decide (n < m) = false := by rw [decide_eq_false_iff_not]; omega
        go_wp2_with fail
        go_ret
        exact ⟨ret_i (HL.out.trans HS.out).symm, HB.out⟩
end Go.Proofs.Ytkpbfocbombpjaa
