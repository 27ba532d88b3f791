/- OrderText, PathEachF, PathEachV, NumRkAny, OrderCmpL, NumRkSum, OrderCmpF. -/
import Derived.IntWalk
import Derived.WalkSpells
import Derived.Test.YtngllchoiffniaaDoorMk3
import Derived.Test.YtngllchoiffniaaDoorMk2
set_option maxRecDepth 100000
set_option maxHeartbeats 20000000
section
namespace Go.Proofs.YtngllchoiffniaaDoor
open Go.RowKit
open Seal
theorem bytes_len (s : ByteArray) : (Order.bytes s).length = s.size := by unfold Order.bytes; rw [List.length_map]; exact Array.length_toList
theorem bytes_at (s : ByteArray) (k : Nat) (h : k < s.size) : (Order.bytes s)[k]'(by rw [bytes_len]; exact h) = s[k].toNat := by
 unfold Order.bytes
 rw [List.getElem_map]
 rfl
def TextGo (a b : ByteArray) (k : Nat) : Prop := Order.text a b = Order.lex Order.oct ((Order.bytes a).drop k) ((Order.bytes b).drop k)
theorem TextGo.next {a b : ByteArray} {k : Nat} (h : TextGo a b k) (ha : k < a.size) (hb : k < b.size) (e : a[k].toNat = b[k].toNat) : TextGo a b (k + 1) := by
 unfold TextGo at h ⊢
 rw [h]
 refine Order.lex_step (by rw [bytes_len]; exact ha) (by rw [bytes_len]; exact hb) ?_
 rw [bytes_at a k ha, bytes_at b k hb, e]
 exact Order.sgn_self _
theorem TextGo.here {a b : ByteArray} {k : Nat} (h : TextGo a b k) (ha : k < a.size) (hb : k < b.size) (e : ¬ a[k].toNat = b[k].toNat) : Order.text a b = Order.sgn (a[k].toNat : Int) (b[k].toNat : Int) := by
 unfold TextGo at h
 rw [h]
 refine (Order.lex_here (by rw [bytes_len]; exact ha) (by rw [bytes_len]; exact hb) ?_).trans ?_
 ·rw [bytes_at a k ha, bytes_at b k hb]
  intro e2
  have := Order.sgn_zero.1 e2
  omega
 ·rw [bytes_at a k ha, bytes_at b k hb]; rfl
theorem TextGo.last {a b : ByteArray} {k : Nat} (h : TextGo a b k) (ha : k ≤ a.size) (hb : k ≤ b.size) (e : ¬ (k < a.size ∧ k < b.size)) : Order.text a b = Order.sgn (a.size : Int) (b.size : Int) := by
 unfold TextGo at h
 rw [h, Order.lex_end (by rw [bytes_len]; exact ha) (by rw [bytes_len]; exact hb) (by rw [bytes_len, bytes_len]; omega), bytes_len, bytes_len]
theorem cmpBytes_any (w : World) (a b : Option Addr) (l m : List Nat) (n c n2 c2 : Nat) (hl : l.length = n) (hm : m.length = n2) (h : SliceIs w a l) (h2 : SliceIs w b m) (ho : Oct l) (ho2 : Oct m) :
  Calls Tryd.prog 58 #[.slice a n c, .slice b n2 c2] w (IntPost (Order.blob l m) w) := by
 have HC := Lib.hid (bytesCmp_any w a b l m n c n2 c2 hl hm h h2 ho ho2)
 by_cases e : n = n2
 ·have HB := Lib.hid (show Order.blob l m = Order.octs l m by rw [Order.blob, if_pos (Order.sgn_zero.2 (by omega))])
  have he : Order.sgn (n : Int) (n2 : Int) = 0 := Order.sgn_zero.2 (by omega)
  have hb : (Order.sgn (n : Int) (n2 : Int) != 0) = false := by rw [he]; rfl
  clear h h2 ho ho2 hl hm e he
  go_enter Tryd.func58, Tryd.ntmps58
  go_wp2_with (first | (go_at_call 52; refine (cmpInt_any _ _ _).mono ?_; rintro e w' ⟨rfl, rfl⟩) | (go_at_call 59; refine HC.out.mono ?_; rintro e w' ⟨rfl, rfl⟩))
  go_ret
  exact ⟨ret_i HB.out.symm, rfl⟩
 ·have HB := Lib.hid (show Order.blob l m = Order.sgn (n : Int) (n2 : Int) by
   rw [Order.blob, if_neg (fun x => e (by have := Order.sgn_zero.1 x; omega)), hl, hm])
  have hb : (Order.sgn (n : Int) (n2 : Int) != 0) = true := by
   rw [bne_iff_ne]; intro x; have := Order.sgn_zero.1 x; omega
  clear h h2 ho ho2 hl hm e
  go_enter Tryd.func58, Tryd.ntmps58
  go_wp2_with (go_at_call 52; refine (cmpInt_any _ _ _).mono ?_; rintro e w' ⟨rfl, rfl⟩)
  go_ret
  exact ⟨ret_i HB.out.symm, rfl⟩
end Go.Proofs.YtngllchoiffniaaDoor
end
section
namespace Go.Proofs.YtngllchoiffniaaDoor
open Go.RowKit
open Seal
open Bson (Val)
theorem infoF7 : (Tryd.prog.info? 59).map (fun i => (i.zero, i.size, i.bytes)) = some (some (.agg #[.string ⟨#[]⟩, .int .i64 0, .int .i64 0, .string ⟨#[]⟩, .slice none 0 0, .slice none 0 0, .slice none 0 0]), 7, 120) := by kernel_rfl
theorem run_makeFlds (n : Nat) (hn : n ≤ 1172812402961) (u : World) : (Instr.makeSlice 29 (.int .i64 (n : Int)) (.int .i64 (n : Int))).run Tryd.prog u = .ok (.slice (some ⟨u.heap.size, 0, none⟩) n n) (u.alloc (.cells (madeCells #[.string ⟨#[]⟩, .int .i64 0, .int .i64 0, .string ⟨#[]⟩, .slice none 0 0, .slice none 0 0, .slice none 0 0] (n * 7)) 59)) := by
 obtain ⟨i0, hi, hz0, hz1, hz2⟩ := info_parts infoF7
 have h := run_make (P := Tryd.prog) u 29 59 i0 (.agg #[.string ⟨#[]⟩, .int .i64 0, .int .i64 0, .string ⟨#[]⟩, .slice none 0 0, .slice none 0 0, .slice none 0 0]) Tryd.underlying29 hi hz0 .i64 .i64 (n : Int) (n : Int) (by omega) (Int.le_refl _) (by rw [hz2]; omega) (by omega)
 rw [Int.toNat_natCast] at h
 simpa [hz1, Value.cells] using h
theorem eachF_any (Q : Nat → Prop) (h : Nat) (IH0 : CopyAt Q h) (a : Option Addr) (n c : Nat) (f : List (ByteArray × Val)) (w : World) (hn : f.length = n) (hnb : n ≤ 1172812402961) (hI : FieldsIn w Q (VIn w Q h) a f) :
  Calls Tryd.prog 37 #[.slice a n c, .func (.func 38) #[] #[]] w fun e w' => ∃ a' c', e = .returned (.slice a' n c') ∧ (n ≤ c' ∧ c' ≤ 9223372036854775807) ∧ FieldsIn w' (fun g => w.heap.size ≤ g) (VIn w' (fun g => w.heap.size ≤ g) h) a' f ∧ Below w.heap.size w w' := by
 have IH := Lib.hid (fun nm x c0 c1 c2 c3 c4 c5 w hv => copyfield_any Q h IH0 nm x c0 c1 c2 c3 c4 c5 w hv)
 have HI := Lib.hid hI
 have HN := Lib.hid hn
 have HNL : Hid (∀ i (hi : i < f.length), f[i].1.size ≤ 140737488355328) := by
  intro i hi
  rcases hI with h | ⟨g, o, _, _, h⟩
  ·rw [h] at hi; simp at hi
  ·exact (h i hi).2.1
 clear hI IH0 hn
 have hmk := run_makeFlds n hnb
 have he := fun u : World => Lib.run_eql_slice_nil (P := Tryd.prog) u 29 59 a n c 0 0 Tryd.underlying29
 cases a with
 | none =>
  have hnil : f = [] := by
   rcases HI.out with h | ⟨g, o, e, _⟩
   ·exact h
   ·cases e
  have hn0 : n = 0 := by rw [← HN.out, hnil]; rfl
  subst hn0
  have HNIL := Lib.hid hnil
  clear hnil
  go_enter Tryd.func37, Tryd.ntmps37
  go_wp2_with fail
  go_ret
  exact ⟨none, 0, rfl, ⟨Nat.le_refl _, by omega⟩, .inl HNIL.out, Below.refl _ _⟩
 | some p =>
  go_enter Tryd.func37, Tryd.ntmps37
  go_wp2_with fail
  go_loopw [15] (fun i wr => ∃ k : Nat, i = .int .i64 k ∧ k ≤ n ∧ Hid (Row6 wr w.heap.size 59 (n * 7)) ∧ Hid (Flds wr w.heap.size h f k) ∧ Hid (Below w.heap.size w wr)) (fun i _ => n - (intOf i).toNat)
  case atStart => exact ⟨0, rfl, Nat.zero_le _, ⟨_, heap_alloc_new w _, size_madeCells _ _⟩, Flds.none _ _ _ _, (Below.refl _ w).alloc (Nat.le_refl _) _⟩
  case round =>
   obtain ⟨k, rfl, hk, HR, HVS, HB⟩ := hrel
   by_cases hlt : k < n
   ·obtain ⟨g, o, hla, _, hall⟩ := HI.out.resolve_left (fun e => by have := HN.out; rw [e] at this; simp at this; omega)
    obtain ⟨hnm, hns, v', hsix, hV⟩ := hall k (by have := HN.out; omega)
    obtain rfl := Option.some.inj hla
    obtain ⟨ka, na, sa, ba, fa, la, bl, bc, fl, fc, ll, lc, rfl⟩ := hV.shape
    have HV := Lib.hid (VIn.keep HB.out hV)
    obtain ⟨s0, s1, s2, s3, s4, s5⟩ := (hsix.keep HB.out).cells
    obtain ⟨nm, hnme⟩ : ∃ nm, nm = (f[k]'(by have := HN.out; omega)).1 := ⟨_, rfl⟩
    have HNM := Lib.hid hnme
    clear hnme
    have s6 : wr.cell? ⟨g, o + k * 7, none⟩ = some (.string nm) := by rw [HNM.out]; exact cell_keep HB.out hnm
    have HNS : Hid (nm.size ≤ 140737488355328) := by rw [HNM.out]; exact hns
    clear hall hsix hV hnm hns
    go_wp2_with fail
    have HVa := Lib.hid (VIn.keep ((Below.refl _ wr).alloc (Nat.le_refl _) (.cells #[.string nm, .int .i64 ka, .int .i64 na, .string sa, .slice ba bl bc, .slice fa fl fc, .slice la ll lc] 59)) HV.out)
    refine (IH.out nm _ _ _ _ _ _ _ _ HVa.out).mono ?_
    rintro e w2 ⟨e0, e1, e2, e3, e4, e5, rfl, hv2, hb2⟩
    obtain ⟨kd, nd, sd, bd, fd, ld, bm, bz, fm, fz, lm, lz, hsh⟩ := hv2.shape
    injection hsh with hsh
    injection hsh with hsh
    injection hsh with x0 hsh; injection hsh with x1 hsh; injection hsh with x2 hsh; injection hsh with x3 hsh; injection hsh with x4 hsh; injection hsh with x5 hsh
    subst x0 x1 x2 x3 x4 x5
    clear hsh
    have HB2 : Hid (Below wr.heap.size wr w2) := ((Below.refl _ wr).alloc (Nat.le_refl _) _).trans (hb2.mono (by simp))
    have HR2 := Lib.hid (HR.out.keep HB2.out)
    have HVS2 := Lib.hid (HVS.out.keep HB2.out)
    have HBw2 : Hid (Below w.heap.size w w2) := HB.out.trans (HB2.out.mono HB.out.size)
    have hGlt : w.heap.size < wr.heap.size := HR.out.lt
    have HV2 : Hid (VIn w2 (fun g => w.heap.size < g) h (f[k]'(by have := HN.out; omega)).2 (.agg #[.int .i64 kd, .int .i64 nd, .string sd, .slice bd bm bz, .slice fd fm fz, .slice ld lm lz])) := hv2.kept (Kept.of_below (Below.refl _ _)) (fun g hg => by simp at hg; omega)
    clear hv2 hb2
    obtain ⟨⟨z0, g0⟩, f0⟩ := HR2.out.at (j := k * 7) (by omega)
    obtain ⟨⟨z1, g1⟩, f1⟩ := HR2.out.at (j := k * 7 + 1) (by omega)
    obtain ⟨⟨z2, g2⟩, f2⟩ := HR2.out.at (j := k * 7 + 2) (by omega)
    obtain ⟨⟨z3, g3⟩, f3⟩ := HR2.out.at (j := k * 7 + 3) (by omega)
    obtain ⟨⟨z4, g4⟩, f4⟩ := HR2.out.at (j := k * 7 + 4) (by omega)
    obtain ⟨⟨z5, g5⟩, f5⟩ := HR2.out.at (j := k * 7 + 5) (by omega)
    obtain ⟨⟨z6, g6⟩, f6⟩ := HR2.out.at (j := k * 7 + 6) (by omega)
    have HN2 : Hid (Flds (puts w2 w.heap.size (k * 7) [.string nm, .int .i64 kd, .int .i64 nd, .string sd, .slice bd bm bz, .slice fd fm fz, .slice ld lm lz]) w.heap.size h f (k + 1)) := by
     have := HVS2.out.put HR2.out (by have := HN.out; omega) (by rw [HN.out]) HV2.out
     rw [← HNM.out] at this
     exact this
    have HR3 := Lib.hid (HR2.out.puts (k * 7) [.string nm, .int .i64 kd, .int .i64 nd, .string sd, .slice bd bm bz, .slice fd fm fz, .slice ld lm lz] (by simp; omega)).1
    have HB3 := Lib.hid (puts_below HBw2.out (G := w.heap.size) (Nat.le_refl _) [.string nm, .int .i64 kd, .int .i64 nd, .string sd, .slice bd bm bz, .slice fd fm fz, .slice ld lm lz] (k * 7))
    clear s0 s1 s2 s3 s4 s5 s6 HV HVa HVS HR HB
    go_wp2_with fail
    go_roundw
    case rel => exact ⟨k + 1, by go_num, by omega, HR3, HN2, HB3⟩
    case measure => simp [intOf]; omega
   ·have hkk : k = n := by omega
    subst hkk
    go_wp2_with fail
    go_ret
    refine ⟨some ⟨w.heap.size, 0, none⟩, k, rfl, ⟨Nat.le_refl _, by omega⟩, .inr ⟨w.heap.size, 0, rfl, Nat.le_refl _, fun i hi => ?_⟩, HB.out⟩
    obtain ⟨h0, v, h1, h2⟩ := HVS.out i hi (by rw [← HN.out]; exact hi)
    rw [Nat.zero_add]
    exact ⟨h0, HNL.out i hi, v, h1, h2.kept (Kept.of_below (Below.refl _ _)) (fun g hg => Nat.le_of_lt hg)⟩
theorem infoV6 : (Tryd.prog.info? 32).map (fun i => (i.zero, i.size, i.bytes)) = some (some (.agg #[.int .i64 0, .int .i64 0, .string ⟨#[]⟩, .slice none 0 0, .slice none 0 0, .slice none 0 0]), 6, 104) := by kernel_rfl
theorem run_makeVals (n : Nat) (hn : n ≤ 1353245080339) (u : World) : (Instr.makeSlice 30 (.int .i64 (n : Int)) (.int .i64 (n : Int))).run Tryd.prog u = .ok (.slice (some ⟨u.heap.size, 0, none⟩) n n) (u.alloc (.cells (madeCells #[.int .i64 0, .int .i64 0, .string ⟨#[]⟩, .slice none 0 0, .slice none 0 0, .slice none 0 0] (n * 6)) 32)) := by
 obtain ⟨i0, hi, hz0, hz1, hz2⟩ := info_parts infoV6
 have h := run_make (P := Tryd.prog) u 30 32 i0 (.agg #[.int .i64 0, .int .i64 0, .string ⟨#[]⟩, .slice none 0 0, .slice none 0 0, .slice none 0 0]) Tryd.underlying30 hi hz0 .i64 .i64 (n : Int) (n : Int) (by omega) (Int.le_refl _) (by rw [hz2]; omega) (by omega)
 rw [Int.toNat_natCast] at h
 simpa [hz1, Value.cells] using h
theorem eachV_any (Q : Nat → Prop) (h : Nat) (IH0 : CopyAt Q h) (a : Option Addr) (n c : Nat) (l : List Val) (w : World) (hn : l.length = n) (hnb : n ≤ 1353245080339) (hI : ItemsIn w Q (VIn w Q h) a l) :
  Calls Tryd.prog 39 #[.slice a n c, .func (.func 24) #[] #[]] w fun e w' => ∃ a' c', e = .returned (.slice a' n c') ∧ (n ≤ c' ∧ c' ≤ 9223372036854775807) ∧ ItemsIn w' (fun g => w.heap.size ≤ g) (VIn w' (fun g => w.heap.size ≤ g) h) a' l ∧ Below w.heap.size w w' := by
 have IH := Lib.hid IH0
 have HI := Lib.hid hI
 have HN := Lib.hid hn
 clear hI IH0 hn
 have hmk := run_makeVals n hnb
 have he := fun u : World => Lib.run_eql_slice_nil (P := Tryd.prog) u 30 32 a n c 0 0 Tryd.underlying30
 cases a with
 | none =>
  have hnil : l = [] := by
   rcases HI.out with h | ⟨g, o, e, _⟩
   ·exact h
   ·cases e
  have hn0 : n = 0 := by rw [← HN.out, hnil]; rfl
  subst hn0
  have HNIL := Lib.hid hnil
  clear hnil
  go_enter Tryd.func39, Tryd.ntmps39
  go_wp2_with fail
  go_ret
  exact ⟨none, 0, rfl, ⟨Nat.le_refl _, by omega⟩, .inl HNIL.out, Below.refl _ _⟩
 | some p =>
  go_enter Tryd.func39, Tryd.ntmps39
  go_wp2_with fail
  go_loopw [15] (fun i wr => ∃ k : Nat, i = .int .i64 k ∧ k ≤ n ∧ Hid (Row6 wr w.heap.size 32 (n * 6)) ∧ Hid (Vals wr w.heap.size h l k) ∧ Hid (Below w.heap.size w wr)) (fun i _ => n - (intOf i).toNat)
  case atStart => exact ⟨0, rfl, Nat.zero_le _, ⟨_, heap_alloc_new w _, size_madeCells _ _⟩, Vals.none _ _ _ _, (Below.refl _ w).alloc (Nat.le_refl _) _⟩
  case round =>
   obtain ⟨k, rfl, hk, HR, HVS, HB⟩ := hrel
   by_cases hlt : k < n
   ·obtain ⟨g, o, hla, _, hall⟩ := HI.out.resolve_left (fun e => by have := HN.out; rw [e] at this; simp at this; omega)
    obtain ⟨v', hsix, hV⟩ := hall k (by have := HN.out; omega)
    obtain rfl := Option.some.inj hla
    obtain ⟨ka, na, sa, ba, fa, la, bl, bc, fl, fc, ll, lc, rfl⟩ := hV.shape
    have HV := Lib.hid (VIn.keep HB.out hV)
    obtain ⟨s0, s1, s2, s3, s4, s5⟩ := (hsix.keep HB.out).cells
    clear hall hsix hV
    go_wp2_with fail
    have HVa := Lib.hid (VIn.keep ((Below.refl _ wr).alloc (Nat.le_refl _) (.cells #[.int .i64 ka, .int .i64 na, .string sa, .slice ba bl bc, .slice fa fl fc, .slice la ll lc] 32)) HV.out)
    refine (IH.out _ _ _ HVa.out).mono ?_
    rintro e w2 ⟨v2, rfl, hv2, hb2⟩
    obtain ⟨kd, nd, sd, bd, fd, ld, bm, bz, fm, fz, lm, lz, rfl⟩ := hv2.shape
    have HB2 : Hid (Below wr.heap.size wr w2) := ((Below.refl _ wr).alloc (Nat.le_refl _) _).trans (hb2.mono (by simp))
    have HR2 := Lib.hid (HR.out.keep HB2.out)
    have HVS2 := Lib.hid (HVS.out.keep HB2.out)
    have HBw2 : Hid (Below w.heap.size w w2) := HB.out.trans (HB2.out.mono HB.out.size)
    have hGlt : w.heap.size < wr.heap.size := HR.out.lt
    have HV2 : Hid (VIn w2 (fun g => w.heap.size < g) h (l[k]'(by have := HN.out; omega)) (.agg #[.int .i64 kd, .int .i64 nd, .string sd, .slice bd bm bz, .slice fd fm fz, .slice ld lm lz])) := hv2.kept (Kept.of_below (Below.refl _ _)) (fun g hg => by simp at hg; omega)
    clear hv2 hb2
    obtain ⟨⟨z0, g0⟩, f0⟩ := HR2.out.at (j := k * 6) (by omega)
    obtain ⟨⟨z1, g1⟩, f1⟩ := HR2.out.at (j := k * 6 + 1) (by omega)
    obtain ⟨⟨z2, g2⟩, f2⟩ := HR2.out.at (j := k * 6 + 2) (by omega)
    obtain ⟨⟨z3, g3⟩, f3⟩ := HR2.out.at (j := k * 6 + 3) (by omega)
    obtain ⟨⟨z4, g4⟩, f4⟩ := HR2.out.at (j := k * 6 + 4) (by omega)
    obtain ⟨⟨z5, g5⟩, f5⟩ := HR2.out.at (j := k * 6 + 5) (by omega)
    have HN2 : Hid (Vals (puts w2 w.heap.size (k * 6) [.int .i64 kd, .int .i64 nd, .string sd, .slice bd bm bz, .slice fd fm fz, .slice ld lm lz]) w.heap.size h l (k + 1)) := HVS2.out.put HR2.out (by have := HN.out; omega) (by rw [HN.out]) HV2.out
    have HR3 := Lib.hid (HR2.out.puts (k * 6) [.int .i64 kd, .int .i64 nd, .string sd, .slice bd bm bz, .slice fd fm fz, .slice ld lm lz] (by simp; omega)).1
    have HB3 := Lib.hid (puts_below HBw2.out (G := w.heap.size) (Nat.le_refl _) [.int .i64 kd, .int .i64 nd, .string sd, .slice bd bm bz, .slice fd fm fz, .slice ld lm lz] (k * 6))
    clear s0 s1 s2 s3 s4 s5 HV HVa HVS HR HB
    go_wp2_with fail
    go_roundw
    case rel => exact ⟨k + 1, by go_num, by omega, HR3, HN2, HB3⟩
    case measure => simp [intOf]; omega
   ·have hkk : k = n := by omega
    subst hkk
    go_wp2_with fail
    go_ret
    refine ⟨some ⟨w.heap.size, 0, none⟩, k, rfl, ⟨Nat.le_refl _, by omega⟩, .inr ⟨w.heap.size, 0, rfl, Nat.le_refl _, fun i hi => ?_⟩, HB.out⟩
    obtain ⟨v, h1, h2⟩ := HVS.out i hi (by rw [← HN.out]; exact hi)
    rw [Nat.zero_add]
    exact ⟨v, h1, h2.kept (Kept.of_below (Below.refl _ _)) (fun g hg => Nat.le_of_lt hg)⟩
end Go.Proofs.YtngllchoiffniaaDoor
end
section
namespace Go.Proofs.YtngllchoiffniaaDoor
open Go.RowKit
open Seal
open Num
theorem reckon_gen (K : FuncId) (hke : ∀ args (u : World), (callFunc K args).run Tryd.prog u = .ok (.enter K args) u) (o0 : Int × Int) (ak an bk bn : Int) (p2 p3 p4 p5 q2 q3 q4 q5 : Value) (w : World) (hop : ∀ u, Calls Tryd.prog K #[.int .i64 an, .int .i64 bn] u (PairDr o0 u)) : Calls Tryd.prog 40 #[.agg #[.int .i64 ak, .int .i64 an, p2, p3, p4, p5], .agg #[.int .i64 bk, .int .i64 bn, q2, q3, q4, q5], .func (.func K) #[] #[]] w (ValE (reck o0 ak bk) w) := by
 have HR0 := Lib.hid (R3.new w #[Value.int .i64 ak, .int .i64 an, p2, p3, p4, p5] #[Value.int .i64 bk, .int .i64 bn, q2, q3, q4, q5])
 have HNA := Lib.hid (fun w => nothing_any ak (.int .i64 an) p2 p3 p4 p5 w)
 have HNB := Lib.hid (fun w => nothing_any bk (.int .i64 bn) q2 q3 q4 q5 w)
 have HMA := Lib.hid (fun w => number_any ak (.int .i64 an) p2 p3 p4 p5 w)
 have HMB := Lib.hid (fun w => number_any bk (.int .i64 bn) q2 q3 q4 q5 w)
 obtain ⟨r, hr⟩ : ∃ r, r = reck o0 ak bk := ⟨_, rfl⟩
 rw [← hr]
 by_cases c1 : noneB ak = true
 ·rw [c1] at HNA
  have HQ := Lib.hid (show r = (2, 0, 0) by rw [hr, reck, if_pos c1])
  clear c1 hr
  go_enter Tryd.func40, Tryd.ntmps40
  go_wp2_with fail
  generalize hW : (((w.alloc (.cells #[Value.int .i64 ak, .int .i64 an, p2, p3, p4, p5] 32)).alloc (.cells #[Value.int .i64 bk, .int .i64 bn, q2, q3, q4, q5] 32)).alloc (.cells #[Value.int .i64 0, .int .i64 0, .string ⟨#[]⟩, .slice none 0 0, .slice none 0 0, .slice none 0 0] 32)) = W0 at *
  clear hW
  obtain ⟨⟨a0, a1, a2, a3, a4, a5⟩, ⟨b0, b1, b2, b3, b4, b5⟩, ⟨z0, z1, z2, z3, z4, z5⟩, f0, f1, f2, f3, f4, f5⟩ := HR0.out.all
  go_wp2_with fail
  go_at_call 47
  refine (HNA.out _).mono ?_
  rintro e w1 ⟨rfl, hb⟩
  clear a0 a1 a2 a3 a4 a5 b0 b1 b2 b3 b4 b5 z0 z1 z2 z3 z4 z5 f0 f1 f2 f3 f4 f5
  have HR1 := Lib.hid (HR0.out.step hb)
  clear hb
  obtain ⟨⟨a0, a1, a2, a3, a4, a5⟩, ⟨b0, b1, b2, b3, b4, b5⟩, ⟨z0, z1, z2, z3, z4, z5⟩, f0, f1, f2, f3, f4, f5⟩ := HR1.out.all
  go_wp2_with fail
  exact bodyPost_ret (v := .tuple #[.agg #[.int .i64 2, .int .i64 0, .string ⟨#[]⟩, .slice none 0 0, .slice none 0 0, .slice none 0 0], .int .i64 0]) (by simp [results, Tryd.results40, go_sem, *]) rfl (val_e HQ.out (below_six HR1.out.2.2.2 (by omega) _ _ _ _ _ _))
 by_cases c2 : noneB bk = true
 ·rw [eq_false_of_ne_true c1] at HNA
  rw [c2] at HNB
  have HQ := Lib.hid (show r = (2, 0, 0) by rw [hr, reck, if_neg c1, if_pos c2])
  clear c1 c2 hr
  go_enter Tryd.func40, Tryd.ntmps40
  go_wp2_with fail
  generalize hW : (((w.alloc (.cells #[Value.int .i64 ak, .int .i64 an, p2, p3, p4, p5] 32)).alloc (.cells #[Value.int .i64 bk, .int .i64 bn, q2, q3, q4, q5] 32)).alloc (.cells #[Value.int .i64 0, .int .i64 0, .string ⟨#[]⟩, .slice none 0 0, .slice none 0 0, .slice none 0 0] 32)) = W0 at *
  clear hW
  obtain ⟨⟨a0, a1, a2, a3, a4, a5⟩, ⟨b0, b1, b2, b3, b4, b5⟩, ⟨z0, z1, z2, z3, z4, z5⟩, f0, f1, f2, f3, f4, f5⟩ := HR0.out.all
  go_wp2_with fail
  go_at_call 47
  refine (HNA.out _).mono ?_
  rintro e w1 ⟨rfl, hb⟩
  clear a0 a1 a2 a3 a4 a5 b0 b1 b2 b3 b4 b5 z0 z1 z2 z3 z4 z5 f0 f1 f2 f3 f4 f5
  have HR1 := Lib.hid (HR0.out.step hb)
  clear hb
  obtain ⟨⟨a0, a1, a2, a3, a4, a5⟩, ⟨b0, b1, b2, b3, b4, b5⟩, ⟨z0, z1, z2, z3, z4, z5⟩, f0, f1, f2, f3, f4, f5⟩ := HR1.out.all
  go_wp2_with fail
  go_at_call 47
  refine (HNB.out _).mono ?_
  rintro e w2 ⟨rfl, hb⟩
  clear a0 a1 a2 a3 a4 a5 b0 b1 b2 b3 b4 b5 z0 z1 z2 z3 z4 z5 f0 f1 f2 f3 f4 f5
  have HR2 := Lib.hid (HR1.out.step hb)
  clear hb
  obtain ⟨⟨a0, a1, a2, a3, a4, a5⟩, ⟨b0, b1, b2, b3, b4, b5⟩, ⟨z0, z1, z2, z3, z4, z5⟩, f0, f1, f2, f3, f4, f5⟩ := HR2.out.all
  go_wp2_with fail
  exact bodyPost_ret (v := .tuple #[.agg #[.int .i64 2, .int .i64 0, .string ⟨#[]⟩, .slice none 0 0, .slice none 0 0, .slice none 0 0], .int .i64 0]) (by simp [results, Tryd.results40, go_sem, *]) rfl (val_e HQ.out (below_six HR2.out.2.2.2 (by omega) _ _ _ _ _ _))
 rw [eq_false_of_ne_true c1] at HNA
 rw [eq_false_of_ne_true c2] at HNB
 by_cases c3 : numB ak = false
 ·rw [c3] at HMA
  have HQ := Lib.hid (show r = (0, 0, 12) by rw [hr, reck, if_neg c1, if_neg c2, if_pos c3])
  clear c1 c2 c3 hr
  go_enter Tryd.func40, Tryd.ntmps40
  go_wp2_with fail
  generalize hW : (((w.alloc (.cells #[Value.int .i64 ak, .int .i64 an, p2, p3, p4, p5] 32)).alloc (.cells #[Value.int .i64 bk, .int .i64 bn, q2, q3, q4, q5] 32)).alloc (.cells #[Value.int .i64 0, .int .i64 0, .string ⟨#[]⟩, .slice none 0 0, .slice none 0 0, .slice none 0 0] 32)) = W0 at *
  clear hW
  obtain ⟨⟨a0, a1, a2, a3, a4, a5⟩, ⟨b0, b1, b2, b3, b4, b5⟩, ⟨z0, z1, z2, z3, z4, z5⟩, f0, f1, f2, f3, f4, f5⟩ := HR0.out.all
  go_wp2_with fail
  go_at_call 47
  refine (HNA.out _).mono ?_
  rintro e w1 ⟨rfl, hb⟩
  clear a0 a1 a2 a3 a4 a5 b0 b1 b2 b3 b4 b5 z0 z1 z2 z3 z4 z5 f0 f1 f2 f3 f4 f5
  have HR1 := Lib.hid (HR0.out.step hb)
  clear hb
  obtain ⟨⟨a0, a1, a2, a3, a4, a5⟩, ⟨b0, b1, b2, b3, b4, b5⟩, ⟨z0, z1, z2, z3, z4, z5⟩, f0, f1, f2, f3, f4, f5⟩ := HR1.out.all
  go_wp2_with fail
  go_at_call 47
  refine (HNB.out _).mono ?_
  rintro e w2 ⟨rfl, hb⟩
  clear a0 a1 a2 a3 a4 a5 b0 b1 b2 b3 b4 b5 z0 z1 z2 z3 z4 z5 f0 f1 f2 f3 f4 f5
  have HR2 := Lib.hid (HR1.out.step hb)
  clear hb
  obtain ⟨⟨a0, a1, a2, a3, a4, a5⟩, ⟨b0, b1, b2, b3, b4, b5⟩, ⟨z0, z1, z2, z3, z4, z5⟩, f0, f1, f2, f3, f4, f5⟩ := HR2.out.all
  go_wp2_with fail
  go_at_call 48
  refine (HMA.out _).mono ?_
  rintro e w3 ⟨rfl, hb⟩
  clear a0 a1 a2 a3 a4 a5 b0 b1 b2 b3 b4 b5 z0 z1 z2 z3 z4 z5 f0 f1 f2 f3 f4 f5
  have HR3 := Lib.hid (HR2.out.step hb)
  clear hb
  obtain ⟨⟨a0, a1, a2, a3, a4, a5⟩, ⟨b0, b1, b2, b3, b4, b5⟩, ⟨z0, z1, z2, z3, z4, z5⟩, f0, f1, f2, f3, f4, f5⟩ := HR3.out.all
  go_wp2_with fail
  exact bodyPost_ret (v := .tuple #[.agg #[.int .i64 0, .int .i64 0, .string ⟨#[]⟩, .slice none 0 0, .slice none 0 0, .slice none 0 0], .int .i64 12]) (by simp [results, Tryd.results40, go_sem, *]) rfl (val_e HQ.out (below_six HR3.out.2.2.2 (by omega) _ _ _ _ _ _))
 rw [eq_true_of_ne_false c3] at HMA
 by_cases c4 : numB bk = false
 ·rw [c4] at HMB
  have HQ := Lib.hid (show r = (0, 0, 12) by rw [hr, reck, if_neg c1, if_neg c2, if_neg c3, if_pos c4])
  clear c1 c2 c3 c4 hr
  go_enter Tryd.func40, Tryd.ntmps40
  go_wp2_with fail
  generalize hW : (((w.alloc (.cells #[Value.int .i64 ak, .int .i64 an, p2, p3, p4, p5] 32)).alloc (.cells #[Value.int .i64 bk, .int .i64 bn, q2, q3, q4, q5] 32)).alloc (.cells #[Value.int .i64 0, .int .i64 0, .string ⟨#[]⟩, .slice none 0 0, .slice none 0 0, .slice none 0 0] 32)) = W0 at *
  clear hW
  obtain ⟨⟨a0, a1, a2, a3, a4, a5⟩, ⟨b0, b1, b2, b3, b4, b5⟩, ⟨z0, z1, z2, z3, z4, z5⟩, f0, f1, f2, f3, f4, f5⟩ := HR0.out.all
  go_wp2_with fail
  go_at_call 47
  refine (HNA.out _).mono ?_
  rintro e w1 ⟨rfl, hb⟩
  clear a0 a1 a2 a3 a4 a5 b0 b1 b2 b3 b4 b5 z0 z1 z2 z3 z4 z5 f0 f1 f2 f3 f4 f5
  have HR1 := Lib.hid (HR0.out.step hb)
  clear hb
  obtain ⟨⟨a0, a1, a2, a3, a4, a5⟩, ⟨b0, b1, b2, b3, b4, b5⟩, ⟨z0, z1, z2, z3, z4, z5⟩, f0, f1, f2, f3, f4, f5⟩ := HR1.out.all
  go_wp2_with fail
  go_at_call 47
  refine (HNB.out _).mono ?_
  rintro e w2 ⟨rfl, hb⟩
  clear a0 a1 a2 a3 a4 a5 b0 b1 b2 b3 b4 b5 z0 z1 z2 z3 z4 z5 f0 f1 f2 f3 f4 f5
  have HR2 := Lib.hid (HR1.out.step hb)
  clear hb
  obtain ⟨⟨a0, a1, a2, a3, a4, a5⟩, ⟨b0, b1, b2, b3, b4, b5⟩, ⟨z0, z1, z2, z3, z4, z5⟩, f0, f1, f2, f3, f4, f5⟩ := HR2.out.all
  go_wp2_with fail
  go_at_call 48
  refine (HMA.out _).mono ?_
  rintro e w3 ⟨rfl, hb⟩
  clear a0 a1 a2 a3 a4 a5 b0 b1 b2 b3 b4 b5 z0 z1 z2 z3 z4 z5 f0 f1 f2 f3 f4 f5
  have HR3 := Lib.hid (HR2.out.step hb)
  clear hb
  obtain ⟨⟨a0, a1, a2, a3, a4, a5⟩, ⟨b0, b1, b2, b3, b4, b5⟩, ⟨z0, z1, z2, z3, z4, z5⟩, f0, f1, f2, f3, f4, f5⟩ := HR3.out.all
  go_wp2_with fail
  go_at_call 48
  refine (HMB.out _).mono ?_
  rintro e w4 ⟨rfl, hb⟩
  clear a0 a1 a2 a3 a4 a5 b0 b1 b2 b3 b4 b5 z0 z1 z2 z3 z4 z5 f0 f1 f2 f3 f4 f5
  have HR4 := Lib.hid (HR3.out.step hb)
  clear hb
  obtain ⟨⟨a0, a1, a2, a3, a4, a5⟩, ⟨b0, b1, b2, b3, b4, b5⟩, ⟨z0, z1, z2, z3, z4, z5⟩, f0, f1, f2, f3, f4, f5⟩ := HR4.out.all
  go_wp2_with fail
  exact bodyPost_ret (v := .tuple #[.agg #[.int .i64 0, .int .i64 0, .string ⟨#[]⟩, .slice none 0 0, .slice none 0 0, .slice none 0 0], .int .i64 12]) (by simp [results, Tryd.results40, go_sem, *]) rfl (val_e HQ.out (below_six HR4.out.2.2.2 (by omega) _ _ _ _ _ _))
 rw [eq_true_of_ne_false c4] at HMB
 have HOP := Lib.hid hop
 clear hop
 obtain ⟨o, ho⟩ : ∃ o, o = o0 := ⟨_, rfl⟩
 rw [← ho] at HOP hr
 obtain ⟨n, e⟩ := o
 clear ho
 by_cases c5 : e = 0
 ·subst c5
  by_cases c6 : ak = 4
  ·have e6 : ((ak : Int) == 4) = true := by rw [beq_iff_eq]; exact c6
   have HQ := Lib.hid (show r = (4, n, 0) by rw [hr, reck, if_neg c1, if_neg c2, if_neg c3, if_neg c4, if_neg (fun h => h rfl), if_pos c6])
   clear c1 c2 c3 c4 c6 hr
   go_enter Tryd.func40, Tryd.ntmps40
   go_wp2_with fail
   generalize hW : (((w.alloc (.cells #[Value.int .i64 ak, .int .i64 an, p2, p3, p4, p5] 32)).alloc (.cells #[Value.int .i64 bk, .int .i64 bn, q2, q3, q4, q5] 32)).alloc (.cells #[Value.int .i64 0, .int .i64 0, .string ⟨#[]⟩, .slice none 0 0, .slice none 0 0, .slice none 0 0] 32)) = W0 at *
   clear hW
   obtain ⟨⟨a0, a1, a2, a3, a4, a5⟩, ⟨b0, b1, b2, b3, b4, b5⟩, ⟨z0, z1, z2, z3, z4, z5⟩, f0, f1, f2, f3, f4, f5⟩ := HR0.out.all
   go_wp2_with fail
   go_at_call 47
   refine (HNA.out _).mono ?_
   rintro e w1 ⟨rfl, hb⟩
   clear a0 a1 a2 a3 a4 a5 b0 b1 b2 b3 b4 b5 z0 z1 z2 z3 z4 z5 f0 f1 f2 f3 f4 f5
   have HR1 := Lib.hid (HR0.out.step hb)
   clear hb
   obtain ⟨⟨a0, a1, a2, a3, a4, a5⟩, ⟨b0, b1, b2, b3, b4, b5⟩, ⟨z0, z1, z2, z3, z4, z5⟩, f0, f1, f2, f3, f4, f5⟩ := HR1.out.all
   go_wp2_with fail
   go_at_call 47
   refine (HNB.out _).mono ?_
   rintro e w2 ⟨rfl, hb⟩
   clear a0 a1 a2 a3 a4 a5 b0 b1 b2 b3 b4 b5 z0 z1 z2 z3 z4 z5 f0 f1 f2 f3 f4 f5
   have HR2 := Lib.hid (HR1.out.step hb)
   clear hb
   obtain ⟨⟨a0, a1, a2, a3, a4, a5⟩, ⟨b0, b1, b2, b3, b4, b5⟩, ⟨z0, z1, z2, z3, z4, z5⟩, f0, f1, f2, f3, f4, f5⟩ := HR2.out.all
   go_wp2_with fail
   go_at_call 48
   refine (HMA.out _).mono ?_
   rintro e w3 ⟨rfl, hb⟩
   clear a0 a1 a2 a3 a4 a5 b0 b1 b2 b3 b4 b5 z0 z1 z2 z3 z4 z5 f0 f1 f2 f3 f4 f5
   have HR3 := Lib.hid (HR2.out.step hb)
   clear hb
   obtain ⟨⟨a0, a1, a2, a3, a4, a5⟩, ⟨b0, b1, b2, b3, b4, b5⟩, ⟨z0, z1, z2, z3, z4, z5⟩, f0, f1, f2, f3, f4, f5⟩ := HR3.out.all
   go_wp2_with fail
   go_at_call 48
   refine (HMB.out _).mono ?_
   rintro e w4 ⟨rfl, hb⟩
   clear a0 a1 a2 a3 a4 a5 b0 b1 b2 b3 b4 b5 z0 z1 z2 z3 z4 z5 f0 f1 f2 f3 f4 f5
   have HR4 := Lib.hid (HR3.out.step hb)
   clear hb
   obtain ⟨⟨a0, a1, a2, a3, a4, a5⟩, ⟨b0, b1, b2, b3, b4, b5⟩, ⟨z0, z1, z2, z3, z4, z5⟩, f0, f1, f2, f3, f4, f5⟩ := HR4.out.all
   go_wp2_with fail
   refine (HOP.out _).mono ?_
   rintro ee ww ⟨rfl, nq, rfl⟩
   go_wp2_with fail
   exact bodyPost_ret (v := .tuple #[.agg #[.int .i64 4, .int .i64 n, .string ⟨#[]⟩, .slice none 0 0, .slice none 0 0, .slice none 0 0], .int .i64 0]) (by simp [results, Tryd.results40, go_sem, *]) rfl (val_e HQ.out (below_six (below_dr HR4.out.2.2.2 _) (by omega) _ _ _ _ _ _))
  have e6 : ((ak : Int) == 4) = false := by rw [beq_eq_false_iff_ne]; exact c6
  by_cases c7 : bk = 4
  ·have e7 : ((bk : Int) == 4) = true := by rw [beq_iff_eq]; exact c7
   have HQ := Lib.hid (show r = (4, n, 0) by rw [hr, reck, if_neg c1, if_neg c2, if_neg c3, if_neg c4, if_neg (fun h => h rfl), if_neg c6, if_pos c7])
   clear c1 c2 c3 c4 c7 hr
   go_enter Tryd.func40, Tryd.ntmps40
   go_wp2_with fail
   generalize hW : (((w.alloc (.cells #[Value.int .i64 ak, .int .i64 an, p2, p3, p4, p5] 32)).alloc (.cells #[Value.int .i64 bk, .int .i64 bn, q2, q3, q4, q5] 32)).alloc (.cells #[Value.int .i64 0, .int .i64 0, .string ⟨#[]⟩, .slice none 0 0, .slice none 0 0, .slice none 0 0] 32)) = W0 at *
   clear hW
   obtain ⟨⟨a0, a1, a2, a3, a4, a5⟩, ⟨b0, b1, b2, b3, b4, b5⟩, ⟨z0, z1, z2, z3, z4, z5⟩, f0, f1, f2, f3, f4, f5⟩ := HR0.out.all
   go_wp2_with fail
   go_at_call 47
   refine (HNA.out _).mono ?_
   rintro e w1 ⟨rfl, hb⟩
   clear a0 a1 a2 a3 a4 a5 b0 b1 b2 b3 b4 b5 z0 z1 z2 z3 z4 z5 f0 f1 f2 f3 f4 f5
   have HR1 := Lib.hid (HR0.out.step hb)
   clear hb
   obtain ⟨⟨a0, a1, a2, a3, a4, a5⟩, ⟨b0, b1, b2, b3, b4, b5⟩, ⟨z0, z1, z2, z3, z4, z5⟩, f0, f1, f2, f3, f4, f5⟩ := HR1.out.all
   go_wp2_with fail
   go_at_call 47
   refine (HNB.out _).mono ?_
   rintro e w2 ⟨rfl, hb⟩
   clear a0 a1 a2 a3 a4 a5 b0 b1 b2 b3 b4 b5 z0 z1 z2 z3 z4 z5 f0 f1 f2 f3 f4 f5
   have HR2 := Lib.hid (HR1.out.step hb)
   clear hb
   obtain ⟨⟨a0, a1, a2, a3, a4, a5⟩, ⟨b0, b1, b2, b3, b4, b5⟩, ⟨z0, z1, z2, z3, z4, z5⟩, f0, f1, f2, f3, f4, f5⟩ := HR2.out.all
   go_wp2_with fail
   go_at_call 48
   refine (HMA.out _).mono ?_
   rintro e w3 ⟨rfl, hb⟩
   clear a0 a1 a2 a3 a4 a5 b0 b1 b2 b3 b4 b5 z0 z1 z2 z3 z4 z5 f0 f1 f2 f3 f4 f5
   have HR3 := Lib.hid (HR2.out.step hb)
   clear hb
   obtain ⟨⟨a0, a1, a2, a3, a4, a5⟩, ⟨b0, b1, b2, b3, b4, b5⟩, ⟨z0, z1, z2, z3, z4, z5⟩, f0, f1, f2, f3, f4, f5⟩ := HR3.out.all
   go_wp2_with fail
   go_at_call 48
   refine (HMB.out _).mono ?_
   rintro e w4 ⟨rfl, hb⟩
   clear a0 a1 a2 a3 a4 a5 b0 b1 b2 b3 b4 b5 z0 z1 z2 z3 z4 z5 f0 f1 f2 f3 f4 f5
   have HR4 := Lib.hid (HR3.out.step hb)
   clear hb
   obtain ⟨⟨a0, a1, a2, a3, a4, a5⟩, ⟨b0, b1, b2, b3, b4, b5⟩, ⟨z0, z1, z2, z3, z4, z5⟩, f0, f1, f2, f3, f4, f5⟩ := HR4.out.all
   go_wp2_with fail
   refine (HOP.out _).mono ?_
   rintro ee ww ⟨rfl, nq, rfl⟩
   go_wp2_with fail
   exact bodyPost_ret (v := .tuple #[.agg #[.int .i64 4, .int .i64 n, .string ⟨#[]⟩, .slice none 0 0, .slice none 0 0, .slice none 0 0], .int .i64 0]) (by simp [results, Tryd.results40, go_sem, *]) rfl (val_e HQ.out (below_six (below_dr HR4.out.2.2.2 _) (by omega) _ _ _ _ _ _))
  have e7 : ((bk : Int) == 4) = false := by rw [beq_eq_false_iff_ne]; exact c7
  have HQ := Lib.hid (show r = (ofK n, n, 0) by rw [hr, reck, if_neg c1, if_neg c2, if_neg c3, if_neg c4, if_neg (fun h => h rfl), if_neg c6, if_neg c7])
  clear c1 c2 c3 c4 hr
  go_enter Tryd.func40, Tryd.ntmps40
  go_wp2_with fail
  generalize hW : (((w.alloc (.cells #[Value.int .i64 ak, .int .i64 an, p2, p3, p4, p5] 32)).alloc (.cells #[Value.int .i64 bk, .int .i64 bn, q2, q3, q4, q5] 32)).alloc (.cells #[Value.int .i64 0, .int .i64 0, .string ⟨#[]⟩, .slice none 0 0, .slice none 0 0, .slice none 0 0] 32)) = W0 at *
  clear hW
  obtain ⟨⟨a0, a1, a2, a3, a4, a5⟩, ⟨b0, b1, b2, b3, b4, b5⟩, ⟨z0, z1, z2, z3, z4, z5⟩, f0, f1, f2, f3, f4, f5⟩ := HR0.out.all
  go_wp2_with fail
  go_at_call 47
  refine (HNA.out _).mono ?_
  rintro e w1 ⟨rfl, hb⟩
  clear a0 a1 a2 a3 a4 a5 b0 b1 b2 b3 b4 b5 z0 z1 z2 z3 z4 z5 f0 f1 f2 f3 f4 f5
  have HR1 := Lib.hid (HR0.out.step hb)
  clear hb
  obtain ⟨⟨a0, a1, a2, a3, a4, a5⟩, ⟨b0, b1, b2, b3, b4, b5⟩, ⟨z0, z1, z2, z3, z4, z5⟩, f0, f1, f2, f3, f4, f5⟩ := HR1.out.all
  go_wp2_with fail
  go_at_call 47
  refine (HNB.out _).mono ?_
  rintro e w2 ⟨rfl, hb⟩
  clear a0 a1 a2 a3 a4 a5 b0 b1 b2 b3 b4 b5 z0 z1 z2 z3 z4 z5 f0 f1 f2 f3 f4 f5
  have HR2 := Lib.hid (HR1.out.step hb)
  clear hb
  obtain ⟨⟨a0, a1, a2, a3, a4, a5⟩, ⟨b0, b1, b2, b3, b4, b5⟩, ⟨z0, z1, z2, z3, z4, z5⟩, f0, f1, f2, f3, f4, f5⟩ := HR2.out.all
  go_wp2_with fail
  go_at_call 48
  refine (HMA.out _).mono ?_
  rintro e w3 ⟨rfl, hb⟩
  clear a0 a1 a2 a3 a4 a5 b0 b1 b2 b3 b4 b5 z0 z1 z2 z3 z4 z5 f0 f1 f2 f3 f4 f5
  have HR3 := Lib.hid (HR2.out.step hb)
  clear hb
  obtain ⟨⟨a0, a1, a2, a3, a4, a5⟩, ⟨b0, b1, b2, b3, b4, b5⟩, ⟨z0, z1, z2, z3, z4, z5⟩, f0, f1, f2, f3, f4, f5⟩ := HR3.out.all
  go_wp2_with fail
  go_at_call 48
  refine (HMB.out _).mono ?_
  rintro e w4 ⟨rfl, hb⟩
  clear a0 a1 a2 a3 a4 a5 b0 b1 b2 b3 b4 b5 z0 z1 z2 z3 z4 z5 f0 f1 f2 f3 f4 f5
  have HR4 := Lib.hid (HR3.out.step hb)
  clear hb
  obtain ⟨⟨a0, a1, a2, a3, a4, a5⟩, ⟨b0, b1, b2, b3, b4, b5⟩, ⟨z0, z1, z2, z3, z4, z5⟩, f0, f1, f2, f3, f4, f5⟩ := HR4.out.all
  go_wp2_with fail
  refine (HOP.out _).mono ?_
  rintro ee ww ⟨rfl, nq, rfl⟩
  go_wp2_with fail
  go_at_call 30
  refine (of_any _ _).mono ?_
  rintro ee w5 ⟨rfl, hb⟩
  clear a0 a1 a2 a3 a4 a5 b0 b1 b2 b3 b4 b5 z0 z1 z2 z3 z4 z5 f0 f1 f2 f3 f4 f5
  have HR5 := Lib.hid (HR4.out.step ((below_dr (Below.refl _ _) nq).trans (hb.mono (Nat.le_refl _))))
  clear hb
  obtain ⟨⟨a0, a1, a2, a3, a4, a5⟩, ⟨b0, b1, b2, b3, b4, b5⟩, ⟨z0, z1, z2, z3, z4, z5⟩, f0, f1, f2, f3, f4, f5⟩ := HR5.out.all
  go_wp2_with fail
  exact bodyPost_ret (v := .tuple #[.agg #[.int .i64 (ofK n), .int .i64 n, .string ⟨#[]⟩, .slice none 0 0, .slice none 0 0, .slice none 0 0], .int .i64 0]) (by simp [results, Tryd.results40, go_sem, *]) rfl (val_e HQ.out (below_six HR5.out.2.2.2 (by omega) _ _ _ _ _ _))
 ·have e5 : ((e : Int) != 0) = true := by simp [c5]
  have HQ := Lib.hid (show r = (0, 0, e) by rw [hr, reck, if_neg c1, if_neg c2, if_neg c3, if_neg c4, if_pos c5])
  clear c1 c2 c3 c4 hr
  go_enter Tryd.func40, Tryd.ntmps40
  go_wp2_with fail
  generalize hW : (((w.alloc (.cells #[Value.int .i64 ak, .int .i64 an, p2, p3, p4, p5] 32)).alloc (.cells #[Value.int .i64 bk, .int .i64 bn, q2, q3, q4, q5] 32)).alloc (.cells #[Value.int .i64 0, .int .i64 0, .string ⟨#[]⟩, .slice none 0 0, .slice none 0 0, .slice none 0 0] 32)) = W0 at *
  clear hW
  obtain ⟨⟨a0, a1, a2, a3, a4, a5⟩, ⟨b0, b1, b2, b3, b4, b5⟩, ⟨z0, z1, z2, z3, z4, z5⟩, f0, f1, f2, f3, f4, f5⟩ := HR0.out.all
  go_wp2_with fail
  go_at_call 47
  refine (HNA.out _).mono ?_
  rintro e w1 ⟨rfl, hb⟩
  clear a0 a1 a2 a3 a4 a5 b0 b1 b2 b3 b4 b5 z0 z1 z2 z3 z4 z5 f0 f1 f2 f3 f4 f5
  have HR1 := Lib.hid (HR0.out.step hb)
  clear hb
  obtain ⟨⟨a0, a1, a2, a3, a4, a5⟩, ⟨b0, b1, b2, b3, b4, b5⟩, ⟨z0, z1, z2, z3, z4, z5⟩, f0, f1, f2, f3, f4, f5⟩ := HR1.out.all
  go_wp2_with fail
  go_at_call 47
  refine (HNB.out _).mono ?_
  rintro e w2 ⟨rfl, hb⟩
  clear a0 a1 a2 a3 a4 a5 b0 b1 b2 b3 b4 b5 z0 z1 z2 z3 z4 z5 f0 f1 f2 f3 f4 f5
  have HR2 := Lib.hid (HR1.out.step hb)
  clear hb
  obtain ⟨⟨a0, a1, a2, a3, a4, a5⟩, ⟨b0, b1, b2, b3, b4, b5⟩, ⟨z0, z1, z2, z3, z4, z5⟩, f0, f1, f2, f3, f4, f5⟩ := HR2.out.all
  go_wp2_with fail
  go_at_call 48
  refine (HMA.out _).mono ?_
  rintro e w3 ⟨rfl, hb⟩
  clear a0 a1 a2 a3 a4 a5 b0 b1 b2 b3 b4 b5 z0 z1 z2 z3 z4 z5 f0 f1 f2 f3 f4 f5
  have HR3 := Lib.hid (HR2.out.step hb)
  clear hb
  obtain ⟨⟨a0, a1, a2, a3, a4, a5⟩, ⟨b0, b1, b2, b3, b4, b5⟩, ⟨z0, z1, z2, z3, z4, z5⟩, f0, f1, f2, f3, f4, f5⟩ := HR3.out.all
  go_wp2_with fail
  go_at_call 48
  refine (HMB.out _).mono ?_
  rintro e w4 ⟨rfl, hb⟩
  clear a0 a1 a2 a3 a4 a5 b0 b1 b2 b3 b4 b5 z0 z1 z2 z3 z4 z5 f0 f1 f2 f3 f4 f5
  have HR4 := Lib.hid (HR3.out.step hb)
  clear hb
  obtain ⟨⟨a0, a1, a2, a3, a4, a5⟩, ⟨b0, b1, b2, b3, b4, b5⟩, ⟨z0, z1, z2, z3, z4, z5⟩, f0, f1, f2, f3, f4, f5⟩ := HR4.out.all
  go_wp2_with fail
  refine (HOP.out _).mono ?_
  rintro ee ww ⟨rfl, nq, rfl⟩
  go_wp2_with fail
  exact bodyPost_ret (v := .tuple #[.agg #[.int .i64 0, .int .i64 0, .string ⟨#[]⟩, .slice none 0 0, .slice none 0 0, .slice none 0 0], .int .i64 e]) (by simp [results, Tryd.results40, go_sem, *]) rfl (val_e HQ.out (below_six (below_dr HR4.out.2.2.2 _) (by omega) _ _ _ _ _ _))
end Go.Proofs.YtngllchoiffniaaDoor
end
section
namespace Go.Proofs.YtngllchoiffniaaDoor
open Go.RowKit
open Seal
open Bson (Val)
theorem VIn.kind_is {w : World} {Q : Nat → Prop} : ∀ {h : Nat} {x : Val} {k n : Int} {s : ByteArray} {ba fa la : Option Addr} {bn bc fn fc ln lc : Nat}, VIn w Q h x (.agg #[.int .i64 k, .int .i64 n, .string s, .slice ba bn bc, .slice fa fn fc, .slice la ln lc]) → k = x.kind
 | 0, _, _, _, _, _, _, _, _, _, _, _, _, _, hv => hv.elim
 | h + 1, x, k, n, s, ba, fa, la, bn, bc, fn, fc, ln, lc, hv => by
  obtain ⟨ba', fa', la', bc', fc', lc', e, _⟩ := hv
  unfold agg at e
  injection e with e; injection e with e; injection e with e; injection e with e _
def CmpPost (n : Int) (w : World) (e : Ending) (w' : World) : Prop := e = .returned (.int .i64 n) ∧ Below w.heap.size w w'
def CmpAt (h : Nat) : Prop := ∀ (Q Q2 : Nat → Prop) (x y : Val) (u v : Value) (w : World), VIn w Q h x u → VIn w Q2 h y v → Calls Tryd.prog 43 #[u, v] w (CmpPost (Order.cmp h x y) w)
def LexGo {α : Type} (c : α → α → Int) (l m : List α) (k : Nat) : Prop := Order.lex c l m = Order.lex c (l.drop k) (m.drop k)
section
variable {α : Type} {c : α → α → Int} {l m : List α} {k n n2 : Nat}
theorem LexGo.next (h : LexGo c l m k) (ha : k < l.length) (hb : k < m.length) (e : c l[k] m[k] = 0) : LexGo c l m (k + 1) := by
 unfold LexGo at h ⊢; rw [h]; exact Order.lex_step ha hb e
theorem LexGo.here (h : LexGo c l m k) (ha : k < l.length) (hb : k < m.length) (e : ¬ c l[k] m[k] = 0) : Order.lex c l m = c l[k] m[k] := by
 unfold LexGo at h; rw [h]; exact Order.lex_here ha hb e
theorem LexGo.last (h : LexGo c l m k) (ha : k ≤ l.length) (hb : k ≤ m.length) (e : ¬ (k < l.length ∧ k < m.length)) : Order.lex c l m = Order.sgn (l.length : Int) (m.length : Int) := by
 unfold LexGo at h; rw [h]; exact Order.lex_end ha hb (by omega)
end
theorem cmpV_any (h : Nat) (IH0 : CmpAt h) (Q Q2 : Nat → Prop) (a b : Option Addr) (n c m d : Nat) (l l2 : List Val) (w : World) (hn : l.length = n) (hm : l2.length = m) (hnb : n ≤ 1353245080339) (hI : ItemsIn w Q (VIn w Q h) a l) (hJ : ItemsIn w Q2 (VIn w Q2 h) b l2) :
  Calls Tryd.prog 57 #[.slice a n c, .slice b m d, .func (.func 43) #[] #[]] w (CmpPost (Order.lex (Order.cmp h) l l2) w) := by
 have IH := Lib.hid IH0
 have HI := Lib.hid hI
 have HJ := Lib.hid hJ
 have HN := Lib.hid hn
 have HM := Lib.hid hm
 clear hI hJ IH0 hn hm
 go_enter Tryd.func57, Tryd.ntmps57
 go_wp2_with fail
 go_loopw [13] (fun i wr => ∃ k : Nat, i = .int .i64 k ∧ k ≤ n ∧ k ≤ m ∧ Hid (LexGo (Order.cmp h) l l2 k) ∧ Hid (Below w.heap.size w wr)) (fun i _ => n - (intOf i).toNat)
 case atStart => exact ⟨0, rfl, Nat.zero_le _, Nat.zero_le _, rfl, Below.refl _ _⟩
 case round =>
  obtain ⟨k, rfl, hk, hk2, HT, HB⟩ := hrel
  by_cases hlt : k < n
  ·obtain ⟨g, o, hla, _, hall⟩ := HI.out.resolve_left (fun e => by have := HN.out; rw [e] at this; simp at this; omega)
   obtain ⟨v1, hsix, hV⟩ := hall k (by have := HN.out; omega)
   obtain rfl := hla
   obtain ⟨ka, na, sa, ba, fa, la, bl, bc, fl, fc, ll, lc, rfl⟩ := hV.shape
   have HV := Lib.hid (VIn.keep HB.out hV)
   obtain ⟨s0, s1, s2, s3, s4, s5⟩ := (hsix.keep HB.out).cells
   clear hall hsix hV
   by_cases hlt2 : k < m
   ·obtain ⟨g2, o2, hlb, _, hall⟩ := HJ.out.resolve_left (fun e => by have := HM.out; rw [e] at this; simp at this; omega)
    obtain ⟨v2, hsix, hV2⟩ := hall k (by have := HM.out; omega)
    obtain rfl := hlb
    obtain ⟨kd, nd, sd, bd, fd, ld, bm, bz, fm, fz, lm, lz, rfl⟩ := hV2.shape
    have HV2 := Lib.hid (VIn.keep HB.out hV2)
    have hz := (hsix.keep HB.out).keep ((Below.refl _ wr).alloc (Nat.le_refl _) (.cells #[.int .i64 ka, .int .i64 na, .string sa, .slice ba bl bc, .slice fa fl fc, .slice la ll lc] 32))
    obtain ⟨z0, z1, z2, z3, z4, z5⟩ := hz.cells
    clear hall hsix hV2 hz
    have HB2 : Hid (Below wr.heap.size wr ((wr.alloc (.cells #[.int .i64 ka, .int .i64 na, .string sa, .slice ba bl bc, .slice fa fl fc, .slice la ll lc] 32)).alloc (.cells #[.int .i64 kd, .int .i64 nd, .string sd, .slice bd bm bz, .slice fd fm fz, .slice ld lm lz] 32))) := ((Below.refl _ wr).alloc (Nat.le_refl _) _).alloc (by simp) _
    have HVa := Lib.hid (VIn.keep HB2.out HV.out)
    have HVb := Lib.hid (VIn.keep HB2.out HV2.out)
    have HC := Lib.hid (IH.out _ _ _ _ _ _ _ HVa.out HVb.out)
    by_cases e : Order.cmp h (l[k]'(by have := HN.out; omega)) (l2[k]'(by have := HM.out; omega)) = 0
    ·have HL := Lib.hid (HT.out.next (by have := HN.out; omega) (by have := HM.out; omega) e)
     have hb : (Order.cmp h (l[k]'(by have := HN.out; omega)) (l2[k]'(by have := HM.out; omega)) != 0) = false := by rw [e]; rfl
     clear e
     go_wp2_with fail
     refine HC.out.mono ?_
     rintro e w2 ⟨rfl, hb2⟩
     have HB3 : Hid (Below w.heap.size w w2) := HB.out.trans ((HB2.out.trans (hb2.mono HB2.out.size)).mono HB.out.size)
     clear hb2
     go_wp2_with fail
     go_roundw
     case rel => exact ⟨k + 1, by go_num, by omega, by omega, HL, HB3⟩
     case measure => simp [intOf]; omega
    ·have HL := Lib.hid (HT.out.here (by have := HN.out; omega) (by have := HM.out; omega) e)
     have hb : (Order.cmp h (l[k]'(by have := HN.out; omega)) (l2[k]'(by have := HM.out; omega)) != 0) = true := by rw [bne_iff_ne]; exact e
     clear e
     go_wp2_with fail
     refine HC.out.mono ?_
     rintro e w2 ⟨rfl, hb2⟩
     have HB3 : Hid (Below w.heap.size w w2) := HB.out.trans ((HB2.out.trans (hb2.mono HB2.out.size)).mono HB.out.size)
     clear hb2
     go_wp2_with fail
     go_ret
     exact ⟨ret_i HL.out.symm, HB3.out⟩
   ·have HL := Lib.hid (HT.out.last (by have := HN.out; omega) (by have := HM.out; omega) (by have := HM.out; omega))
    have HS := Lib.hid (show Order.sgn (l.length : Int) (l2.length : Int) = 1 from Order.sgn_gt (by have := HN.out; have := HM.out; omega))
    have HB2 : Hid (Below w.heap.size w (wr.alloc (.cells #[.int .i64 ka, .int .i64 na, .string sa, .slice ba bl bc, .slice fa fl fc, .slice la ll lc] 32))) := HB.out.alloc HB.out.size _
    go_wp2_with fail
    go_ret
    exact ⟨ret_i (HL.out.trans HS.out).symm, HB2.out⟩
  ·have HL := Lib.hid (HT.out.last (by have := HN.out; omega) (by have := HM.out; omega) (by have := HN.out; omega))
   by_cases e : k < m
   ·have HS := Lib.hid (show Order.sgn (l.length : Int) (l2.length : Int) = -1 from Order.sgn_lt (by have := HN.out; have := HM.out; omega))
    have hd : decide (n < m) = true := by rw [decide_eq_true_eq]; omega
    go_wp2_with fail
    go_ret
    exact ⟨ret_i (HL.out.trans HS.out).symm, HB.out⟩
   ·have HS := Lib.hid (show Order.sgn (l.length : Int) (l2.length : Int) = 0 from Order.sgn_zero.2 (by have := HN.out; have := HM.out; omega))
    have hd : decide (n < m) = false := by rw [decide_eq_false_iff_not]; omega
    go_wp2_with fail
    go_ret
    exact ⟨ret_i (HL.out.trans HS.out).symm, HB.out⟩
end Go.Proofs.YtngllchoiffniaaDoor
end
section
namespace Go.Proofs.YtngllchoiffniaaDoor
open Go.RowKit
open Seal
open Num
theorem reckon_sum (ak an bk bn : Int) (p2 p3 p4 p5 q2 q3 q4 q5 : Value) (w : World) (ha : In an) (hb : In bn) : Calls Tryd.prog 40 #[.agg #[.int .i64 ak, .int .i64 an, p2, p3, p4, p5], .agg #[.int .i64 bk, .int .i64 bn, q2, q3, q4, q5], .func (.func 41) #[] #[]] w (ValE (reck (sumR an bn) ak bk) w) :=
 reckon_gen 41 (fun _ _ => rfl) (sumR an bn) ak an bk bn p2 p3 p4 p5 q2 q3 q4 q5 w fun u => (sum_any an bn u ha hb).mono fun _ _ h => h.dr
end Go.Proofs.YtngllchoiffniaaDoor
end
section
namespace Go.Proofs.YtngllchoiffniaaDoor
open Go.RowKit
open Seal
open Bson (Val)
theorem class_q (k : Int) (w : World) : Calls Tryd.prog 51 #[.int .i64 k] w fun e w' => e = .returned (.int .i64 (Order.cls k)) ∧ w' = w := (class_any k w).mono fun _ _ ⟨h1, h2⟩ => ⟨h1, h2.symm⟩
theorem cmpInt_q (a b : Int) (w : World) : Calls Tryd.prog 52 #[.int .i64 a, .int .i64 b] w fun e w' => e = .returned (.int .i64 (Order.sgn a b)) ∧ w' = w := (cmpInt_any a b w).mono fun _ _ ⟨h1, h2⟩ => ⟨h1, h2.symm⟩
theorem compareFields_any (h : Nat) (IH0 : CmpAt h) (Q Q2 : Nat → Prop) (p q : ByteArray) (x y : Val) (xn yn : Int) (xk yk : Int) (xs ys : ByteArray) (ba fa la ba2 fa2 la2 : Option Addr) (bn bc fn fc ln lc bn2 bc2 fn2 fc2 ln2 lc2 : Nat) (w : World) (hxk : xk = x.kind) (hyk : yk = y.kind)
  (hx : VIn w Q h x (.agg #[.int .i64 xk, .int .i64 xn, .string xs, .slice ba bn bc, .slice fa fn fc, .slice la ln lc])) (hy : VIn w Q2 h y (.agg #[.int .i64 yk, .int .i64 yn, .string ys, .slice ba2 bn2 bc2, .slice fa2 fn2 fc2, .slice la2 ln2 lc2])) :
  Calls Tryd.prog 56 #[.agg #[.string p, .int .i64 xk, .int .i64 xn, .string xs, .slice ba bn bc, .slice fa fn fc, .slice la ln lc], .agg #[.string q, .int .i64 yk, .int .i64 yn, .string ys, .slice ba2 bn2 bc2, .slice fa2 fn2 fc2, .slice la2 ln2 lc2]] w (CmpPost (Order.fld (Order.cmp h) (p, x) (q, y)) w) := by
 have IH := Lib.hid IH0
 have HB : Hid (Below w.heap.size w ((w.alloc (.cells #[.string p, .int .i64 xk, .int .i64 xn, .string xs, .slice ba bn bc, .slice fa fn fc, .slice la ln lc] 59)).alloc (.cells #[.string q, .int .i64 yk, .int .i64 yn, .string ys, .slice ba2 bn2 bc2, .slice fa2 fn2 fc2, .slice la2 ln2 lc2] 59))) := ((Below.refl _ w).alloc (Nat.le_refl _) _).alloc (by simp) _
 have HX := Lib.hid hx
 have HY := Lib.hid hy
 have HF := Lib.hid (show Order.fld (Order.cmp h) (p, x) (q, y) = if Order.sgn (Order.cls xk) (Order.cls yk) = 0 then (if Order.text p q = 0 then Order.cmp h x y else Order.text p q) else Order.sgn (Order.cls xk) (Order.cls yk) by rw [hxk, hyk]; rfl)
 clear hx hy IH0 hxk hyk
 by_cases e : Order.sgn (Order.cls xk) (Order.cls yk) = 0
 ·have he : (Order.sgn (Order.cls xk) (Order.cls yk) != 0) = false := by rw [e]; rfl
  by_cases e2 : Order.text p q = 0
  ·have he2 : (Order.text p q != 0) = false := by rw [e2]; rfl
   have HE := Lib.hid (show Order.fld (Order.cmp h) (p, x) (q, y) = Order.cmp h x y by rw [HF.out, if_pos e, if_pos e2])
   clear e e2
   go_enter Tryd.func56, Tryd.ntmps56
   go_wp2_with fail
   go_quiet (first | (go_at_call 51; exact Calls.quiet_of_same (class_q _ _)) | (go_at_call 52; exact Calls.quiet_of_same (cmpInt_q _ _ _)))
   have HV1 := fun n => VIn.keep (below_dr HB.out n) HX.out
   have HV2 := fun n => VIn.keep (below_dr HB.out n) HY.out
   have HC := fun n => IH.out _ _ _ _ _ _ _ (HV1 n) (HV2 n)
   have HCH := Lib.hid HC
   clear HV1 HV2 HC
   go_wp2_with (first | (go_at_call 54; refine (strCmp_any _ _ _).mono ?_; rintro e w' ⟨rfl, rfl⟩) | (go_at_call 43; refine (HCH.out _).mono ?_; rintro e w2 ⟨rfl, hb2⟩))
   go_ret
   exact ⟨ret_i HE.out.symm, (below_dr HB.out _).trans (hb2.mono (by simp; omega))⟩
  ·have he2 : (Order.text p q != 0) = true := by rw [bne_iff_ne]; exact e2
   have HE := Lib.hid (show Order.fld (Order.cmp h) (p, x) (q, y) = Order.text p q by rw [HF.out, if_pos e, if_neg e2])
   clear e e2
   go_enter Tryd.func56, Tryd.ntmps56
   go_wp2_with fail
   go_quiet (first | (go_at_call 51; exact Calls.quiet_of_same (class_q _ _)) | (go_at_call 52; exact Calls.quiet_of_same (cmpInt_q _ _ _)))
   go_wp2_with (go_at_call 54; refine (strCmp_any _ _ _).mono ?_; rintro e w' ⟨rfl, rfl⟩)
   go_ret
   exact ⟨ret_i HE.out.symm, below_dr HB.out _⟩
 ·have he : (Order.sgn (Order.cls xk) (Order.cls yk) != 0) = true := by rw [bne_iff_ne]; exact e
  have HE := Lib.hid (show Order.fld (Order.cmp h) (p, x) (q, y) = Order.sgn (Order.cls xk) (Order.cls yk) by rw [HF.out, if_neg e])
  clear e
  go_enter Tryd.func56, Tryd.ntmps56
  go_wp2_with fail
  go_quiet (first | (go_at_call 51; exact Calls.quiet_of_same (class_q _ _)) | (go_at_call 52; exact Calls.quiet_of_same (cmpInt_q _ _ _)))
  go_wp2_with fail
  go_ret
  exact ⟨ret_i HE.out.symm, below_dr HB.out _⟩
theorem cmpF_any (h : Nat) (IH0 : CmpAt h) (Q Q2 : Nat → Prop) (a b : Option Addr) (n c m d : Nat) (l l2 : List (ByteArray × Val)) (w : World) (hn : l.length = n) (hm : l2.length = m) (hnb : n ≤ 1172812402961) (hI : FieldsIn w Q (VIn w Q h) a l) (hJ : FieldsIn w Q2 (VIn w Q2 h) b l2) :
  Calls Tryd.prog 55 #[.slice a n c, .slice b m d, .func (.func 56) #[] #[]] w (CmpPost (Order.lex (Order.fld (Order.cmp h)) l l2) w) := by
 have IH := Lib.hid (compareFields_any h IH0)
 have HI := Lib.hid hI
 have HJ := Lib.hid hJ
 have HN := Lib.hid hn
 have HM := Lib.hid hm
 clear hI hJ IH0 hn hm
 go_enter Tryd.func55, Tryd.ntmps55
 go_wp2_with fail
 go_loopw [13] (fun i wr => ∃ k : Nat, i = .int .i64 k ∧ k ≤ n ∧ k ≤ m ∧ Hid (LexGo (Order.fld (Order.cmp h)) l l2 k) ∧ Hid (Below w.heap.size w wr)) (fun i _ => n - (intOf i).toNat)
 case atStart => exact ⟨0, rfl, Nat.zero_le _, Nat.zero_le _, rfl, Below.refl _ _⟩
 case round =>
  obtain ⟨k, rfl, hk, hk2, HT, HB⟩ := hrel
  by_cases hlt : k < n
  ·obtain ⟨g, o, hla, _, hall⟩ := HI.out.resolve_left (fun e => by have := HN.out; rw [e] at this; simp at this; omega)
   obtain ⟨hnm, _, v1, hsix, hV⟩ := hall k (by have := HN.out; omega)
   obtain rfl := hla
   obtain ⟨ka, na, sa, ba, fa, la, bl, bc, fl, fc, ll, lc, rfl⟩ := hV.shape
   have HKA : Hid (ka = (l[k]'(by have := HN.out; omega)).2.kind) := hV.kind_is
   have HV := Lib.hid (VIn.keep HB.out hV)
   obtain ⟨nm, hnme⟩ : ∃ nm, nm = (l[k]'(by have := HN.out; omega)).1 := ⟨_, rfl⟩
   have HNM := Lib.hid hnme
   clear hnme
   obtain ⟨s1, s2, s3, s4, s5, s6⟩ := (hsix.keep HB.out).cells
   have s0 : wr.cell? ⟨g, o + k * 7, none⟩ = some (.string nm) := by rw [HNM.out]; exact cell_keep HB.out hnm
   clear hall hsix hV hnm
   by_cases hlt2 : k < m
   ·obtain ⟨g2, o2, hlb, _, hall⟩ := HJ.out.resolve_left (fun e => by have := HM.out; rw [e] at this; simp at this; omega)
    obtain ⟨hnm, _, v2, hsix, hV2⟩ := hall k (by have := HM.out; omega)
    obtain rfl := hlb
    obtain ⟨kd, nd, sd, bd, fd, ld, bm, bz, fm, fz, lm, lz, rfl⟩ := hV2.shape
    have HKD : Hid (kd = (l2[k]'(by have := HM.out; omega)).2.kind) := hV2.kind_is
    have HV2 := Lib.hid (VIn.keep HB.out hV2)
    obtain ⟨nm2, hnme⟩ : ∃ nm, nm = (l2[k]'(by have := HM.out; omega)).1 := ⟨_, rfl⟩
    have HNM2 := Lib.hid hnme
    clear hnme
    have HBa := (Below.refl _ wr).alloc (Nat.le_refl _) (.cells #[.string nm, .int .i64 ka, .int .i64 na, .string sa, .slice ba bl bc, .slice fa fl fc, .slice la ll lc] 59)
    have hz := (hsix.keep HB.out).keep HBa
    obtain ⟨z1, z2, z3, z4, z5, z6⟩ := hz.cells
    have z0 : (wr.alloc (.cells #[.string nm, .int .i64 ka, .int .i64 na, .string sa, .slice ba bl bc, .slice fa fl fc, .slice la ll lc] 59)).cell? ⟨g2, o2 + k * 7, none⟩ = some (.string nm2) := by rw [HNM2.out]; exact cell_keep HBa (cell_keep HB.out hnm)
    clear hall hsix hV2 hz hnm HBa
    have HB2 : Hid (Below wr.heap.size wr ((wr.alloc (.cells #[.string nm, .int .i64 ka, .int .i64 na, .string sa, .slice ba bl bc, .slice fa fl fc, .slice la ll lc] 59)).alloc (.cells #[.string nm2, .int .i64 kd, .int .i64 nd, .string sd, .slice bd bm bz, .slice fd fm fz, .slice ld lm lz] 59))) := ((Below.refl _ wr).alloc (Nat.le_refl _) _).alloc (by simp) _
    have HVa := Lib.hid (VIn.keep HB2.out HV.out)
    have HVb := Lib.hid (VIn.keep HB2.out HV2.out)
    have HC := Lib.hid (IH.out _ _ nm nm2 _ _ _ _ _ _ _ _ _ _ _ _ _ _ _ _ _ _ _ _ _ _ _ _ _ _ _ HKA.out HKD.out HVa.out HVb.out)
    have HPN := Lib.hid (show Order.fld (Order.cmp h) (nm, (l[k]'(by have := HN.out; omega)).2) (nm2, (l2[k]'(by have := HM.out; omega)).2) = Order.fld (Order.cmp h) (l[k]'(by have := HN.out; omega)) (l2[k]'(by have := HM.out; omega)) by rw [HNM.out, HNM2.out])
    obtain ⟨r, hr⟩ : ∃ r, r = Order.fld (Order.cmp h) (nm, (l[k]'(by have := HN.out; omega)).2) (nm2, (l2[k]'(by have := HM.out; omega)).2) := ⟨_, rfl⟩
    have HR := Lib.hid hr
    rw [← hr] at HC HPN
    clear hr
    by_cases e : r = 0
    ·have HL := Lib.hid (HT.out.next (by have := HN.out; omega) (by have := HM.out; omega) (HPN.out.symm.trans e))
     subst e
     go_wp2_with fail
     refine HC.out.mono ?_
     rintro e w2 ⟨rfl, hb2⟩
     have HB3 : Hid (Below w.heap.size w w2) := HB.out.trans ((HB2.out.trans (hb2.mono HB2.out.size)).mono HB.out.size)
     clear hb2
     go_wp2_with fail
     go_roundw
     case rel => exact ⟨k + 1, by go_num, by omega, by omega, HL, HB3⟩
     case measure => simp [intOf]; omega
    ·have HL := Lib.hid (HT.out.here (by have := HN.out; omega) (by have := HM.out; omega) (fun x => e (HPN.out.trans x)))
     have hb : (r != 0) = true := by rw [bne_iff_ne]; exact e
     clear e
     go_wp2_with fail
     refine HC.out.mono ?_
     rintro e w2 ⟨rfl, hb2⟩
     have HB3 : Hid (Below w.heap.size w w2) := HB.out.trans ((HB2.out.trans (hb2.mono HB2.out.size)).mono HB.out.size)
     clear hb2
     go_wp2_with fail
     go_ret
     exact ⟨ret_i (HL.out.trans HPN.out.symm).symm, HB3.out⟩
   ·have HL := Lib.hid (HT.out.last (by have := HN.out; omega) (by have := HM.out; omega) (by have := HM.out; omega))
    have HS := Lib.hid (show Order.sgn (l.length : Int) (l2.length : Int) = 1 from Order.sgn_gt (by have := HN.out; have := HM.out; omega))
    have HB2 : Hid (Below w.heap.size w (wr.alloc (.cells #[.string nm, .int .i64 ka, .int .i64 na, .string sa, .slice ba bl bc, .slice fa fl fc, .slice la ll lc] 59))) := HB.out.alloc HB.out.size _
    go_wp2_with fail
    go_ret
    exact ⟨ret_i (HL.out.trans HS.out).symm, HB2.out⟩
  ·have HL := Lib.hid (HT.out.last (by have := HN.out; omega) (by have := HM.out; omega) (by have := HN.out; omega))
   by_cases e : k < m
   ·have HS := Lib.hid (show Order.sgn (l.length : Int) (l2.length : Int) = -1 from Order.sgn_lt (by have := HN.out; have := HM.out; omega))
    have hd : decide (n < m) = true := by rw [decide_eq_true_eq]; omega
    go_wp2_with fail
    go_ret
    exact ⟨ret_i (HL.out.trans HS.out).symm, HB.out⟩
   ·have HS := Lib.hid (show Order.sgn (l.length : Int) (l2.length : Int) = 0 from Order.sgn_zero.2 (by have := HN.out; have := HM.out; omega))
    have hd : decide (n < m) = false := by rw [decide_eq_false_iff_not]; omega
    go_wp2_with fail
    go_ret
    exact ⟨ret_i (HL.out.trans HS.out).symm, HB.out⟩
end Go.Proofs.YtngllchoiffniaaDoor
end
