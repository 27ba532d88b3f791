/- BsonCopySep, BsonSameMath, BsonEqV, BsonEqF, BsonSame, SixIs, PathSmall, BsonSameWalk. -/
import Derived.BigQuiet
import Derived.Lib.QuietBelow
import Derived.RegionTactic
import Derived.ChangeAlike
import Derived.Test.YtpiookgkkaafeaaDoorMg19
import Derived.Test.YtpiookgkkaafeaaDoorMg7
import Derived.Test.YtpiookgkkaafeaaDoorMg16
import Derived.Test.YtpiookgkkaafeaaDoorMg5
import Derived.Test.YtpiookgkkaafeaaDoorMg6
import Derived.Test.YtpiookgkkaafeaaDoorMg12
import Derived.Test.YtpiookgkkaafeaaDoorMg36
import Derived.Test.YtpiookgkkaafeaaDoorMg13
set_option maxRecDepth 100000
section
namespace Go.Proofs.YtpiookgkkaafeaaDoor
open Go.RowKit
open Seal
open Bson (Val)
/-- Bytes in a row of their own, in a block between two. -/
def BSep (w : World) (lo hi : Nat) (a : Option Addr) (c : Nat) (l : List Nat) : Prop := l = [] ∨ ∃ g, a = some ⟨g, 0, none⟩ ∧ lo ≤ g ∧ g < hi ∧ Row6 w g 5 c ∧ Reads w g 0 l
/-- Fields in a row of their own; what they hold lies in blocks behind it. -/
def FSep (w : World) (p h : Nat) (a : Option Addr) (n : Nat) (f : List (ByteArray × Val)) : Prop := f = [] ∨ a = some ⟨p, 0, none⟩ ∧ Row6 w p 43 (n * 7) ∧ Flds w p h f n ∧ ∀ i (hi : i < f.length), f[i].1.size ≤ 140737488355328
theorem Row6.kept {w w' : World} {G len : Nat} {t : TypeId} (h : Row6 w G t len) (hk : w'.heap[G]? = w.heap[G]?) : Row6 w' G t len := by
  obtain ⟨cs, h1, h2⟩ := h
  exact ⟨cs, hk.trans h1, h2⟩
theorem Row6.cell_kept {w w' : World} {G len : Nat} {t : TypeId} (h : Row6 w G t len) (hk : w'.heap[G]? = w.heap[G]?) (j : Nat) : w'.cell? ⟨G, j, none⟩ = w.cell? ⟨G, j, none⟩ := by
  obtain ⟨cs, h1, _⟩ := h
  rw [cell_of_row w' G j _ _ _ (hk.trans h1), cell_of_row w G j _ _ _ h1]
theorem BSep.kept {w w' : World} {lo hi : Nat} {a : Option Addr} {c : Nat} {l : List Nat} (h : BSep w lo hi a c l) (hk : Kept (fun g => lo ≤ g) w w') : BSep w' lo hi a c l := by
  rcases h with h | ⟨g, e, h1, h2, h3, h4⟩
  · exact .inl h
  · have hg := hk g h1 h3.lt
    exact .inr ⟨g, e, h1, h2, h3.kept hg, fun j hj => (h3.cell_kept hg _).trans (h4 j hj)⟩
theorem BSep.low {w : World} {lo lo' hi : Nat} {a : Option Addr} {c : Nat} {l : List Nat} (h : BSep w lo hi a c l) (hl : lo' ≤ lo) : BSep w lo' hi a c l :=
  h.imp id fun ⟨g, e, h1, h2⟩ => ⟨g, e, Nat.le_trans hl h1, h2⟩
theorem FSep.kept {w w' : World} {p h : Nat} {a : Option Addr} {n : Nat} {f : List (ByteArray × Val)} (hf : FSep w p h a n f) (hk : Kept (fun g => p ≤ g) w w') : FSep w' p h a n f := by
  rcases hf with h | ⟨e, h1, h2, h3⟩
  · exact .inl h
  · have hg := hk p (Nat.le_refl p) h1.lt
    refine .inr ⟨e, h1.kept hg, fun i hi hik => ?_, h3⟩
    obtain ⟨h4, v, ⟨c0, c1, c2, c3, c4, c5, e, k0, k1, k2, k3, k4, k5⟩, h6⟩ := h2 i hi hik
    exact ⟨(h1.cell_kept hg _).trans h4, v, ⟨c0, c1, c2, c3, c4, c5, e, (h1.cell_kept hg _).trans k0, (h1.cell_kept hg _).trans k1, (h1.cell_kept hg _).trans k2, (h1.cell_kept hg _).trans k3, (h1.cell_kept hg _).trans k4, (h1.cell_kept hg _).trans k5⟩, h6.kept (Q := fun g => p < g) (fun g hg hl => hk g (Nat.le_of_lt hg) hl) (fun _ h => h)⟩
/-- What a copy is: its bytes, its fields and its items lie apart. -/
def Apart (w w' : World) (h : Nat) (x : Val) (v : Value) : Prop := ∃ (a1 a2 a3 : Option Addr) (n1 n2 n3 p1 p2 : Nat),
  v = .agg #[.int .i64 x.kind, .int .i64 x.n, .string x.s, .slice a1 x.b.length n1, .slice a2 x.f.length n2, .slice a3 x.l.length n3] ∧ Lim x ∧
  (x.b.length ≤ n1 ∧ n1 ≤ 9223372036854775807) ∧ (x.f.length ≤ n2 ∧ n2 ≤ 9223372036854775807) ∧ (x.l.length ≤ n3 ∧ n3 ≤ 9223372036854775807) ∧ w.heap.size ≤ p1 ∧ p1 ≤ p2 ∧
  BSep w' w.heap.size p1 a1 n1 x.b ∧ (x.f = [] ∨ p1 < p2) ∧ FSep w' p1 h a2 x.f.length x.f ∧
  ItemsIn w' (fun g => p2 ≤ g) (VIn w' (fun g => p2 ≤ g) h) a3 x.l
theorem clone_sep (Q : Nat → Prop) (ba : Option Addr) (l : List Nat) (n bc : Nat) (w : World) (hn : l.length = n) (hl : n ≤ 140737488355328) (hB : BytesIn w Q ba l) :
    Calls Tryd.prog 30 #[.slice ba n bc] w fun e w' => ∃ a' c', e = .returned (.slice a' n c') ∧ (n ≤ c' ∧ c' ≤ 9223372036854775807) ∧ (l = [] ∨ ∃ g, a' = some ⟨g, 0, none⟩ ∧ w.heap.size ≤ g ∧ Row6 w' g 5 c' ∧ Reads w' g 0 l) ∧ Below w.heap.size w w' := by
  subst hn
  cases ba with
  | none =>
    have hnil : l = [] := by
      rcases hB with h | ⟨g, o, e, _⟩
      · exact h
      · cases e
    refine (Tryd.bytes_Clone_nil l.length bc w).mono ?_
    rintro e w' ⟨rfl, rfl⟩
    exact ⟨none, 0, by rw [hnil]; rfl, by rw [hnil]; exact ⟨Nat.le_refl _, by omega⟩, .inl hnil, Below.refl _ _⟩
  | some a =>
    refine (Tryd.bytes_Clone_at a l.length bc (l.map fun x => ((x : Nat) : Int)) w (by simp) hl (fun i hi => ?_)).mono ?_
    · rcases hB with h | ⟨g, o, e, _, h⟩
      · rw [h] at hi; simp at hi
      · obtain rfl := Option.some.inj e
        have := h i hi
        rw [Addr.add_mid, this]
        simp [List.getD_eq_getElem?_getD, hi]
    · rintro e w' ⟨v', rfl, hown, hne, hb⟩
      obtain ⟨_, ⟨rfl, _⟩ | ⟨g, cap, cur, rfl, hg, hrow, hc, hm, hsz, htake⟩⟩ := hown
      · exact absurd rfl hne
      · refine ⟨_, cap, rfl, ⟨hc, by unfold maxLen at hm; omega⟩, .inr ⟨g, rfl, hg, ⟨cur, hrow, by omega⟩, fun j hj => ?_⟩, hb⟩
        have e1 : cur.toList[j]? = ((l.map fun x => ((x : Nat) : Int)).map (Value.int .u8))[j]? := by
          rw [← htake, List.getElem?_take_of_lt (by omega)]
        rw [Nat.zero_add, cell_of_row w' g j _ _ _ hrow, ← Array.getElem?_toList, e1]
        simp [List.getD_eq_getElem?_getD, hj]
set_option maxRecDepth 100000 in
set_option maxHeartbeats 1000000 in
theorem eachF_sep (Q : Nat → Prop) (h : Nat) (IH0 : CopyAt Q h) (a : Option Addr) (n c : Nat) (f : List (ByteArray × Val)) (w : World) (hn : f.length = n) (hnb : n ≤ 1172812402961) (hI : FieldsIn w Q (VIn w Q h) a f) :
    Calls Tryd.prog 31 #[.slice a n c, .func (.func 32) #[] #[]] w fun e w' => ∃ a' c', e = .returned (.slice a' n c') ∧ (n ≤ c' ∧ c' ≤ 9223372036854775807) ∧ (f = [] ∨ a' = some ⟨w.heap.size, 0, none⟩ ∧ Row6 w' w.heap.size 43 (n * 7) ∧ Flds w' w.heap.size h f n ∧ ∀ i (hi : i < f.length), f[i].1.size ≤ 140737488355328) ∧ Below w.heap.size w w' := by
  have IH := Lib.hid (fun nm x c0 c1 c2 c3 c4 c5 w hv => copyfield_any Q h IH0 nm x c0 c1 c2 c3 c4 c5 w hv)
  have HI := Lib.hid hI
  have HN := Lib.hid hn
  have HNL : Hid (∀ i (hi : i < f.length), f[i].1.size ≤ 140737488355328) := by
    intro i hi
    rcases hI with h | ⟨g, o, _, _, h⟩
    · rw [h] at hi; simp at hi
    · exact (h i hi).2.1
  clear hI IH0 hn
  have hmk := run_makeFlds n hnb
  have he := fun u : World => Lib.run_eql_slice_nil (P := Tryd.prog) u 24 43 a n c 0 0 Tryd.underlying24
  cases a with
  | none =>
    have hnil : f = [] := by
      rcases HI.out with h | ⟨g, o, e, _⟩
      · exact h
      · cases e
    have hn0 : n = 0 := by rw [← HN.out, hnil]; rfl
    subst hn0
    have HNIL := Lib.hid hnil
    clear hnil
    go_enter Tryd.func31, Tryd.ntmps31
    go_wp2_with fail
    go_ret
    exact ⟨none, 0, rfl, ⟨Nat.le_refl _, by omega⟩, .inl HNIL.out, Below.refl _ _⟩
  | some p =>
    go_enter Tryd.func31, Tryd.ntmps31
    go_wp2_with fail
    go_loopw [15] (fun i wr => ∃ k : Nat, i = .int .i64 k ∧ k ≤ n ∧ Hid (Row6 wr w.heap.size 43 (n * 7)) ∧ Hid (Flds wr w.heap.size h f k) ∧ Hid (Below w.heap.size w wr)) (fun i _ => n - (intOf i).toNat)
    case atStart => exact ⟨0, rfl, Nat.zero_le _, ⟨_, heap_alloc_new w _, size_madeCells _ _⟩, Flds.none _ _ _ _, (Below.refl _ w).alloc (Nat.le_refl _) _⟩
    case round =>
      obtain ⟨k, rfl, hk, HR, HVS, HB⟩ := hrel
      by_cases hlt : k < n
      · obtain ⟨g, o, hla, _, hall⟩ := HI.out.resolve_left (fun e => by have := HN.out; rw [e] at this; simp at this; omega)
        obtain ⟨hnm, hns, v', hsix, hV⟩ := hall k (by have := HN.out; omega)
        obtain rfl := Option.some.inj hla
        obtain ⟨ka, na, sa, ba, fa, la, bl, bc, fl, fc, ll, lc, rfl⟩ := hV.shape
        have HV := Lib.hid (VIn.keep HB.out hV)
        obtain ⟨s0, s1, s2, s3, s4, s5⟩ := (hsix.keep HB.out).cells
        obtain ⟨nm, hnme⟩ : ∃ nm, nm = (f[k]'(by have := HN.out; omega)).1 := ⟨_, rfl⟩
        have HNM := Lib.hid hnme
        clear hnme
        have s6 : wr.cell? ⟨g, o + k * 7, none⟩ = some (.string nm) := by rw [HNM.out]; exact cell_keep HB.out hnm
        have HNS : Hid (nm.size ≤ 140737488355328) := by rw [HNM.out]; exact hns
        clear hall hsix hV hnm hns
        go_wp2_with fail
        have HVa := Lib.hid (VIn.keep ((Below.refl _ wr).alloc (Nat.le_refl _) (.cells #[.string nm, .int .i64 ka, .int .i64 na, .string sa, .slice ba bl bc, .slice fa fl fc, .slice la ll lc] 43)) HV.out)
        refine (IH.out nm _ _ _ _ _ _ _ _ HVa.out).mono ?_
        rintro e w2 ⟨e0, e1, e2, e3, e4, e5, rfl, hv2, hb2⟩
        obtain ⟨kd, nd, sd, bd, fd, ld, bm, bz, fm, fz, lm, lz, hsh⟩ := hv2.shape
        injection hsh with hsh
        injection hsh with hsh
        injection hsh with x0 hsh; injection hsh with x1 hsh; injection hsh with x2 hsh; injection hsh with x3 hsh; injection hsh with x4 hsh; injection hsh with x5 hsh
        subst x0 x1 x2 x3 x4 x5
        clear hsh
        have HB2 : Hid (Below wr.heap.size wr w2) := ((Below.refl _ wr).alloc (Nat.le_refl _) _).trans (hb2.mono (by simp))
        have HR2 := Lib.hid (HR.out.keep HB2.out)
        have HVS2 := Lib.hid (HVS.out.keep HB2.out)
        have HBw2 : Hid (Below w.heap.size w w2) := HB.out.trans (HB2.out.mono HB.out.size)
        have hGlt : w.heap.size < wr.heap.size := HR.out.lt
        have HV2 : Hid (VIn w2 (fun g => w.heap.size < g) h (f[k]'(by have := HN.out; omega)).2 (.agg #[.int .i64 kd, .int .i64 nd, .string sd, .slice bd bm bz, .slice fd fm fz, .slice ld lm lz])) := hv2.kept (Kept.of_below (Below.refl _ _)) (fun g hg => by simp at hg; omega)
        clear hv2 hb2
        obtain ⟨⟨z0, g0⟩, f0⟩ := HR2.out.at (j := k * 7) (by omega)
        obtain ⟨⟨z1, g1⟩, f1⟩ := HR2.out.at (j := k * 7 + 1) (by omega)
        obtain ⟨⟨z2, g2⟩, f2⟩ := HR2.out.at (j := k * 7 + 2) (by omega)
        obtain ⟨⟨z3, g3⟩, f3⟩ := HR2.out.at (j := k * 7 + 3) (by omega)
        obtain ⟨⟨z4, g4⟩, f4⟩ := HR2.out.at (j := k * 7 + 4) (by omega)
        obtain ⟨⟨z5, g5⟩, f5⟩ := HR2.out.at (j := k * 7 + 5) (by omega)
        obtain ⟨⟨z6, g6⟩, f6⟩ := HR2.out.at (j := k * 7 + 6) (by omega)
        have HN2 : Hid (Flds (puts w2 w.heap.size (k * 7) [.string nm, .int .i64 kd, .int .i64 nd, .string sd, .slice bd bm bz, .slice fd fm fz, .slice ld lm lz]) w.heap.size h f (k + 1)) := by
          have := HVS2.out.put HR2.out (by have := HN.out; omega) (by rw [HN.out]) HV2.out
          rw [← HNM.out] at this
          exact this
        have HR3 := Lib.hid (HR2.out.puts (k * 7) [.string nm, .int .i64 kd, .int .i64 nd, .string sd, .slice bd bm bz, .slice fd fm fz, .slice ld lm lz] (by simp; omega)).1
        have HB3 := Lib.hid (puts_below HBw2.out (G := w.heap.size) (Nat.le_refl _) [.string nm, .int .i64 kd, .int .i64 nd, .string sd, .slice bd bm bz, .slice fd fm fz, .slice ld lm lz] (k * 7))
        clear s0 s1 s2 s3 s4 s5 s6 HV HVa HVS HR HB
        go_wp2_with fail
        go_roundw
        case rel => exact ⟨k + 1, by go_num, by omega, HR3, HN2, HB3⟩
        case measure => simp [intOf]; omega
      · have hkk : k = n := by omega
        subst hkk
        go_wp2_with fail
        go_ret
        exact ⟨some ⟨w.heap.size, 0, none⟩, k, rfl, ⟨Nat.le_refl _, by omega⟩, .inr ⟨rfl, HR.out, HVS.out, HNL.out⟩, HB.out⟩
set_option maxRecDepth 100000 in
set_option maxHeartbeats 1000000 in
theorem copy_sep (Q : Nat → Prop) (h : Nat) (x : Val) (v : Value) (w : World) (hv : VIn w Q (h + 1) x v) :
    Calls Tryd.prog 19 #[v] w fun e w' => ∃ v', e = .returned v' ∧ Apart w w' h x v' ∧ Below w.heap.size w w' := by
  obtain ⟨ba, fa, la, bc, fc, lc, rfl, hL, hb, hf, hl, hB, hF, hI⟩ := hv
  have IH := copy_any Q h
  unfold agg
  obtain ⟨bn, hbn⟩ : ∃ n, n = x.b.length := ⟨_, rfl⟩
  obtain ⟨fn, hfn⟩ : ∃ n, n = x.f.length := ⟨_, rfl⟩
  obtain ⟨ln, hln⟩ : ∃ n, n = x.l.length := ⟨_, rfl⟩
  have hbl := hL.b; have hfl := hL.f; have hll := hL.l
  have CB := Lib.hid (fun w0 (hk : BytesIn w0 Q ba x.b) => clone_sep Q ba x.b bn bc w0 hbn.symm (by omega) hk)
  have CF := Lib.hid (fun w0 (hk : FieldsIn w0 Q (VIn w0 Q h) fa x.f) => eachF_sep Q h IH fa fn fc x.f w0 hfn.symm (by omega) hk)
  have CI := Lib.hid (fun w0 (hk : ItemsIn w0 Q (VIn w0 Q h) la x.l) => eachV_any Q h IH la ln lc x.l w0 hln.symm (by omega) hk)
  have HE := Lib.hid (And.intro hbn (And.intro hfn hln))
  have HL := Lib.hid hL
  have HB := Lib.hid hB; have HF := Lib.hid hF; have HI := Lib.hid hI
  rw [← hbn, ← hfn, ← hln]
  obtain ⟨xk, hxk⟩ : ∃ k, k = x.kind := ⟨_, rfl⟩
  obtain ⟨xn, hxn⟩ : ∃ k, k = x.n := ⟨_, rfl⟩
  obtain ⟨xs, hxs⟩ : ∃ k, k = x.s := ⟨_, rfl⟩
  rw [← hxk, ← hxn, ← hxs]
  have HX := Lib.hid (And.intro hxk (And.intro hxn hxs))
  clear hL hb hf hl hB hF hI hbl hfl hll hbn hfn hln hxk hxn hxs IH
  have HW0 := Lib.hid (BoxV.new (.int .i64 xk) (.int .i64 xn) (.string xs) (.slice ba bn bc) (.slice fa fn fc) (.slice la ln lc) w)
  go_enter Tryd.func19, Tryd.ntmps19
  go_wp2_with fail
  generalize hW0 : (w.alloc (Obj.cells #[.int .i64 xk, .int .i64 xn, .string xs, .slice ba bn bc, .slice fa fn fc, .slice la ln lc] 27)).alloc (Obj.cells #[.int .i64 0, .int .i64 0, .string { data := #[] }, .slice none 0 0, .slice none 0 0, .slice none 0 0] 27) = W0 at HW0 ⊢
  clear hW0
  have hk : Hid (∀ W, Below w.heap.size w W → Kept Q w W) := fun W hb => Kept.of_below hb
  refine (CB.out W0 (HB.out.kept (hk.out W0 HW0.out.2.2.1) (fun _ h => h))).mono ?_
  rintro e w1 ⟨a1, n1, rfl, hn1, hP1, hb1⟩
  have HX1 := Lib.hid (HW0.out.keep hb1)
  have HS1 := Lib.hid (HX1.out.set3 (.slice a1 bn n1))
  have hP1' : BSep w1 (w.heap.size + 2) w1.heap.size a1 n1 x.b := by
    rcases hP1 with h0 | ⟨g, e, hg, hr, hrd⟩
    · exact .inl h0
    · exact .inr ⟨g, e, by have := HW0.out.2.2.2; omega, hr.lt, hr, hrd⟩
  have HP1 : Hid (BSep (w1.setCell ⟨w.heap.size, 3, none⟩ (.slice a1 bn n1)) (w.heap.size + 2) w1.heap.size a1 n1 x.b) := hP1'.kept (puts_kept (fun g => w.heap.size + 2 ≤ g) (w := w1) (G := w.heap.size) (by omega) 3 [.slice a1 bn n1])
  have HZ1 : Hid ((w1.setCell ⟨w.heap.size, 3, none⟩ (.slice a1 bn n1)).heap.size = w1.heap.size) := by show _ = _; simp
  have HN1 := Lib.hid hn1
  obtain ⟨p0, p1, p2, p3, p4, p5⟩ := HX1.out.cells
  have f3 := HX1.out.frozen 3
  obtain ⟨q0, q1, q2, q3, q4, q5⟩ := HS1.out.cells
  clear hP1 hP1' hb1 hn1 HX1
  go_wp2_with fail
  clear p0 p1 p2 p3 p4 p5 q0 q1 q2 q3 q4 q5 f3
  generalize w1.setCell ⟨w.heap.size, 3, none⟩ (.slice a1 bn n1) = W1 at HS1 HP1 HZ1 ⊢
  refine (CF.out W1 (HF.out.kept (hk.out W1 HS1.out.2.2.1) (fun _ h => h) (fun _ _ h => VIn.keep HS1.out.2.2.1 h))).mono ?_
  rintro e w2 ⟨a2, n2, rfl, hn2, hP2, hb2⟩
  have HX2 := Lib.hid (HS1.out.keep hb2)
  have HS2 := Lib.hid (HX2.out.set4 (.slice a2 fn n2))
  have hkk2 : Kept (fun g => w.heap.size + 2 ≤ g) W1 (w2.setCell ⟨w.heap.size, 4, none⟩ (.slice a2 fn n2)) := fun g hg hl => ((puts_kept (fun g => w.heap.size + 2 ≤ g) (w := w2) (G := w.heap.size) (by omega) 4 [.slice a2 fn n2]) g hg (by have := hb2.size; omega)).trans (hb2.block g hl)
  have HP1b := Lib.hid (HP1.out.kept hkk2)
  have hq2 := puts_kept (fun g => W1.heap.size ≤ g) (w := w2) (G := w.heap.size) (by have := HS1.out.2.2.2; omega) 4 [.slice a2 fn n2]
  have hP2' : FSep w2 W1.heap.size h a2 fn x.f := hP2
  have HP2 : Hid (FSep (w2.setCell ⟨w.heap.size, 4, none⟩ (.slice a2 fn n2)) W1.heap.size h a2 fn x.f) := hP2'.kept hq2
  have HZ2 : Hid ((w2.setCell ⟨w.heap.size, 4, none⟩ (.slice a2 fn n2)).heap.size = w2.heap.size) := by show _ = _; simp
  have HLT : Hid (W1.heap.size ≤ w2.heap.size ∧ (x.f = [] ∨ W1.heap.size < w2.heap.size)) := ⟨hb2.size, hP2'.imp id fun h => h.2.1.lt⟩
  have HN2 := Lib.hid hn2
  obtain ⟨p0, p1, p2, p3, p4, p5⟩ := HX2.out.cells
  have f4 := HX2.out.frozen 4
  obtain ⟨q0, q1, q2, q3, q4, q5⟩ := HS2.out.cells
  clear hP2 hP2' hb2 hn2 HX2 hkk2 hq2 HP1
  go_wp2_with fail
  clear p0 p1 p2 p3 p4 p5 q0 q1 q2 q3 q4 q5 f4
  generalize w2.setCell ⟨w.heap.size, 4, none⟩ (.slice a2 fn n2) = W2 at HS2 HP1b HP2 HZ2 ⊢
  refine (CI.out W2 (HI.out.kept (hk.out W2 HS2.out.2.2.1) (fun _ h => h) (fun _ _ h => VIn.keep HS2.out.2.2.1 h))).mono ?_
  rintro e w3 ⟨a3, n3, rfl, hn3, hP3, hb3⟩
  have HX3 := Lib.hid (HS2.out.keep hb3)
  have HS3 := Lib.hid (HX3.out.set5 (.slice a3 ln n3))
  have hkk3 : Kept (fun g => w.heap.size + 2 ≤ g) W2 (w3.setCell ⟨w.heap.size, 5, none⟩ (.slice a3 ln n3)) := fun g hg hl => ((puts_kept (fun g => w.heap.size + 2 ≤ g) (w := w3) (G := w.heap.size) (by omega) 5 [.slice a3 ln n3]) g hg (by have := hb3.size; omega)).trans (hb3.block g hl)
  have HP1c := Lib.hid (HP1b.out.kept hkk3)
  have hkk3f : Kept (fun g => W1.heap.size ≤ g) W2 (w3.setCell ⟨w.heap.size, 5, none⟩ (.slice a3 ln n3)) := fun g hg hl => ((puts_kept (fun g => W1.heap.size ≤ g) (w := w3) (G := w.heap.size) (by have := HS1.out.2.2.2; omega) 5 [.slice a3 ln n3]) g hg (by have := hb3.size; omega)).trans (hb3.block g hl)
  have HP2c := Lib.hid (HP2.out.kept hkk3f)
  have hq3 := puts_kept (fun g => W2.heap.size ≤ g) (w := w3) (G := w.heap.size) (by have := HS2.out.2.2.2; omega) 5 [.slice a3 ln n3]
  have HP3 : Hid (ItemsIn (w3.setCell ⟨w.heap.size, 5, none⟩ (.slice a3 ln n3)) (fun g => W2.heap.size ≤ g) (VIn (w3.setCell ⟨w.heap.size, 5, none⟩ (.slice a3 ln n3)) (fun g => W2.heap.size ≤ g) h) a3 x.l) := hP3.kept hq3 (fun _ h => h) (fun _ _ hv => hv.kept hq3 (fun _ h => h))
  have HN3 := Lib.hid hn3
  obtain ⟨p0, p1, p2, p3, p4, p5⟩ := HX3.out.cells
  have f5 := HX3.out.frozen 5
  obtain ⟨q0, q1, q2, q3, q4, q5⟩ := HS3.out.cells
  obtain ⟨z0, z1, z2, z3, z4, z5, g0, g1, g2, g3, g4, g5⟩ := HS3.out.zeros
  clear hP3 hb3 hn3 HX3 hkk3 hkk3f hq3 HP1b HP2
  have hk9 := puts_kept (fun g => (w.heap.size + 2) ≤ g) (w := w3.setCell ⟨w.heap.size, 5, none⟩ (.slice a3 ln n3)) (G := w.heap.size + 1) (by have := HS1.out.2.2.2; have := HS2.out.2.2.2; omega) 0 [.int .i64 xk, .int .i64 xn, .string xs, .slice a1 bn n1, .slice a2 fn n2, .slice a3 ln n3]
  have hk9f := puts_kept (fun g => W1.heap.size ≤ g) (w := w3.setCell ⟨w.heap.size, 5, none⟩ (.slice a3 ln n3)) (G := w.heap.size + 1) (by have := HS1.out.2.2.2; have := HS2.out.2.2.2; omega) 0 [.int .i64 xk, .int .i64 xn, .string xs, .slice a1 bn n1, .slice a2 fn n2, .slice a3 ln n3]
  have hk9l := puts_kept (fun g => W2.heap.size ≤ g) (w := w3.setCell ⟨w.heap.size, 5, none⟩ (.slice a3 ln n3)) (G := w.heap.size + 1) (by have := HS1.out.2.2.2; have := HS2.out.2.2.2; omega) 0 [.int .i64 xk, .int .i64 xn, .string xs, .slice a1 bn n1, .slice a2 fn n2, .slice a3 ln n3]
  have HB9 := Lib.hid (puts_below HS3.out.2.2.1 (G := w.heap.size + 1) (by omega) [.int .i64 xk, .int .i64 xn, .string xs, .slice a1 bn n1, .slice a2 fn n2, .slice a3 ln n3] 0)
  have HV9 : Hid (Apart w (puts (w3.setCell ⟨w.heap.size, 5, none⟩ (.slice a3 ln n3)) (w.heap.size + 1) 0 [.int .i64 xk, .int .i64 xn, .string xs, .slice a1 bn n1, .slice a2 fn n2, .slice a3 ln n3]) h x (.agg #[.int .i64 xk, .int .i64 xn, .string xs, .slice a1 bn n1, .slice a2 fn n2, .slice a3 ln n3])) := by
    obtain ⟨e1, e2, e3⟩ := HE.out
    obtain ⟨e4, e5, e6⟩ := HX.out
    obtain ⟨l1, l2⟩ := HLT.out
    have z1 := HZ1.out
    have z2 := HZ2.out
    refine ⟨a1, a2, a3, n1, n2, n3, W1.heap.size, W2.heap.size, by rw [← e1, ← e2, ← e3, ← e4, ← e5, ← e6], HL.out, by rw [← e1]; exact HN1.out, by rw [← e2]; exact HN2.out, by rw [← e3]; exact HN3.out, by have := HS1.out.2.2.2; omega, by omega, ?_, by rw [z2]; exact l2, ?_, HP3.out.kept hk9l (fun _ h => h) (fun _ _ hv => hv.kept hk9l (fun _ h => h))⟩
    · have hB := HP1c.out.kept hk9
      rw [← z1] at hB
      exact hB.low (by omega)
    · rw [← e2]; exact HP2c.out.kept hk9f
  clear hk9 hk9f hk9l HP1c HP2c HP3 HE HX HL HN1 HN2 HN3 HS3 HS1 HS2 HZ1 HZ2 HLT
  go_wp2_with fail
  exact bodyPost_ret (v := .agg #[.int .i64 xk, .int .i64 xn, .string xs, .slice a1 bn n1, .slice a2 fn n2, .slice a3 ln n3]) (by simp [results, Tryd.results19, go_sem, z0, z1, z2, z3, z4, z5]) rfl ⟨_, rfl, HV9.out, HB9.out⟩
end Go.Proofs.YtpiookgkkaafeaaDoor
end
section
namespace Go.Proofs.YtpiookgkkaafeaaDoor
open Go.RowKit
open Seal
open Bson (Val)
/-- The first k of a list, each as f makes it. -/
def mapTo {α : Type} (f : α → α) (k : Nat) (l : List α) : List α := (l.take k).map f ++ l.drop k
theorem mapTo_length {α : Type} (f : α → α) (k : Nat) (l : List α) : (mapTo f k l).length = l.length := by simp [mapTo]; omega
theorem mapTo_zero {α : Type} (f : α → α) (l : List α) : mapTo f 0 l = l := by simp [mapTo]
theorem mapTo_full {α : Type} (f : α → α) (l : List α) : mapTo f l.length l = l.map f := by simp [mapTo]
theorem mapTo_at {α : Type} (f : α → α) (k : Nat) (l : List α) (hk : k < l.length) : (mapTo f k l)[k]? = some l[k] := by
  unfold mapTo
  have h : ((l.take k).map f).length = k := by simp; omega
  rw [List.getElem?_append_right (by omega), h, Nat.sub_self, List.getElem?_drop, Nat.add_zero, List.getElem?_eq_getElem hk]
theorem mapTo_set {α : Type} (f : α → α) (k : Nat) (l : List α) (hk : k < l.length) : (mapTo f k l).set k (f l[k]) = mapTo f (k + 1) l := by
  unfold mapTo
  have h : ((l.take k).map f).length = k := by simp; omega
  rw [List.set_append_right _ _ (by omega), h, Nat.sub_self, List.drop_eq_getElem_cons hk, List.set_cons_zero, List.take_succ_eq_append_getElem hk, List.map_append, List.append_assoc]
  rfl
theorem Reads.set {w : World} {g c : Nat} {l : List Nat} (hr : Row6 w g 5 c) (hl : Reads w g 0 l) (hc : l.length ≤ c) {k : Nat} (hk : k < l.length) (v : Nat) : Reads (puts w g k [.int .u8 (v : Int)]) g 0 (l.set k v) := by
  obtain ⟨_, h2, h3⟩ := hr.puts k [.int .u8 (v : Int)] (by simp; omega)
  intro j hj
  rw [List.length_set] at hj
  rw [Nat.zero_add]
  by_cases e : j = k
  · subst e
    have := h3 0 (by simp)
    rw [Nat.add_zero] at this
    rw [this, List.getD_eq_getElem?_getD, List.getElem?_set_self hj]
    rfl
  · rw [h2 j (by simp; omega), List.getD_eq_getElem?_getD, List.getElem?_set_ne (fun h => e h.symm)]
    have := hl j hj
    rw [Nat.zero_add, List.getD_eq_getElem?_getD] at this
    exact this
theorem BSep.set {w : World} {lo hi g c : Nat} {l : List Nat} (h : BSep w lo hi (some ⟨g, 0, none⟩) c l) (hc : l.length ≤ c) {k : Nat} (hk : k < l.length) (v : Nat) : BSep (puts w g k [.int .u8 (v : Int)]) lo hi (some ⟨g, 0, none⟩) c (l.set k v) := by
  rcases h with h | ⟨g', e, h1, h2, h3, h4⟩
  · rw [h] at hk; simp at hk
  · injection e with e; injection e with e _ _
    subst e
    exact .inr ⟨g, rfl, h1, h2, (h3.puts k [.int .u8 (v : Int)] (by simp; omega)).1, Reads.set h3 h4 hc hk v⟩
theorem BSep.kept2 {w w' : World} {lo hi : Nat} {a : Option Addr} {c : Nat} {l : List Nat} (h : BSep w lo hi a c l) (hk : ∀ g, lo ≤ g → g < hi → w'.heap[g]? = w.heap[g]?) : BSep w' lo hi a c l := by
  rcases h with h | ⟨g, e, h1, h2, h3, h4⟩
  · exact .inl h
  · have hg := hk g h1 h2
    exact .inr ⟨g, e, h1, h2, h3.kept hg, fun j hj => (h3.cell_kept hg _).trans (h4 j hj)⟩
theorem FSep.set {w : World} {p h n : Nat} {a : Option Addr} {f : List (ByteArray × Val)} (hf : FSep w p h a n f) (hn : f.length = n) {k : Nat} (hk : k < f.length) (nm : ByteArray) (hnm : nm.size ≤ 140737488355328) : FSep (puts w p (k * 7) [.string nm]) p h a n (f.set k (nm, f[k].2)) := by
  rcases hf with hf | ⟨e, h1, h2, h3⟩
  · rw [hf] at hk; simp at hk
  · have hfit : k * 7 + [Value.string nm].length ≤ n * 7 := by simp; omega
    obtain ⟨hr, h5, h6⟩ := h1.puts (k * 7) [.string nm] hfit
    have hoth : ∀ j, j ≠ k * 7 → (puts w p (k * 7) [.string nm]).cell? ⟨p, j, none⟩ = w.cell? ⟨p, j, none⟩ := fun j hj => h5 j (by simp; omega)
    refine .inr ⟨e, hr, fun i hi hik => ?_, fun i hi => ?_⟩
    · have hi' : i < f.length := by rw [List.length_set] at hi; exact hi
      obtain ⟨k0, v, ⟨c0, c1, c2, c3, c4, c5, ev, z0, z1, z2, z3, z4, z5⟩, hv⟩ := h2 i hi' hik
      have hs : SixAt (puts w p (k * 7) [.string nm]) p (i * 7 + 1) v := ⟨c0, c1, c2, c3, c4, c5, ev, (hoth _ (by omega)).trans z0, (hoth _ (by omega)).trans z1, (hoth _ (by omega)).trans z2, (hoth _ (by omega)).trans z3, (hoth _ (by omega)).trans z4, (hoth _ (by omega)).trans z5⟩
      have hv' := hv.kept (puts_kept (fun g => p < g) (Nat.lt_irrefl p) (k * 7) [.string nm]) (fun _ h => h)
      by_cases ek : i = k
      · subst ek
        rw [List.getElem_set_self]
        refine ⟨?_, v, hs, hv'⟩
        have := h6 0 (by simp)
        rw [Nat.add_zero] at this
        exact this
      · rw [List.getElem_set_ne (fun h => ek h.symm)]
        exact ⟨(hoth _ (by omega)).trans k0, v, hs, hv'⟩
    · have hi' : i < f.length := by rw [List.length_set] at hi; exact hi
      by_cases ek : i = k
      · subst ek; rw [List.getElem_set_self]; exact hnm
      · rw [List.getElem_set_ne (fun h => ek h.symm)]; exact h3 i hi'
theorem FSep.in_ {w : World} {p h n : Nat} {a : Option Addr} {f : List (ByteArray × Val)} (hf : FSep w p h a n f) (hn : f.length = n) : FieldsIn w (fun _ => True) (VIn w (fun _ => True) h) a f := by
  rcases hf with hf | ⟨e, h1, h2, h3⟩
  · exact .inl hf
  · refine .inr ⟨p, 0, e, trivial, fun i hi => ?_⟩
    obtain ⟨k0, v, hs, hv⟩ := h2 i hi (by omega)
    rw [Nat.zero_add]
    exact ⟨k0, h3 i hi, v, hs, hv.kept (fun _ _ _ => rfl) (fun _ _ => trivial)⟩
theorem BSep.in_ {w : World} {lo hi c : Nat} {a : Option Addr} {l : List Nat} (h : BSep w lo hi a c l) : BytesIn w (fun _ => True) a l := by
  rcases h with h | ⟨g, e, _, _, _, h4⟩
  · exact .inl h
  · exact .inr ⟨g, 0, e, trivial, h4⟩
/-- The three rows of a copy, apart. -/
structure CSt (w : World) (lo p1 p2 h : Nat) (a1 a2 a3 : Option Addr) (n1 fn : Nat) (b : List Nat) (f : List (ByteArray × Val)) (l : List Val) : Prop where
  bs : BSep w lo p1 a1 n1 b
  fs : FSep w p1 h a2 fn f
  it : ItemsIn w (fun g => p2 ≤ g) (VIn w (fun g => p2 ≤ g) h) a3 l
section
variable {w w' : World} {lo p1 p2 h : Nat} {a1 a2 a3 : Option Addr} {n1 fn : Nat} {b : List Nat} {f : List (ByteArray × Val)} {l : List Val}
theorem CSt.keep (hc : CSt w lo p1 p2 h a1 a2 a3 n1 fn b f l) (hb : Below w.heap.size w w') : CSt w' lo p1 p2 h a1 a2 a3 n1 fn b f l :=
  ⟨hc.bs.kept (Kept.of_below hb), hc.fs.kept (Kept.of_below hb), hc.it.kept (Kept.of_below hb) (fun _ h => h) (fun _ _ hv => VIn.keep hb hv)⟩
theorem CSt.name (hc : CSt w lo p1 p2 h a1 a2 a3 n1 fn b f l) (hn : f.length = fn) (hp : p1 < p2) {k : Nat} (hk : k < f.length) (nm : ByteArray) (hnm : nm.size ≤ 140737488355328) : CSt (puts w p1 (k * 7) [.string nm]) lo p1 p2 h a1 a2 a3 n1 fn b (f.set k (nm, f[k].2)) l :=
  ⟨hc.bs.kept2 (fun g _ hg => puts_other p1 g (by omega) _ _ _), hc.fs.set hn hk nm hnm, hc.it.kept (puts_kept (fun g => p2 ≤ g) (by omega) _ _) (fun _ h => h) (fun _ _ hv => hv.kept (puts_kept (fun g => p2 ≤ g) (by omega) _ _) (fun _ h => h))⟩
theorem CSt.byte {g : Nat} (hc : CSt w lo p1 p2 h (some ⟨g, 0, none⟩) a2 a3 n1 fn b f l) (hb : b.length ≤ n1) (hp : p1 ≤ p2) {k : Nat} (hk : k < b.length) (v : Nat) : CSt (puts w g k [.int .u8 (v : Int)]) lo p1 p2 h (some ⟨g, 0, none⟩) a2 a3 n1 fn (b.set k v) f l := by
  have hg : g < p1 := by
    rcases hc.bs with h | ⟨g', e, _, h2, _⟩
    · rw [h] at hk; simp at hk
    · injection e with e; injection e with e _ _; subst e; exact h2
  exact ⟨hc.bs.set hb hk v, hc.fs.kept (puts_kept (fun g => p1 ≤ g) (by omega) _ _), hc.it.kept (puts_kept (fun g => p2 ≤ g) (by omega) _ _) (fun _ h => h) (fun _ _ hv => hv.kept (puts_kept (fun g => p2 ≤ g) (by omega) _ _) (fun _ h => h))⟩
end
end Go.Proofs.YtpiookgkkaafeaaDoor
end
section
namespace Go.Proofs.YtpiookgkkaafeaaDoor
open Go.RowKit
open Seal
open Bson (Val)
open Go.Sort
/-- bson.Same of values at most so high. -/
def BSameAt (h : Nat) : Prop := ∀ (h2 : Nat) (Q Q2 : Nat → Prop) (x y : Val) (u v : Value) (w : World), VIn w Q h x u → VIn w Q2 h2 y v → Calls Tryd.prog 20 #[u, v] w (SamePost x y w)
theorem cell_under {w : World} {g o : Nat} {v : Value} (h : w.cell? ⟨g, o, none⟩ = some v) : g < w.heap.size := by
  rcases Nat.lt_or_ge g w.heap.size with h1 | h1
  · exact h1
  · have : w.heap[g]? = none := Array.getElem?_eq_none h1
    unfold World.cell? at h
    rw [this] at h
    cases h
set_option maxRecDepth 100000 in
set_option maxHeartbeats 4000000 in
theorem eqV_any (h h2 : Nat) (IH0 : BSameAt h) (Q Q2 : Nat → Prop) (a a2 : Option Addr) (n n2 c c2 : Nat) (l l2 : List Val) (w : World) (hn : l.length = n) (hn2 : l2.length = n2) (hnb : n ≤ 1353245080339) (hI : ItemsIn w Q (VIn w Q h) a l) (hI2 : ItemsIn w Q2 (VIn w Q2 h2) a2 l2) :
    Calls Tryd.prog 37 #[.slice a n c, .slice a2 n2 c2, .func (.func 20) #[] #[]] w (SamePost l l2 w) := by
  have IH := Lib.hid IH0
  have HI := Lib.hid hI; have HI2 := Lib.hid hI2
  have HN := Lib.hid hn; have HN2 := Lib.hid hn2
  clear hI hI2 IH0
  by_cases en : n = n2
  case neg =>
    have hb : ((n : Int) != (n2 : Int)) = true := by rw [bne_iff_ne]; omega
    have HNE : Hid (l ≠ l2) := fun e => en (by rw [← hn, ← hn2, e])
    clear hn hn2
    go_enter Tryd.func37, Tryd.ntmps37
    go_wp2_with fail
    go_ret
    exact ⟨false, rfl, by simp [HNE.out], Below.refl _ _⟩
  subst en
  clear hn hn2
  go_enter Tryd.func37, Tryd.ntmps37
  go_wp2_with fail
  go_loopw [17] (fun i wr => ∃ k : Nat, i = .int .i64 k ∧ k ≤ n ∧ Hid (l.take k = l2.take k) ∧ Hid (Below w.heap.size w wr)) (fun i _ => n - (intOf i).toNat)
  case atStart => exact ⟨0, rfl, Nat.zero_le _, rfl, Below.refl _ _⟩
  case round =>
    obtain ⟨k, rfl, hk, HT, HB⟩ := hrel
    by_cases hlt : k < n
    · have hk1 : k < l.length := by have := HN.out; omega
      have hk2 : k < l2.length := by have := HN2.out; omega
      obtain ⟨g, o, rfl, _, hall⟩ := HI.out.resolve_left (fun e => by rw [e] at hk1; simp at hk1)
      obtain ⟨g2, o2, rfl, _, hall2⟩ := HI2.out.resolve_left (fun e => by rw [e] at hk2; simp at hk2)
      obtain ⟨v1, hsix, hV⟩ := hall k hk1
      obtain ⟨v2, hsix2, hV2⟩ := hall2 k hk2
      have hV := Lib.hid (VIn.keep HB.out hV)
      have hV2 := Lib.hid (VIn.keep HB.out hV2)
      obtain ⟨ka, na, sa, ba, fa, la, bl, bc, fl, fc, ll, lc, rfl⟩ := hV.out.shape
      obtain ⟨kb, nb, sb, bb, fb, lb, bl2, bc2, fl2, fc2, ll2, lc2, rfl⟩ := hV2.out.shape
      obtain ⟨s0, s1, s2, s3, s4, s5⟩ := (hsix.keep HB.out).cells
      obtain ⟨r0, r1, r2, r3, r4, r5⟩ := (hsix2.keep HB.out).cells
      obtain ⟨z1, hz1⟩ : ∃ m, m = l[k] := ⟨_, rfl⟩
      obtain ⟨z2, hz2⟩ : ∃ m, m = l2[k] := ⟨_, rfl⟩
      rw [← hz1] at hV
      rw [← hz2] at hV2
      have HM1 := Lib.hid hz1; have HM2 := Lib.hid hz2
      clear hall hall2 hz1 hz2 hsix hsix2
      have HX : Hid (Boxed2 wr #[.int .i64 ka, .int .i64 na, .string sa, .slice ba bl bc, .slice fa fl fc, .slice la ll lc] #[.int .i64 kb, .int .i64 nb, .string sb, .slice bb bl2 bc2, .slice fb fl2 fc2, .slice lb ll2 lc2] 27 ((wr.alloc (.cells #[.int .i64 ka, .int .i64 na, .string sa, .slice ba bl bc, .slice fa fl fc, .slice la ll lc] 27)).alloc (.cells #[.int .i64 kb, .int .i64 nb, .string sb, .slice bb bl2 bc2, .slice fb fl2 fc2, .slice lb ll2 lc2] 27))) := Boxed2.refl _ _ _ _
      have hg2l : g2 < wr.heap.size := cell_under r0
      have hg2n : ¬ g2 = wr.heap.size := Nat.ne_of_lt hg2l
      have HV1 := Lib.hid (VIn.keep HX.out.below hV.out)
      have HV2 := Lib.hid (VIn.keep HX.out.below hV2.out)
      have HBX := Lib.hid HX.out.below
      clear HX hV hV2
      go_wp2_with fail
      refine (IH.out h2 Q Q2 z1 z2 _ _ _ HV1.out HV2.out).mono ?_
      rintro e w3 ⟨r, rfl, hr, hb3⟩
      have HR := Lib.hid hr
      have HB5 : Hid (Below w.heap.size w w3) := HB.out.trans ((HBX.out.trans (hb3.mono HBX.out.size)).mono HB.out.size)
      clear hr hb3 HBX HV1 HV2 s0 s1 s2 s3 s4 s5 r0 r1 r2 r3 r4 r5
      cases r with
      | true =>
        have HT2 : Hid (l.take (k + 1) = l2.take (k + 1)) := take_next hk1 hk2 HT.out (by rw [← HM1.out, ← HM2.out, HR.out.1 rfl])
        go_wp2_with fail
        go_roundw
        case rel => exact ⟨k + 1, by go_num, by omega, HT2, HB5⟩
        case measure => simp [intOf]; omega
      | false =>
        have HNE : Hid (l ≠ l2) := take_ne hk1 hk2 (by rw [← HM1.out, ← HM2.out]; intro e2; exact absurd (HR.out.2 e2) (by simp))
        go_wp2_with fail
        go_ret
        exact ⟨false, rfl, by simp [HNE.out], HB5.out⟩
    · have hkk : k = n := by omega
      subst hkk
      have HEQ : Hid (l = l2) := by
        have := HT.out
        rw [List.take_of_length_le (by rw [HN.out]; exact Nat.le_refl _), List.take_of_length_le (by rw [HN2.out]; exact Nat.le_refl _)] at this
        exact this
      go_wp2_with fail
      go_ret
      exact ⟨true, rfl, by simp [HEQ.out], HB.out⟩
end Go.Proofs.YtpiookgkkaafeaaDoor
end
section
namespace Go.Proofs.YtpiookgkkaafeaaDoor
open Go.RowKit
open Seal
open Bson (Val)
open Go.Sort
set_option maxRecDepth 100000 in
set_option maxHeartbeats 4000000 in
theorem samefield_any (h h2 : Nat) (IH0 : BSameAt h) (Q Q2 : Nat → Prop) (nm nm2 : ByteArray) (x y : Val) (u0 u1 u2 u3 u4 u5 v0 v1 v2 v3 v4 v5 : Value) (w : World) (hx : VIn w Q h x (.agg #[u0, u1, u2, u3, u4, u5])) (hy : VIn w Q2 h2 y (.agg #[v0, v1, v2, v3, v4, v5])) :
    Calls Tryd.prog 36 #[.agg #[.string nm, u0, u1, u2, u3, u4, u5], .agg #[.string nm2, v0, v1, v2, v3, v4, v5]] w (SamePost (nm, x) (nm2, y) w) := by
  have IH := Lib.hid IH0
  have HX : Hid (Boxed2 w #[.string nm, u0, u1, u2, u3, u4, u5] #[.string nm2, v0, v1, v2, v3, v4, v5] 43 ((w.alloc (.cells #[.string nm, u0, u1, u2, u3, u4, u5] 43)).alloc (.cells #[.string nm2, v0, v1, v2, v3, v4, v5] 43))) := Boxed2.refl _ _ _ _
  have HVX := Lib.hid (VIn.keep HX.out.below hx)
  have HVY := Lib.hid (VIn.keep HX.out.below hy)
  obtain ⟨ca, hca⟩ : ∃ ca, ca = #[Value.string nm, u0, u1, u2, u3, u4, u5] := ⟨_, rfl⟩
  obtain ⟨cb, hcb⟩ : ∃ cb, cb = #[Value.string nm2, v0, v1, v2, v3, v4, v5] := ⟨_, rfl⟩
  have hx2 : Hid (Boxed2 w ca cb 43 ((w.alloc (.cells #[.string nm, u0, u1, u2, u3, u4, u5] 43)).alloc (.cells #[.string nm2, v0, v1, v2, v3, v4, v5] 43))) := by rw [hca, hcb]; exact HX
  have a0 := (hx2.out.one 0).trans (by rw [hca]; rfl : _ = some (Value.string nm))
  have a1 := (hx2.out.one 1).trans (by rw [hca]; rfl : _ = some u0)
  have a2 := (hx2.out.one 2).trans (by rw [hca]; rfl : _ = some u1)
  have a3 := (hx2.out.one 3).trans (by rw [hca]; rfl : _ = some u2)
  have a4 := (hx2.out.one 4).trans (by rw [hca]; rfl : _ = some u3)
  have a5 := (hx2.out.one 5).trans (by rw [hca]; rfl : _ = some u4)
  have a6 := (hx2.out.one 6).trans (by rw [hca]; rfl : _ = some u5)
  have b0 := (hx2.out.two 0).trans (by rw [hcb]; rfl : _ = some (Value.string nm2))
  have b1 := (hx2.out.two 1).trans (by rw [hcb]; rfl : _ = some v0)
  have b2 := (hx2.out.two 2).trans (by rw [hcb]; rfl : _ = some v1)
  have b3 := (hx2.out.two 3).trans (by rw [hcb]; rfl : _ = some v2)
  have b4 := (hx2.out.two 4).trans (by rw [hcb]; rfl : _ = some v3)
  have b5 := (hx2.out.two 5).trans (by rw [hcb]; rfl : _ = some v4)
  have b6 := (hx2.out.two 6).trans (by rw [hcb]; rfl : _ = some v5)
  have HB := Lib.hid HX.out.below
  clear hx hy hca hcb hx2 HX IH0
  generalize hW : (w.alloc _).alloc _ = W at *
  go_enter Tryd.func36, Tryd.ntmps36
  by_cases en : nm = nm2
  · subst en
    have hnb : (nm.toList == nm.toList) = true := by simp
    go_wp2_with fail
    refine (IH.out h2 Q Q2 x y _ _ W HVX.out HVY.out).mono ?_
    rintro e w3 ⟨r, rfl, hr, hb3⟩
    have HB5 : Hid (Below w.heap.size w w3) := HB.out.trans (hb3.mono HB.out.size)
    have HR := Lib.hid hr
    clear hr hb3
    go_wp2_with fail
    go_ret
    exact ⟨r, rfl, by simp [HR.out], HB5.out⟩
  · have hnb : (nm.toList == nm2.toList) = false := str_ne en
    have HNE := Lib.hid en
    clear en
    go_wp2_with fail
    go_ret
    exact ⟨false, rfl, by simp [HNE.out], HB.out⟩
set_option maxRecDepth 100000 in
set_option maxHeartbeats 4000000 in
theorem eqF_any (h h2 : Nat) (IH0 : BSameAt h) (Q Q2 : Nat → Prop) (a a2 : Option Addr) (n n2 c c2 : Nat) (l l2 : List (ByteArray × Val)) (w : World) (hn : l.length = n) (hn2 : l2.length = n2) (hnb : n ≤ 1172812402961) (hI : FieldsIn w Q (VIn w Q h) a l) (hI2 : FieldsIn w Q2 (VIn w Q2 h2) a2 l2) :
    Calls Tryd.prog 35 #[.slice a n c, .slice a2 n2 c2, .func (.func 36) #[] #[]] w (SamePost l l2 w) := by
  have IH := Lib.hid (fun nm nm2 x y u0 u1 u2 u3 u4 u5 v0 v1 v2 v3 v4 v5 w hx hy => samefield_any h h2 IH0 Q Q2 nm nm2 x y u0 u1 u2 u3 u4 u5 v0 v1 v2 v3 v4 v5 w hx hy)
  have HI := Lib.hid hI; have HI2 := Lib.hid hI2
  have HN := Lib.hid hn; have HN2 := Lib.hid hn2
  clear hI hI2 IH0
  by_cases en : n = n2
  case neg =>
    have hb : ((n : Int) != (n2 : Int)) = true := by rw [bne_iff_ne]; omega
    have HNE : Hid (l ≠ l2) := fun e => en (by rw [← hn, ← hn2, e])
    clear hn hn2
    go_enter Tryd.func35, Tryd.ntmps35
    go_wp2_with fail
    go_ret
    exact ⟨false, rfl, by simp [HNE.out], Below.refl _ _⟩
  subst en
  clear hn hn2
  go_enter Tryd.func35, Tryd.ntmps35
  go_wp2_with fail
  go_loopw [17] (fun i wr => ∃ k : Nat, i = .int .i64 k ∧ k ≤ n ∧ Hid (l.take k = l2.take k) ∧ Hid (Below w.heap.size w wr)) (fun i _ => n - (intOf i).toNat)
  case atStart => exact ⟨0, rfl, Nat.zero_le _, rfl, Below.refl _ _⟩
  case round =>
    obtain ⟨k, rfl, hk, HT, HB⟩ := hrel
    by_cases hlt : k < n
    · have hk1 : k < l.length := by have := HN.out; omega
      have hk2 : k < l2.length := by have := HN2.out; omega
      obtain ⟨g, o, rfl, _, hall⟩ := HI.out.resolve_left (fun e => by rw [e] at hk1; simp at hk1)
      obtain ⟨g2, o2, rfl, _, hall2⟩ := HI2.out.resolve_left (fun e => by rw [e] at hk2; simp at hk2)
      obtain ⟨s6, _, v1, hsix, hV⟩ := hall k hk1
      obtain ⟨r6, _, v2, hsix2, hV2⟩ := hall2 k hk2
      have s6 := cell_keep HB.out s6
      have r6 := cell_keep HB.out r6
      have hV := Lib.hid (VIn.keep HB.out hV)
      have hV2 := Lib.hid (VIn.keep HB.out hV2)
      obtain ⟨ka, na, sa, ba, fa, la, bl, bc, fl, fc, ll, lc, rfl⟩ := hV.out.shape
      obtain ⟨kb, nb, sb, bb, fb, lb, bl2, bc2, fl2, fc2, ll2, lc2, rfl⟩ := hV2.out.shape
      obtain ⟨s0, s1, s2, s3, s4, s5⟩ := (hsix.keep HB.out).cells
      obtain ⟨r0, r1, r2, r3, r4, r5⟩ := (hsix2.keep HB.out).cells
      obtain ⟨m1, hm1⟩ : ∃ m, m = l[k] := ⟨_, rfl⟩
      obtain ⟨m2, hm2⟩ : ∃ m, m = l2[k] := ⟨_, rfl⟩
      rw [← hm1] at hV s6
      rw [← hm2] at hV2 r6
      obtain ⟨nm1, z1⟩ := m1
      obtain ⟨nm2, z2⟩ := m2
      have HM1 := Lib.hid hm1; have HM2 := Lib.hid hm2
      simp only at s6 r6 hV hV2
      clear hall hall2 hm1 hm2 hsix hsix2
      have HX : Hid (Boxed2 wr #[.string nm1, .int .i64 ka, .int .i64 na, .string sa, .slice ba bl bc, .slice fa fl fc, .slice la ll lc] #[.string nm2, .int .i64 kb, .int .i64 nb, .string sb, .slice bb bl2 bc2, .slice fb fl2 fc2, .slice lb ll2 lc2] 43 ((wr.alloc (.cells #[.string nm1, .int .i64 ka, .int .i64 na, .string sa, .slice ba bl bc, .slice fa fl fc, .slice la ll lc] 43)).alloc (.cells #[.string nm2, .int .i64 kb, .int .i64 nb, .string sb, .slice bb bl2 bc2, .slice fb fl2 fc2, .slice lb ll2 lc2] 43))) := Boxed2.refl _ _ _ _
      have hg2l : g2 < wr.heap.size := cell_under r0
      have hg2n : ¬ g2 = wr.heap.size := Nat.ne_of_lt hg2l
      have HV1 := Lib.hid (VIn.keep HX.out.below hV.out)
      have HV2 := Lib.hid (VIn.keep HX.out.below hV2.out)
      have HBX := Lib.hid HX.out.below
      clear HX hV hV2
      go_wp2_with fail
      refine (IH.out nm1 nm2 z1 z2 _ _ _ _ _ _ _ _ _ _ _ _ _ HV1.out HV2.out).mono ?_
      rintro e w3 ⟨r, rfl, hr, hb3⟩
      have HR := Lib.hid hr
      have HB5 : Hid (Below w.heap.size w w3) := HB.out.trans ((HBX.out.trans (hb3.mono HBX.out.size)).mono HB.out.size)
      clear hr hb3 HBX HV1 HV2 s0 s1 s2 s3 s4 s5 s6 r0 r1 r2 r3 r4 r5 r6
      cases r with
      | true =>
        have HT2 : Hid (l.take (k + 1) = l2.take (k + 1)) := take_next hk1 hk2 HT.out (by rw [← HM1.out, ← HM2.out, HR.out.1 rfl])
        go_wp2_with fail
        go_roundw
        case rel => exact ⟨k + 1, by go_num, by omega, HT2, HB5⟩
        case measure => simp [intOf]; omega
      | false =>
        have HNE : Hid (l ≠ l2) := take_ne hk1 hk2 (by rw [← HM1.out, ← HM2.out]; intro e2; exact absurd (HR.out.2 e2) (by simp))
        go_wp2_with fail
        go_ret
        exact ⟨false, rfl, by simp [HNE.out], HB5.out⟩
    · have hkk : k = n := by omega
      subst hkk
      have HEQ : Hid (l = l2) := by
        have := HT.out
        rw [List.take_of_length_le (by rw [HN.out]; exact Nat.le_refl _), List.take_of_length_le (by rw [HN2.out]; exact Nat.le_refl _)] at this
        exact this
      go_wp2_with fail
      go_ret
      exact ⟨true, rfl, by simp [HEQ.out], HB.out⟩
end Go.Proofs.YtpiookgkkaafeaaDoor
end
section
namespace Go.Proofs.YtpiookgkkaafeaaDoor
open Go.RowKit
open Seal
open Bson (Val)
open Go.Sort
set_option maxRecDepth 100000 in
set_option maxHeartbeats 1000000 in
theorem bytesEq_any (w : World) (ba : Option Addr) (bn bc : Nat) (ba2 : Option Addr) (bn2 bc2 : Nat) (l l2 : List Nat) (hn : l.length = bn) (hn2 : l2.length = bn2) (ho : Oct l) (ho2 : Oct l2) (hs : SliceIs w ba l) (hs2 : SliceIs w ba2 l2) :
    Calls Tryd.prog 34 #[.slice ba bn bc, .slice ba2 bn2 bc2] w fun e w' => ∃ r, e = .returned (.bool r) ∧ (r = true ↔ l = l2) ∧ w' = w := by
  have hcv1 := conv_str w ba bn bc l hn hs
  have hcv2 := conv_str w ba2 bn2 bc2 l2 hn2 hs2
  by_cases e : l = l2
  · have hb : ((strB l).toList == (strB l2).toList) = true := by rw [e]; simp
    have HE := Lib.hid e
    clear e hn hn2 hs hs2
    generalize strB l = sb1 at *
    generalize strB l2 = sb2 at *
    go_enter Tryd.func34, Tryd.ntmps34
    go_wp2_with fail
    go_ret
    exact ⟨true, rfl, by simp [HE.out], rfl⟩
  · have hb : ((strB l).toList == (strB l2).toList) = false := str_ne (fun h => e (strB_inj ho ho2 h))
    have HE := Lib.hid e
    clear e hn hn2 hs hs2
    generalize strB l = sb1 at *
    generalize strB l2 = sb2 at *
    go_enter Tryd.func34, Tryd.ntmps34
    go_wp2_with fail
    go_ret
    exact ⟨false, rfl, by simp [HE.out], rfl⟩
set_option maxRecDepth 100000 in
set_option maxHeartbeats 4000000 in
theorem bsame_step (h h2 : Nat) (IH0 : BSameAt h) (Q Q2 : Nat → Prop) (x y : Val) (u v : Value) (w : World) (hx : VIn w Q (h + 1) x u) (hy : VIn w Q2 (h2 + 1) y v) : Calls Tryd.prog 20 #[u, v] w (SamePost x y w) := by
  have IH := Lib.hid IH0
  clear IH0
  obtain ⟨xk, xn, xs, ba, fa, la, bn, bc, fn, fc, ln, lc, rfl, hxk, hxn, hxs, hbn, hfn, hln, hL, hF, hI⟩ := hx.letters
  obtain ⟨yk, yn, ys, ba2, fa2, la2, bn2, bc2, fn2, fc2, ln2, lc2, rfl, hyk, hyn, hys, hbn2, hfn2, hln2, hL2, hF2, hI2⟩ := hy.letters
  obtain ⟨ho, hsl⟩ := hx.byt
  obtain ⟨ho2, hsl2⟩ := hy.byt
  have HF := Lib.hid hF; have HI := Lib.hid hI; have HF2 := Lib.hid hF2; have HI2 := Lib.hid hI2
  have HFN := Lib.hid hfn; have HLN := Lib.hid hln; have HFN2 := Lib.hid hfn2; have HLN2 := Lib.hid hln2
  have HE := Lib.hid (And.intro hxk (And.intro hxn (And.intro hxs (And.intro hyk (And.intro hyn hys)))))
  have HO := Lib.hid (And.intro ho ho2)
  have hfl := hL.f; have hll := hL.l; have hfl2 := hL2.f; have hll2 := hL2.l
  rw [← hfn] at hfl; rw [← hln] at hll; rw [← hfn2] at hfl2; rw [← hln2] at hll2
  obtain ⟨ca, hca⟩ : ∃ ca, ca = #[Value.int .i64 xk, .int .i64 xn, .string xs, .slice ba bn bc, .slice fa fn fc, .slice la ln lc] := ⟨_, rfl⟩
  obtain ⟨cb, hcb⟩ : ∃ cb, cb = #[Value.int .i64 yk, .int .i64 yn, .string ys, .slice ba2 bn2 bc2, .slice fa2 fn2 fc2, .slice la2 ln2 lc2] := ⟨_, rfl⟩
  have HX : Hid (Boxed2 w ca cb 27 ((w.alloc (.cells #[Value.int .i64 xk, .int .i64 xn, .string xs, .slice ba bn bc, .slice fa fn fc, .slice la ln lc] 27)).alloc (.cells #[Value.int .i64 yk, .int .i64 yn, .string ys, .slice ba2 bn2 bc2, .slice fa2 fn2 fc2, .slice la2 ln2 lc2] 27))) := by rw [hca, hcb]; exact Boxed2.refl _ _ _ _
  have HCA := Lib.hid hca; have HCB := Lib.hid hcb
  have hsK : ∀ (a : Option Addr) (l : List Nat), SliceIs w a l → SliceIs ((w.alloc (.cells #[Value.int .i64 xk, .int .i64 xn, .string xs, .slice ba bn bc, .slice fa fn fc, .slice la ln lc] 27)).alloc (.cells #[Value.int .i64 yk, .int .i64 yn, .string ys, .slice ba2 bn2 bc2, .slice fa2 fn2 fc2, .slice la2 ln2 lc2] 27)) a l := by
    intro a l hs
    rcases hs with hs | ⟨g, o, e, hs⟩
    · exact .inl hs
    · exact .inr ⟨g, o, e, fun j hj => cell_keep HX.out.below (hs j hj)⟩
  have HEQ := Lib.hid (bytesEq_any _ ba bn bc ba2 bn2 bc2 x.b y.b hbn.symm hbn2.symm ho ho2 (hsK _ _ hsl) (hsK _ _ hsl2))
  have a0 := (HX.out.one 0).trans (by rw [hca]; rfl : _ = some (Value.int .i64 xk))
  have a1 := (HX.out.one 1).trans (by rw [hca]; rfl : _ = some (Value.int .i64 xn))
  have a2 := (HX.out.one 2).trans (by rw [hca]; rfl : _ = some (Value.string xs))
  have a3 := (HX.out.one 3).trans (by rw [hca]; rfl : _ = some (Value.slice ba bn bc))
  have a4 := (HX.out.one 4).trans (by rw [hca]; rfl : _ = some (Value.slice fa fn fc))
  have a5 := (HX.out.one 5).trans (by rw [hca]; rfl : _ = some (Value.slice la ln lc))
  have b0 := (HX.out.two 0).trans (by rw [hcb]; rfl : _ = some (Value.int .i64 yk))
  have b1 := (HX.out.two 1).trans (by rw [hcb]; rfl : _ = some (Value.int .i64 yn))
  have b2 := (HX.out.two 2).trans (by rw [hcb]; rfl : _ = some (Value.string ys))
  have b3 := (HX.out.two 3).trans (by rw [hcb]; rfl : _ = some (Value.slice ba2 bn2 bc2))
  have b4 := (HX.out.two 4).trans (by rw [hcb]; rfl : _ = some (Value.slice fa2 fn2 fc2))
  have b5 := (HX.out.two 5).trans (by rw [hcb]; rfl : _ = some (Value.slice la2 ln2 lc2))
  clear hx hy hxk hxn hxs hbn hfn hln hL hF hI hyk hyn hys hbn2 hfn2 hln2 hL2 hF2 hI2 ho ho2 hsl hsl2 hsK hca hcb
  generalize hW : (w.alloc _).alloc _ = W at *
  go_enter Tryd.func20, Tryd.ntmps20
  by_cases ek : xk = yk
  case neg =>
    have hb : (xk == yk) = false := by simp [ek]
    have HNE : Hid (x ≠ y) := fun e => ek (by rw [HE.out.1, HE.out.2.2.2.1, e])
    go_wp2_with fail
    go_ret
    exact ⟨false, rfl, by simp [HNE.out], HX.out.below⟩
  subst ek
  by_cases en : xn = yn
  case neg =>
    have hb : (xn == yn) = false := by simp [en]
    have HNE : Hid (x ≠ y) := fun e => en (by rw [HE.out.2.1, HE.out.2.2.2.2.1, e])
    go_wp2_with fail
    go_ret
    exact ⟨false, rfl, by simp [HNE.out], HX.out.below⟩
  subst en
  by_cases es : xs = ys
  case neg =>
    have hb : (xs.toList == ys.toList) = false := str_ne es
    have HNE : Hid (x ≠ y) := fun e => es (by rw [HE.out.2.2.1, HE.out.2.2.2.2.2, e])
    go_wp2_with fail
    go_ret
    exact ⟨false, rfl, by simp [HNE.out], HX.out.below⟩
  subst es
  go_wp2_with fail
  refine HEQ.out.mono ?_
  rintro e w1 ⟨r1, rfl, hr1, rfl⟩
  have HR1 := Lib.hid hr1
  clear hr1 HEQ
  cases r1 with
  | false =>
    have HNE : Hid (x ≠ y) := fun e => absurd (HR1.out.2 (by rw [e])) (by simp)
    go_wp2_with fail
    go_ret
    exact ⟨false, rfl, by simp [HNE.out], HX.out.below⟩
  | true =>
  have CF := Lib.hid (eqF_any h h2 IH.out Q Q2 fa fa2 fn fn2 fc fc2 x.f y.f w1 HFN.out.symm HFN2.out.symm (by omega) (HF.out.kept (Kept.of_below HX.out.below) (fun _ h => h) (fun _ _ hv => VIn.keep HX.out.below hv)) (HF2.out.kept (Kept.of_below HX.out.below) (fun _ h => h) (fun _ _ hv => VIn.keep HX.out.below hv)))
  go_wp2_with fail
  refine CF.out.mono ?_
  rintro e w2 ⟨r2, rfl, hr2, hb2⟩
  have HR2 := Lib.hid hr2
  have HX2 := Lib.hid (HX.out.step hb2)
  clear hr2 hb2 CF a0 a1 a2 a3 a4 a5 b0 b1 b2 b3 b4 b5
  cases r2 with
  | false =>
    have HNE : Hid (x ≠ y) := fun e => absurd (HR2.out.2 (by rw [e])) (by simp)
    go_wp2_with fail
    go_ret
    exact ⟨false, rfl, by simp [HNE.out], HX2.out.below⟩
  | true =>
  have a5 := (HX2.out.one 5).trans (by rw [HCA.out]; rfl : _ = some (Value.slice la ln lc))
  have b5 := (HX2.out.two 5).trans (by rw [HCB.out]; rfl : _ = some (Value.slice la2 ln2 lc2))
  have CI := Lib.hid (eqV_any h h2 IH.out Q Q2 la la2 ln ln2 lc lc2 x.l y.l w2 HLN.out.symm HLN2.out.symm (by omega) (HI.out.kept (Kept.of_below HX2.out.below) (fun _ h => h) (fun _ _ hv => VIn.keep HX2.out.below hv)) (HI2.out.kept (Kept.of_below HX2.out.below) (fun _ h => h) (fun _ _ hv => VIn.keep HX2.out.below hv)))
  go_wp2_with fail
  refine CI.out.mono ?_
  rintro e w3 ⟨r3, rfl, hr3, hb3⟩
  have HR3 := Lib.hid hr3
  have HX3 := Lib.hid (HX2.out.step hb3)
  clear hr3 hb3 CI a5 b5
  have HEQ : Hid (r3 = true ↔ x = y) := by
    constructor
    · intro h3
      exact val_ext (by rw [← HE.out.1, ← HE.out.2.2.2.1]) (by rw [← HE.out.2.1, ← HE.out.2.2.2.2.1]) (by rw [← HE.out.2.2.1, ← HE.out.2.2.2.2.2]) (HR1.out.1 (by trivial)) (HR2.out.1 (by trivial)) (HR3.out.1 h3)
    · intro e; exact HR3.out.2 (by rw [e])
  go_wp2_with fail
  go_ret
  exact ⟨r3, rfl, HEQ.out, HX3.out.below⟩
theorem bsame_any : ∀ (h : Nat), BSameAt h
  | 0 => fun _ _ _ _ _ _ _ _ hx _ => hx.elim
  | h + 1 => fun h2 Q Q2 x y u v w hx hy => match h2, hy with
    | 0, hy => hy.elim
    | h2 + 1, hy => bsame_step h h2 (bsame_any h) Q Q2 x y u v w hx hy
end Go.Proofs.YtpiookgkkaafeaaDoor
end
section
namespace Go.Proofs.YtpiookgkkaafeaaDoor
open Go.RowKit
open Seal
def SixIs (W : World) (n : Nat) (c0 c1 c2 c3 c4 c5 : Value) : Prop := W.cell? ⟨n, 0, none⟩ = some c0 ∧ W.cell? ⟨n, 1, none⟩ = some c1 ∧ W.cell? ⟨n, 2, none⟩ = some c2 ∧ W.cell? ⟨n, 3, none⟩ = some c3 ∧ W.cell? ⟨n, 4, none⟩ = some c4 ∧ W.cell? ⟨n, 5, none⟩ = some c5
theorem SixIs.keep {W W' : World} {n : Nat} {c0 c1 c2 c3 c4 c5 : Value} (h : SixIs W n c0 c1 c2 c3 c4 c5) (hb : Below W.heap.size W W') : SixIs W' n c0 c1 c2 c3 c4 c5 := by
  obtain ⟨h0, h1, h2, h3, h4, h5⟩ := h
  exact ⟨cell_keep hb h0, cell_keep hb h1, cell_keep hb h2, cell_keep hb h3, cell_keep hb h4, cell_keep hb h5⟩
theorem SixIs.new (w : World) (c0 c1 c2 c3 c4 c5 : Value) (t : TypeId) : SixIs (w.alloc (.cells #[c0, c1, c2, c3, c4, c5] t)) w.heap.size c0 c1 c2 c3 c4 c5 := by
  have e := heap_alloc_new w (.cells #[c0, c1, c2, c3, c4, c5] t)
  exact ⟨(cell_of_row _ _ 0 _ _ _ e).trans rfl, (cell_of_row _ _ 1 _ _ _ e).trans rfl, (cell_of_row _ _ 2 _ _ _ e).trans rfl, (cell_of_row _ _ 3 _ _ _ e).trans rfl, (cell_of_row _ _ 4 _ _ _ e).trans rfl, (cell_of_row _ _ 5 _ _ _ e).trans rfl⟩
end Go.Proofs.YtpiookgkkaafeaaDoor
end
section
namespace Go.Proofs.YtpiookgkkaafeaaDoor
open Go.RowKit
open Seal
open Bson (Val)
def SmallPost (w : World) (h : Nat) (x : Val) (e : Ending) (w' : World) : Prop := ∃ b, e = .returned (.bool b) ∧ (b = true → wt h x ≤ 3000) ∧ Below w.heap.size w w'
set_option maxRecDepth 100000 in
set_option maxHeartbeats 2000000 in
theorem small_any (Q : Nat → Prop) (h : Nat) (x : Val) (v : Value) (w : World) (hv : VIn w Q (h + 1) x v) : Calls Tryd.prog 16 #[v] w (SmallPost w (h + 1) x) := by
  obtain ⟨xk, xn, xs, ba, fa, la, bn, bc, fn, fc, ln, lc, rfl, hxk, hxn, hxs, hbn, hfn, hln, hL, hF, hI⟩ := hv.letters
  have HV := Lib.hid hv
  have HV0 : Hid (VIn (w.alloc (.cells #[.int .i64 xk, .int .i64 xn, .string xs, .slice ba bn bc, .slice fa fn fc, .slice la ln lc] 27)) Q (h + 1) x (.agg #[.int .i64 xk, .int .i64 xn, .string xs, .slice ba bn bc, .slice fa fn fc, .slice la ln lc])) := VIn.keep ((Below.refl _ w).alloc (Nat.le_refl _) _) hv
  have HB0 : Hid (Below w.heap.size w (w.alloc (.cells #[.int .i64 xk, .int .i64 xn, .string xs, .slice ba bn bc, .slice fa fn fc, .slice la ln lc] 27))) := (Below.refl _ w).alloc (Nat.le_refl _) _
  have hS := SixIs.new w (.int .i64 xk) (.int .i64 xn) (.string xs) (.slice ba bn bc) (.slice fa fn fc) (.slice la ln lc) 27
  have HS0 := Lib.hid hS
  clear hv hxk hS hxn hxs hbn hfn hln hL hF hI
  generalize hW : w.alloc (.cells #[.int .i64 xk, .int .i64 xn, .string xs, .slice ba bn bc, .slice fa fn fc, .slice la ln lc] 27) = W0 at *
  obtain ⟨e0, e1, e2, e3, e4, e5⟩ := HS0.out
  go_enter Tryd.func16, Tryd.ntmps16
  go_wp2_with fail
  clear hW
  go_at_call 27
  refine (weight_any Q (h + 1) x _ 3000 W0 HV0.out (by decide) (by decide)).mono ?_
  rintro e w1 ⟨r, rfl, hr1, hr2, hr3, hb1⟩
  obtain ⟨f0, f1, f2, f3, f4, f5⟩ := HS0.out.keep hb1
  have HV1 := Lib.hid (VIn.keep hb1 HV0.out)
  have HB1 : Hid (Below w.heap.size w w1) := HB0.out.trans (hb1.mono HB0.out.size)
  have HR := Lib.hid hr3
  clear hb1 hr3 hr1 hr2
  by_cases hr : r ≤ 3000
  · have hd : decide (r ≤ 3000) = true := decide_eq_true hr
    have HW : Hid (wt (h + 1) x ≤ 3000) := by have := HR.out hr; show wt (h + 1) x ≤ 3000; omega
    go_wp2_with fail
    go_at_call 28
    refine (shallow_any Q (h + 1) x _ 60 w1 HV1.out (by decide) (by decide)).mono ?_
    rintro e w2 ⟨b, rfl, hb2⟩
    have HB2 : Hid (Below w.heap.size w w2) := HB1.out.trans (hb2.mono HB1.out.size)
    clear hb2
    go_wp2_with fail
    go_ret
    exact ⟨_, rfl, fun _ => HW.out, HB2.out⟩
  · have hd : decide (r ≤ 3000) = false := decide_eq_false hr
    go_wp2_with fail
    go_ret
    exact ⟨_, rfl, fun hb => (by cases hb), HB1.out⟩
end Go.Proofs.YtpiookgkkaafeaaDoor
end
section
namespace Go.Proofs.YtpiookgkkaafeaaDoor
open Go.RowKit
open Seal
open Bson (Val)
open Go.Sort
def nameX (p : ByteArray × Val) : ByteArray × Val := (p.1 ++ ⟨#[120]⟩, p.2)
def byteX (c : Nat) : Nat := (c + 1) % 256
set_option maxRecDepth 100000 in
set_option maxHeartbeats 4000000 in
theorem same5_any (Q Q2 : Nat → Prop) (h h2 : Nat) (x y : Val) (u v : Value) (w : World) (hx : VIn w Q (h + 1) x u) (hy : VIn w Q2 (h2 + 1) y v) (hT : Tabs w) :
    Calls Tryd.prog 5 #[u, v] w fun e w' => e = .returned (.bool true) ∧ Below w.heap.size w w' := by
  obtain ⟨xk, xn, xs, ba, fa, la, bn, bc, fn, fc, ln, lc, rfl, hxk, hxn, hxs, hbn, hfn, hln, hL, hF, hI⟩ := hx.letters
  obtain ⟨yk, yn, ys, ba2, fa2, la2, bn2, bc2, fn2, fc2, ln2, lc2, rfl, hyk, hyn, hys, hbn2, hfn2, hln2, hL2, hF2, hI2⟩ := hy.letters
  obtain ⟨ca, hca⟩ : ∃ ca, ca = #[Value.int .i64 xk, .int .i64 xn, .string xs, .slice ba bn bc, .slice fa fn fc, .slice la ln lc] := ⟨_, rfl⟩
  obtain ⟨cb, hcb⟩ : ∃ cb, cb = #[Value.int .i64 yk, .int .i64 yn, .string ys, .slice ba2 bn2 bc2, .slice fa2 fn2 fc2, .slice la2 ln2 lc2] := ⟨_, rfl⟩
  have HX : Hid (Boxed2 w ca cb 27 ((w.alloc (.cells #[Value.int .i64 xk, .int .i64 xn, .string xs, .slice ba bn bc, .slice fa fn fc, .slice la ln lc] 27)).alloc (.cells #[Value.int .i64 yk, .int .i64 yn, .string ys, .slice ba2 bn2 bc2, .slice fa2 fn2 fc2, .slice la2 ln2 lc2] 27))) := by rw [hca, hcb]; exact Boxed2.refl _ _ _ _
  have HA : Hid (∀ wr, Boxed2 w ca cb 27 wr → wr.cell? ⟨w.heap.size, 0, none⟩ = some (.int .i64 xk) ∧ wr.cell? ⟨w.heap.size, 1, none⟩ = some (.int .i64 xn) ∧ wr.cell? ⟨w.heap.size, 2, none⟩ = some (.string xs) ∧ wr.cell? ⟨w.heap.size, 3, none⟩ = some (.slice ba bn bc) ∧ wr.cell? ⟨w.heap.size, 4, none⟩ = some (.slice fa fn fc) ∧ wr.cell? ⟨w.heap.size, 5, none⟩ = some (.slice la ln lc)) := by
    intro wr hr
    refine ⟨(hr.one 0).trans ?_, (hr.one 1).trans ?_, (hr.one 2).trans ?_, (hr.one 3).trans ?_, (hr.one 4).trans ?_, (hr.one 5).trans ?_⟩ <;> (rw [hca]; rfl)
  have HB : Hid (∀ wr, Boxed2 w ca cb 27 wr → wr.cell? ⟨w.heap.size + 1, 0, none⟩ = some (.int .i64 yk) ∧ wr.cell? ⟨w.heap.size + 1, 1, none⟩ = some (.int .i64 yn) ∧ wr.cell? ⟨w.heap.size + 1, 2, none⟩ = some (.string ys) ∧ wr.cell? ⟨w.heap.size + 1, 3, none⟩ = some (.slice ba2 bn2 bc2) ∧ wr.cell? ⟨w.heap.size + 1, 4, none⟩ = some (.slice fa2 fn2 fc2) ∧ wr.cell? ⟨w.heap.size + 1, 5, none⟩ = some (.slice la2 ln2 lc2)) := by
    intro wr hr
    refine ⟨(hr.two 0).trans ?_, (hr.two 1).trans ?_, (hr.two 2).trans ?_, (hr.two 3).trans ?_, (hr.two 4).trans ?_, (hr.two 5).trans ?_⟩ <;> (rw [hcb]; rfl)
  have HVX : Hid (∀ wr, Boxed2 w ca cb 27 wr → VIn wr Q (h + 1) x (.agg #[Value.int .i64 xk, .int .i64 xn, .string xs, .slice ba bn bc, .slice fa fn fc, .slice la ln lc])) := fun wr hr => VIn.keep hr.below hx
  have HVY : Hid (∀ wr, Boxed2 w ca cb 27 wr → VIn wr Q2 (h2 + 1) y (.agg #[Value.int .i64 yk, .int .i64 yn, .string ys, .slice ba2 bn2 bc2, .slice fa2 fn2 fc2, .slice la2 ln2 lc2])) := fun wr hr => VIn.keep hr.below hy
  have HT := Lib.hid hT
  have HEX := Lib.hid (And.intro hxk (And.intro hxn (And.intro hxs (And.intro hbn (And.intro hfn hln)))))
  clear hx hy hxk hxn hxs hbn hfn hln hL hF hI hyk hyn hys hbn2 hfn2 hln2 hL2 hF2 hI2 hca hcb hT
  generalize hW : (w.alloc _).alloc _ = W0 at *
  have CA := Lib.hid (awake5_any W0 (HT.out.below HX.out.below))
  go_enter Tryd.func5, Tryd.ntmps5
  go_wp2_with fail
  clear hW
  refine CA.out.mono ?_
  rintro e w1 ⟨rfl, hb1⟩
  have HX1 := Lib.hid (HX.out.step hb1)
  obtain ⟨a0, a1, a2, a3, a4, a5⟩ := HA.out w1 HX1.out
  clear CA hb1 HX
  go_wp2_with fail
  go_at_call 16
  refine (small_any Q h x _ w1 (HVX.out w1 HX1.out)).mono ?_
  rintro e w2 ⟨b, rfl, hb, hb2⟩
  have HSM := Lib.hid hb
  have HX2 := Lib.hid (HX1.out.step hb2)
  clear hb hb2 a0 a1 a2 a3 a4 a5 HX1
  cases b with
  | false =>
    go_wp2_with fail
    go_ret
    exact ⟨rfl, HX2.out.below⟩
  | true =>
  have HWT : Hid (wt (h + 1) x ≤ 3000) := HSM.out rfl
  obtain ⟨b0, b1, b2, b3, b4, b5⟩ := HB.out w2 HX2.out
  go_wp2_with fail
  go_at_call 16
  refine (small_any Q2 h2 y _ w2 (HVY.out w2 HX2.out)).mono ?_
  rintro e w3 ⟨b, rfl, -, hb3⟩
  have HX3 := Lib.hid (HX2.out.step hb3)
  clear hb3 b0 b1 b2 b3 b4 b5 HX2
  cases b with
  | false =>
    go_wp2_with fail
    go_ret
    exact ⟨rfl, HX3.out.below⟩
  | true =>
  obtain ⟨a0, a1, a2, a3, a4, a5⟩ := HA.out w3 HX3.out
  go_wp2_with fail
  go_at_call 19
  refine (copy_sep Q h x _ w3 (HVX.out w3 HX3.out)).mono ?_
  rintro e w4 ⟨v4, rfl, ⟨p1, p2, p3, n1, n2, n3, q1, q2, rfl, hL, hc1, hc2, hc3, hq1, hq2, hBS, hlt, hFS, hIT⟩, hb4⟩
  have HX4 := Lib.hid (HX3.out.step hb4)
  obtain ⟨e1, e2, e3, e4, e5, e6⟩ := HEX.out
  rw [← e1, ← e2, ← e3, ← e4, ← e5, ← e6]
  rw [← e5] at hFS
  rw [← e4] at hc1
  rw [← e5] at hc2
  rw [← e6] at hc3
  have HL := Lib.hid hL
  have HS4 : Hid (CSt w4 w3.heap.size q1 q2 h p1 p2 p3 n1 fn x.b x.f x.l) := ⟨hBS, hFS, hIT⟩
  have HZ3 : Hid (w.heap.size + 2 ≤ w3.heap.size) := HX3.out.size
  have HQ := Lib.hid (And.intro hq1 (And.intro hq2 hlt))
  have HQB : Hid (x.f = [] ∨ q1 < w4.heap.size) := hFS.imp id fun h => h.2.1.lt
  have HQG : Hid (∀ g, p1 = some ⟨g, 0, none⟩ → x.b = [] ∨ g < w4.heap.size ∧ w3.heap.size ≤ g) := by
    rintro g rfl
    rcases hBS with h | ⟨g', e, h1, h2, h3, h4⟩
    · exact .inl h
    · injection e with e; injection e with e _ _; subst e
      exact .inr ⟨h3.lt, h1⟩
  have HBX : Hid (IsBox (w4.alloc (.cells #[.int .i64 xk, .int .i64 xn, .string xs, .slice p1 bn n1, .slice p2 fn n2, .slice p3 ln n3] 27)) w4.heap.size (.int .i64 xk) (.int .i64 xn) (.string xs) (.slice p1 bn n1) (.slice p2 fn n2) (.slice p3 ln n3)) := IsBox.new _ _ _ _ _ _ _
  have HBW : Hid (Below w4.heap.size w4 (w4.alloc (.cells #[.int .i64 xk, .int .i64 xn, .string xs, .slice p1 bn n1, .slice p2 fn n2, .slice p3 ln n3] 27))) := (Below.refl _ w4).alloc (Nat.le_refl _) _
  have HX5 := Lib.hid (HX4.out.step HBW.out)
  have HS5 := Lib.hid (HS4.out.keep HBW.out)
  have HC := Lib.hid (And.intro hc1 (And.intro hc2 hc3))
  clear hBS hFS hIT hL hc1 hc2 hc3 hq1 hq2 hlt hb4 a0 a1 a2 a3 a4 a5 e1 e2 e3 e4 e5 e6 HX4 HX3
  have HFN : Hid (fn = x.f.length) := HEX.out.2.2.2.2.1
  have HBN : Hid (bn = x.b.length) := HEX.out.2.2.2.1
  have hfnb : fn ≤ 1172812402961 := by rw [HFN.out]; exact HL.out.f
  have hbnb : bn ≤ 140737488355328 := by rw [HBN.out]; exact HL.out.b
  go_wp2_with fail
  go_loopw [6] (fun i wr => ∃ k : Nat, i = .int .i64 k ∧ k ≤ fn ∧ Hid (Boxed2 w ca cb 27 wr) ∧ Hid (IsBox wr w4.heap.size (.int .i64 xk) (.int .i64 xn) (.string xs) (.slice p1 bn n1) (.slice p2 fn n2) (.slice p3 ln n3)) ∧ Hid (CSt wr w3.heap.size q1 q2 h p1 p2 p3 n1 fn x.b (mapTo nameX k x.f) x.l)) (fun i _ => fn - (intOf i).toNat)
  case atStart => exact ⟨0, rfl, Nat.zero_le _, HX5, HBX, by rw [mapTo_zero]; exact HS5⟩
  case round =>
    obtain ⟨k, rfl, hk, HXr, HBr, HSr⟩ := hrel
    obtain ⟨x0, x1, x2, x3, x4, x5⟩ := HBr.out.cells
    by_cases hlt : k < fn
    · have hk1 : k < x.f.length := by rw [← HFN.out]; exact hlt
      have hkm : k < (mapTo nameX k x.f).length := by rw [mapTo_length]; exact hk1
      have hne : x.f ≠ [] := fun e => by rw [e] at hk1; simp at hk1
      obtain ⟨ep2, hr, hfl, hsz⟩ := HSr.out.fs.resolve_left (fun e => by rw [e] at hkm; simp at hkm)
      subst ep2
      have hat : (mapTo nameX k x.f)[k] = x.f[k] := by
        have := mapTo_at nameX k x.f hk1
        rw [List.getElem?_eq_getElem hkm] at this
        exact Option.some.inj this
      have s0 := (hfl k hkm hlt).1
      have hnz := hsz k hkm
      rw [hat] at s0 hnz
      obtain ⟨nm, hnm⟩ : ∃ nm, nm = x.f[k].1 := ⟨_, rfl⟩
      rw [← hnm] at s0 hnz
      have f0 := (hr.at (j := k * 7) (by omega)).2
      have hsm : nm.size ≤ 3000 := by
        have h1 := HWT.out
        rw [wt] at h1
        have h2 := mem_le_sum (fun p : ByteArray × Val => p.1.size + wt h p.2) x.f x.f[k] (List.getElem_mem hk1)
        simp only [← hnm] at h2
        omega
      have hn63 : ¬ 9223372036854775807 < nm.size + 1 := by omega
      have hq4 : q1 < w4.heap.size := HQB.out.resolve_left hne
      have hqn : ¬ q1 = w4.heap.size := Nat.ne_of_lt hq4
      have HNM := Lib.hid (And.intro hnm (And.intro hnz hat))
      clear hnm hnz hat hr hfl hsz hne
      go_wp2_with fail
      go_region
      have hb5 : Below (wr.setCell ⟨q1, k * 7, none⟩ (.string (nm ++ (⟨#[120]⟩ : ByteArray)))).heap.size (wr.setCell ⟨q1, k * 7, none⟩ (.string (nm ++ (⟨#[120]⟩ : ByteArray)))) (wr.setCell ⟨q1, k * 7, none⟩ (.string (nm ++ (⟨#[120]⟩ : ByteArray)))).drew := (Below.refl _ _).drew
      have hset : (mapTo nameX k x.f).set k (nm ++ (⟨#[120]⟩ : ByteArray), (mapTo nameX k x.f)[k].2) = mapTo nameX (k + 1) x.f := by
        rw [HNM.out.2.2, ← mapTo_set nameX k x.f hk1]
        congr 1
        rw [HNM.out.1]; rfl
      have HSn : Hid (CSt (wr.setCell ⟨q1, k * 7, none⟩ (.string (nm ++ (⟨#[120]⟩ : ByteArray)))).drew w3.heap.size q1 q2 h p1 (some ⟨q1, 0, none⟩) p3 n1 fn x.b (mapTo nameX (k + 1) x.f) x.l) := by
        have h1 := HSr.out.name (by rw [mapTo_length]; exact HFN.out.symm) (HQ.out.2.2.resolve_left (fun e => by rw [e] at hk1; simp at hk1)) hkm (nm ++ (⟨#[120]⟩ : ByteArray)) (by rw [ByteArray.size_append]; show nm.size + 1 ≤ _; omega)
        rw [hset] at h1
        exact h1.keep hb5
      have HXn : Hid (Boxed2 w ca cb 27 (wr.setCell ⟨q1, k * 7, none⟩ (.string (nm ++ (⟨#[120]⟩ : ByteArray)))).drew) := by
        have h1 : Boxed2 w ca cb 27 (wr.setCell ⟨q1, k * 7, none⟩ (.string (nm ++ (⟨#[120]⟩ : ByteArray)))) := puts_below HXr.out (by have := HZ3.out; have := HQ.out.1; omega) [.string (nm ++ (⟨#[120]⟩ : ByteArray))] (k * 7)
        exact h1.step hb5
      have HBn : Hid (IsBox (wr.setCell ⟨q1, k * 7, none⟩ (.string (nm ++ (⟨#[120]⟩ : ByteArray)))).drew w4.heap.size (.int .i64 xk) (.int .i64 xn) (.string xs) (.slice p1 bn n1) (.slice (some ⟨q1, 0, none⟩) fn n2) (.slice p3 ln n3)) := by
        have h1 : IsBox (wr.setCell ⟨q1, k * 7, none⟩ (.string (nm ++ (⟨#[120]⟩ : ByteArray)))) w4.heap.size (.int .i64 xk) (.int .i64 xn) (.string xs) (.slice p1 bn n1) (.slice (some ⟨q1, 0, none⟩) fn n2) (.slice p3 ln n3) := HBr.out.other (fun e => hqn e.symm) (k * 7) [.string (nm ++ (⟨#[120]⟩ : ByteArray))]
        exact h1.keep hb5
      clear hset hb5 s0 f0 x0 x1 x2 x3 x4 x5 HNM
      go_wp2_with fail
      go_roundw
      case rel => exact ⟨k + 1, by go_num, by omega, HXn, HBn, HSn⟩
      case measure => simp [intOf]; omega
    · obtain rfl : k = fn := by omega
      go_wp2_with fail
      have hfull : mapTo nameX k x.f = x.f.map nameX := by rw [HFN.out]; exact mapTo_full nameX x.f
      rw [hfull] at HSr
      clear hfull x0 x1 x2 x3 x4 x5
      go_loopw [7] (fun i wr => ∃ j : Nat, i = .int .i64 j ∧ j ≤ bn ∧ Hid (Boxed2 w ca cb 27 wr) ∧ Hid (IsBox wr w4.heap.size (.int .i64 xk) (.int .i64 xn) (.string xs) (.slice p1 bn n1) (.slice p2 k n2) (.slice p3 ln n3)) ∧ Hid (CSt wr w3.heap.size q1 q2 h p1 p2 p3 n1 k (mapTo byteX j x.b) (x.f.map nameX) x.l)) (fun i _ => bn - (intOf i).toNat)
      case atStart => exact ⟨0, rfl, Nat.zero_le _, HXr, HBr, by rw [mapTo_zero]; exact HSr⟩
      case round =>
        obtain ⟨j, rfl, hj, HXs, HBs, HSs⟩ := hrel
        obtain ⟨x0, x1, x2, x3, x4, x5⟩ := HBs.out.cells
        by_cases hlt2 : j < bn
        · have hj1 : j < x.b.length := by rw [← HBN.out]; exact hlt2
          have hjm : j < (mapTo byteX j x.b).length := by rw [mapTo_length]; exact hj1
          obtain ⟨g, ep1, hlo, hg1, hr, hrd⟩ := HSs.out.bs.resolve_left (fun e => by rw [e] at hjm; simp at hjm)
          subst ep1
          have hat : (mapTo byteX j x.b).getD j 0 = x.b[j] := by
            rw [List.getD_eq_getElem?_getD, mapTo_at byteX j x.b hj1]; rfl
          have s0 := hrd j hjm
          rw [hat, Nat.zero_add] at s0
          obtain ⟨c, hc⟩ : ∃ c, c = x.b[j] := ⟨_, rfl⟩
          rw [← hc] at s0
          have f0 := (hr.at (j := j) (by have := HC.out.1.1; omega)).2
          have hc256 : c < 256 := by rw [hc]; exact HL.out.o _ (List.getElem_mem hj1)
          obtain ⟨c2, hc2⟩ : ∃ c2, c2 = byteX c := ⟨_, rfl⟩
          have hw2 : IntKind.u8.wrap ((c : Int) + 1) = (c2 : Int) := by rw [hc2]; show ((c : Int) + 1) % 256 = _; unfold byteX; omega
          obtain ⟨hq4, hq5⟩ := (HQG.out g rfl).resolve_left (fun e => by rw [e] at hj1; simp at hj1)
          have hqn : ¬ g = w4.heap.size := Nat.ne_of_lt hq4
          have hset : (mapTo byteX j x.b).set j c2 = mapTo byteX (j + 1) x.b := by
            rw [← mapTo_set byteX j x.b hj1, hc2, hc]
          have HSn : Hid (CSt (wr.setCell ⟨g, j, none⟩ (.int .u8 (c2 : Int))) w3.heap.size q1 q2 h (some ⟨g, 0, none⟩) p2 p3 n1 k (mapTo byteX (j + 1) x.b) (x.f.map nameX) x.l) := by
            have h1 := HSs.out.byte (by rw [mapTo_length, ← HBN.out]; exact HC.out.1.1) HQ.out.2.1 hjm c2
            rw [hset] at h1
            exact h1
          have HXn : Hid (Boxed2 w ca cb 27 (wr.setCell ⟨g, j, none⟩ (.int .u8 (c2 : Int)))) := puts_below HXs.out (by have := HZ3.out; omega) [.int .u8 (c2 : Int)] j
          have HBn : Hid (IsBox (wr.setCell ⟨g, j, none⟩ (.int .u8 (c2 : Int))) w4.heap.size (.int .i64 xk) (.int .i64 xn) (.string xs) (.slice (some ⟨g, 0, none⟩) bn n1) (.slice p2 k n2) (.slice p3 ln n3)) := HBs.out.other (fun e => hqn e.symm) j [.int .u8 (c2 : Int)]
          clear hset hc hc2 hr hrd hat
          go_wp2_with fail
          go_roundw
          case rel => exact ⟨j + 1, by go_num, by omega, HXn, HBn, HSn⟩
          case measure => simp [intOf]; omega
        · obtain rfl : j = bn := by omega
          have hfull : mapTo byteX j x.b = x.b.map byteX := by rw [HBN.out]; exact mapTo_full byteX x.b
          rw [hfull] at HSs
          have HVD : Hid (VIn wr (fun _ => True) (h + 1) (.mk x.kind x.n x.s (x.b.map byteX) (x.f.map nameX) x.l) (.agg #[.int .i64 xk, .int .i64 xn, .string xs, .slice p1 j n1, .slice p2 k n2, .slice p3 ln n3])) := by
            obtain ⟨e1, e2, e3, e4, e5, e6⟩ := HEX.out
            obtain ⟨g1, g2, g3⟩ := HC.out
            have hl := HL.out
            refine ⟨p1, p2, p3, n1, n2, n3, ?_, ⟨hl.k0, hl.k1, hl.n0, hl.n1, hl.s, by show (x.b.map byteX).length ≤ _; rw [List.length_map]; exact hl.b, by show (x.f.map nameX).length ≤ _; rw [List.length_map]; exact hl.f, hl.l, ?_⟩, ?_, ?_, ?_, HSs.out.bs.in_, HSs.out.fs.in_ (by rw [List.length_map, ← e5]), HSs.out.it.kept (fun _ _ _ => rfl) (fun _ _ => trivial) (fun _ _ hv => hv.kept (fun _ _ _ => rfl) (fun _ _ => trivial))⟩
            · unfold agg
              show _ = Value.agg #[.int .i64 x.kind, .int .i64 x.n, .string x.s, .slice p1 (x.b.map byteX).length n1, .slice p2 (x.f.map nameX).length n2, .slice p3 x.l.length n3]
              rw [List.length_map, List.length_map, ← e1, ← e2, ← e3, ← e4, ← e5, ← e6]
            · intro c hc
              obtain ⟨c0, _, rfl⟩ := List.mem_map.1 hc
              unfold byteX; omega
            · show (x.b.map byteX).length ≤ _ ∧ _; rw [List.length_map, ← e4]; exact g1
            · show (x.f.map nameX).length ≤ _ ∧ _; rw [List.length_map, ← e5]; exact g2
            · show x.l.length ≤ _ ∧ _; rw [← e6]; exact g3
          have HVXr := Lib.hid (HVX.out wr HXs.out)
          have HVYr := Lib.hid (HVY.out wr HXs.out)
          obtain ⟨a0, a1, a2, a3, a4, a5⟩ := HA.out wr HXs.out
          obtain ⟨b0, b1, b2, b3, b4, b5⟩ := HB.out wr HXs.out
          obtain ⟨r, hr⟩ : ∃ r : Bool, (r = true ↔ x = y) := by
            by_cases e : x = y
            · exact ⟨true, by simp [e]⟩
            · exact ⟨false, by simp [e]⟩
          have HR := Lib.hid hr
          clear hr hfull
          by_cases hz : 0 < k + j
          · have hgt : (0 : Int) < (k : Int) + (j : Int) := by omega
            have HCH : Hid (x = .mk x.kind x.n x.s (x.b.map byteX) (x.f.map nameX) x.l ↔ false = true) := by
              constructor
              · intro e
                exfalso
                have eb : x.b = x.b.map byteX := congrArg Val.b e
                have ef : x.f = x.f.map nameX := congrArg Val.f e
                have h1 := HFN.out; have h2 := HBN.out
                rcases Nat.lt_or_ge 0 j with hj0 | hj0
                · have h3 : 0 < x.b.length := by omega
                  have h4 := congrArg (fun l => l[0]?) eb
                  simp only [List.getElem?_map, List.getElem?_eq_getElem h3, Option.map_some, Option.some.injEq] at h4
                  unfold byteX at h4
                  omega
                · have h3 : 0 < x.f.length := by omega
                  have h4 := congrArg (fun l => l[0]?.map (fun p => p.1.size)) ef
                  simp only [List.getElem?_map, List.getElem?_eq_getElem h3, Option.map_some, Option.some.injEq, nameX, ByteArray.size_append] at h4
                  have h5 : (⟨#[120]⟩ : ByteArray).size = 1 := rfl
                  omega
              · intro e; cases e
            have HQ1 := fun d os => Calls.regrown_of (P := Tryd.prog) (d := d) (os := os) (v := .bool r) ((bsame_any (h + 1) (h2 + 1) Q Q2 x y _ _ (grow (redrawn wr d) os) (VIn.keep (below_regrown wr d os) HVXr.out) (VIn.keep (below_regrown wr d os) HVYr.out)).mono fun e w3 ⟨r2, he, hr2, hb⟩ => ⟨by rw [he]; congr 2; rw [Bool.eq_iff_iff]; exact hr2.trans HR.out.symm, hb⟩)
            have HQ2 := fun d os => Calls.regrown_of (P := Tryd.prog) (d := d) (os := os) (v := .bool r) ((same_any (h + 1) (h2 + 1) Q Q2 x y _ _ (grow (redrawn wr d) os) (VIn.keep (below_regrown wr d os) HVXr.out) (VIn.keep (below_regrown wr d os) HVYr.out)).mono fun e w3 ⟨r2, he, hr2, hb⟩ => ⟨by rw [he]; congr 2; rw [Bool.eq_iff_iff]; exact hr2.trans HR.out.symm, hb⟩)
            have HQ3 := fun d os => Calls.regrown_of (P := Tryd.prog) (d := d) (os := os) (v := .bool true) ((bsame_any (h + 1) (h + 1) Q Q x x _ _ (grow (redrawn wr d) os) (VIn.keep (below_regrown wr d os) HVXr.out) (VIn.keep (below_regrown wr d os) HVXr.out)).mono fun e w3 ⟨r2, he, hr2, hb⟩ => ⟨by rw [he, hr2.2 rfl], hb⟩)
            have HQ4 := fun d os => Calls.regrown_of (P := Tryd.prog) (d := d) (os := os) (v := .bool false) ((bsame_any (h + 1) (h + 1) Q (fun _ => True) x (.mk x.kind x.n x.s (x.b.map byteX) (x.f.map nameX) x.l) _ _ (grow (redrawn wr d) os) (VIn.keep (below_regrown wr d os) HVXr.out) (VIn.keep (below_regrown wr d os) HVD.out)).mono fun e w3 ⟨r2, he, hr2, hb⟩ => ⟨by rw [he]; congr 2; rw [Bool.eq_iff_iff]; exact hr2.trans HCH.out, hb⟩)
            have qx0 := fun d os => cell_regrown x0 d os
            have qx1 := fun d os => cell_regrown x1 d os
            have qx2 := fun d os => cell_regrown x2 d os
            have qx3 := fun d os => cell_regrown x3 d os
            have qx4 := fun d os => cell_regrown x4 d os
            have qx5 := fun d os => cell_regrown x5 d os
            have qa0 := fun d os => cell_regrown a0 d os
            have qa1 := fun d os => cell_regrown a1 d os
            have qa2 := fun d os => cell_regrown a2 d os
            have qa3 := fun d os => cell_regrown a3 d os
            have qa4 := fun d os => cell_regrown a4 d os
            have qa5 := fun d os => cell_regrown a5 d os
            have qb0 := fun d os => cell_regrown b0 d os
            have qb1 := fun d os => cell_regrown b1 d os
            have qb2 := fun d os => cell_regrown b2 d os
            have qb3 := fun d os => cell_regrown b3 d os
            have qb4 := fun d os => cell_regrown b4 d os
            have qb5 := fun d os => cell_regrown b5 d os
            clear hlt hlt2
            go_wp2_with fail
            cases r
            all_goals
              refine wp_region_quiet_below (by kernel_rfl) (by kernel_rfl) ?_
              repeat (go_big_quiet_step (first | (go_at_call 20; first | (with_reducible exact HQ1 _ _) | (with_reducible exact HQ3 _ _) | (with_reducible exact HQ4 _ _)) | (go_at_call 13; exact HQ2 _ _)))
              refine wpQuiet_nil ?_
              intro _ hw'
              obtain ⟨⟨dq, osq⟩, hw''⟩ := hw'
              subst hw''
              have HB5 : Hid (Below w.heap.size w (grow (redrawn wr dq) osq)) := HXs.out.below.trans ((below_regrown wr dq osq).mono HXs.out.below.size)
              clear HQ1 HQ2 HQ3 HQ4 qx0 qx1 qx2 qx3 qx4 qx5 qa0 qa1 qa2 qa3 qa4 qa5 qb0 qb1 qb2 qb3 qb4 qb5
              go_wp2_with fail
              go_ret
              exact ⟨rfl, HB5.out⟩
          · obtain ⟨rfl, rfl⟩ : k = 0 ∧ j = 0 := by omega
            have HCH : Hid (x = .mk x.kind x.n x.s (x.b.map byteX) (x.f.map nameX) x.l ↔ true = true) := by
              refine ⟨fun _ => rfl, fun _ => ?_⟩
              have h1 : x.f = [] := List.eq_nil_of_length_eq_zero HFN.out.symm
              have h2 : x.b = [] := List.eq_nil_of_length_eq_zero HBN.out.symm
              exact val_ext rfl rfl rfl (by show x.b = x.b.map byteX; rw [h2]; rfl) (by show x.f = x.f.map nameX; rw [h1]; rfl) rfl
            have HQ1 := fun d os => Calls.regrown_of (P := Tryd.prog) (d := d) (os := os) (v := .bool r) ((bsame_any (h + 1) (h2 + 1) Q Q2 x y _ _ (grow (redrawn wr d) os) (VIn.keep (below_regrown wr d os) HVXr.out) (VIn.keep (below_regrown wr d os) HVYr.out)).mono fun e w3 ⟨r2, he, hr2, hb⟩ => ⟨by rw [he]; congr 2; rw [Bool.eq_iff_iff]; exact hr2.trans HR.out.symm, hb⟩)
            have HQ2 := fun d os => Calls.regrown_of (P := Tryd.prog) (d := d) (os := os) (v := .bool r) ((same_any (h + 1) (h2 + 1) Q Q2 x y _ _ (grow (redrawn wr d) os) (VIn.keep (below_regrown wr d os) HVXr.out) (VIn.keep (below_regrown wr d os) HVYr.out)).mono fun e w3 ⟨r2, he, hr2, hb⟩ => ⟨by rw [he]; congr 2; rw [Bool.eq_iff_iff]; exact hr2.trans HR.out.symm, hb⟩)
            have HQ3 := fun d os => Calls.regrown_of (P := Tryd.prog) (d := d) (os := os) (v := .bool true) ((bsame_any (h + 1) (h + 1) Q Q x x _ _ (grow (redrawn wr d) os) (VIn.keep (below_regrown wr d os) HVXr.out) (VIn.keep (below_regrown wr d os) HVXr.out)).mono fun e w3 ⟨r2, he, hr2, hb⟩ => ⟨by rw [he, hr2.2 rfl], hb⟩)
            have HQ4 := fun d os => Calls.regrown_of (P := Tryd.prog) (d := d) (os := os) (v := .bool true) ((bsame_any (h + 1) (h + 1) Q (fun _ => True) x (.mk x.kind x.n x.s (x.b.map byteX) (x.f.map nameX) x.l) _ _ (grow (redrawn wr d) os) (VIn.keep (below_regrown wr d os) HVXr.out) (VIn.keep (below_regrown wr d os) HVD.out)).mono fun e w3 ⟨r2, he, hr2, hb⟩ => ⟨by rw [he]; congr 2; rw [Bool.eq_iff_iff]; exact hr2.trans HCH.out, hb⟩)
            have qx0 := fun d os => cell_regrown x0 d os
            have qx1 := fun d os => cell_regrown x1 d os
            have qx2 := fun d os => cell_regrown x2 d os
            have qx3 := fun d os => cell_regrown x3 d os
            have qx4 := fun d os => cell_regrown x4 d os
            have qx5 := fun d os => cell_regrown x5 d os
            have qa0 := fun d os => cell_regrown a0 d os
            have qa1 := fun d os => cell_regrown a1 d os
            have qa2 := fun d os => cell_regrown a2 d os
            have qa3 := fun d os => cell_regrown a3 d os
            have qa4 := fun d os => cell_regrown a4 d os
            have qa5 := fun d os => cell_regrown a5 d os
            have qb0 := fun d os => cell_regrown b0 d os
            have qb1 := fun d os => cell_regrown b1 d os
            have qb2 := fun d os => cell_regrown b2 d os
            have qb3 := fun d os => cell_regrown b3 d os
            have qb4 := fun d os => cell_regrown b4 d os
            have qb5 := fun d os => cell_regrown b5 d os
            clear hlt hlt2
            go_wp2_with fail
            cases r
            all_goals
              refine wp_region_quiet_below (by kernel_rfl) (by kernel_rfl) ?_
              repeat (go_big_quiet_step (first | (go_at_call 20; first | (with_reducible exact HQ1 _ _) | (with_reducible exact HQ3 _ _) | (with_reducible exact HQ4 _ _)) | (go_at_call 13; exact HQ2 _ _)))
              refine wpQuiet_nil ?_
              intro _ hw'
              obtain ⟨⟨dq, osq⟩, hw''⟩ := hw'
              subst hw''
              have HB5 : Hid (Below w.heap.size w (grow (redrawn wr dq) osq)) := HXs.out.below.trans ((below_regrown wr dq osq).mono HXs.out.below.size)
              clear HQ1 HQ2 HQ3 HQ4 qx0 qx1 qx2 qx3 qx4 qx5 qa0 qa1 qa2 qa3 qa4 qa5 qb0 qb1 qb2 qb3 qb4 qb5
              go_wp2_with fail
              go_ret
              exact ⟨rfl, HB5.out⟩
end Go.Proofs.YtpiookgkkaafeaaDoor
end
