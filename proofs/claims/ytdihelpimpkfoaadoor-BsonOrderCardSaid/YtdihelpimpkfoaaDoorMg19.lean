/- BsonCopySep, PathField, BsonWithout. -/
import Derived.Test.YtdihelpimpkfoaaDoorMg18
import Derived.Test.YtdihelpimpkfoaaDoorMg5
import Derived.Test.YtdihelpimpkfoaaDoorMg6
import Derived.Test.YtdihelpimpkfoaaDoorMg10
import Derived.Test.YtdihelpimpkfoaaDoorMg8
set_option maxRecDepth 100000
section
namespace Go.Proofs.YtdihelpimpkfoaaDoor
open Go.RowKit
open Seal
open Bson (Val)
/-- Bytes in a row of their own, in a block between two. -/
def BSep (w : World) (lo hi : Nat) (a : Option Addr) (c : Nat) (l : List Nat) : Prop := l = [] ∨ ∃ g, a = some ⟨g, 0, none⟩ ∧ lo ≤ g ∧ g < hi ∧ Row6 w g 5 c ∧ Reads w g 0 l
/-- Fields in a row of their own; what they hold lies in blocks behind it. -/
def FSep (w : World) (p h : Nat) (a : Option Addr) (n : Nat) (f : List (ByteArray × Val)) : Prop := (f = [] ∧ a = none) ∨ a = some ⟨p, 0, none⟩ ∧ Row6 w p 35 (n * 7) ∧ Flds w p h f n ∧ ∀ i (hi : i < f.length), f[i].1.size ≤ 140737488355328
theorem Row6.kept {w w' : World} {G len : Nat} {t : TypeId} (h : Row6 w G t len) (hk : w'.heap[G]? = w.heap[G]?) : Row6 w' G t len := by
  obtain ⟨cs, h1, h2⟩ := h
  exact ⟨cs, hk.trans h1, h2⟩
theorem Row6.cell_kept {w w' : World} {G len : Nat} {t : TypeId} (h : Row6 w G t len) (hk : w'.heap[G]? = w.heap[G]?) (j : Nat) : w'.cell? ⟨G, j, none⟩ = w.cell? ⟨G, j, none⟩ := by
  obtain ⟨cs, h1, _⟩ := h
  rw [cell_of_row w' G j _ _ _ (hk.trans h1), cell_of_row w G j _ _ _ h1]
theorem BSep.kept {w w' : World} {lo hi : Nat} {a : Option Addr} {c : Nat} {l : List Nat} (h : BSep w lo hi a c l) (hk : Kept (fun g => lo ≤ g) w w') : BSep w' lo hi a c l := by
  rcases h with h | ⟨g, e, h1, h2, h3, h4⟩
  · exact .inl h
  · have hg := hk g h1 h3.lt
    exact .inr ⟨g, e, h1, h2, h3.kept hg, fun j hj => (h3.cell_kept hg _).trans (h4 j hj)⟩
theorem BSep.low {w : World} {lo lo' hi : Nat} {a : Option Addr} {c : Nat} {l : List Nat} (h : BSep w lo hi a c l) (hl : lo' ≤ lo) : BSep w lo' hi a c l :=
  h.imp id fun ⟨g, e, h1, h2⟩ => ⟨g, e, Nat.le_trans hl h1, h2⟩
theorem FSep.kept {w w' : World} {p h : Nat} {a : Option Addr} {n : Nat} {f : List (ByteArray × Val)} (hf : FSep w p h a n f) (hk : Kept (fun g => p ≤ g) w w') : FSep w' p h a n f := by
  rcases hf with h | ⟨e, h1, h2, h3⟩
  · exact .inl h
  · have hg := hk p (Nat.le_refl p) h1.lt
    refine .inr ⟨e, h1.kept hg, fun i hi hik => ?_, h3⟩
    obtain ⟨h4, v, ⟨c0, c1, c2, c3, c4, c5, e, k0, k1, k2, k3, k4, k5⟩, h6⟩ := h2 i hi hik
    exact ⟨(h1.cell_kept hg _).trans h4, v, ⟨c0, c1, c2, c3, c4, c5, e, (h1.cell_kept hg _).trans k0, (h1.cell_kept hg _).trans k1, (h1.cell_kept hg _).trans k2, (h1.cell_kept hg _).trans k3, (h1.cell_kept hg _).trans k4, (h1.cell_kept hg _).trans k5⟩, h6.kept (Q := fun g => p < g) (fun g hg hl => hk g (Nat.le_of_lt hg) hl) (fun _ h => h)⟩
/-- What a copy is: its bytes, its fields and its items lie apart. -/
def Apart (w w' : World) (h : Nat) (x : Val) (v : Value) : Prop := ∃ (a1 a2 a3 : Option Addr) (n1 n2 n3 p1 p2 : Nat),
  v = .agg #[.int .i64 x.kind, .int .i64 x.n, .string x.s, .slice a1 x.b.length n1, .slice a2 x.f.length n2, .slice a3 x.l.length n3] ∧ Lim x ∧
  (x.b.length ≤ n1 ∧ n1 ≤ 9223372036854775807) ∧ (x.f.length ≤ n2 ∧ n2 ≤ 9223372036854775807) ∧ (x.l.length ≤ n3 ∧ n3 ≤ 9223372036854775807) ∧ w.heap.size ≤ p1 ∧ p1 ≤ p2 ∧
  BSep w' w.heap.size p1 a1 n1 x.b ∧ ((x.f = [] ∧ a2 = none) ∨ p1 < p2) ∧ FSep w' p1 h a2 x.f.length x.f ∧
  ItemsIn w' (fun g => p2 ≤ g) (VIn w' (fun g => p2 ≤ g) h) a3 x.l
theorem clone_sep (Q : Nat → Prop) (ba : Option Addr) (l : List Nat) (n bc : Nat) (w : World) (hn : l.length = n) (hl : n ≤ 140737488355328) (hB : BytesIn w Q ba l) :
    Calls Tryd.prog 19 #[.slice ba n bc] w fun e w' => ∃ a' c', e = .returned (.slice a' n c') ∧ (n ≤ c' ∧ c' ≤ 9223372036854775807) ∧ (l = [] ∨ ∃ g, a' = some ⟨g, 0, none⟩ ∧ w.heap.size ≤ g ∧ Row6 w' g 5 c' ∧ Reads w' g 0 l) ∧ Below w.heap.size w w' := by
  subst hn
  cases ba with
  | none =>
    have hnil : l = [] := by
      rcases hB with h | ⟨g, o, e, _⟩
      · exact h
      · cases e
    refine (Tryd.bytes_Clone_nil l.length bc w).mono ?_
    rintro e w' ⟨rfl, rfl⟩
    exact ⟨none, 0, by rw [hnil]; rfl, by rw [hnil]; exact ⟨Nat.le_refl _, by omega⟩, .inl hnil, Below.refl _ _⟩
  | some a =>
    refine (Tryd.bytes_Clone_at a l.length bc (l.map fun x => ((x : Nat) : Int)) w (by simp) hl (fun i hi => ?_)).mono ?_
    · rcases hB with h | ⟨g, o, e, _, h⟩
      · rw [h] at hi; simp at hi
      · obtain rfl := Option.some.inj e
        have := h i hi
        rw [Addr.add_mid, this]
        simp [List.getD_eq_getElem?_getD, hi]
    · rintro e w' ⟨v', rfl, hown, hne, hb⟩
      obtain ⟨_, ⟨rfl, _⟩ | ⟨g, cap, cur, rfl, hg, hrow, hc, hm, hsz, htake⟩⟩ := hown
      · exact absurd rfl hne
      · refine ⟨_, cap, rfl, ⟨hc, by unfold maxLen at hm; omega⟩, .inr ⟨g, rfl, hg, ⟨cur, hrow, by omega⟩, fun j hj => ?_⟩, hb⟩
        have e1 : cur.toList[j]? = ((l.map fun x => ((x : Nat) : Int)).map (Value.int .u8))[j]? := by
          rw [← htake, List.getElem?_take_of_lt (by omega)]
        rw [Nat.zero_add, cell_of_row w' g j _ _ _ hrow, ← Array.getElem?_toList, e1]
        simp [List.getD_eq_getElem?_getD, hj]
set_option maxRecDepth 100000 in
set_option maxHeartbeats 1000000 in
theorem eachF_sep (Q : Nat → Prop) (h : Nat) (IH0 : CopyAt Q h) (a : Option Addr) (n c : Nat) (f : List (ByteArray × Val)) (w : World) (hn : f.length = n) (hnb : n ≤ 1172812402961) (hI : FieldsIn w Q (VIn w Q h) a f) :
    Calls Tryd.prog 20 #[.slice a n c, .func (.func 21) #[] #[]] w fun e w' => ∃ a' c', e = .returned (.slice a' n c') ∧ (n ≤ c' ∧ c' ≤ 9223372036854775807 ∧ c' = n) ∧ ((f = [] ∧ a' = none) ∨ a' = some ⟨w.heap.size, 0, none⟩ ∧ Row6 w' w.heap.size 35 (n * 7) ∧ Flds w' w.heap.size h f n ∧ ∀ i (hi : i < f.length), f[i].1.size ≤ 140737488355328) ∧ Below w.heap.size w w' := by
  have IH := Lib.hid (fun nm x c0 c1 c2 c3 c4 c5 w hv => copyfield_any Q h IH0 nm x c0 c1 c2 c3 c4 c5 w hv)
  have HI := Lib.hid hI
  have HN := Lib.hid hn
  have HNL : Hid (∀ i (hi : i < f.length), f[i].1.size ≤ 140737488355328) := by
    intro i hi
    rcases hI with h | ⟨g, o, _, _, h⟩
    · rw [h] at hi; simp at hi
    · exact (h i hi).2.1
  clear hI IH0 hn
  have hmk := run_makeFlds n hnb
  have he := fun u : World => Lib.run_eql_slice_nil (P := Tryd.prog) u 25 35 a n c 0 0 Tryd.underlying25
  cases a with
  | none =>
    have hnil : f = [] := by
      rcases HI.out with h | ⟨g, o, e, _⟩
      · exact h
      · cases e
    have hn0 : n = 0 := by rw [← HN.out, hnil]; rfl
    subst hn0
    have HNIL := Lib.hid hnil
    clear hnil
    go_enter Tryd.func20, Tryd.ntmps20
    go_wp2_with fail
    go_ret
    exact ⟨none, 0, rfl, ⟨Nat.le_refl _, by omega, rfl⟩, .inl ⟨HNIL.out, rfl⟩, Below.refl _ _⟩
  | some p =>
    go_enter Tryd.func20, Tryd.ntmps20
    go_wp2_with fail
    go_loopw [15] (fun i wr => ∃ k : Nat, i = .int .i64 k ∧ k ≤ n ∧ Hid (Row6 wr w.heap.size 35 (n * 7)) ∧ Hid (Flds wr w.heap.size h f k) ∧ Hid (Below w.heap.size w wr)) (fun i _ => n - (intOf i).toNat)
    case atStart => exact ⟨0, rfl, Nat.zero_le _, ⟨_, heap_alloc_new w _, size_madeCells _ _⟩, Flds.none _ _ _ _, (Below.refl _ w).alloc (Nat.le_refl _) _⟩
    case round =>
      obtain ⟨k, rfl, hk, HR, HVS, HB⟩ := hrel
      by_cases hlt : k < n
      · obtain ⟨g, o, hla, _, hall⟩ := HI.out.resolve_left (fun e => by have := HN.out; rw [e] at this; simp at this; omega)
        obtain ⟨hnm, hns, v', hsix, hV⟩ := hall k (by have := HN.out; omega)
        obtain rfl := Option.some.inj hla
        obtain ⟨ka, na, sa, ba, fa, la, bl, bc, fl, fc, ll, lc, rfl⟩ := hV.shape
        have HV := Lib.hid (VIn.keep HB.out hV)
        obtain ⟨s0, s1, s2, s3, s4, s5⟩ := (hsix.keep HB.out).cells
        obtain ⟨nm, hnme⟩ : ∃ nm, nm = (f[k]'(by have := HN.out; omega)).1 := ⟨_, rfl⟩
        have HNM := Lib.hid hnme
        clear hnme
        have s6 : wr.cell? ⟨g, o + k * 7, none⟩ = some (.string nm) := by rw [HNM.out]; exact cell_keep HB.out hnm
        have HNS : Hid (nm.size ≤ 140737488355328) := by rw [HNM.out]; exact hns
        clear hall hsix hV hnm hns
        go_wp2_with fail
        have HVa := Lib.hid (VIn.keep ((Below.refl _ wr).alloc (Nat.le_refl _) (.cells #[.string nm, .int .i64 ka, .int .i64 na, .string sa, .slice ba bl bc, .slice fa fl fc, .slice la ll lc] 35)) HV.out)
        refine (IH.out nm _ _ _ _ _ _ _ _ HVa.out).mono ?_
        rintro e w2 ⟨e0, e1, e2, e3, e4, e5, rfl, hv2, hb2⟩
        obtain ⟨kd, nd, sd, bd, fd, ld, bm, bz, fm, fz, lm, lz, hsh⟩ := hv2.shape
        injection hsh with hsh
        injection hsh with hsh
        injection hsh with x0 hsh; injection hsh with x1 hsh; injection hsh with x2 hsh; injection hsh with x3 hsh; injection hsh with x4 hsh; injection hsh with x5 hsh
        subst x0 x1 x2 x3 x4 x5
        clear hsh
        have HB2 : Hid (Below wr.heap.size wr w2) := ((Below.refl _ wr).alloc (Nat.le_refl _) _).trans (hb2.mono (by simp))
        have HR2 := Lib.hid (HR.out.keep HB2.out)
        have HVS2 := Lib.hid (HVS.out.keep HB2.out)
        have HBw2 : Hid (Below w.heap.size w w2) := HB.out.trans (HB2.out.mono HB.out.size)
        have hGlt : w.heap.size < wr.heap.size := HR.out.lt
        have HV2 : Hid (VIn w2 (fun g => w.heap.size < g) h (f[k]'(by have := HN.out; omega)).2 (.agg #[.int .i64 kd, .int .i64 nd, .string sd, .slice bd bm bz, .slice fd fm fz, .slice ld lm lz])) := hv2.kept (Kept.of_below (Below.refl _ _)) (fun g hg => by simp at hg; omega)
        clear hv2 hb2
        obtain ⟨⟨z0, g0⟩, f0⟩ := HR2.out.at (j := k * 7) (by omega)
        obtain ⟨⟨z1, g1⟩, f1⟩ := HR2.out.at (j := k * 7 + 1) (by omega)
        obtain ⟨⟨z2, g2⟩, f2⟩ := HR2.out.at (j := k * 7 + 2) (by omega)
        obtain ⟨⟨z3, g3⟩, f3⟩ := HR2.out.at (j := k * 7 + 3) (by omega)
        obtain ⟨⟨z4, g4⟩, f4⟩ := HR2.out.at (j := k * 7 + 4) (by omega)
        obtain ⟨⟨z5, g5⟩, f5⟩ := HR2.out.at (j := k * 7 + 5) (by omega)
        obtain ⟨⟨z6, g6⟩, f6⟩ := HR2.out.at (j := k * 7 + 6) (by omega)
        have HN2 : Hid (Flds (puts w2 w.heap.size (k * 7) [.string nm, .int .i64 kd, .int .i64 nd, .string sd, .slice bd bm bz, .slice fd fm fz, .slice ld lm lz]) w.heap.size h f (k + 1)) := by
          have := HVS2.out.put HR2.out (by have := HN.out; omega) (by rw [HN.out]) HV2.out
          rw [← HNM.out] at this
          exact this
        have HR3 := Lib.hid (HR2.out.puts (k * 7) [.string nm, .int .i64 kd, .int .i64 nd, .string sd, .slice bd bm bz, .slice fd fm fz, .slice ld lm lz] (by simp; omega)).1
        have HB3 := Lib.hid (puts_below HBw2.out (G := w.heap.size) (Nat.le_refl _) [.string nm, .int .i64 kd, .int .i64 nd, .string sd, .slice bd bm bz, .slice fd fm fz, .slice ld lm lz] (k * 7))
        clear s0 s1 s2 s3 s4 s5 s6 HV HVa HVS HR HB
        go_wp2_with fail
        go_roundw
        case rel => exact ⟨k + 1, by go_num, by omega, HR3, HN2, HB3⟩
        case measure => simp [intOf]; omega
      · have hkk : k = n := by omega
        subst hkk
        go_wp2_with fail
        go_ret
        exact ⟨some ⟨w.heap.size, 0, none⟩, k, rfl, ⟨Nat.le_refl _, by omega, rfl⟩, .inr ⟨rfl, HR.out, HVS.out, HNL.out⟩, HB.out⟩
/-- How many fields the copy's row has room for. -/
def CapIs (v : Value) (n : Nat) : Prop := ∃ (c0 c1 c2 c3 c5 : Value) (a : Option Addr) (m : Nat), v = .agg #[c0, c1, c2, c3, .slice a m n, c5]
set_option maxRecDepth 100000 in
set_option maxHeartbeats 1000000 in
theorem copy_cap (Q : Nat → Prop) (h : Nat) (x : Val) (v : Value) (w : World) (hv : VIn w Q (h + 1) x v) :
    Calls Tryd.prog 12 #[v] w fun e w' => ∃ v', e = .returned v' ∧ Apart w w' h x v' ∧ CapIs v' x.f.length ∧ Below w.heap.size w w' := by
  obtain ⟨ba, fa, la, bc, fc, lc, rfl, hL, hb, hf, hl, hB, hF, hI⟩ := hv
  have IH := copy_any Q h
  unfold agg
  obtain ⟨bn, hbn⟩ : ∃ n, n = x.b.length := ⟨_, rfl⟩
  obtain ⟨fn, hfn⟩ : ∃ n, n = x.f.length := ⟨_, rfl⟩
  obtain ⟨ln, hln⟩ : ∃ n, n = x.l.length := ⟨_, rfl⟩
  have hbl := hL.b; have hfl := hL.f; have hll := hL.l
  have CB := Lib.hid (fun w0 (hk : BytesIn w0 Q ba x.b) => clone_sep Q ba x.b bn bc w0 hbn.symm (by omega) hk)
  have CF := Lib.hid (fun w0 (hk : FieldsIn w0 Q (VIn w0 Q h) fa x.f) => eachF_sep Q h IH fa fn fc x.f w0 hfn.symm (by omega) hk)
  have CI := Lib.hid (fun w0 (hk : ItemsIn w0 Q (VIn w0 Q h) la x.l) => eachV_any Q h IH la ln lc x.l w0 hln.symm (by omega) hk)
  have HE := Lib.hid (And.intro hbn (And.intro hfn hln))
  have HL := Lib.hid hL
  have HB := Lib.hid hB; have HF := Lib.hid hF; have HI := Lib.hid hI
  rw [← hbn, ← hfn, ← hln]
  obtain ⟨xk, hxk⟩ : ∃ k, k = x.kind := ⟨_, rfl⟩
  obtain ⟨xn, hxn⟩ : ∃ k, k = x.n := ⟨_, rfl⟩
  obtain ⟨xs, hxs⟩ : ∃ k, k = x.s := ⟨_, rfl⟩
  rw [← hxk, ← hxn, ← hxs]
  have HX := Lib.hid (And.intro hxk (And.intro hxn hxs))
  clear hL hb hf hl hB hF hI hbl hfl hll hbn hfn hln hxk hxn hxs IH
  have HW0 := Lib.hid (BoxV.new (.int .i64 xk) (.int .i64 xn) (.string xs) (.slice ba bn bc) (.slice fa fn fc) (.slice la ln lc) w)
  go_enter Tryd.func12, Tryd.ntmps12
  go_wp2_with fail
  generalize hW0 : (w.alloc (Obj.cells #[.int .i64 xk, .int .i64 xn, .string xs, .slice ba bn bc, .slice fa fn fc, .slice la ln lc] 28)).alloc (Obj.cells #[.int .i64 0, .int .i64 0, .string { data := #[] }, .slice none 0 0, .slice none 0 0, .slice none 0 0] 28) = W0 at HW0 ⊢
  clear hW0
  have hk : Hid (∀ W, Below w.heap.size w W → Kept Q w W) := fun W hb => Kept.of_below hb
  refine (CB.out W0 (HB.out.kept (hk.out W0 HW0.out.2.2.1) (fun _ h => h))).mono ?_
  rintro e w1 ⟨a1, n1, rfl, hn1, hP1, hb1⟩
  have HX1 := Lib.hid (HW0.out.keep hb1)
  have HS1 := Lib.hid (HX1.out.set3 (.slice a1 bn n1))
  have hP1' : BSep w1 (w.heap.size + 2) w1.heap.size a1 n1 x.b := by
    rcases hP1 with h0 | ⟨g, e, hg, hr, hrd⟩
    · exact .inl h0
    · exact .inr ⟨g, e, by have := HW0.out.2.2.2; omega, hr.lt, hr, hrd⟩
  have HP1 : Hid (BSep (w1.setCell ⟨w.heap.size, 3, none⟩ (.slice a1 bn n1)) (w.heap.size + 2) w1.heap.size a1 n1 x.b) := hP1'.kept (puts_kept (fun g => w.heap.size + 2 ≤ g) (w := w1) (G := w.heap.size) (by omega) 3 [.slice a1 bn n1])
  have HZ1 : Hid ((w1.setCell ⟨w.heap.size, 3, none⟩ (.slice a1 bn n1)).heap.size = w1.heap.size) := by show _ = _; simp
  have HN1 := Lib.hid hn1
  obtain ⟨p0, p1, p2, p3, p4, p5⟩ := HX1.out.cells
  have f3 := HX1.out.frozen 3
  obtain ⟨q0, q1, q2, q3, q4, q5⟩ := HS1.out.cells
  clear hP1 hP1' hb1 hn1 HX1
  go_wp2_with fail
  clear p0 p1 p2 p3 p4 p5 q0 q1 q2 q3 q4 q5 f3
  generalize w1.setCell ⟨w.heap.size, 3, none⟩ (.slice a1 bn n1) = W1 at HS1 HP1 HZ1 ⊢
  refine (CF.out W1 (HF.out.kept (hk.out W1 HS1.out.2.2.1) (fun _ h => h) (fun _ _ h => VIn.keep HS1.out.2.2.1 h))).mono ?_
  rintro e w2 ⟨a2, n2, rfl, hn2, hP2, hb2⟩
  have HX2 := Lib.hid (HS1.out.keep hb2)
  have HS2 := Lib.hid (HX2.out.set4 (.slice a2 fn n2))
  have hkk2 : Kept (fun g => w.heap.size + 2 ≤ g) W1 (w2.setCell ⟨w.heap.size, 4, none⟩ (.slice a2 fn n2)) := fun g hg hl => ((puts_kept (fun g => w.heap.size + 2 ≤ g) (w := w2) (G := w.heap.size) (by omega) 4 [.slice a2 fn n2]) g hg (by have := hb2.size; omega)).trans (hb2.block g hl)
  have HP1b := Lib.hid (HP1.out.kept hkk2)
  have hq2 := puts_kept (fun g => W1.heap.size ≤ g) (w := w2) (G := w.heap.size) (by have := HS1.out.2.2.2; omega) 4 [.slice a2 fn n2]
  have hP2' : FSep w2 W1.heap.size h a2 fn x.f := hP2
  have HP2 : Hid (FSep (w2.setCell ⟨w.heap.size, 4, none⟩ (.slice a2 fn n2)) W1.heap.size h a2 fn x.f) := hP2'.kept hq2
  have HZ2 : Hid ((w2.setCell ⟨w.heap.size, 4, none⟩ (.slice a2 fn n2)).heap.size = w2.heap.size) := by show _ = _; simp
  have HLT : Hid (W1.heap.size ≤ w2.heap.size ∧ ((x.f = [] ∧ a2 = none) ∨ W1.heap.size < w2.heap.size)) := ⟨hb2.size, hP2'.imp id fun h => h.2.1.lt⟩
  have HN2 := Lib.hid hn2
  obtain ⟨p0, p1, p2, p3, p4, p5⟩ := HX2.out.cells
  have f4 := HX2.out.frozen 4
  obtain ⟨q0, q1, q2, q3, q4, q5⟩ := HS2.out.cells
  clear hP2 hP2' hb2 hn2 HX2 hkk2 hq2 HP1
  go_wp2_with fail
  clear p0 p1 p2 p3 p4 p5 q0 q1 q2 q3 q4 q5 f4
  generalize w2.setCell ⟨w.heap.size, 4, none⟩ (.slice a2 fn n2) = W2 at HS2 HP1b HP2 HZ2 ⊢
  refine (CI.out W2 (HI.out.kept (hk.out W2 HS2.out.2.2.1) (fun _ h => h) (fun _ _ h => VIn.keep HS2.out.2.2.1 h))).mono ?_
  rintro e w3 ⟨a3, n3, rfl, hn3, hP3, hb3⟩
  have HX3 := Lib.hid (HS2.out.keep hb3)
  have HS3 := Lib.hid (HX3.out.set5 (.slice a3 ln n3))
  have hkk3 : Kept (fun g => w.heap.size + 2 ≤ g) W2 (w3.setCell ⟨w.heap.size, 5, none⟩ (.slice a3 ln n3)) := fun g hg hl => ((puts_kept (fun g => w.heap.size + 2 ≤ g) (w := w3) (G := w.heap.size) (by omega) 5 [.slice a3 ln n3]) g hg (by have := hb3.size; omega)).trans (hb3.block g hl)
  have HP1c := Lib.hid (HP1b.out.kept hkk3)
  have hkk3f : Kept (fun g => W1.heap.size ≤ g) W2 (w3.setCell ⟨w.heap.size, 5, none⟩ (.slice a3 ln n3)) := fun g hg hl => ((puts_kept (fun g => W1.heap.size ≤ g) (w := w3) (G := w.heap.size) (by have := HS1.out.2.2.2; omega) 5 [.slice a3 ln n3]) g hg (by have := hb3.size; omega)).trans (hb3.block g hl)
  have HP2c := Lib.hid (HP2.out.kept hkk3f)
  have hq3 := puts_kept (fun g => W2.heap.size ≤ g) (w := w3) (G := w.heap.size) (by have := HS2.out.2.2.2; omega) 5 [.slice a3 ln n3]
  have HP3 : Hid (ItemsIn (w3.setCell ⟨w.heap.size, 5, none⟩ (.slice a3 ln n3)) (fun g => W2.heap.size ≤ g) (VIn (w3.setCell ⟨w.heap.size, 5, none⟩ (.slice a3 ln n3)) (fun g => W2.heap.size ≤ g) h) a3 x.l) := hP3.kept hq3 (fun _ h => h) (fun _ _ hv => hv.kept hq3 (fun _ h => h))
  have HN3 := Lib.hid hn3
  obtain ⟨p0, p1, p2, p3, p4, p5⟩ := HX3.out.cells
  have f5 := HX3.out.frozen 5
  obtain ⟨q0, q1, q2, q3, q4, q5⟩ := HS3.out.cells
  obtain ⟨z0, z1, z2, z3, z4, z5, g0, g1, g2, g3, g4, g5⟩ := HS3.out.zeros
  clear hP3 hb3 hn3 HX3 hkk3 hkk3f hq3 HP1b HP2
  have hk9 := puts_kept (fun g => (w.heap.size + 2) ≤ g) (w := w3.setCell ⟨w.heap.size, 5, none⟩ (.slice a3 ln n3)) (G := w.heap.size + 1) (by have := HS1.out.2.2.2; have := HS2.out.2.2.2; omega) 0 [.int .i64 xk, .int .i64 xn, .string xs, .slice a1 bn n1, .slice a2 fn n2, .slice a3 ln n3]
  have hk9f := puts_kept (fun g => W1.heap.size ≤ g) (w := w3.setCell ⟨w.heap.size, 5, none⟩ (.slice a3 ln n3)) (G := w.heap.size + 1) (by have := HS1.out.2.2.2; have := HS2.out.2.2.2; omega) 0 [.int .i64 xk, .int .i64 xn, .string xs, .slice a1 bn n1, .slice a2 fn n2, .slice a3 ln n3]
  have hk9l := puts_kept (fun g => W2.heap.size ≤ g) (w := w3.setCell ⟨w.heap.size, 5, none⟩ (.slice a3 ln n3)) (G := w.heap.size + 1) (by have := HS1.out.2.2.2; have := HS2.out.2.2.2; omega) 0 [.int .i64 xk, .int .i64 xn, .string xs, .slice a1 bn n1, .slice a2 fn n2, .slice a3 ln n3]
  have HB9 := Lib.hid (puts_below HS3.out.2.2.1 (G := w.heap.size + 1) (by omega) [.int .i64 xk, .int .i64 xn, .string xs, .slice a1 bn n1, .slice a2 fn n2, .slice a3 ln n3] 0)
  have HV9 : Hid (Apart w (puts (w3.setCell ⟨w.heap.size, 5, none⟩ (.slice a3 ln n3)) (w.heap.size + 1) 0 [.int .i64 xk, .int .i64 xn, .string xs, .slice a1 bn n1, .slice a2 fn n2, .slice a3 ln n3]) h x (.agg #[.int .i64 xk, .int .i64 xn, .string xs, .slice a1 bn n1, .slice a2 fn n2, .slice a3 ln n3])) := by
    obtain ⟨e1, e2, e3⟩ := HE.out
    obtain ⟨e4, e5, e6⟩ := HX.out
    obtain ⟨l1, l2⟩ := HLT.out
    have z1 := HZ1.out
    have z2 := HZ2.out
    refine ⟨a1, a2, a3, n1, n2, n3, W1.heap.size, W2.heap.size, by rw [← e1, ← e2, ← e3, ← e4, ← e5, ← e6], HL.out, by rw [← e1]; exact HN1.out, by rw [← e2]; exact ⟨HN2.out.1, HN2.out.2.1⟩, by rw [← e3]; exact HN3.out, by have := HS1.out.2.2.2; omega, by omega, ?_, by rw [z2]; exact l2, ?_, HP3.out.kept hk9l (fun _ h => h) (fun _ _ hv => hv.kept hk9l (fun _ h => h))⟩
    · have hB := HP1c.out.kept hk9
      rw [← z1] at hB
      exact hB.low (by omega)
    · rw [← e2]; exact HP2c.out.kept hk9f
  have HCAP : Hid (CapIs (.agg #[.int .i64 xk, .int .i64 xn, .string xs, .slice a1 bn n1, .slice a2 fn n2, .slice a3 ln n3]) fn) := ⟨_, _, _, _, _, a2, fn, by rw [HN2.out.2.2]⟩
  clear hk9 hk9f hk9l HP1c HP2c HP3 HE HX HL HN1 HN2 HN3 HS3 HS1 HS2 HZ1 HZ2 HLT
  go_wp2_with fail
  exact bodyPost_ret (v := .agg #[.int .i64 xk, .int .i64 xn, .string xs, .slice a1 bn n1, .slice a2 fn n2, .slice a3 ln n3]) (by simp [results, Tryd.results12, go_sem, z0, z1, z2, z3, z4, z5]) rfl ⟨_, rfl, HV9.out, HCAP.out, HB9.out⟩
theorem copy_sep (Q : Nat → Prop) (h : Nat) (x : Val) (v : Value) (w : World) (hv : VIn w Q (h + 1) x v) :
    Calls Tryd.prog 12 #[v] w fun e w' => ∃ v', e = .returned v' ∧ Apart w w' h x v' ∧ Below w.heap.size w w' :=
  (copy_cap Q h x v w hv).mono fun _ _ ⟨v', h1, h2, _, h3⟩ => ⟨v', h1, h2, h3⟩
end Go.Proofs.YtdihelpimpkfoaaDoor
end
section
namespace Go.Proofs.YtdihelpimpkfoaaDoor
open Go.RowKit
open Seal
open Bson (Val)
theorem fieldIn_none : ∀ (f : List (ByteArray × Val)) (a : ByteArray), (∀ i (hi : i < f.length), f[i].1 ≠ a) → Bson.fieldIn f a = Bson.zero
  | [], _, _ => rfl
  | (s, v) :: r, a, h => by
    rw [Bson.fieldIn, if_neg (show ¬ s = a from h 0 (by simp))]
    exact fieldIn_none r a (fun i hi => h (i + 1) (by simpa using hi))
theorem fieldIn_at : ∀ (f : List (ByteArray × Val)) (a : ByteArray) (k : Nat) (hk : k < f.length), (∀ i (hi : i < f.length), i < k → f[i].1 ≠ a) → f[k].1 = a → Bson.fieldIn f a = f[k].2
  | (s, v) :: r, a, 0, _, _, e => by rw [Bson.fieldIn, if_pos (show s = a from e)]; rfl
  | (s, v) :: r, a, k + 1, hk, h, e => by
    rw [Bson.fieldIn, if_neg (show ¬ s = a from h 0 (by simp) (by omega))]
    exact fieldIn_at r a k (by simpa using hk) (fun i hi hik => h (i + 1) (by simpa using hi) (by omega)) e
end Go.Proofs.YtdihelpimpkfoaaDoor
end
section
namespace Go.Proofs.YtdihelpimpkfoaaDoor
open Go.RowKit
open Seal
open Bson (Val)
theorem BSep.bytes {w : World} {lo hi : Nat} {a : Option Addr} {c : Nat} {l : List Nat} {Q : Nat → Prop} (h : BSep w lo hi a c l) (hQ : ∀ g, lo ≤ g → g < hi → Q g) : BytesIn w Q a l :=
  h.imp id fun ⟨g, e, h1, h2, _, h4⟩ => ⟨g, 0, e, hQ g h1 h2, h4⟩
theorem Lim.fields {x : Val} (h : Lim x) {f : List (ByteArray × Val)} (hf : f.length ≤ 1172812402961) : Lim (.mk x.kind x.n x.s x.b f x.l) := ⟨h.k0, h.k1, h.n0, h.n1, h.s, h.b, hf, h.l, h.o⟩
/-- A copy whose fields stand otherwise. -/
theorem Apart.fields {w W W' : World} {h : Nat} {x : Val} {a1 a2 a3 : Option Addr} {n1 n2 n3 p1 p2 : Nat} {f : List (ByteArray × Val)} (hl : Lim x) (h1 : x.b.length ≤ n1 ∧ n1 ≤ 9223372036854775807) (h2 : f.length ≤ n2 ∧ n2 ≤ 9223372036854775807) (h3 : x.l.length ≤ n3 ∧ n3 ≤ 9223372036854775807)
    (hp : w.heap.size ≤ p1) (hp2 : p1 ≤ p2) (hB : BSep W w.heap.size p1 a1 n1 x.b) (hI : ItemsIn W (fun g => p2 ≤ g) (VIn W (fun g => p2 ≤ g) h) a3 x.l) (hf : f.length ≤ 1172812402961)
    (kB : Kept (fun g => w.heap.size ≤ g ∧ g < p1) W W') (kI : Kept (fun g => p2 ≤ g) W W') (hF : FieldsIn W' (fun g => w.heap.size ≤ g) (VIn W' (fun g => w.heap.size ≤ g) h) a2 f) :
    VIn W' (fun g => w.heap.size ≤ g) (h + 1) (.mk x.kind x.n x.s x.b f x.l) (.agg #[.int .i64 x.kind, .int .i64 x.n, .string x.s, .slice a1 x.b.length n1, .slice a2 f.length n2, .slice a3 x.l.length n3]) :=
  ⟨a1, a2, a3, n1, n2, n3, rfl, hl.fields hf, h1, h2, h3, (hB.bytes (Q := fun g => w.heap.size ≤ g ∧ g < p1) fun g h4 h5 => ⟨h4, h5⟩).kept kB (fun _ h4 => h4.1), hF,
    hI.kept kI (fun g h4 => by omega) (fun _ _ hv => hv.kept kI (fun g h4 => by omega))⟩
theorem gap_of {w0 W1 : World} {p1 p2 h n : Nat} {a2 : Option Addr} {f : List (ByteArray × Val)} (hn : n = f.length) (hp1 : w0.heap.size ≤ p1) (hle : w0.heap.size ≤ W1.heap.size) (hp : f = [] ∨ p1 < p2) (hF : FSep W1 p1 h a2 n f) :
    ∃ G, (f = [] ∨ a2 = some ⟨G, 0, none⟩) ∧ (f = [] ∨ Row6 W1 G 35 (n * 7)) ∧ FldsTo W1 G h f ∧ w0.heap.size ≤ G ∧ (∀ g, g < p1 → g < W1.heap.size → g ≠ G) ∧ (∀ g, p2 ≤ g → g < W1.heap.size → g ≠ G) := by
  rcases hF with ⟨e, -⟩ | ⟨e, h1, h2, h3⟩
  · subst e
    exact ⟨W1.heap.size, .inl rfl, .inl rfl, fun t ht => by simp at ht, hle, fun g _ h => by omega, fun g _ h => by omega⟩
  · by_cases e0 : f = []
    · subst e0
      exact ⟨W1.heap.size, .inl rfl, .inl rfl, fun t ht => by simp at ht, hle, fun g _ h => by omega, fun g _ h => by omega⟩
    · have hlt := hp.resolve_left e0
      exact ⟨p1, .inr e, .inr h1, fieldsTo_of hn h2 h3, hp1, fun g h _ => by omega, fun g h _ => by omega⟩
theorem IsBox.put4 {W : World} {n : Nat} {c0 c1 c2 c3 c4 c5 : Value} (h : IsBox W n c0 c1 c2 c3 c4 c5) (d : Value) : IsBox (W.setCell ⟨n, 4, none⟩ d) n c0 c1 c2 c3 d c5 := heap_setCell_same W _ 4 _ _ d h
theorem FldsTo.fieldsOr {w : World} {G h : Nat} {a : Option Addr} {f l : List (ByteArray × Val)} {Q : Nat → Prop} (hl : FldsTo w G h l) (ha : f = [] ∨ a = some ⟨G, 0, none⟩) (hfl : f = [] → l = []) (hQ : Q G) (hQ2 : ∀ g, G < g → Q g) : FieldsIn w Q (VIn w Q h) a l := by
  rcases ha with e | e
  · exact .inl (hfl e)
  · rw [e]; exact hl.fields hQ hQ2
set_option maxRecDepth 100000 in
theorem without_boxes (w : World) (xn : Int) (xs nm : ByteArray) (ba fa la : Option Addr) (bn bc fn fc ln lc : Nat) (W0 : World) (hW0 : W0 = (((w.alloc (Obj.cells #[.int .i64 6, .int .i64 xn, .string xs, .slice ba bn bc, .slice fa fn fc, .slice la ln lc] 28)).alloc (.cells #[.string nm] 9)).alloc (Obj.cells #[.int .i64 0, .int .i64 0, .string { data := #[] }, .slice none 0 0, .slice none 0 0, .slice none 0 0] 28))) :
    Below w.heap.size w W0 ∧ W0.heap.size = w.heap.size + 3 ∧ IsBox W0 w.heap.size (.int .i64 6) (.int .i64 xn) (.string xs) (.slice ba bn bc) (.slice fa fn fc) (.slice la ln lc) ∧ W0.heap[w.heap.size + 1]? = some (.cells #[.string nm] 9 (0, 0)) ∧ IsBox W0 (w.heap.size + 1 + 1) (.int .i64 0) (.int .i64 0) (.string { data := #[] }) (.slice none 0 0) (.slice none 0 0) (.slice none 0 0) := by
  have b1 := (Below.refl w.heap.size w).alloc (Nat.le_refl _) (Obj.cells #[.int .i64 6, .int .i64 xn, .string xs, .slice ba bn bc, .slice fa fn fc, .slice la ln lc] 28)
  have b2 := b1.alloc b1.size (.cells #[.string nm] 9)
  have b3 := b2.alloc b2.size (Obj.cells #[.int .i64 0, .int .i64 0, .string { data := #[] }, .slice none 0 0, .slice none 0 0, .slice none 0 0] 28)
  subst hW0
  refine ⟨b3, by simp, ?_, ?_, ?_⟩
  · have := IsBox.new w (.int .i64 6) (.int .i64 xn) (.string xs) (.slice ba bn bc) (.slice fa fn fc) (.slice la ln lc)
    exact (this.keep ((Below.refl _ _).alloc (Nat.le_refl _) (.cells #[.string nm] 9))).keep ((Below.refl _ _).alloc (Nat.le_refl _) (Obj.cells #[.int .i64 0, .int .i64 0, .string { data := #[] }, .slice none 0 0, .slice none 0 0, .slice none 0 0] 28))
  · have h1 := heap_alloc_new (w.alloc (Obj.cells #[.int .i64 6, .int .i64 xn, .string xs, .slice ba bn bc, .slice fa fn fc, .slice la ln lc] 28)) (.cells #[.string nm] 9)
    have h2 : (w.alloc (Obj.cells #[.int .i64 6, .int .i64 xn, .string xs, .slice ba bn bc, .slice fa fn fc, .slice la ln lc] 28)).heap.size = w.heap.size + 1 := by simp
    rw [h2] at h1
    exact (Below.heap_alloc _ _ _ (by simp)).trans h1
  · have := IsBox.new ((w.alloc (Obj.cells #[.int .i64 6, .int .i64 xn, .string xs, .slice ba bn bc, .slice fa fn fc, .slice la ln lc] 28)).alloc (.cells #[.string nm] 9)) (.int .i64 0) (.int .i64 0) (.string { data := #[] }) (.slice none 0 0) (.slice none 0 0) (.slice none 0 0)
    simpa using this
set_option maxRecDepth 100000 in
set_option maxHeartbeats 1500000 in
theorem without_any (Q : Nat → Prop) (h : Nat) (x : Val) (v : Value) (nm : ByteArray) (w : World) (hv : VIn w Q (h + 1) x v) (hk : x.kind = 6) :
    Calls Tryd.prog 11 #[v, .string nm] w (ValPost (fun g => w.heap.size ≤ g) w (h + 1) (.mk x.kind x.n x.s x.b (x.f.filter fun p => !decide (p.1 = nm)) x.l)) := by
  obtain ⟨xk, xn, xs, ba, fa, la, bn, bc, fn, fc, ln, lc, rfl, hxk, hxn, hxs, hbn, hfn, hln, hL, -, -⟩ := hv.letters
  obtain rfl : xk = 6 := by rw [hxk, hk]
  obtain ⟨W0, hW0⟩ : ∃ W0, W0 = (((w.alloc (Obj.cells #[.int .i64 6, .int .i64 xn, .string xs, .slice ba bn bc, .slice fa fn fc, .slice la ln lc] 28)).alloc (.cells #[.string nm] 9)).alloc (Obj.cells #[.int .i64 0, .int .i64 0, .string { data := #[] }, .slice none 0 0, .slice none 0 0, .slice none 0 0] 28)) := ⟨_, rfl⟩
  obtain ⟨b3, hsz, k0, k1, k2⟩ := without_boxes w xn xs nm ba fa la bn bc fn fc ln lc W0 hW0
  have HL := Lib.hid hL
  have HX := Lib.hid (And.intro hxk (And.intro hxn (And.intro hxs (And.intro hbn (And.intro hfn hln)))))
  have HB0 := Lib.hid b3
  have HSZ := Lib.hid hsz
  have K0 := Lib.hid k0; have K1 := Lib.hid k1; have K2 := Lib.hid k2
  have CC := Lib.hid (copy_cap Q h x _ W0 (VIn.keep b3 hv))
  obtain ⟨y, hy⟩ : ∃ y, y = Bson.Val.mk x.kind x.n x.s x.b (x.f.filter fun p => !decide (p.1 = nm)) x.l := ⟨_, rfl⟩
  rw [← hy]
  have HY := Lib.hid hy
  clear hv hL hk b3 hsz k0 k1 k2 hxk hxn hxs hbn hfn hln hy
  go_enter Tryd.func11, Tryd.ntmps11
  go_wp2_with fail
  rw [← hW0]
  refine CC.out.mono ?_
  rintro e w1 ⟨v1, rfl, hA, hcap, hb1⟩
  obtain ⟨a1, a2, a3, n1, n2, n3, p1, p2, hv1, -, hn1, hn2, hn3, hp1, hp12, hB, hp12', hF, hI⟩ := hA
  obtain ⟨e1, e2, e3, e4, e5, e6⟩ := HX.out
  rw [← e4, ← e5, ← e6, ← e1, ← e2, ← e3] at hv1
  rw [← e4] at hn1
  rw [← e5] at hn2 hF
  rw [← e6] at hn3
  subst hv1
  have HA := Lib.hid (And.intro hn1 (And.intro hn2 (And.intro hn3 (And.intro hp1 (And.intro hp12 (And.intro hB (And.intro hp12' (And.intro hF hI))))))))
  have HB1 := Lib.hid hb1
  have K0' := Lib.hid (K0.out.keep hb1)
  have KP := Lib.hid (K0'.out.put (.int .i64 6) (.int .i64 xn) (.string xs) (.slice a1 bn n1) (.slice a2 fn n2) (.slice a3 ln n3))
  have K1' : Hid (w1.heap[w.heap.size + 1]? = some (.cells #[.string nm] 9 (0, 0))) := (hb1.block _ (by rw [HSZ.out]; omega)).trans K1.out
  have K2' := Lib.hid (K2.out.keep hb1)
  obtain ⟨z0, z1, z2, z3, z4, z5⟩ := K0'.out.cells
  obtain ⟨f0, f1, f2, f3, f4, f5⟩ := K0'.out.thaw
  clear hn1 hn2 hn3 hp1 hp12 hB hp12' hF hI hcap hb1 CC e1 e2 e3 e4 e5 e6 hW0
  obtain ⟨q0, q1, q2, q3, q4, q5⟩ := KP.out.cells
  go_wp2_with fail
  obtain ⟨hn1, hn2, hn3, hp1, hp12, hB, hp12', hF, hI⟩ := HA.out
  have HKP : Hid (Kept (fun g => W0.heap.size ≤ g) w1 (puts w1 w.heap.size 0 [.int .i64 6, .int .i64 xn, .string xs, .slice a1 bn n1, .slice a2 fn n2, .slice a3 ln n3])) := puts_kept _ (by have := HSZ.out; omega) _ _
  have hF1 := hF.kept (w' := puts w1 w.heap.size 0 [.int .i64 6, .int .i64 xn, .string xs, .slice a1 bn n1, .slice a2 fn n2, .slice a3 ln n3]) (fun g hg hl => HKP.out g (by omega) hl)
  obtain ⟨G, ha, hr, hft, hG, hG1, hG2⟩ := gap_of (w0 := W0) HX.out.2.2.2.2.1 hp1 (by rw [puts_size]; exact HB1.out.size) (hp12'.imp And.left id) hF1
  have hc1 : (puts w1 w.heap.size 0 [.int .i64 6, .int .i64 xn, .string xs, .slice a1 bn n1, .slice a2 fn n2, .slice a3 ln n3]).cell? ⟨w.heap.size + 1, 0, none⟩ = some (.string nm) := cell_of_row _ _ 0 _ _ _ ((puts_other _ _ (by omega) _ _ _).trans K1'.out)
  have CD := Lib.hid (cutDelete_any _ G h (w.heap.size + 1) a2 fn n2 x.f nm HX.out.2.2.2.2.1.symm (by have := HL.out.f; have := HX.out.2.2.2.2.1; omega) hn2 hc1 (by have := HSZ.out; omega) ha hr hft)
  have HGAP := Lib.hid (And.intro ha (And.intro hG (And.intro hG1 hG2)))
  have HM : Hid (fn = x.f.length) := HX.out.2.2.2.2.1
  have hml : (x.f.filter fun p => !decide (p.1 = nm)).length ≤ fn := by rw [HM.out]; exact List.length_filter_le _ _
  have hfl0 : x.f = [] → (x.f.filter fun p => !decide (p.1 = nm)) = [] := fun e => by rw [e]; rfl
  have HFL := Lib.hid (And.intro hml hfl0)
  have HFD : Hid ((x.f.filter fun p => !decide (p.1 = nm)) = y.f ∧ y = Bson.Val.mk x.kind x.n x.s x.b y.f x.l) := by rw [HY.out]; exact ⟨rfl, rfl⟩
  clear hn1 hn2 hn3 hp1 hp12 hB hp12' hF hI hF1 ha hr hft hG hG1 hG2 hc1 hml hfl0
  clear z0 z1 z2 z3 z4 z5 f0 f1 f2 f3 f4 f5 q0 q1 q2 q3 q4 q5
  refine CD.out.mono ?_
  rw [HFD.out.1] at HFL ⊢
  rintro e w2 ⟨rfl, hft2, hg2⟩
  have HG2 := Lib.hid hg2
  have HFT := Lib.hid hft2
  obtain ⟨m, hm⟩ : ∃ m, m = y.f.length := ⟨_, rfl⟩
  rw [← hm]
  have HMM := Lib.hid hm
  have kb : IsBox w2 w.heap.size (.int .i64 6) (.int .i64 xn) (.string xs) (.slice a1 bn n1) (.slice a2 fn n2) (.slice a3 ln n3) := (hg2.block _ KP.out.lt (fun e => by have := Option.some.inj e; have := HGAP.out.2.1; have := HSZ.out; omega)).trans KP.out
  have kr : IsBox w2 (w.heap.size + 1 + 1) (.int .i64 0) (.int .i64 0) (.string { data := #[] }) (.slice none 0 0) (.slice none 0 0) (.slice none 0 0) := (hg2.block _ (by rw [puts_size]; exact K2'.out.lt) (fun e => by have := Option.some.inj e; have := HGAP.out.2.1; have := HSZ.out; omega)).trans (K2'.out.other (by omega) 0 _)
  have kb4 := kb.put4 (.slice a2 m n2)
  have kr4 : IsBox (w2.setCell ⟨w.heap.size, 4, none⟩ (.slice a2 m n2)) (w.heap.size + 1 + 1) (.int .i64 0) (.int .i64 0) (.string { data := #[] }) (.slice none 0 0) (.slice none 0 0) (.slice none 0 0) := kr.other (by omega) 4 [.slice a2 m n2]
  obtain ⟨z0, z1, z2, z3, z4, z5⟩ := kb.cells
  obtain ⟨f0, f1, f2, f3, f4, f5⟩ := kb.thaw
  obtain ⟨q0, q1, q2, q3, q4, q5⟩ := kb4.cells
  obtain ⟨r0, r1, r2, r3, r4, r5⟩ := kr4.cells
  obtain ⟨g0, g1, g2, g3, g4, g5⟩ := kr4.thaw
  have HEND : Hid (VIn (puts (w2.setCell ⟨w.heap.size, 4, none⟩ (.slice a2 m n2)) (w.heap.size + 1 + 1) 0 [.int .i64 6, .int .i64 xn, .string xs, .slice a1 bn n1, .slice a2 m n2, .slice a3 ln n3]) (fun g => w.heap.size ≤ g) (h + 1) y (.agg #[.int .i64 6, .int .i64 xn, .string xs, .slice a1 bn n1, .slice a2 m n2, .slice a3 ln n3]) ∧ Below w.heap.size w (puts (w2.setCell ⟨w.heap.size, 4, none⟩ (.slice a2 m n2)) (w.heap.size + 1 + 1) 0 [.int .i64 6, .int .i64 xn, .string xs, .slice a1 bn n1, .slice a2 m n2, .slice a3 ln n3])) := by
    obtain ⟨hn1, hn2, hn3, hp1, hp12, hB, hp12', hF, hI⟩ := HA.out
    obtain ⟨ha, hG, hG1, hG2⟩ := HGAP.out
    have hsz := HSZ.out
    have ko : Kept (fun g => W0.heap.size ≤ g) w2 (puts (w2.setCell ⟨w.heap.size, 4, none⟩ (.slice a2 m n2)) (w.heap.size + 1 + 1) 0 [.int .i64 6, .int .i64 xn, .string xs, .slice a1 bn n1, .slice a2 m n2, .slice a3 ln n3]) := fun g hg hl =>
      (puts_other _ g (by omega) _ _ _).trans (puts_other w.heap.size g (by omega) [.slice a2 m n2] w2 4)
    have k12 : ∀ g, W0.heap.size ≤ g → g < w1.heap.size → g ≠ G → w2.heap[g]? = w1.heap[g]? := fun g hg hl hne => (HG2.out.block g (by rw [puts_size]; exact hl) (fun e => hne (Option.some.inj e))).trans (HKP.out g hg hl)
    have hz2 : w1.heap.size ≤ w2.heap.size := by have := HG2.out.size; rw [puts_size] at this; exact this
    refine ⟨?_, ?_⟩
    · have h1 := Apart.fields (w := W0) (W' := puts (w2.setCell ⟨w.heap.size, 4, none⟩ (.slice a2 m n2)) (w.heap.size + 1 + 1) 0 [.int .i64 6, .int .i64 xn, .string xs, .slice a1 bn n1, .slice a2 m n2, .slice a3 ln n3]) (f := y.f) HL.out (by rw [← HX.out.2.2.2.1]; exact hn1) (n2 := n2) (by have := HFL.out.1; omega) (by rw [← HX.out.2.2.2.2.2]; exact hn3) hp1 hp12 hB hI
        (by have := HFL.out.1; have := HL.out.f; have := HM.out; omega)
        (fun g hg hl => (ko g hg.1 (by omega)).trans (k12 g hg.1 hl (hG1 g hg.2 (by rw [puts_size]; exact hl))))
        (fun g hg hl => (ko g (by omega) (by omega)).trans (k12 g (by omega) hl (hG2 g hg (by rw [puts_size]; exact hl))))
        ((HFT.out.fieldsOr ha HFL.out.2 (Q := fun g => W0.heap.size ≤ g) hG (fun g hg => by omega)).kept ko (fun _ z => z) (fun _ _ hv => hv.kept ko (fun _ z => z)))
      rw [← HFD.out.2] at h1
      obtain ⟨e1, e2, e3, e4, e5, e6⟩ := HX.out
      rw [← e1, ← e2, ← e3, ← e4, ← e6, ← HMM.out] at h1
      exact h1.kept (Kept.of_below (Below.refl _ _)) (fun g hg => by omega)
    · have hb1 : Below w.heap.size w w1 := HB0.out.trans (HB1.out.mono HB0.out.size)
      have hbp := puts_below hb1 (Nat.le_refl _) [.int .i64 6, .int .i64 xn, .string xs, .slice a1 bn n1, .slice a2 fn n2, .slice a3 ln n3] 0
      have hb2 : Below w.heap.size w w2 := ⟨HG2.out.os.trans hbp.os, HG2.out.tape.trans hbp.tape, HG2.out.output.trans hbp.output, Nat.le_trans hbp.size HG2.out.size, fun g hg => (HG2.out.block g (by have := hbp.size; omega) (fun e => by have := Option.some.inj e; omega)).trans (hbp.block g hg)⟩
      exact puts_below (puts_below hb2 (Nat.le_refl _) [.slice a2 m n2] 4) (by omega) _ _
  clear kb kr kb4 kr4 hm hft2 hg2 CD
  go_wp2_with fail
  exact bodyPost_ret (v := .agg #[.int .i64 6, .int .i64 xn, .string xs, .slice a1 bn n1, .slice a2 m n2, .slice a3 ln n3]) (by simp [results, Tryd.results11, go_sem, r0, r1, r2, r3, r4, r5]) rfl ⟨_, rfl, HEND.out⟩
end Go.Proofs.YtdihelpimpkfoaaDoor
end
