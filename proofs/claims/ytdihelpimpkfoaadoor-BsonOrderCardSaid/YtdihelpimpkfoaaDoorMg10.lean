/- BsonLeafs, PathEachF, PathEachV, BsonDel. -/
import Derived.WalkSpells
import Derived.Test.YtdihelpimpkfoaaDoorMg8
import Derived.Test.YtdihelpimpkfoaaDoorMg0
import Derived.Test.YtdihelpimpkfoaaDoorMg9
set_option maxRecDepth 100000
section
namespace Go.Proofs.YtdihelpimpkfoaaDoor
open Go.RowKit
open Seal
open Bson (Val Res)
/-- The value of nothing. -/
def zeroV : Value := .agg #[.int .i64 0, .int .i64 0, .string ⟨#[]⟩, .slice none 0 0, .slice none 0 0, .slice none 0 0]
def ErrPost (z : Value) (w : World) (gr n : Nat) (e : Ending) (w' : World) : Prop := e = .returned (.tuple #[z, .int .i64 (n : Int)]) ∧ w.grownBy w' (some gr)
def OkPost {α : Type} (V : World → α → Value → Prop) (w : World) (gr : Nat) (ba : Option Addr) (bc : Nat) (b : List Nat) (x : α) (r : List Nat) (e : Ending) (w' : World) : Prop :=
  ∃ v k, e = .returned (.tuple #[v, .int .i64 0]) ∧ V w' x v ∧ r = b.drop k ∧ Rdr w' gr ba bc b k ∧ w.grownBy w' (some gr)
/-- A method of the reader answers what res says, in whatever world. -/
structure Reads_ {α : Type} (z : Value) (V : World → α → Value → Prop) (f : Nat) (args : Array Value) (w : World) (gr : Nat) (ba : Option Addr) (bc : Nat) (b : List Nat) (res : Res α) : Prop where
  err : ∀ n, res = .err n → Calls Tryd.prog f args w (ErrPost z w gr n)
  ok : ∀ x r, res = .ok x r → Calls Tryd.prog f args w (OkPost V w gr ba bc b x r)
theorem drop_short {b : List Nat} {k n : Nat} (hk : k ≤ b.length) (h : (b.drop k).length < n) : b.length < k + n := by simp at h; omega
/-- take, as Bson.take has it. -/
theorem btake_no {b : List Nat} {k n e : Nat} (hk : k ≤ b.length) (h : Bson.take n (b.drop k) = .err e) : e = 2 ∧ b.length < k + n := by
  unfold Bson.take at h
  split at h
  · rename_i hl
    injection h with h
    exact ⟨h.symm, by simp at hl; omega⟩
  · cases h
theorem btake_yes {b x r : List Nat} {k n : Nat} (hk : k ≤ b.length) (h : Bson.take n (b.drop k) = .ok x r) : k + n ≤ b.length ∧ x = (b.drop k).take n ∧ r = b.drop (k + n) ∧ x.length = n := by
  unfold Bson.take at h
  split at h
  · cases h
  · rename_i hl
    injection h with h1 h2
    subst h1; subst h2
    refine ⟨by simp at hl; omega, rfl, by simp, by simp at hl ⊢; omega⟩
def IntV (_ : World) (x : Int) (v : Value) : Prop := v = .int .i64 x
/-- A length that is not below least. -/
def lengthOf (least : Int) (l : List Nat) : Res Int := (Bson.take 4 l).bind fun h r => if Bson.signed h < least then .err 4 else .ok (Bson.signed h) r
theorem oct_take {b : List Nat} (h : Oct b) (k n : Nat) : Oct ((b.drop k).take n) := fun c hc => h c (List.mem_of_mem_drop (List.mem_of_mem_take hc))
set_option maxRecDepth 100000 in
set_option maxHeartbeats 1000000 in
theorem length_any (w : World) (gr : Nat) (ba : Option Addr) (bc : Nat) (b : List Nat) (k : Nat) (least : Int) (hR : Rdr w gr ba bc b k) :
    Reads_ (.int .i64 0) IntV 35 #[.pointer (some ⟨gr, 0, none⟩), .int .i64 least] w gr ba bc b (lengthOf least (b.drop k)) := by
  have hle := hR.le
  have HR := Lib.hid hR
  by_cases h : b.length < k + 4
  · have hT := Lib.hid (take_no w gr ba bc b k 4 hR (by decide) h)
    have e : lengthOf least (b.drop k) = .err 2 := by unfold lengthOf Bson.take; rw [if_pos (by simp; omega)]; rfl
    rw [e]
    clear h hR
    refine ⟨fun n hn => ?_, fun x r hx => by cases hx⟩
    injection hn with hn; subst hn
    go_enter Tryd.func35, Tryd.ntmps35
    go_wp2_with fail
    refine hT.out.mono ?_
    rintro e w' ⟨rfl, q, rfl⟩
    go_wp2_with fail
    go_ret2
    exact ⟨rfl, grown_drewN w q gr⟩
  · have hT := Lib.hid (take_yes w gr ba bc b k 4 hR (by omega))
    have hx4 : ((b.drop k).take 4).length = 4 := by simp; omega
    have ho4 := oct_take hR.oct k 4
    have hsb := (Bson.signed_bd _ ho4).resolve_right (fun e => by rw [e] at hx4; cases hx4)
    rw [hx4] at hsb
    have hsb' : -2147483648 ≤ Bson.signed ((b.drop k).take 4) ∧ Bson.signed ((b.drop k).take 4) < 2147483648 := by simpa using hsb
    clear hsb
    have e : lengthOf least (b.drop k) = if Bson.signed ((b.drop k).take 4) < least then .err 4 else .ok (Bson.signed ((b.drop k).take 4)) (b.drop (k + 4)) := by
      unfold lengthOf Bson.take; rw [if_neg (by simp; omega)]
      show (if _ then _ else _) = _
      rw [List.drop_drop]
    rw [e]
    have hS := Lib.hid (fun w a c hs => signed_any w a 4 c ((b.drop k).take 4) hx4 (.inr (.inl rfl)) ho4 hs)
    generalize Bson.signed ((b.drop k).take 4) = sg at *
    have hk4 : k + 4 ≤ b.length := by omega
    clear h hR hx4 ho4 e
    by_cases hlo : sg < least
    · rw [if_pos hlo]
      refine ⟨fun n hn => ?_, fun x r hx => by cases hx⟩
      injection hn with hn; subst hn
      go_enter Tryd.func35, Tryd.ntmps35
      go_wp2_with fail
      refine hT.out.mono ?_
      rintro e w' ⟨a, c, rfl, hc0, hc1, hs, hR', hg⟩
      have HG := Lib.hid hg
      have HSS := Lib.hid (hS.out w' a c hs)
      clear hs hR' hg
      go_wp2_with fail
      refine HSS.out.mono ?_
      rintro e w'' ⟨rfl, rfl⟩
      go_wp2_with fail
      go_ret2
      exact ⟨rfl, HG.out⟩
    · rw [if_neg hlo]
      refine ⟨fun n hn => (by cases hn), fun x r hx => ?_⟩
      injection hx with h1 h2; subst h1; subst h2
      go_enter Tryd.func35, Tryd.ntmps35
      go_wp2_with fail
      refine hT.out.mono ?_
      rintro e w' ⟨a, c, rfl, hc0, hc1, hs, hR', hg⟩
      have HG := Lib.hid hg
      have HR' := Lib.hid hR'
      have HSS := Lib.hid (hS.out w' a c hs)
      clear hs hR' hg
      go_wp2_with fail
      refine HSS.out.mono ?_
      rintro e w'' ⟨rfl, rfl⟩
      go_wp2_with fail
      go_ret2
      exact ⟨_, k + 4, rfl, rfl, rfl, HR'.out, HG.out⟩
end Go.Proofs.YtdihelpimpkfoaaDoor
end
section
namespace Go.Proofs.YtdihelpimpkfoaaDoor
open Go.RowKit
open Seal
open Bson (Val)
theorem infoF7 : (Tryd.prog.info? 35).map (fun i => (i.zero, i.size, i.bytes)) = some (some (.agg #[.string ⟨#[]⟩, .int .i64 0, .int .i64 0, .string ⟨#[]⟩, .slice none 0 0, .slice none 0 0, .slice none 0 0]), 7, 120) := by kernel_rfl
theorem run_makeFlds (n : Nat) (hn : n ≤ 1172812402961) (u : World) : (Instr.makeSlice 25 (.int .i64 (n : Int)) (.int .i64 (n : Int))).run Tryd.prog u = .ok (.slice (some ⟨u.heap.size, 0, none⟩) n n) (u.alloc (.cells (madeCells #[.string ⟨#[]⟩, .int .i64 0, .int .i64 0, .string ⟨#[]⟩, .slice none 0 0, .slice none 0 0, .slice none 0 0] (n * 7)) 35)) := by
  obtain ⟨i0, hi, hz0, hz1, hz2⟩ := info_parts infoF7
  have h := run_make (P := Tryd.prog) u 25 35 i0 (.agg #[.string ⟨#[]⟩, .int .i64 0, .int .i64 0, .string ⟨#[]⟩, .slice none 0 0, .slice none 0 0, .slice none 0 0]) Tryd.underlying25 hi hz0 .i64 .i64 (n : Int) (n : Int) (by omega) (Int.le_refl _) (by rw [hz2]; omega) (by omega)
  rw [Int.toNat_natCast] at h
  simpa [hz1, Value.cells] using h
set_option maxRecDepth 100000 in
set_option maxHeartbeats 1000000 in
theorem eachF_any (Q : Nat → Prop) (h : Nat) (IH0 : CopyAt Q h) (a : Option Addr) (n c : Nat) (f : List (ByteArray × Val)) (w : World) (hn : f.length = n) (hnb : n ≤ 1172812402961) (hI : FieldsIn w Q (VIn w Q h) a f) :
    Calls Tryd.prog 20 #[.slice a n c, .func (.func 21) #[] #[]] w fun e w' => ∃ a' c', e = .returned (.slice a' n c') ∧ (n ≤ c' ∧ c' ≤ 9223372036854775807) ∧ FieldsIn w' (fun g => w.heap.size ≤ g) (VIn w' (fun g => w.heap.size ≤ g) h) a' f ∧ Below w.heap.size w w' := by
  have IH := Lib.hid (fun nm x c0 c1 c2 c3 c4 c5 w hv => copyfield_any Q h IH0 nm x c0 c1 c2 c3 c4 c5 w hv)
  have HI := Lib.hid hI
  have HN := Lib.hid hn
  have HNL : Hid (∀ i (hi : i < f.length), f[i].1.size ≤ 140737488355328) := by
    intro i hi
    rcases hI with h | ⟨g, o, _, _, h⟩
    · rw [h] at hi; simp at hi
    · exact (h i hi).2.1
  clear hI IH0 hn
  have hmk := run_makeFlds n hnb
  have he := fun u : World => Lib.run_eql_slice_nil (P := Tryd.prog) u 25 35 a n c 0 0 Tryd.underlying25
  cases a with
  | none =>
    have hnil : f = [] := by
      rcases HI.out with h | ⟨g, o, e, _⟩
      · exact h
      · cases e
    have hn0 : n = 0 := by rw [← HN.out, hnil]; rfl
    subst hn0
    have HNIL := Lib.hid hnil
    clear hnil
    go_enter Tryd.func20, Tryd.ntmps20
    go_wp2_with fail
    go_ret
    exact ⟨none, 0, rfl, ⟨Nat.le_refl _, by omega⟩, .inl HNIL.out, Below.refl _ _⟩
  | some p =>
    go_enter Tryd.func20, Tryd.ntmps20
    go_wp2_with fail
    go_loopw [15] (fun i wr => ∃ k : Nat, i = .int .i64 k ∧ k ≤ n ∧ Hid (Row6 wr w.heap.size 35 (n * 7)) ∧ Hid (Flds wr w.heap.size h f k) ∧ Hid (Below w.heap.size w wr)) (fun i _ => n - (intOf i).toNat)
    case atStart => exact ⟨0, rfl, Nat.zero_le _, ⟨_, heap_alloc_new w _, size_madeCells _ _⟩, Flds.none _ _ _ _, (Below.refl _ w).alloc (Nat.le_refl _) _⟩
    case round =>
      obtain ⟨k, rfl, hk, HR, HVS, HB⟩ := hrel
      by_cases hlt : k < n
      · obtain ⟨g, o, hla, _, hall⟩ := HI.out.resolve_left (fun e => by have := HN.out; rw [e] at this; simp at this; omega)
        obtain ⟨hnm, hns, v', hsix, hV⟩ := hall k (by have := HN.out; omega)
        obtain rfl := Option.some.inj hla
        obtain ⟨ka, na, sa, ba, fa, la, bl, bc, fl, fc, ll, lc, rfl⟩ := hV.shape
        have HV := Lib.hid (VIn.keep HB.out hV)
        obtain ⟨s0, s1, s2, s3, s4, s5⟩ := (hsix.keep HB.out).cells
        obtain ⟨nm, hnme⟩ : ∃ nm, nm = (f[k]'(by have := HN.out; omega)).1 := ⟨_, rfl⟩
        have HNM := Lib.hid hnme
        clear hnme
        have s6 : wr.cell? ⟨g, o + k * 7, none⟩ = some (.string nm) := by rw [HNM.out]; exact cell_keep HB.out hnm
        have HNS : Hid (nm.size ≤ 140737488355328) := by rw [HNM.out]; exact hns
        clear hall hsix hV hnm hns
        go_wp2_with fail
        have HVa := Lib.hid (VIn.keep ((Below.refl _ wr).alloc (Nat.le_refl _) (.cells #[.string nm, .int .i64 ka, .int .i64 na, .string sa, .slice ba bl bc, .slice fa fl fc, .slice la ll lc] 35)) HV.out)
        refine (IH.out nm _ _ _ _ _ _ _ _ HVa.out).mono ?_
        rintro e w2 ⟨e0, e1, e2, e3, e4, e5, rfl, hv2, hb2⟩
        obtain ⟨kd, nd, sd, bd, fd, ld, bm, bz, fm, fz, lm, lz, hsh⟩ := hv2.shape
        injection hsh with hsh
        injection hsh with hsh
        injection hsh with x0 hsh; injection hsh with x1 hsh; injection hsh with x2 hsh; injection hsh with x3 hsh; injection hsh with x4 hsh; injection hsh with x5 hsh
        subst x0 x1 x2 x3 x4 x5
        clear hsh
        have HB2 : Hid (Below wr.heap.size wr w2) := ((Below.refl _ wr).alloc (Nat.le_refl _) _).trans (hb2.mono (by simp))
        have HR2 := Lib.hid (HR.out.keep HB2.out)
        have HVS2 := Lib.hid (HVS.out.keep HB2.out)
        have HBw2 : Hid (Below w.heap.size w w2) := HB.out.trans (HB2.out.mono HB.out.size)
        have hGlt : w.heap.size < wr.heap.size := HR.out.lt
        have HV2 : Hid (VIn w2 (fun g => w.heap.size < g) h (f[k]'(by have := HN.out; omega)).2 (.agg #[.int .i64 kd, .int .i64 nd, .string sd, .slice bd bm bz, .slice fd fm fz, .slice ld lm lz])) := hv2.kept (Kept.of_below (Below.refl _ _)) (fun g hg => by simp at hg; omega)
        clear hv2 hb2
        obtain ⟨⟨z0, g0⟩, f0⟩ := HR2.out.at (j := k * 7) (by omega)
        obtain ⟨⟨z1, g1⟩, f1⟩ := HR2.out.at (j := k * 7 + 1) (by omega)
        obtain ⟨⟨z2, g2⟩, f2⟩ := HR2.out.at (j := k * 7 + 2) (by omega)
        obtain ⟨⟨z3, g3⟩, f3⟩ := HR2.out.at (j := k * 7 + 3) (by omega)
        obtain ⟨⟨z4, g4⟩, f4⟩ := HR2.out.at (j := k * 7 + 4) (by omega)
        obtain ⟨⟨z5, g5⟩, f5⟩ := HR2.out.at (j := k * 7 + 5) (by omega)
        obtain ⟨⟨z6, g6⟩, f6⟩ := HR2.out.at (j := k * 7 + 6) (by omega)
        have HN2 : Hid (Flds (puts w2 w.heap.size (k * 7) [.string nm, .int .i64 kd, .int .i64 nd, .string sd, .slice bd bm bz, .slice fd fm fz, .slice ld lm lz]) w.heap.size h f (k + 1)) := by
          have := HVS2.out.put HR2.out (by have := HN.out; omega) (by rw [HN.out]) HV2.out
          rw [← HNM.out] at this
          exact this
        have HR3 := Lib.hid (HR2.out.puts (k * 7) [.string nm, .int .i64 kd, .int .i64 nd, .string sd, .slice bd bm bz, .slice fd fm fz, .slice ld lm lz] (by simp; omega)).1
        have HB3 := Lib.hid (puts_below HBw2.out (G := w.heap.size) (Nat.le_refl _) [.string nm, .int .i64 kd, .int .i64 nd, .string sd, .slice bd bm bz, .slice fd fm fz, .slice ld lm lz] (k * 7))
        clear s0 s1 s2 s3 s4 s5 s6 HV HVa HVS HR HB
        go_wp2_with fail
        go_roundw
        case rel => exact ⟨k + 1, by go_num, by omega, HR3, HN2, HB3⟩
        case measure => simp [intOf]; omega
      · have hkk : k = n := by omega
        subst hkk
        go_wp2_with fail
        go_ret
        refine ⟨some ⟨w.heap.size, 0, none⟩, k, rfl, ⟨Nat.le_refl _, by omega⟩, .inr ⟨w.heap.size, 0, rfl, Nat.le_refl _, fun i hi => ?_⟩, HB.out⟩
        obtain ⟨h0, v, h1, h2⟩ := HVS.out i hi (by rw [← HN.out]; exact hi)
        rw [Nat.zero_add]
        exact ⟨h0, HNL.out i hi, v, h1, h2.kept (Kept.of_below (Below.refl _ _)) (fun g hg => Nat.le_of_lt hg)⟩
end Go.Proofs.YtdihelpimpkfoaaDoor
end
section
namespace Go.Proofs.YtdihelpimpkfoaaDoor
open Go.RowKit
open Seal
open Bson (Val)
theorem infoV6 : (Tryd.prog.info? 28).map (fun i => (i.zero, i.size, i.bytes)) = some (some (.agg #[.int .i64 0, .int .i64 0, .string ⟨#[]⟩, .slice none 0 0, .slice none 0 0, .slice none 0 0]), 6, 104) := by kernel_rfl
theorem run_makeVals (n : Nat) (hn : n ≤ 1353245080339) (u : World) : (Instr.makeSlice 26 (.int .i64 (n : Int)) (.int .i64 (n : Int))).run Tryd.prog u = .ok (.slice (some ⟨u.heap.size, 0, none⟩) n n) (u.alloc (.cells (madeCells #[.int .i64 0, .int .i64 0, .string ⟨#[]⟩, .slice none 0 0, .slice none 0 0, .slice none 0 0] (n * 6)) 28)) := by
  obtain ⟨i0, hi, hz0, hz1, hz2⟩ := info_parts infoV6
  have h := run_make (P := Tryd.prog) u 26 28 i0 (.agg #[.int .i64 0, .int .i64 0, .string ⟨#[]⟩, .slice none 0 0, .slice none 0 0, .slice none 0 0]) Tryd.underlying26 hi hz0 .i64 .i64 (n : Int) (n : Int) (by omega) (Int.le_refl _) (by rw [hz2]; omega) (by omega)
  rw [Int.toNat_natCast] at h
  simpa [hz1, Value.cells] using h
set_option maxRecDepth 100000 in
set_option maxHeartbeats 1000000 in
theorem eachV_any (Q : Nat → Prop) (h : Nat) (IH0 : CopyAt Q h) (a : Option Addr) (n c : Nat) (l : List Val) (w : World) (hn : l.length = n) (hnb : n ≤ 1353245080339) (hI : ItemsIn w Q (VIn w Q h) a l) :
    Calls Tryd.prog 22 #[.slice a n c, .func (.func 12) #[] #[]] w fun e w' => ∃ a' c', e = .returned (.slice a' n c') ∧ (n ≤ c' ∧ c' ≤ 9223372036854775807) ∧ ItemsIn w' (fun g => w.heap.size ≤ g) (VIn w' (fun g => w.heap.size ≤ g) h) a' l ∧ Below w.heap.size w w' := by
  have IH := Lib.hid IH0
  have HI := Lib.hid hI
  have HN := Lib.hid hn
  clear hI IH0 hn
  have hmk := run_makeVals n hnb
  have he := fun u : World => Lib.run_eql_slice_nil (P := Tryd.prog) u 26 28 a n c 0 0 Tryd.underlying26
  cases a with
  | none =>
    have hnil : l = [] := by
      rcases HI.out with h | ⟨g, o, e, _⟩
      · exact h
      · cases e
    have hn0 : n = 0 := by rw [← HN.out, hnil]; rfl
    subst hn0
    have HNIL := Lib.hid hnil
    clear hnil
    go_enter Tryd.func22, Tryd.ntmps22
    go_wp2_with fail
    go_ret
    exact ⟨none, 0, rfl, ⟨Nat.le_refl _, by omega⟩, .inl HNIL.out, Below.refl _ _⟩
  | some p =>
    go_enter Tryd.func22, Tryd.ntmps22
    go_wp2_with fail
    go_loopw [15] (fun i wr => ∃ k : Nat, i = .int .i64 k ∧ k ≤ n ∧ Hid (Row6 wr w.heap.size 28 (n * 6)) ∧ Hid (Vals wr w.heap.size h l k) ∧ Hid (Below w.heap.size w wr)) (fun i _ => n - (intOf i).toNat)
    case atStart => exact ⟨0, rfl, Nat.zero_le _, ⟨_, heap_alloc_new w _, size_madeCells _ _⟩, Vals.none _ _ _ _, (Below.refl _ w).alloc (Nat.le_refl _) _⟩
    case round =>
      obtain ⟨k, rfl, hk, HR, HVS, HB⟩ := hrel
      by_cases hlt : k < n
      · obtain ⟨g, o, hla, _, hall⟩ := HI.out.resolve_left (fun e => by have := HN.out; rw [e] at this; simp at this; omega)
        obtain ⟨v', hsix, hV⟩ := hall k (by have := HN.out; omega)
        obtain rfl := Option.some.inj hla
        obtain ⟨ka, na, sa, ba, fa, la, bl, bc, fl, fc, ll, lc, rfl⟩ := hV.shape
        have HV := Lib.hid (VIn.keep HB.out hV)
        obtain ⟨s0, s1, s2, s3, s4, s5⟩ := (hsix.keep HB.out).cells
        clear hall hsix hV
        go_wp2_with fail
        have HVa := Lib.hid (VIn.keep ((Below.refl _ wr).alloc (Nat.le_refl _) (.cells #[.int .i64 ka, .int .i64 na, .string sa, .slice ba bl bc, .slice fa fl fc, .slice la ll lc] 28)) HV.out)
        refine (IH.out _ _ _ HVa.out).mono ?_
        rintro e w2 ⟨v2, rfl, hv2, hb2⟩
        obtain ⟨kd, nd, sd, bd, fd, ld, bm, bz, fm, fz, lm, lz, rfl⟩ := hv2.shape
        have HB2 : Hid (Below wr.heap.size wr w2) := ((Below.refl _ wr).alloc (Nat.le_refl _) _).trans (hb2.mono (by simp))
        have HR2 := Lib.hid (HR.out.keep HB2.out)
        have HVS2 := Lib.hid (HVS.out.keep HB2.out)
        have HBw2 : Hid (Below w.heap.size w w2) := HB.out.trans (HB2.out.mono HB.out.size)
        have hGlt : w.heap.size < wr.heap.size := HR.out.lt
        have HV2 : Hid (VIn w2 (fun g => w.heap.size < g) h (l[k]'(by have := HN.out; omega)) (.agg #[.int .i64 kd, .int .i64 nd, .string sd, .slice bd bm bz, .slice fd fm fz, .slice ld lm lz])) := hv2.kept (Kept.of_below (Below.refl _ _)) (fun g hg => by simp at hg; omega)
        clear hv2 hb2
        obtain ⟨⟨z0, g0⟩, f0⟩ := HR2.out.at (j := k * 6) (by omega)
        obtain ⟨⟨z1, g1⟩, f1⟩ := HR2.out.at (j := k * 6 + 1) (by omega)
        obtain ⟨⟨z2, g2⟩, f2⟩ := HR2.out.at (j := k * 6 + 2) (by omega)
        obtain ⟨⟨z3, g3⟩, f3⟩ := HR2.out.at (j := k * 6 + 3) (by omega)
        obtain ⟨⟨z4, g4⟩, f4⟩ := HR2.out.at (j := k * 6 + 4) (by omega)
        obtain ⟨⟨z5, g5⟩, f5⟩ := HR2.out.at (j := k * 6 + 5) (by omega)
        have HN2 : Hid (Vals (puts w2 w.heap.size (k * 6) [.int .i64 kd, .int .i64 nd, .string sd, .slice bd bm bz, .slice fd fm fz, .slice ld lm lz]) w.heap.size h l (k + 1)) := HVS2.out.put HR2.out (by have := HN.out; omega) (by rw [HN.out]) HV2.out
        have HR3 := Lib.hid (HR2.out.puts (k * 6) [.int .i64 kd, .int .i64 nd, .string sd, .slice bd bm bz, .slice fd fm fz, .slice ld lm lz] (by simp; omega)).1
        have HB3 := Lib.hid (puts_below HBw2.out (G := w.heap.size) (Nat.le_refl _) [.int .i64 kd, .int .i64 nd, .string sd, .slice bd bm bz, .slice fd fm fz, .slice ld lm lz] (k * 6))
        clear s0 s1 s2 s3 s4 s5 HV HVa HVS HR HB
        go_wp2_with fail
        go_roundw
        case rel => exact ⟨k + 1, by go_num, by omega, HR3, HN2, HB3⟩
        case measure => simp [intOf]; omega
      · have hkk : k = n := by omega
        subst hkk
        go_wp2_with fail
        go_ret
        refine ⟨some ⟨w.heap.size, 0, none⟩, k, rfl, ⟨Nat.le_refl _, by omega⟩, .inr ⟨w.heap.size, 0, rfl, Nat.le_refl _, fun i hi => ?_⟩, HB.out⟩
        obtain ⟨v, h1, h2⟩ := HVS.out i hi (by rw [← HN.out]; exact hi)
        rw [Nat.zero_add]
        exact ⟨v, h1, h2.kept (Kept.of_below (Below.refl _ _)) (fun g hg => Nat.le_of_lt hg)⟩
end Go.Proofs.YtdihelpimpkfoaaDoor
end
section
namespace Go.Proofs.YtdihelpimpkfoaaDoor
open Go.RowKit
open Seal
open Bson (Val)
theorem keepF_lt {nm : ByteArray} {f : List (ByteArray × Val)} {j : Nat} (hp : place f nm < f.length) (hj : place f nm < j) (hj2 : j ≤ f.length) : (keepF nm f j).length < j := by
  have key : ∀ d, place f nm + 1 + d ≤ f.length → (keepF nm f (place f nm + 1 + d)).length < place f nm + 1 + d := by
    intro d
    induction d with
    | zero =>
      intro _
      rw [Nat.add_zero, keepF_start hp, List.length_take]; omega
    | succ d ih =>
      intro hd
      have h1 := ih (by omega)
      rw [show place f nm + 1 + (d + 1) = place f nm + 1 + d + 1 by omega, keepF_next (by omega)]
      split
      · omega
      · rw [List.length_append, List.length_singleton]; omega
  have := key (j - (place f nm + 1)) (by omega)
  rwa [show place f nm + 1 + (j - (place f nm + 1)) = j by omega] at this
theorem zeroF (w : World) : (zeroValue 35).run Tryd.prog w = .ok (.agg #[.string ⟨#[]⟩, .int .i64 0, .int .i64 0, .string ⟨#[]⟩, .slice none 0 0, .slice none 0 0, .slice none 0 0]) w := by kernel_rfl
set_option maxRecDepth 100000 in
set_option maxHeartbeats 1500000 in
theorem cutDelete_any (w : World) (G h nb : Nat) (a : Option Addr) (n c : Nat) (f : List (ByteArray × Val)) (nm : ByteArray) (hn : f.length = n) (hm : n ≤ 1172812402961) (hcap : n ≤ c ∧ c ≤ 9223372036854775807) (hc : w.cell? ⟨nb, 0, none⟩ = some (.string nm)) (hne : nb ≠ G)
    (ha : f = [] ∨ a = some ⟨G, 0, none⟩) (hr : f = [] ∨ Row6 w G 35 (n * 7)) (hf : FldsTo w G h f) :
    Calls Tryd.prog 17 #[.slice a n c, .func (.func 18) #[] #[.pointer (some ⟨nb, 0, none⟩)]] w fun e w' =>
      e = .returned (.slice a (f.filter fun p => !decide (p.1 = nm)).length c) ∧ FldsTo w' G h (f.filter fun p => !decide (p.1 = nm)) ∧ w.grownBy w' (some G) := by
  have CI := Lib.hid (cutIndex_any w G h nb a n c f nm hn (by omega) hc ha hf)
  have HN := Lib.hid hn
  by_cases hp : place f nm < f.length
  · have hp0 : placeI f nm = (place f nm : Int) := by unfold placeI; rw [if_pos hp]
    have hfne : f ≠ [] := fun e => by rw [e] at hp; cases hp
    obtain rfl := ha.resolve_left hfne
    have HR := Lib.hid (hr.resolve_left hfne)
    have HF := Lib.hid hf
    have HP := Lib.hid hp
    have HC := Lib.hid hc
    have HNE := Lib.hid hne
    have HCN := Lib.hid (fun (wr : World) (hb : w.grownBy wr (some G)) (wv : World) (hv : Below wr.heap.size wr wv) s c0 c1 c2 c3 c4 c5 => cutNamed_any wv nb s nm c0 c1 c2 c3 c4 c5 (cell_keep hv (hb.cell hc (fun e => hne (Option.some.inj e)))))
    have hplt : place f nm < n := by omega
    rw [hp0] at CI
    obtain ⟨p0, hp0e⟩ : ∃ p0, p0 = place f nm := ⟨_, rfl⟩
    rw [← hp0e] at CI hplt
    have HP0 := Lib.hid hp0e
    have hneg : ((p0 : Int) == -1) = false := beq_eq_false_iff_ne.2 (by omega)
    clear hn ha hr hf hp hp0 hfne hc hne hp0e
    obtain ⟨hc1, hc2⟩ := hcap
    go_enter Tryd.func17, Tryd.ntmps17
    go_wp2_with fail
    refine CI.out.mono ?_
    rintro e w1 ⟨rfl, hb1⟩
    have HB1 := Lib.hid hb1
    clear CI hb1
    go_wp2_with fail
    go_loopw [5, 6] (fun s5 s6 wr => ∃ (i j : Nat), s5 = .int .i64 i ∧ s6 = .int .i64 j ∧ j ≤ n ∧ p0 < j ∧ Hid (i = (keepF nm f j).length) ∧ Hid (Row6 wr G 35 (n * 7)) ∧ Hid (Sift wr G h nm f j) ∧ Hid (w.grownBy wr (some G))) (fun _ s6 _ => n - (intOf s6).toNat)
    case atStart =>
      refine ⟨p0, p0 + 1, rfl, by go_num, by omega, by omega, ?_, HR.out.keep HB1.out, ?_, grown_blw HB1.out G⟩
      · show _ = _
        rw [HP0.out, keepF_start HP.out, List.length_take]
        have := HP.out; omega
      · show Sift _ _ _ _ _ _
        rw [HP0.out]
        exact (Sift.start HF.out HP.out).keep HB1.out
    case round =>
      obtain ⟨i, j, rfl, rfl, hjn, hpj, HI, HRr, HS, HG⟩ := hrel
      have hij : i < j := by rw [HI.out]; exact keepF_lt HP.out (by have := HP0.out; omega) (by have := HN.out; omega)
      by_cases hlt : j < n
      · have hjf : j < f.length := by rw [HN.out]; exact hlt
        obtain ⟨hnm, hns, v', hsix, hV⟩ := HS.out.2 j hjf (Nat.le_refl j)
        obtain ⟨q1, q2, q3, a1, a2, a3, n1, c1, n2, c2, n3, c3, rfl⟩ := hV.shape
        obtain ⟨s0, s1, s2, s3, s4, s5⟩ := hsix.cells
        have HV := Lib.hid hV
        have HNS := Lib.hid hns
        obtain ⟨s, hs⟩ : ∃ s, s = f[j].1 := ⟨_, rfl⟩
        rw [← hs] at hnm
        have HSJ := Lib.hid hs
        have hb2 : Below wr.heap.size wr (wr.alloc (.cells #[.string s, .int .i64 q1, .int .i64 q2, .string q3, .slice a1 n1 c1, .slice a2 n2 c2, .slice a3 n3 c3] 35)) := (Below.refl _ wr).alloc (Nat.le_refl _) _
        have CN := Lib.hid (HCN.out wr HG.out _ hb2 s (.int .i64 q1) (.int .i64 q2) (.string q3) (.slice a1 n1 c1) (.slice a2 n2 c2) (.slice a3 n3 c3))
        have HB2 := Lib.hid hb2
        clear hsix hV hns hs hb2
        by_cases he : s = nm
        · have hd : decide (s = nm) = true := decide_eq_true he
          rw [hd] at CN
          have HE := Lib.hid he
          clear he hd
          go_wp2_with fail
          refine CN.out.mono ?_
          rintro e w3 ⟨rfl, hb3⟩
          have HB3 : Hid (Below wr.heap.size wr w3) := HB2.out.trans (hb3.mono HB2.out.size)
          clear CN hb3 HB2
          go_wp2_with fail
          go_roundw
          case rel =>
            refine ⟨i, j + 1, rfl, by go_num, by omega, by omega, ?_, HRr.out.keep HB3.out, (HS.out.skip hjf (by rw [← HSJ.out]; exact HE.out)).keep HB3.out, HG.out.trans (grown_blw HB3.out G)⟩
            show _ = _
            rw [keepF_next hjf, if_pos (by rw [← HSJ.out]; exact HE.out)]; exact HI.out
          case measure => simp [intOf]; omega
        · have hd : decide (s = nm) = false := decide_eq_false he
          rw [hd] at CN
          have HE := Lib.hid he
          clear he hd
          go_wp2_with fail
          refine CN.out.mono ?_
          rintro e w3 ⟨rfl, hb3⟩
          have HB3 : Hid (Below wr.heap.size wr w3) := HB2.out.trans (hb3.mono HB2.out.size)
          have hbx := Lib.hid hb3
          have e7 : w3.heap[wr.heap.size]? = some (.cells #[.string s, .int .i64 q1, .int .i64 q2, .string q3, .slice a1 n1 c1, .slice a2 n2 c2, .slice a3 n3 c3] 35 (0, 0)) := (hb3.block _ (by simp)).trans (heap_alloc_new wr _)
          have t0 := cell_of_row w3 _ 0 _ _ _ e7
          have t1 := cell_of_row w3 _ 1 _ _ _ e7
          have t2 := cell_of_row w3 _ 2 _ _ _ e7
          have t3 := cell_of_row w3 _ 3 _ _ _ e7
          have t4 := cell_of_row w3 _ 4 _ _ _ e7
          have t5 := cell_of_row w3 _ 5 _ _ _ e7
          have t6 := cell_of_row w3 _ 6 _ _ _ e7
          clear CN hb3 HB2 e7
          have HR3 := Lib.hid (HRr.out.keep HB3.out)
          obtain ⟨⟨z0, g0⟩, f0⟩ := HR3.out.at (j := i * 7) (by omega)
          obtain ⟨⟨z1, g1⟩, f1⟩ := HR3.out.at (j := i * 7 + 1) (by omega)
          obtain ⟨⟨z2, g2⟩, f2⟩ := HR3.out.at (j := i * 7 + 2) (by omega)
          obtain ⟨⟨z3, g3⟩, f3⟩ := HR3.out.at (j := i * 7 + 3) (by omega)
          obtain ⟨⟨z4, g4⟩, f4⟩ := HR3.out.at (j := i * 7 + 4) (by omega)
          obtain ⟨⟨z5, g5⟩, f5⟩ := HR3.out.at (j := i * 7 + 5) (by omega)
          obtain ⟨⟨z6, g6⟩, f6⟩ := HR3.out.at (j := i * 7 + 6) (by omega)
          have HS4 : Hid (Sift (puts w3 G (i * 7) [.string s, .int .i64 q1, .int .i64 q2, .string q3, .slice a1 n1 c1, .slice a2 n2 c2, .slice a3 n3 c3]) G h nm f (j + 1)) := by
            have := (HS.out.keep HB3.out).take HR3.out (by have := HN.out; omega) hjf (by rw [← HSJ.out]; exact HE.out) (by rw [← HI.out]; exact hij) (HV.out.keep HB3.out) HNS.out
            rw [← HI.out, ← HSJ.out] at this
            exact this
          have HR4 := Lib.hid (HR3.out.puts (i * 7) [.string s, .int .i64 q1, .int .i64 q2, .string q3, .slice a1 n1 c1, .slice a2 n2 c2, .slice a3 n3 c3] (by simp; omega)).1
          have HG4 := Lib.hid (grown_puts (HG.out.trans (grown_blw HB3.out G)) (i * 7) [.string s, .int .i64 q1, .int .i64 q2, .string q3, .slice a1 n1 c1, .slice a2 n2 c2, .slice a3 n3 c3])
          have HI4 : Hid (i + 1 = (keepF nm f (j + 1)).length) := by
            show _ = _
            rw [keepF_next hjf, if_neg (by rw [← HSJ.out]; exact HE.out), List.length_append, ← HI.out]; rfl
          clear s0 s1 s2 s3 s4 s5 hnm HV HS HRr HG HB3 HCN HC hbx
          go_wp2_with fail
          go_roundw
          case rel => exact ⟨i + 1, j + 1, by go_num, by go_num, by omega, by omega, HI4, HR4, HS4, HG4⟩
          case measure => simp [intOf]; omega
      · obtain rfl : n = j := by omega
        obtain ⟨vs, hvl, hcl⟩ := run_clear_fields (P := Tryd.prog) wr 25 35 0 _ Tryd.underlying25 zeroF rfl (by decide) G (i * 7) (n - i) (c - i) (by omega) (fun t ht => by
          obtain ⟨⟨z, g⟩, _⟩ := HRr.out.at (j := i * 7 + t) (by omega)
          rw [g]; rfl) (fun t ht => (HRr.out.at (j := i * 7 + t) (by omega)).2)
        have hcl2 : ∀ ty, (Builtin.clear_ #[25] ty #[.slice (some ⟨G, i * 7, none⟩) (n - i) (c - i)]).run Tryd.prog wr = .ok (.tuple #[]) (puts wr G (i * 7) vs) := fun ty => hcl
        have hend : (f.filter fun p => !decide (p.1 = nm)) = keepF nm f n := by rw [← keepF_end, HN.out]
        have HF4 : Hid (FldsTo (puts wr G (i * 7) vs) G h (f.filter fun p => !decide (p.1 = nm))) := by
          intro t ht
          rw [hend] at ht
          have h1 := (HS.out.1 t ht).put_other HRr.out (i * 7) vs (by rw [hvl]; omega) (by left; have := HI.out; omega)
          simp only [hend]; exact h1
        have HG4 := Lib.hid (grown_puts HG.out (i * 7) vs)
        have HL : Hid (i = (f.filter fun p => !decide (p.1 = nm)).length) := by show _ = _; rw [hend]; exact HI.out
        clear hcl hend HS HRr HG HCN HC
        have hle : i ≤ n := by omega
        go_wp2_with fail
        go_ret
        exact ⟨ret_eq (by rw [HL.out]; rfl), HF4.out, HG4.out⟩
  · have hp0 : placeI f nm = -1 := by unfold placeI; rw [if_neg hp]
    have hk := keepF_none hp
    rw [hp0] at CI
    rw [hk]
    have HF := Lib.hid hf
    clear hn ha hr hf hp hp0 hc hk hne
    go_enter Tryd.func17, Tryd.ntmps17
    go_wp2_with fail
    refine CI.out.mono ?_
    rintro e w1 ⟨rfl, hb1⟩
    have HB1 := Lib.hid hb1
    clear CI hb1
    go_wp2_with fail
    go_ret
    exact ⟨ret_eq (by rw [HN.out]; rfl), HF.out.keep HB1.out, grown_blw HB1.out G⟩
end Go.Proofs.YtdihelpimpkfoaaDoor
end
