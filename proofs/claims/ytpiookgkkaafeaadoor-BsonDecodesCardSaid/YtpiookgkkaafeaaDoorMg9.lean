/- BsonLeafs, PathEachF, PathEachV, BsonNum. -/
import Derived.WalkSpells
import Derived.Test.YtpiookgkkaafeaaDoorMg8
import Derived.Test.YtpiookgkkaafeaaDoorMg0
set_option maxRecDepth 100000
section
namespace Go.Proofs.YtpiookgkkaafeaaDoor
open Go.RowKit
open Seal
open Bson (Val Res)
/-- The value of nothing. -/
def zeroV : Value := .agg #[.int .i64 0, .int .i64 0, .string ⟨#[]⟩, .slice none 0 0, .slice none 0 0, .slice none 0 0]
def ErrPost (z : Value) (w : World) (gr n : Nat) (e : Ending) (w' : World) : Prop := e = .returned (.tuple #[z, .int .i64 (n : Int)]) ∧ w.grownBy w' (some gr)
def OkPost {α : Type} (V : World → α → Value → Prop) (w : World) (gr : Nat) (ba : Option Addr) (bc : Nat) (b : List Nat) (x : α) (r : List Nat) (e : Ending) (w' : World) : Prop :=
  ∃ v k, e = .returned (.tuple #[v, .int .i64 0]) ∧ V w' x v ∧ r = b.drop k ∧ Rdr w' gr ba bc b k ∧ w.grownBy w' (some gr)
/-- A method of the reader answers what res says, in whatever world. -/
structure Reads_ {α : Type} (z : Value) (V : World → α → Value → Prop) (f : Nat) (args : Array Value) (w : World) (gr : Nat) (ba : Option Addr) (bc : Nat) (b : List Nat) (res : Res α) : Prop where
  err : ∀ n, res = .err n → Calls Tryd.prog f args w (ErrPost z w gr n)
  ok : ∀ x r, res = .ok x r → Calls Tryd.prog f args w (OkPost V w gr ba bc b x r)
theorem drop_short {b : List Nat} {k n : Nat} (hk : k ≤ b.length) (h : (b.drop k).length < n) : b.length < k + n := by simp at h; omega
/-- take, as Bson.take has it. -/
theorem btake_no {b : List Nat} {k n e : Nat} (hk : k ≤ b.length) (h : Bson.take n (b.drop k) = .err e) : e = 2 ∧ b.length < k + n := by
  unfold Bson.take at h
  split at h
  · rename_i hl
    injection h with h
    exact ⟨h.symm, by simp at hl; omega⟩
  · cases h
theorem btake_yes {b x r : List Nat} {k n : Nat} (hk : k ≤ b.length) (h : Bson.take n (b.drop k) = .ok x r) : k + n ≤ b.length ∧ x = (b.drop k).take n ∧ r = b.drop (k + n) ∧ x.length = n := by
  unfold Bson.take at h
  split at h
  · cases h
  · rename_i hl
    injection h with h1 h2
    subst h1; subst h2
    refine ⟨by simp at hl; omega, rfl, by simp, by simp at hl ⊢; omega⟩
def IntV (_ : World) (x : Int) (v : Value) : Prop := v = .int .i64 x
/-- A length that is not below least. -/
def lengthOf (least : Int) (l : List Nat) : Res Int := (Bson.take 4 l).bind fun h r => if Bson.signed h < least then .err 4 else .ok (Bson.signed h) r
theorem oct_take {b : List Nat} (h : Oct b) (k n : Nat) : Oct ((b.drop k).take n) := fun c hc => h c (List.mem_of_mem_drop (List.mem_of_mem_take hc))
set_option maxRecDepth 100000 in
set_option maxHeartbeats 1000000 in
theorem length_any (w : World) (gr : Nat) (ba : Option Addr) (bc : Nat) (b : List Nat) (k : Nat) (least : Int) (hR : Rdr w gr ba bc b k) :
    Reads_ (.int .i64 0) IntV 62 #[.pointer (some ⟨gr, 0, none⟩), .int .i64 least] w gr ba bc b (lengthOf least (b.drop k)) := by
  have hle := hR.le
  have HR := Lib.hid hR
  by_cases h : b.length < k + 4
  · have hT := Lib.hid (take_no w gr ba bc b k 4 hR (by decide) h)
    have e : lengthOf least (b.drop k) = .err 2 := by unfold lengthOf Bson.take; rw [if_pos (by simp; omega)]; rfl
    rw [e]
    clear h hR
    refine ⟨fun n hn => ?_, fun x r hx => by cases hx⟩
    injection hn with hn; subst hn
    go_enter Tryd.func62, Tryd.ntmps62
    go_wp2_with fail
    refine hT.out.mono ?_
    rintro e w' ⟨rfl, q, rfl⟩
    go_wp2_with fail
    go_ret2
    exact ⟨rfl, grown_drewN w q gr⟩
  · have hT := Lib.hid (take_yes w gr ba bc b k 4 hR (by omega))
    have hx4 : ((b.drop k).take 4).length = 4 := by simp; omega
    have ho4 := oct_take hR.oct k 4
    have hsb := (Bson.signed_bd _ ho4).resolve_right (fun e => by rw [e] at hx4; cases hx4)
    rw [hx4] at hsb
    have hsb' : -2147483648 ≤ Bson.signed ((b.drop k).take 4) ∧ Bson.signed ((b.drop k).take 4) < 2147483648 := by simpa using hsb
    clear hsb
    have e : lengthOf least (b.drop k) = if Bson.signed ((b.drop k).take 4) < least then .err 4 else .ok (Bson.signed ((b.drop k).take 4)) (b.drop (k + 4)) := by
      unfold lengthOf Bson.take; rw [if_neg (by simp; omega)]
      show (if _ then _ else _) = _
      rw [List.drop_drop]
    rw [e]
    have hS := Lib.hid (fun w a c hs => signed_any w a 4 c ((b.drop k).take 4) hx4 (.inr (.inl rfl)) ho4 hs)
    generalize Bson.signed ((b.drop k).take 4) = sg at *
    have hk4 : k + 4 ≤ b.length := by omega
    clear h hR hx4 ho4 e
    by_cases hlo : sg < least
    · rw [if_pos hlo]
      refine ⟨fun n hn => ?_, fun x r hx => by cases hx⟩
      injection hn with hn; subst hn
      go_enter Tryd.func62, Tryd.ntmps62
      go_wp2_with fail
      refine hT.out.mono ?_
      rintro e w' ⟨a, c, rfl, hc0, hc1, hs, hR', hg⟩
      have HG := Lib.hid hg
      have HSS := Lib.hid (hS.out w' a c hs)
      clear hs hR' hg
      go_wp2_with fail
      refine HSS.out.mono ?_
      rintro e w'' ⟨rfl, rfl⟩
      go_wp2_with fail
      go_ret2
      exact ⟨rfl, HG.out⟩
    · rw [if_neg hlo]
      refine ⟨fun n hn => (by cases hn), fun x r hx => ?_⟩
      injection hx with h1 h2; subst h1; subst h2
      go_enter Tryd.func62, Tryd.ntmps62
      go_wp2_with fail
      refine hT.out.mono ?_
      rintro e w' ⟨a, c, rfl, hc0, hc1, hs, hR', hg⟩
      have HG := Lib.hid hg
      have HR' := Lib.hid hR'
      have HSS := Lib.hid (hS.out w' a c hs)
      clear hs hR' hg
      go_wp2_with fail
      refine HSS.out.mono ?_
      rintro e w'' ⟨rfl, rfl⟩
      go_wp2_with fail
      go_ret2
      exact ⟨_, k + 4, rfl, rfl, rfl, HR'.out, HG.out⟩
end Go.Proofs.YtpiookgkkaafeaaDoor
end
section
namespace Go.Proofs.YtpiookgkkaafeaaDoor
open Go.RowKit
open Seal
open Bson (Val)
theorem infoF7 : (Tryd.prog.info? 43).map (fun i => (i.zero, i.size, i.bytes)) = some (some (.agg #[.string ⟨#[]⟩, .int .i64 0, .int .i64 0, .string ⟨#[]⟩, .slice none 0 0, .slice none 0 0, .slice none 0 0]), 7, 120) := by kernel_rfl
theorem run_makeFlds (n : Nat) (hn : n ≤ 1172812402961) (u : World) : (Instr.makeSlice 24 (.int .i64 (n : Int)) (.int .i64 (n : Int))).run Tryd.prog u = .ok (.slice (some ⟨u.heap.size, 0, none⟩) n n) (u.alloc (.cells (madeCells #[.string ⟨#[]⟩, .int .i64 0, .int .i64 0, .string ⟨#[]⟩, .slice none 0 0, .slice none 0 0, .slice none 0 0] (n * 7)) 43)) := by
  obtain ⟨i0, hi, hz0, hz1, hz2⟩ := info_parts infoF7
  have h := run_make (P := Tryd.prog) u 24 43 i0 (.agg #[.string ⟨#[]⟩, .int .i64 0, .int .i64 0, .string ⟨#[]⟩, .slice none 0 0, .slice none 0 0, .slice none 0 0]) Tryd.underlying24 hi hz0 .i64 .i64 (n : Int) (n : Int) (by omega) (Int.le_refl _) (by rw [hz2]; omega) (by omega)
  rw [Int.toNat_natCast] at h
  simpa [hz1, Value.cells] using h
set_option maxRecDepth 100000 in
set_option maxHeartbeats 1000000 in
theorem eachF_any (Q : Nat → Prop) (h : Nat) (IH0 : CopyAt Q h) (a : Option Addr) (n c : Nat) (f : List (ByteArray × Val)) (w : World) (hn : f.length = n) (hnb : n ≤ 1172812402961) (hI : FieldsIn w Q (VIn w Q h) a f) :
    Calls Tryd.prog 31 #[.slice a n c, .func (.func 32) #[] #[]] w fun e w' => ∃ a' c', e = .returned (.slice a' n c') ∧ (n ≤ c' ∧ c' ≤ 9223372036854775807) ∧ FieldsIn w' (fun g => w.heap.size ≤ g) (VIn w' (fun g => w.heap.size ≤ g) h) a' f ∧ Below w.heap.size w w' := by
  have IH := Lib.hid (fun nm x c0 c1 c2 c3 c4 c5 w hv => copyfield_any Q h IH0 nm x c0 c1 c2 c3 c4 c5 w hv)
  have HI := Lib.hid hI
  have HN := Lib.hid hn
  have HNL : Hid (∀ i (hi : i < f.length), f[i].1.size ≤ 140737488355328) := by
    intro i hi
    rcases hI with h | ⟨g, o, _, _, h⟩
    · rw [h] at hi; simp at hi
    · exact (h i hi).2.1
  clear hI IH0 hn
  have hmk := run_makeFlds n hnb
  have he := fun u : World => Lib.run_eql_slice_nil (P := Tryd.prog) u 24 43 a n c 0 0 Tryd.underlying24
  cases a with
  | none =>
    have hnil : f = [] := by
      rcases HI.out with h | ⟨g, o, e, _⟩
      · exact h
      · cases e
    have hn0 : n = 0 := by rw [← HN.out, hnil]; rfl
    subst hn0
    have HNIL := Lib.hid hnil
    clear hnil
    go_enter Tryd.func31, Tryd.ntmps31
    go_wp2_with fail
    go_ret
    exact ⟨none, 0, rfl, ⟨Nat.le_refl _, by omega⟩, .inl HNIL.out, Below.refl _ _⟩
  | some p =>
    go_enter Tryd.func31, Tryd.ntmps31
    go_wp2_with fail
    go_loopw [15] (fun i wr => ∃ k : Nat, i = .int .i64 k ∧ k ≤ n ∧ Hid (Row6 wr w.heap.size 43 (n * 7)) ∧ Hid (Flds wr w.heap.size h f k) ∧ Hid (Below w.heap.size w wr)) (fun i _ => n - (intOf i).toNat)
    case atStart => exact ⟨0, rfl, Nat.zero_le _, ⟨_, heap_alloc_new w _, size_madeCells _ _⟩, Flds.none _ _ _ _, (Below.refl _ w).alloc (Nat.le_refl _) _⟩
    case round =>
      obtain ⟨k, rfl, hk, HR, HVS, HB⟩ := hrel
      by_cases hlt : k < n
      · obtain ⟨g, o, hla, _, hall⟩ := HI.out.resolve_left (fun e => by have := HN.out; rw [e] at this; simp at this; omega)
        obtain ⟨hnm, hns, v', hsix, hV⟩ := hall k (by have := HN.out; omega)
        obtain rfl := Option.some.inj hla
        obtain ⟨ka, na, sa, ba, fa, la, bl, bc, fl, fc, ll, lc, rfl⟩ := hV.shape
        have HV := Lib.hid (VIn.keep HB.out hV)
        obtain ⟨s0, s1, s2, s3, s4, s5⟩ := (hsix.keep HB.out).cells
        obtain ⟨nm, hnme⟩ : ∃ nm, nm = (f[k]'(by have := HN.out; omega)).1 := ⟨_, rfl⟩
        have HNM := Lib.hid hnme
        clear hnme
        have s6 : wr.cell? ⟨g, o + k * 7, none⟩ = some (.string nm) := by rw [HNM.out]; exact cell_keep HB.out hnm
        have HNS : Hid (nm.size ≤ 140737488355328) := by rw [HNM.out]; exact hns
        clear hall hsix hV hnm hns
        go_wp2_with fail
        have HVa := Lib.hid (VIn.keep ((Below.refl _ wr).alloc (Nat.le_refl _) (.cells #[.string nm, .int .i64 ka, .int .i64 na, .string sa, .slice ba bl bc, .slice fa fl fc, .slice la ll lc] 43)) HV.out)
        refine (IH.out nm _ _ _ _ _ _ _ _ HVa.out).mono ?_
        rintro e w2 ⟨e0, e1, e2, e3, e4, e5, rfl, hv2, hb2⟩
        obtain ⟨kd, nd, sd, bd, fd, ld, bm, bz, fm, fz, lm, lz, hsh⟩ := hv2.shape
        injection hsh with hsh
        injection hsh with hsh
        injection hsh with x0 hsh; injection hsh with x1 hsh; injection hsh with x2 hsh; injection hsh with x3 hsh; injection hsh with x4 hsh; injection hsh with x5 hsh
        subst x0 x1 x2 x3 x4 x5
        clear hsh
        have HB2 : Hid (Below wr.heap.size wr w2) := ((Below.refl _ wr).alloc (Nat.le_refl _) _).trans (hb2.mono (by simp))
        have HR2 := Lib.hid (HR.out.keep HB2.out)
        have HVS2 := Lib.hid (HVS.out.keep HB2.out)
        have HBw2 : Hid (Below w.heap.size w w2) := HB.out.trans (HB2.out.mono HB.out.size)
        have hGlt : w.heap.size < wr.heap.size := HR.out.lt
        have HV2 : Hid (VIn w2 (fun g => w.heap.size < g) h (f[k]'(by have := HN.out; omega)).2 (.agg #[.int .i64 kd, .int .i64 nd, .string sd, .slice bd bm bz, .slice fd fm fz, .slice ld lm lz])) := hv2.kept (Kept.of_below (Below.refl _ _)) (fun g hg => by simp at hg; omega)
        clear hv2 hb2
        obtain ⟨⟨z0, g0⟩, f0⟩ := HR2.out.at (j := k * 7) (by omega)
        obtain ⟨⟨z1, g1⟩, f1⟩ := HR2.out.at (j := k * 7 + 1) (by omega)
        obtain ⟨⟨z2, g2⟩, f2⟩ := HR2.out.at (j := k * 7 + 2) (by omega)
        obtain ⟨⟨z3, g3⟩, f3⟩ := HR2.out.at (j := k * 7 + 3) (by omega)
        obtain ⟨⟨z4, g4⟩, f4⟩ := HR2.out.at (j := k * 7 + 4) (by omega)
        obtain ⟨⟨z5, g5⟩, f5⟩ := HR2.out.at (j := k * 7 + 5) (by omega)
        obtain ⟨⟨z6, g6⟩, f6⟩ := HR2.out.at (j := k * 7 + 6) (by omega)
        have HN2 : Hid (Flds (puts w2 w.heap.size (k * 7) [.string nm, .int .i64 kd, .int .i64 nd, .string sd, .slice bd bm bz, .slice fd fm fz, .slice ld lm lz]) w.heap.size h f (k + 1)) := by
          have := HVS2.out.put HR2.out (by have := HN.out; omega) (by rw [HN.out]) HV2.out
          rw [← HNM.out] at this
          exact this
        have HR3 := Lib.hid (HR2.out.puts (k * 7) [.string nm, .int .i64 kd, .int .i64 nd, .string sd, .slice bd bm bz, .slice fd fm fz, .slice ld lm lz] (by simp; omega)).1
        have HB3 := Lib.hid (puts_below HBw2.out (G := w.heap.size) (Nat.le_refl _) [.string nm, .int .i64 kd, .int .i64 nd, .string sd, .slice bd bm bz, .slice fd fm fz, .slice ld lm lz] (k * 7))
        clear s0 s1 s2 s3 s4 s5 s6 HV HVa HVS HR HB
        go_wp2_with fail
        go_roundw
        case rel => exact ⟨k + 1, by go_num, by omega, HR3, HN2, HB3⟩
        case measure => simp [intOf]; omega
      · have hkk : k = n := by omega
        subst hkk
        go_wp2_with fail
        go_ret
        refine ⟨some ⟨w.heap.size, 0, none⟩, k, rfl, ⟨Nat.le_refl _, by omega⟩, .inr ⟨w.heap.size, 0, rfl, Nat.le_refl _, fun i hi => ?_⟩, HB.out⟩
        obtain ⟨h0, v, h1, h2⟩ := HVS.out i hi (by rw [← HN.out]; exact hi)
        rw [Nat.zero_add]
        exact ⟨h0, HNL.out i hi, v, h1, h2.kept (Kept.of_below (Below.refl _ _)) (fun g hg => Nat.le_of_lt hg)⟩
end Go.Proofs.YtpiookgkkaafeaaDoor
end
section
namespace Go.Proofs.YtpiookgkkaafeaaDoor
open Go.RowKit
open Seal
open Bson (Val)
theorem infoV6 : (Tryd.prog.info? 27).map (fun i => (i.zero, i.size, i.bytes)) = some (some (.agg #[.int .i64 0, .int .i64 0, .string ⟨#[]⟩, .slice none 0 0, .slice none 0 0, .slice none 0 0]), 6, 104) := by kernel_rfl
theorem run_makeVals (n : Nat) (hn : n ≤ 1353245080339) (u : World) : (Instr.makeSlice 25 (.int .i64 (n : Int)) (.int .i64 (n : Int))).run Tryd.prog u = .ok (.slice (some ⟨u.heap.size, 0, none⟩) n n) (u.alloc (.cells (madeCells #[.int .i64 0, .int .i64 0, .string ⟨#[]⟩, .slice none 0 0, .slice none 0 0, .slice none 0 0] (n * 6)) 27)) := by
  obtain ⟨i0, hi, hz0, hz1, hz2⟩ := info_parts infoV6
  have h := run_make (P := Tryd.prog) u 25 27 i0 (.agg #[.int .i64 0, .int .i64 0, .string ⟨#[]⟩, .slice none 0 0, .slice none 0 0, .slice none 0 0]) Tryd.underlying25 hi hz0 .i64 .i64 (n : Int) (n : Int) (by omega) (Int.le_refl _) (by rw [hz2]; omega) (by omega)
  rw [Int.toNat_natCast] at h
  simpa [hz1, Value.cells] using h
set_option maxRecDepth 100000 in
set_option maxHeartbeats 1000000 in
theorem eachV_any (Q : Nat → Prop) (h : Nat) (IH0 : CopyAt Q h) (a : Option Addr) (n c : Nat) (l : List Val) (w : World) (hn : l.length = n) (hnb : n ≤ 1353245080339) (hI : ItemsIn w Q (VIn w Q h) a l) :
    Calls Tryd.prog 33 #[.slice a n c, .func (.func 19) #[] #[]] w fun e w' => ∃ a' c', e = .returned (.slice a' n c') ∧ (n ≤ c' ∧ c' ≤ 9223372036854775807) ∧ ItemsIn w' (fun g => w.heap.size ≤ g) (VIn w' (fun g => w.heap.size ≤ g) h) a' l ∧ Below w.heap.size w w' := by
  have IH := Lib.hid IH0
  have HI := Lib.hid hI
  have HN := Lib.hid hn
  clear hI IH0 hn
  have hmk := run_makeVals n hnb
  have he := fun u : World => Lib.run_eql_slice_nil (P := Tryd.prog) u 25 27 a n c 0 0 Tryd.underlying25
  cases a with
  | none =>
    have hnil : l = [] := by
      rcases HI.out with h | ⟨g, o, e, _⟩
      · exact h
      · cases e
    have hn0 : n = 0 := by rw [← HN.out, hnil]; rfl
    subst hn0
    have HNIL := Lib.hid hnil
    clear hnil
    go_enter Tryd.func33, Tryd.ntmps33
    go_wp2_with fail
    go_ret
    exact ⟨none, 0, rfl, ⟨Nat.le_refl _, by omega⟩, .inl HNIL.out, Below.refl _ _⟩
  | some p =>
    go_enter Tryd.func33, Tryd.ntmps33
    go_wp2_with fail
    go_loopw [15] (fun i wr => ∃ k : Nat, i = .int .i64 k ∧ k ≤ n ∧ Hid (Row6 wr w.heap.size 27 (n * 6)) ∧ Hid (Vals wr w.heap.size h l k) ∧ Hid (Below w.heap.size w wr)) (fun i _ => n - (intOf i).toNat)
    case atStart => exact ⟨0, rfl, Nat.zero_le _, ⟨_, heap_alloc_new w _, size_madeCells _ _⟩, Vals.none _ _ _ _, (Below.refl _ w).alloc (Nat.le_refl _) _⟩
    case round =>
      obtain ⟨k, rfl, hk, HR, HVS, HB⟩ := hrel
      by_cases hlt : k < n
      · obtain ⟨g, o, hla, _, hall⟩ := HI.out.resolve_left (fun e => by have := HN.out; rw [e] at this; simp at this; omega)
        obtain ⟨v', hsix, hV⟩ := hall k (by have := HN.out; omega)
        obtain rfl := Option.some.inj hla
        obtain ⟨ka, na, sa, ba, fa, la, bl, bc, fl, fc, ll, lc, rfl⟩ := hV.shape
        have HV := Lib.hid (VIn.keep HB.out hV)
        obtain ⟨s0, s1, s2, s3, s4, s5⟩ := (hsix.keep HB.out).cells
        clear hall hsix hV
        go_wp2_with fail
        have HVa := Lib.hid (VIn.keep ((Below.refl _ wr).alloc (Nat.le_refl _) (.cells #[.int .i64 ka, .int .i64 na, .string sa, .slice ba bl bc, .slice fa fl fc, .slice la ll lc] 27)) HV.out)
        refine (IH.out _ _ _ HVa.out).mono ?_
        rintro e w2 ⟨v2, rfl, hv2, hb2⟩
        obtain ⟨kd, nd, sd, bd, fd, ld, bm, bz, fm, fz, lm, lz, rfl⟩ := hv2.shape
        have HB2 : Hid (Below wr.heap.size wr w2) := ((Below.refl _ wr).alloc (Nat.le_refl _) _).trans (hb2.mono (by simp))
        have HR2 := Lib.hid (HR.out.keep HB2.out)
        have HVS2 := Lib.hid (HVS.out.keep HB2.out)
        have HBw2 : Hid (Below w.heap.size w w2) := HB.out.trans (HB2.out.mono HB.out.size)
        have hGlt : w.heap.size < wr.heap.size := HR.out.lt
        have HV2 : Hid (VIn w2 (fun g => w.heap.size < g) h (l[k]'(by have := HN.out; omega)) (.agg #[.int .i64 kd, .int .i64 nd, .string sd, .slice bd bm bz, .slice fd fm fz, .slice ld lm lz])) := hv2.kept (Kept.of_below (Below.refl _ _)) (fun g hg => by simp at hg; omega)
        clear hv2 hb2
        obtain ⟨⟨z0, g0⟩, f0⟩ := HR2.out.at (j := k * 6) (by omega)
        obtain ⟨⟨z1, g1⟩, f1⟩ := HR2.out.at (j := k * 6 + 1) (by omega)
        obtain ⟨⟨z2, g2⟩, f2⟩ := HR2.out.at (j := k * 6 + 2) (by omega)
        obtain ⟨⟨z3, g3⟩, f3⟩ := HR2.out.at (j := k * 6 + 3) (by omega)
        obtain ⟨⟨z4, g4⟩, f4⟩ := HR2.out.at (j := k * 6 + 4) (by omega)
        obtain ⟨⟨z5, g5⟩, f5⟩ := HR2.out.at (j := k * 6 + 5) (by omega)
        have HN2 : Hid (Vals (puts w2 w.heap.size (k * 6) [.int .i64 kd, .int .i64 nd, .string sd, .slice bd bm bz, .slice fd fm fz, .slice ld lm lz]) w.heap.size h l (k + 1)) := HVS2.out.put HR2.out (by have := HN.out; omega) (by rw [HN.out]) HV2.out
        have HR3 := Lib.hid (HR2.out.puts (k * 6) [.int .i64 kd, .int .i64 nd, .string sd, .slice bd bm bz, .slice fd fm fz, .slice ld lm lz] (by simp; omega)).1
        have HB3 := Lib.hid (puts_below HBw2.out (G := w.heap.size) (Nat.le_refl _) [.int .i64 kd, .int .i64 nd, .string sd, .slice bd bm bz, .slice fd fm fz, .slice ld lm lz] (k * 6))
        clear s0 s1 s2 s3 s4 s5 HV HVa HVS HR HB
        go_wp2_with fail
        go_roundw
        case rel => exact ⟨k + 1, by go_num, by omega, HR3, HN2, HB3⟩
        case measure => simp [intOf]; omega
      · have hkk : k = n := by omega
        subst hkk
        go_wp2_with fail
        go_ret
        refine ⟨some ⟨w.heap.size, 0, none⟩, k, rfl, ⟨Nat.le_refl _, by omega⟩, .inr ⟨w.heap.size, 0, rfl, Nat.le_refl _, fun i hi => ?_⟩, HB.out⟩
        obtain ⟨v, h1, h2⟩ := HVS.out i hi (by rw [← HN.out]; exact hi)
        rw [Nat.zero_add]
        exact ⟨v, h1, h2.kept (Kept.of_below (Below.refl _ _)) (fun g hg => Nat.le_of_lt hg)⟩
end Go.Proofs.YtpiookgkkaafeaaDoor
end
section
namespace Go.Proofs.YtpiookgkkaafeaaDoor
open Go.RowKit
open Seal
open Bson (Val Res)
/-- A value that lies in blocks from L on. -/
def ValV (L : Nat) (w : World) (x : Val) (v : Value) : Prop := ∃ h, VIn w (fun g => L ≤ g) h x v
theorem Rdr.alloc {w : World} {gr : Nat} {ba : Option Addr} {bc : Nat} {b : List Nat} {k : Nat} (h : Rdr w gr ba bc b k) (o : Obj) : Rdr (w.alloc o) gr ba bc b k := h.keep ((Below.refl _ w).alloc (Nat.le_refl _) o)
theorem grown_new {w w' : World} {gr B : Nat} (h : w.grownBy w' (some gr)) (hB : w.heap.size ≤ B) (j : Nat) (v : Value) : w.grownBy (w'.setCell ⟨B, j, none⟩ v) (some gr) :=
  ⟨h.os, h.tape, h.output, by simpa using h.size, fun g hg hne => (Below.heap_setCell w' ⟨B, j, none⟩ v g (by show g ≠ B; omega)).trans (h.block g hg hne)⟩
theorem grown_box {w : World} {gr : Nat} (o : Obj) : w.grownBy (w.alloc o) (some gr) := grown_below ((Below.refl _ w).alloc (Nat.le_refl _) o) gr
/-- The six cells of a result, stored one by one. -/
abbrev six (w : World) (B : Nat) (v0 v1 v2 v3 v4 v5 : Value) : World := (((((w.setCell ⟨B, 0, none⟩ v0).setCell ⟨B, 1, none⟩ v1).setCell ⟨B, 2, none⟩ v2).setCell ⟨B, 3, none⟩ v3).setCell ⟨B, 4, none⟩ v4).setCell ⟨B, 5, none⟩ v5
theorem grown_six {w w' : World} {gr B : Nat} (h : w.grownBy w' (some gr)) (hB : w.heap.size ≤ B) (v0 v1 v2 v3 v4 v5 : Value) : w.grownBy (six w' B v0 v1 v2 v3 v4 v5) (some gr) :=
  grown_new (grown_new (grown_new (grown_new (grown_new (grown_new h hB 0 v0) hB 1 v1) hB 2 v2) hB 3 v3) hB 4 v4) hB 5 v5
set_option maxRecDepth 100000 in
set_option maxHeartbeats 1000000 in
theorem number_no (w : World) (gr : Nat) (ba : Option Addr) (bc : Nat) (b : List Nat) (k n : Nat) (kd : Int) (hn : n ≤ 8) (hR : Rdr w gr ba bc b k) (h : b.length < k + n) :
    Calls Tryd.prog 101 #[.pointer (some ⟨gr, 0, none⟩), .int .i64 kd, .int .i64 (n : Int)] w (ErrPost zeroV w gr 2) := by
  have hT := Lib.hid (take_no _ gr ba bc b k n (hR.alloc (.cells #[.int .i64 0, .int .i64 0, .string ⟨#[]⟩, .slice none 0 0, .slice none 0 0, .slice none 0 0] 27 (0, 0))) (by omega) h)
  clear h hR
  go_enter Tryd.func101, Tryd.ntmps101
  go_wp2_with fail
  refine hT.out.mono ?_
  rintro e w' ⟨rfl, q, rfl⟩
  go_wp2_with fail
  exact bodyPost_ret (v := .tuple #[zeroV, .int .i64 2]) (by simp [results, Tryd.results101, go_sem, zeroV]) rfl ⟨rfl, grown_six (grown_trans (grown_box _) (grown_drewN _ q gr)) (Nat.le_refl _) _ _ _ _ _ _⟩
/-- A value without parts of its own in memory. -/
theorem vin_flat (L : Nat) (w : World) (k n : Int) (s : ByteArray) (hk0 : -9223372036854775808 ≤ k) (hk1 : k ≤ 9223372036854775807) (hn0 : -9223372036854775808 ≤ n) (hn1 : n ≤ 9223372036854775807) (hs : s.size ≤ 140737488355328) :
    ValV L w (.mk k n s [] [] []) (.agg #[.int .i64 k, .int .i64 n, .string s, .slice none 0 0, .slice none 0 0, .slice none 0 0]) :=
  ⟨1, none, none, none, 0, 0, 0, rfl, ⟨hk0, hk1, hn0, hn1, hs, by show (0 : Nat) ≤ _; omega, by show (0 : Nat) ≤ _; omega, by show (0 : Nat) ≤ _; omega, fun c hc => by cases hc⟩, ⟨Nat.le_refl _, by omega⟩, ⟨Nat.le_refl _, by omega⟩, ⟨Nat.le_refl _, by omega⟩, .inl rfl, .inl rfl, .inl rfl⟩
/-- A reader behind the six stores of a result. -/
theorem Rdr.six {w : World} {gr : Nat} {ba : Option Addr} {bc : Nat} {b : List Nat} {k : Nat} (h : Rdr w gr ba bc b k) {B : Nat} (hB : B ≠ gr) (hu : ∀ (g o : Nat) (x : Int), w.cell? ⟨g, o, none⟩ = some (Value.int .u8 x) → g ≠ B) (v0 v1 v2 v3 v4 v5 : Value) : Rdr (six w B v0 v1 v2 v3 v4 v5) gr ba bc b k := by
  have e : ∀ g, g ≠ B → (Go.Proofs.YtpiookgkkaafeaaDoor.six w B v0 v1 v2 v3 v4 v5).heap[g]? = w.heap[g]? := by
    intro g hg
    have s1 : ∀ (w : World) (j : Nat) (v : Value), (w.setCell ⟨B, j, none⟩ v).heap[g]? = w.heap[g]? := fun w j v => Below.heap_setCell w ⟨B, j, none⟩ v g hg
    unfold Go.Proofs.YtpiookgkkaafeaaDoor.six
    rw [s1, s1, s1, s1, s1, s1]
  refine ⟨(e gr (fun h => hB h.symm)).trans h.blk, ?_, h.le, h.len, h.cap, h.max, h.oct⟩
  rcases h.rd with h0 | ⟨g, o, ea, hr⟩
  · exact .inl h0
  · refine .inr ⟨g, o, ea, fun j hj => ?_⟩
    have h1 := hr j hj
    exact (World.cell?_of_block (a := ⟨g, o + j, none⟩) (e g (hu _ _ _ h1))).trans h1
/-- No byte lies in a block that holds none. -/
theorem no_byte {w : World} {B : Nat} {cs : Array Value} {t : TypeId} (h : w.heap[B]? = some (.cells cs t (0, 0))) (hc : ∀ (j : Nat) (x : Int), cs[j]? ≠ some (Value.int .u8 x)) : ∀ (g o : Nat) (x : Int), w.cell? ⟨g, o, none⟩ = some (Value.int .u8 x) → g ≠ B := by
  rintro g o x hx rfl
  rw [cell_of_row w g o cs t (0, 0) h] at hx
  exact hc _ _ hx
/-- The box of a result, as it is laid. -/
abbrev zeroCs : Array Value := #[.int .i64 0, .int .i64 0, .string ⟨#[]⟩, .slice none 0 0, .slice none 0 0, .slice none 0 0]
theorem zero_no_byte (j : Nat) (x : Int) : (zeroCs)[j]? ≠ some (Value.int .u8 x) := by
  match j with
  | 0 => simp
  | 1 => simp
  | 2 => simp
  | 3 => simp
  | 4 => simp
  | 5 => simp
  | j + 6 => simp
/-- In w' the box that was laid behind w still holds nothing. -/
def Fresh (w w' : World) : Prop := w'.heap[w.heap.size]? = some (.cells zeroCs 27 (0, 0))
theorem Fresh.new (w : World) : Fresh w (w.alloc (.cells zeroCs 27 (0, 0))) := heap_alloc_new w _
theorem Fresh.grown {w w0 w' : World} {gr : Nat} (h : Fresh w w0) (hg : w0.grownBy w' (some gr)) (hl : gr < w.heap.size) : Fresh w w' :=
  (hg.block w.heap.size (by have := World.block_lt_of_cell? w0 ⟨w.heap.size, 0, none⟩ ((cell_of_row w0 _ 0 _ _ _ h).trans rfl); exact this) (fun e => by have := Option.some.inj e; omega)).trans h
theorem Fresh.cells {w w' : World} (h : Fresh w w') : ∀ (j : Nat) (v : Value), (zeroCs)[j]? = some v → w'.cell? ⟨w.heap.size, j, none⟩ = some v ∧ w'.frozen? ⟨w.heap.size, j, none⟩ = false :=
  fun j _ hv => ⟨(cell_of_row w' _ j _ _ _ h).trans hv, frozen_of_row w' _ j _ _ h⟩
theorem Fresh.no_byte {w w' : World} (h : Fresh w w') : ∀ (g o : Nat) (x : Int), w'.cell? ⟨g, o, none⟩ = some (Value.int .u8 x) → g ≠ w.heap.size := Go.Proofs.YtpiookgkkaafeaaDoor.no_byte h zero_no_byte
theorem fin_ok {w w' : World} {gr : Nat} {ba : Option Addr} {bc : Nat} {b : List Nat} {k' : Nat} {x : Val} {r : List Nat} (hlt : gr < w.heap.size) (hF : Fresh w w') (hR : Rdr w' gr ba bc b k') (hg : w.grownBy w' (some gr)) (v0 v1 v2 v3 v4 v5 : Value)
    (hV : ValV w.heap.size (six w' w.heap.size v0 v1 v2 v3 v4 v5) x (.agg #[v0, v1, v2, v3, v4, v5])) (hr : r = b.drop k') : OkPost (ValV w.heap.size) w gr ba bc b x r (.returned (.tuple #[.agg #[v0, v1, v2, v3, v4, v5], .int .i64 0])) (six w' w.heap.size v0 v1 v2 v3 v4 v5) :=
  ⟨_, k', rfl, hV, hr, hR.six (by omega) hF.no_byte _ _ _ _ _ _, grown_six hg (Nat.le_refl _) _ _ _ _ _ _⟩
theorem fin_err {w w' : World} {gr n : Nat} (hg : w.grownBy w' (some gr)) (v0 v1 v2 v3 v4 v5 : Value) (hz : zeroV = .agg #[v0, v1, v2, v3, v4, v5]) : ErrPost zeroV w gr n (.returned (.tuple #[.agg #[v0, v1, v2, v3, v4, v5], .int .i64 (n : Int)])) (six w' w.heap.size v0 v1 v2 v3 v4 v5) :=
  ⟨by rw [hz], grown_six hg (Nat.le_refl _) _ _ _ _ _ _⟩
theorem in64 {n : Nat} {sg : Int} (hn : n = 1 ∨ n = 4 ∨ n = 8) (hsb : -((256 ^ n / 2 : Nat) : Int) ≤ sg ∧ sg < ((256 ^ n / 2 : Nat) : Int)) : -9223372036854775808 ≤ sg ∧ sg ≤ 9223372036854775807 := by
  rcases hn with rfl | rfl | rfl <;> simp only [Nat.reducePow, Nat.reduceDiv] at hsb <;> omega
set_option maxRecDepth 100000 in
set_option maxHeartbeats 1000000 in
theorem number_yes (w : World) (gr : Nat) (ba : Option Addr) (bc : Nat) (b : List Nat) (k n : Nat) (kd : Int) (hn : n = 1 ∨ n = 4 ∨ n = 8) (hk0 : -9223372036854775808 ≤ kd) (hk1 : kd ≤ 9223372036854775807) (hR : Rdr w gr ba bc b k) (h : k + n ≤ b.length) :
    Calls Tryd.prog 101 #[.pointer (some ⟨gr, 0, none⟩), .int .i64 kd, .int .i64 (n : Int)] w (OkPost (ValV w.heap.size) w gr ba bc b (.mk kd (Bson.signed ((b.drop k).take n)) Bson.none_ [] [] []) (b.drop (k + n))) := by
  have hT := Lib.hid (take_yes _ gr ba bc b k n (hR.alloc (.cells zeroCs 27 (0, 0))) h)
  have hlt := hR.lt
  have hxn : ((b.drop k).take n).length = n := by simp; omega
  have hon := oct_take hR.oct k n
  have hS := Lib.hid (fun w a c hs => signed_any w a n c ((b.drop k).take n) hxn hn hon hs)
  have hsb := (Bson.signed_bd _ hon).resolve_right (fun e => by rw [e] at hxn; simp at hxn; omega)
  rw [hxn] at hsb
  have hsb' := in64 hn hsb
  clear hsb
  generalize Bson.signed ((b.drop k).take n) = sg at *
  clear h hR hxn hon hn
  go_enter Tryd.func101, Tryd.ntmps101
  go_wp2_with fail
  refine hT.out.mono ?_
  rintro e w' ⟨a, c, rfl, hc0, hc1, hs, hR', hg⟩
  have HSS := Lib.hid (hS.out w' a c hs)
  have HF := Lib.hid ((Fresh.new w).grown hg hlt)
  have HG := Lib.hid (grown_trans (grown_box _) hg)
  have HR' := Lib.hid hR'
  clear hs hR' hg
  go_wp2_with fail
  refine HSS.out.mono ?_
  rintro e w'' ⟨rfl, rfl⟩
  obtain ⟨d0, f0⟩ := HF.out.cells 0 _ rfl
  obtain ⟨d1, f1⟩ := HF.out.cells 1 _ rfl
  obtain ⟨d2, f2⟩ := HF.out.cells 2 _ rfl
  obtain ⟨d3, f3⟩ := HF.out.cells 3 _ rfl
  obtain ⟨d4, f4⟩ := HF.out.cells 4 _ rfl
  obtain ⟨d5, f5⟩ := HF.out.cells 5 _ rfl
  go_wp2_with fail
  exact bodyPost_ret (v := .tuple #[.agg #[.int .i64 kd, .int .i64 sg, .string ⟨#[]⟩, .slice none 0 0, .slice none 0 0, .slice none 0 0], .int .i64 0]) (by simp [results, Tryd.results101, go_sem, *]) rfl (fin_ok hlt HF.out HR'.out HG.out _ _ _ _ _ _ (vin_flat _ _ kd sg ⟨#[]⟩ hk0 hk1 hsb'.1 hsb'.2 (by decide)) rfl)
/-- A value that a callee made, behind the six stores of the result. -/
theorem ValV.stored {w w' : World} {x : Val} {v : Value} (h : ValV (w.heap.size + 1) w' x v) : ∃ (q1 q2 : Int) (q3 : ByteArray) (a1 : Option Addr) (n1 c1 : Nat) (a2 : Option Addr) (n2 c2 : Nat) (a3 : Option Addr) (n3 c3 : Nat), v = .agg #[.int .i64 q1, .int .i64 q2, .string q3, .slice a1 n1 c1, .slice a2 n2 c2, .slice a3 n3 c3] ∧ ∀ u0 u1 u2 u3 u4 u5, ValV w.heap.size (six w' w.heap.size u0 u1 u2 u3 u4 u5) x (.agg #[.int .i64 q1, .int .i64 q2, .string q3, .slice a1 n1 c1, .slice a2 n2 c2, .slice a3 n3 c3]) := by
  obtain ⟨h, hv⟩ := h
  cases h with
  | zero => exact hv.elim
  | succ h =>
    have hv' := hv
    obtain ⟨ba, fa, la, bc, fc, lc, rfl, _⟩ := hv'
    refine ⟨_, _, _, _, _, _, _, _, _, _, _, _, rfl, fun u0 u1 u2 u3 u4 u5 => ⟨h + 1, VIn.kept (Q := fun g => w.heap.size + 1 ≤ g) (fun g hg _ => ?_) (fun g (hg : w.heap.size + 1 ≤ g) => by show w.heap.size ≤ g; omega) hv⟩⟩
    have hne : g ≠ w.heap.size := by have h1 : w.heap.size + 1 ≤ g := hg; omega
    have s1 : ∀ (w' : World) (j : Nat) (v : Value), (w'.setCell ⟨w.heap.size, j, none⟩ v).heap[g]? = w'.heap[g]? := fun w' j v => Below.heap_setCell w' ⟨w.heap.size, j, none⟩ v g hne
    unfold six
    rw [s1, s1, s1, s1, s1, s1]
theorem ValV.less {L L' : Nat} {w : World} {x : Val} {v : Value} (h : ValV L w x v) (hl : L' ≤ L) : ValV L' w x v := h.imp fun _ hv => VIn.kept (Q := fun g => L ≤ g) (fun _ _ _ => rfl) (fun _ (hg : L ≤ _) => Nat.le_trans hl hg) hv
theorem ValV.stored_at {w w' : World} {x : Val} {v : Value} (h : ValV (w.heap.size + 1) w' x v) (u0 u1 u2 u3 u4 u5 : Value) : ValV w.heap.size (six w' w.heap.size u0 u1 u2 u3 u4 u5) x v := by
  obtain ⟨q1, q2, q3, a1, n1, c1, a2, n2, c2, a3, n3, c3, rfl, hS⟩ := ValV.stored h
  exact hS _ _ _ _ _ _
theorem ValV.keep {L : Nat} {w w' : World} {x : Val} {v : Value} (h : ValV L w x v) (hb : Below w.heap.size w w') : ValV L w' x v := h.imp fun _ hv => hv.keep hb
theorem ValV.alloc {L : Nat} {w : World} {x : Val} {v : Value} (h : ValV L w x v) (o : Obj) : ValV L (w.alloc o) x v := h.keep ((Below.refl _ w).alloc (Nat.le_refl _) o)
end Go.Proofs.YtpiookgkkaafeaaDoor
end
