/- bson.each of fields, from Copy. -/
import Derived.Test.YtkpbfocbombpjaaPathCopyF
import Derived.WalkSpells
namespace Go.Proofs.Ytkpbfocbombpjaa
open Go.RowKit
open Seal
open Bson (Val)
theorem infoF7 : (Try.prog.info? 30).map (fun i => (i.zero, i.size, i.bytes)) = some (some (.agg #[.string ⟨#[]⟩, .int .i64 0, .int .i64 0, .string ⟨#[]⟩, .slice none 0 0, .slice none 0 0, .slice none 0 0]), 7, 120) := by kernel_rfl
theorem run_makeFlds (n : Nat) (hn : n ≤ 1172812402961) (u : World) : (Instr.makeSlice 24 (.int .i64 (n : Int)) (.int .i64 (n : Int))).run Try.prog u = .ok (.slice (some ⟨u.heap.size, 0, none⟩) n n) (u.alloc (.cells (madeCells #[.string ⟨#[]⟩, .int .i64 0, .int .i64 0, .string ⟨#[]⟩, .slice none 0 0, .slice none 0 0, .slice none 0 0] (n * 7)) 30)) := by
  obtain ⟨i0, hi, hz0, hz1, hz2⟩ := info_parts infoF7
  have h := run_make (P := Try.prog) u 24 30 i0 (.agg #[.string ⟨#[]⟩, .int .i64 0, .int .i64 0, .string ⟨#[]⟩, .slice none 0 0, .slice none 0 0, .slice none 0 0]) Try.underlying24 hi hz0 .i64 .i64 (n : Int) (n : Int) (by omega) (Int.le_refl _) (by rw [hz2]; omega) (by omega)
  rw [Int.toNat_natCast] at h
  simpa [hz1, Value.cells] using h
set_option maxRecDepth 100000 in
set_option maxHeartbeats 1000000 in
theorem eachF_any (Q : Nat → Prop) (h : Nat) (IH0 : CopyAt Q h) (a : Option Addr) (n c : Nat) (f : List (ByteArray × Val)) (w : World) (hn : f.length = n) (hnb : n ≤ 1172812402961) (hI : FieldsIn w Q (VIn w Q h) a f) :
    Calls Try.prog 25 #[.slice a n c, .func (.func 26) #[] #[]] w fun e w' => ∃ a' c', e = .returned (.slice a' n c') ∧ (n ≤ c' ∧ c' ≤ 9223372036854775807) ∧ FieldsIn w' (fun g => w.heap.size ≤ g) (VIn w' (fun g => w.heap.size ≤ g) h) a' f ∧ Below w.heap.size w w' := by
  have IH := Lib.hid (fun nm x c0 c1 c2 c3 c4 c5 w hv => copyfield_any Q h IH0 nm x c0 c1 c2 c3 c4 c5 w hv)
  have HI := Lib.hid hI
  have HN := Lib.hid hn
  have HNL : Hid (∀ i (hi : i < f.length), f[i].1.size ≤ 140737488355328) := by
    intro i hi
    rcases hI with h | ⟨g, o, _, _, h⟩
    · rw [h] at hi; simp at hi
    · exact (h i hi).2.1
  clear hI IH0 hn
  have hmk := run_makeFlds n hnb
  have he := fun u : World => Lib.run_eql_slice_nil (P := Try.prog) u 24 30 a n c 0 0 Try.underlying24
  cases a with
  | none =>
    have hnil : f = [] := by
      rcases HI.out with h | ⟨g, o, e, _⟩
      · exact h
      · cases e
    have hn0 : n = 0 := by rw [← HN.out, hnil]; rfl
    subst hn0
    have HNIL := Lib.hid hnil
    clear hnil
    go_enter Try.func25, Try.ntmps25
    go_wp2_with fail
    go_ret
    exact ⟨none, 0, rfl, ⟨Nat.le_refl _, by omega⟩, .inl HNIL.out, Below.refl _ _⟩
  | some p =>
    go_enter Try.func25, Try.ntmps25
    go_wp2_with fail
    go_loopw [15] (fun i wr => ∃ k : Nat, i = .int .i64 k ∧ k ≤ n ∧ Hid (Row6 wr w.heap.size 30 (n * 7)) ∧ Hid (Flds wr w.heap.size h f k) ∧ Hid (Below w.heap.size w wr)) (fun i _ => n - (intOf i).toNat)
    case atStart => exact ⟨0, rfl, Nat.zero_le _, ⟨_, heap_alloc_new w _, size_madeCells _ _⟩, Flds.none _ _ _ _, (Below.refl _ w).alloc (Nat.le_refl _) _⟩
    case round =>
      obtain ⟨k, rfl, hk, HR, HVS, HB⟩ := hrel
      by_cases hlt : k < n
      · obtain ⟨g, o, hla, _, hall⟩ := HI.out.resolve_left (fun e => by have := HN.out; rw [e] at this; simp at this; omega)
        obtain ⟨hnm, hns, v', hsix, hV⟩ := hall k (by have := HN.out; omega)
        obtain rfl := Option.some.inj hla
        obtain ⟨ka, na, sa, ba, fa, la, bl, bc, fl, fc, ll, lc, rfl⟩ := hV.shape
        have HV := Lib.hid (VIn.keep HB.out hV)
        obtain ⟨s0, s1, s2, s3, s4, s5⟩ := (hsix.keep HB.out).cells
        obtain ⟨nm, hnme⟩ : ∃ nm, nm = (f[k]'(by have := HN.out; omega)).1 := ⟨_, rfl⟩
        have HNM := Lib.hid hnme
        clear hnme
        have s6 : wr.cell? ⟨g, o + k * 7, none⟩ = some (.string nm) := by rw [HNM.out]; exact cell_keep HB.out hnm
        have HNS : Hid (nm.size ≤ 140737488355328) := by rw [HNM.out]; exact hns
        clear hall hsix hV hnm hns
        go_wp2_with fail
        have HVa := Lib.hid (VIn.keep ((Below.refl _ wr).alloc (Nat.le_refl _) (.cells #[.string nm, .int .i64 ka, .int .i64 na, .string sa, .slice ba bl bc, .slice fa fl fc, .slice la ll lc] 30)) HV.out)
        refine (IH.out nm _ _ _ _ _ _ _ _ HVa.out).mono ?_
        rintro e w2 ⟨e0, e1, e2, e3, e4, e5, rfl, hv2, hb2⟩
        obtain ⟨kd, nd, sd, bd, fd, ld, bm, bz, fm, fz, lm, lz, hsh⟩ := hv2.shape
        injection hsh with hsh
        injection hsh with hsh
        injection hsh with x0 hsh; injection hsh with x1 hsh; injection hsh with x2 hsh; injection hsh with x3 hsh; injection hsh with x4 hsh; injection hsh with x5 hsh
        subst x0 x1 x2 x3 x4 x5
        clear hsh
        have HB2 : Hid (Below wr.heap.size wr w2) := ((Below.refl _ wr).alloc (Nat.le_refl _) _).trans (hb2.mono (by simp))
        have HR2 := Lib.hid (HR.out.keep HB2.out)
        have HVS2 := Lib.hid (HVS.out.keep HB2.out)
        have HBw2 : Hid (Below w.heap.size w w2) := HB.out.trans (HB2.out.mono HB.out.size)
        have hGlt : w.heap.size < wr.heap.size := HR.out.lt
        have HV2 : Hid (VIn w2 (fun g => w.heap.size < g) h (f[k]'(by have := HN.out; omega)).2 (.agg #[.int .i64 kd, .int .i64 nd, .string sd, .slice bd bm bz, .slice fd fm fz, .slice ld lm lz])) := hv2.kept (Kept.of_below (Below.refl _ _)) (fun g hg => by simp at hg; omega)
        clear hv2 hb2
        obtain ⟨⟨z0, g0⟩, f0⟩ := HR2.out.at (j := k * 7) (by omega)
        obtain ⟨⟨z1, g1⟩, f1⟩ := HR2.out.at (j := k * 7 + 1) (by omega)
        obtain ⟨⟨z2, g2⟩, f2⟩ := HR2.out.at (j := k * 7 + 2) (by omega)
        obtain ⟨⟨z3, g3⟩, f3⟩ := HR2.out.at (j := k * 7 + 3) (by omega)
        obtain ⟨⟨z4, g4⟩, f4⟩ := HR2.out.at (j := k * 7 + 4) (by omega)
        obtain ⟨⟨z5, g5⟩, f5⟩ := HR2.out.at (j := k * 7 + 5) (by omega)
        obtain ⟨⟨z6, g6⟩, f6⟩ := HR2.out.at (j := k * 7 + 6) (by omega)
        have HN2 : Hid (Flds (puts w2 w.heap.size (k * 7) [.string nm, .int .i64 kd, .int .i64 nd, .string sd, .slice bd bm bz, .slice fd fm fz, .slice ld lm lz]) w.heap.size h f (k + 1)) := by
          have := HVS2.out.put HR2.out (by have := HN.out; omega) (by rw [HN.out]) HV2.out
          rw [← HNM.out] at this
          exact this
        have HR3 := Lib.hid (HR2.out.puts (k * 7) [.string nm, .int .i64 kd, .int .i64 nd, .string sd, .slice bd bm bz, .slice fd fm fz, .slice ld lm lz] (by simp; omega)).1
        have HB3 := Lib.hid (puts_below HBw2.out (G := w.heap.size) (Nat.le_refl _) [.string nm, .int .i64 kd, .int .i64 nd, .string sd, .slice bd bm bz, .slice fd fm fz, .slice ld lm lz] (k * 7))
        clear s0 s1 s2 s3 s4 s5 s6 HV HVa HVS HR HB
        go_wp2_with fail
        go_roundw
        case rel => exact ⟨k + 1, by go_num, by omega, HR3, HN2, HB3⟩
        case measure => simp [intOf]; omega
      · have hkk : k = n := by omega
        subst hkk
        go_wp2_with fail
        go_ret
        refine ⟨some ⟨w.heap.size, 0, none⟩, k, rfl, ⟨Nat.le_refl _, by omega⟩, .inr ⟨w.heap.size, 0, rfl, Nat.le_refl _, fun i hi => ?_⟩, HB.out⟩
        obtain ⟨h0, v, h1, h2⟩ := HVS.out i hi (by rw [← HN.out]; exact hi)
        rw [Nat.zero_add]
        exact ⟨h0, HNL.out i hi, v, h1, h2.kept (Kept.of_below (Below.refl _ _)) (fun g hg => Nat.le_of_lt hg)⟩
end Go.Proofs.Ytkpbfocbombpjaa
