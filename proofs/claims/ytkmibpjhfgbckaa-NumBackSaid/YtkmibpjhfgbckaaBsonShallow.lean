/- Shallow. -/
import Derived.Test.YtkmibpjhfgbckaaBsonMem
import Derived.Deep.RegionHeld3
namespace Go.Proofs.Ytkmibpjhfgbckaa
open Go.RowKit
open Seal
open Bson (Val)
theorem ret_eq {a b : Value} (h : a = b) : Ending.returned a = .returned b := by rw [h]
/-- Some answer, and nothing old has turned. -/
def SomeBool (w : World) (e : Ending) (w' : World) : Prop := ∃ b, e = .returned (.bool b) ∧ Below w.heap.size w w'
theorem cell_keep {w w' : World} {p : Addr} {v : Value} (hb : Below w.heap.size w w') (h : w.cell? p = some v) : w'.cell? p = some v := (hb.cell (World.block_lt_of_cell? w _ h)).trans h
/-- A box was laid behind w, and since then nothing has turned of it or of what is older. -/
def Boxed (w : World) (cs : Array Value) (t : TypeId) (wr : World) : Prop := Below (w.heap.size + 1) (w.alloc (.cells cs t)) wr
section
variable {w wr w' : World} {cs : Array Value} {t : TypeId}
theorem Boxed.refl (w : World) (cs : Array Value) (t : TypeId) : Boxed w cs t (w.alloc (.cells cs t)) := Below.refl _ _
theorem Boxed.cell (h : Boxed w cs t wr) (j : Nat) : wr.cell? ⟨w.heap.size, j, none⟩ = cs[j]? :=
  (Below.cell h (p := ⟨w.heap.size, j, none⟩) (Nat.lt_succ_self _)).trans (cell_of_row _ _ j cs t (0, 0) (heap_alloc_new w _))
theorem Boxed.size (h : Boxed w cs t wr) : w.heap.size + 1 ≤ wr.heap.size := by have := Below.size h; simpa using this
theorem Boxed.below (h : Boxed w cs t wr) : Below w.heap.size w wr := ((Below.refl _ w).alloc (Nat.le_refl _) _).trans (Below.mono h (by simp))
theorem Boxed.step (h : Boxed w cs t wr) (hb : Below wr.heap.size wr w') : Boxed w cs t w' := Below.trans h (hb.mono h.size)
end
set_option maxRecDepth 100000 in
set_option maxHeartbeats 1000000 in
theorem shallow_any (Q : Nat → Prop) : ∀ (h : Nat) (x : Val) (v : Value) (m : Int) (w : World), VIn w Q h x v → 0 ≤ m → m ≤ 60 → Calls Try.prog 25 #[v, .int .i64 m] w (SomeBool w)
  | 0, _, _, _, _, hv, _, _ => hv.elim
  | h + 1, x, v, m, w, hv, h0, h1 => by
    obtain ⟨ba, fa, la, bc, fc, lc, rfl, hL, hb, hf, hl, hB, hF, hI⟩ := hv
    unfold agg
    have IH := Lib.hid (fun x v m w => shallow_any Q h x v m w)
    have HF := Lib.hid hF; have HI := Lib.hid hI
    obtain ⟨fn, hfn⟩ : ∃ fn, fn = x.f.length := ⟨_, rfl⟩
    obtain ⟨ln, hln⟩ : ∃ ln, ln = x.l.length := ⟨_, rfl⟩
    have hfl := hL.f; have hll := hL.l
    rw [← hfn] at hfl ⊢; rw [← hln] at hll ⊢
    have HFN := Lib.hid hfn; have HLN := Lib.hid hln
    clear hF hI hB hb hL hf hl hfn hln
    obtain ⟨cs, hcs⟩ : ∃ cs, cs = #[Value.int .i64 x.kind, .int .i64 x.n, .string x.s, .slice ba x.b.length bc, .slice fa fn fc, .slice la ln lc] := ⟨_, rfl⟩
    have HC := Lib.hid hcs; clear hcs
    go_enter Try.func25, Try.ntmps25
    go_wp2
    go_loopw [5] (fun i wr => ∃ k : Nat, i = .int .i64 k ∧ k ≤ fn ∧ Hid (Boxed w cs 26 wr)) (fun i _ => fn - (intOf i).toNat)
    case atStart => exact ⟨0, rfl, Nat.zero_le _, by rw [HC.out]; exact Boxed.refl _ _ _⟩
    case round =>
      obtain ⟨k, rfl, hk, hbx⟩ := hrel
      have c4 : wr.cell? ⟨w.heap.size, 4, none⟩ = some (.slice fa fn fc) := by rw [hbx.out.cell, HC.out]; rfl
      have c5 : wr.cell? ⟨w.heap.size, 5, none⟩ = some (.slice la ln lc) := by rw [hbx.out.cell, HC.out]; rfl
      by_cases hlt : k < fn
      · by_cases hm : m = 0
        · subst hm
          go_wp2
          go_ret
          exact ⟨_, rfl, hbx.out.below⟩
        · have hm' : (m == 0) = false := by simpa using hm
          obtain ⟨g, o, hfa, _, hall⟩ := HF.out.resolve_left (fun e => by have := HFN.out; rw [e] at this; simp at this; omega)
          obtain ⟨hnm, _, v', hsix, hV⟩ := hall k (by have := HFN.out; omega)
          subst hfa
          have hV := Lib.hid (VIn.keep hbx.out.below hV)
          obtain ⟨d0, d1, d2, d3, d4, d5, rfl, s0, s1, s2, s3, s4, s5⟩ := hsix.keep hbx.out.below
          clear hnm hall
          go_wp2_with fail
          refine (IH.out _ _ (m - 1) _ hV.out (by omega) (by omega)).mono ?_
          rintro e w' ⟨b, rfl, hB'⟩
          have HB := Lib.hid (hbx.out.step (cs := cs) hB')
          clear hB'
          cases b with
          | false =>
            go_wp2_with fail
            go_ret
            exact ⟨_, rfl, HB.out.below⟩
          | true =>
            go_wp2_with fail
            go_roundw
            case rel => exact ⟨k + 1, by go_num, by omega, HB⟩
            case measure => simp [intOf]; omega
      · obtain rfl : fn = k := by omega
        clear hk
        go_wp2_with fail
        go_loopw [6] (fun i wr => ∃ k : Nat, i = .int .i64 k ∧ k ≤ ln ∧ Hid (Boxed w cs 26 wr)) (fun i _ => ln - (intOf i).toNat)
        case atStart => exact ⟨0, rfl, Nat.zero_le _, hbx⟩
        case round =>
          obtain ⟨j, rfl, hj, hbx⟩ := hrel
          have c5 : wr.cell? ⟨w.heap.size, 5, none⟩ = some (.slice la ln lc) := by rw [hbx.out.cell, HC.out]; rfl
          by_cases hlt : j < ln
          · by_cases hm : m = 0
            · subst hm
              go_wp2
              go_ret
              exact ⟨_, rfl, hbx.out.below⟩
            · have hm' : (m == 0) = false := by simpa using hm
              obtain ⟨g, o, hla, _, hall⟩ := HI.out.resolve_left (fun e => by have := HLN.out; rw [e] at this; simp at this; omega)
              obtain ⟨v', hsix, hV⟩ := hall j (by have := HLN.out; omega)
              subst hla
              have hV := Lib.hid (VIn.keep hbx.out.below hV)
              obtain ⟨d0, d1, d2, d3, d4, d5, rfl, s0, s1, s2, s3, s4, s5⟩ := hsix.keep hbx.out.below
              clear hall
              go_wp2_with fail
              refine (IH.out _ _ (m - 1) _ hV.out (by omega) (by omega)).mono ?_
              rintro e w' ⟨b, rfl, hB'⟩
              have HB := Lib.hid (hbx.out.step (cs := cs) hB')
              clear hB'
              cases b with
              | false =>
                go_wp2_with fail
                go_ret
                exact ⟨_, rfl, HB.out.below⟩
              | true =>
                go_wp2_with fail
                go_roundw
                case rel => exact ⟨j + 1, by go_num, by omega, HB⟩
                case measure => simp [intOf]; omega
          · have hjj : j = ln := by omega
            clear hj
            go_wp2_with fail
            go_ret
            exact ⟨_, rfl, hbx.out.below⟩
end Go.Proofs.Ytkmibpjhfgbckaa
