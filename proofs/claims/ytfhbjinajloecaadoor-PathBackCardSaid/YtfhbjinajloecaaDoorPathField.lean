/- path.field: a Doc's value of a name. -/
import Derived.Test.YtfhbjinajloecaaDoorPathCopy
import Derived.Test.YtfhbjinajloecaaDoorPathMath
namespace Go.Proofs.YtfhbjinajloecaaDoor
open Go.RowKit
open Seal
open Bson (Val)
/-- What is read lies in blocks that are there. -/
theorem VIn.lt {w : World} {Q : Nat → Prop} : ∀ {h : Nat} {x : Val} {v : Value}, VIn w Q h x v → VIn w (fun g => Q g ∧ g < w.heap.size) h x v
  | 0, _, _, h => h.elim
  | h + 1, x, v, ⟨ba, fa, la, bc, fc, lc, e, h1, h2, h3, h4, hB, hF, hI⟩ => by
    refine ⟨ba, fa, la, bc, fc, lc, e, h1, h2, h3, h4, ?_, ?_, ?_⟩
    · rcases hB with hB | ⟨g, o, e, hq, hr⟩
      · exact .inl hB
      · cases hx : x.b with
        | nil => exact .inl rfl
        | cons c r =>
          have := hr 0 (by rw [hx]; simp)
          exact .inr ⟨g, o, e, ⟨hq, World.block_lt_of_cell? w _ this⟩, by rw [← hx]; exact hr⟩
    · rcases hF with hF | ⟨g, o, e, hq, hr⟩
      · exact .inl hF
      · cases hx : x.f with
        | nil => exact .inl rfl
        | cons c r =>
          have h0 := (hr 0 (by rw [hx]; simp)).1
          refine .inr ⟨g, o, e, ⟨hq, World.block_lt_of_cell? w _ h0⟩, ?_⟩
          rw [← hx]
          intro i hi
          obtain ⟨a1, a2, v, a3, a4⟩ := hr i hi
          exact ⟨a1, a2, v, a3, VIn.lt a4⟩
    · rcases hI with hI | ⟨g, o, e, hq, hr⟩
      · exact .inl hI
      · cases hx : x.l with
        | nil => exact .inl rfl
        | cons c r =>
          obtain ⟨v0, h0, _⟩ := hr 0 (by rw [hx]; simp)
          obtain ⟨_, _, _, _, _, _, _, hc, _⟩ := h0
          refine .inr ⟨g, o, e, ⟨hq, World.block_lt_of_cell? w _ hc⟩, ?_⟩
          rw [← hx]
          intro i hi
          obtain ⟨v, a3, a4⟩ := hr i hi
          exact ⟨v, a3, VIn.lt a4⟩
theorem VIn.letters {w : World} {Q : Nat → Prop} {h : Nat} {x : Val} {v : Value} (hv : VIn w Q (h + 1) x v) :
    ∃ (xk xn : Int) (xs : ByteArray) (ba fa la : Option Addr) (bn bc fn fc ln lc : Nat), v = .agg #[.int .i64 xk, .int .i64 xn, .string xs, .slice ba bn bc, .slice fa fn fc, .slice la ln lc] ∧
      xk = x.kind ∧ xn = x.n ∧ xs = x.s ∧ bn = x.b.length ∧ fn = x.f.length ∧ ln = x.l.length ∧ Lim x ∧ FieldsIn w Q (VIn w Q h) fa x.f ∧ ItemsIn w Q (VIn w Q h) la x.l := by
  obtain ⟨ba, fa, la, bc, fc, lc, rfl, hL, _, _, _, _, hF, hI⟩ := hv
  exact ⟨_, _, _, ba, fa, la, _, bc, _, fc, _, lc, rfl, rfl, rfl, rfl, rfl, rfl, rfl, hL, hF, hI⟩
theorem zero_in (w : World) (Q : Nat → Prop) : VIn w Q 1 Bson.zero (.agg #[.int .i64 0, .int .i64 0, .string ⟨#[]⟩, .slice none 0 0, .slice none 0 0, .slice none 0 0]) :=
  ⟨none, none, none, 0, 0, 0, rfl, ⟨by show (-9223372036854775808 : Int) ≤ 0; omega, by show (0 : Int) ≤ _; omega, by show (-9223372036854775808 : Int) ≤ 0; omega, by show (0 : Int) ≤ _; omega, by show (0 : Nat) ≤ _; omega, by show (0 : Nat) ≤ _; omega, by show (0 : Nat) ≤ _; omega, by show (0 : Nat) ≤ _; omega, fun c hc => by cases hc⟩, ⟨Nat.le_refl _, by omega⟩, ⟨Nat.le_refl _, by omega⟩, ⟨Nat.le_refl _, by omega⟩, .inl rfl, .inl rfl, .inl rfl⟩
theorem fieldIn_none : ∀ (f : List (ByteArray × Val)) (a : ByteArray), (∀ i (hi : i < f.length), f[i].1 ≠ a) → Bson.fieldIn f a = Bson.zero
  | [], _, _ => rfl
  | (s, v) :: r, a, h => by
    rw [Bson.fieldIn, if_neg (show ¬ s = a from h 0 (by simp))]
    exact fieldIn_none r a (fun i hi => h (i + 1) (by simpa using hi))
theorem fieldIn_at : ∀ (f : List (ByteArray × Val)) (a : ByteArray) (k : Nat) (hk : k < f.length), (∀ i (hi : i < f.length), i < k → f[i].1 ≠ a) → f[k].1 = a → Bson.fieldIn f a = f[k].2
  | (s, v) :: r, a, 0, _, _, e => by rw [Bson.fieldIn, if_pos (show s = a from e)]; rfl
  | (s, v) :: r, a, k + 1, hk, h, e => by
    rw [Bson.fieldIn, if_neg (show ¬ s = a from h 0 (by simp) (by omega))]
    exact fieldIn_at r a k (by simpa using hk) (fun i hi hik => h (i + 1) (by simpa using hi) (by omega)) e
theorem str_ne {s t : ByteArray} (h : ¬ s = t) : (s.toList == t.toList) = false := by
  rw [beq_eq_false_iff_ne]
  intro e
  rw [ByteArray.toList_eq, ByteArray.toList_eq] at e
  apply h
  obtain ⟨⟨a⟩⟩ := s
  obtain ⟨⟨b⟩⟩ := t
  simp only at e
  rw [e]
/-- What a function that answers a value leaves: the value, and nothing old has turned. -/
def ValPost (Q : Nat → Prop) (w : World) (h : Nat) (x : Val) (e : Ending) (w' : World) : Prop := ∃ v', e = .returned v' ∧ VIn w' Q h x v' ∧ Below w.heap.size w w'
set_option maxRecDepth 100000 in
set_option maxHeartbeats 1000000 in
theorem field_any (Q : Nat → Prop) (h : Nat) (x : Val) (v : Value) (nm : ByteArray) (w : World) (hv : VIn w Q (h + 1) x v) :
    Calls Tryd.prog 46 #[v, .string nm] w (ValPost Q w (h + 1) (Bson.fieldIn x.f nm)) := by
  obtain ⟨xk, xn, xs, ba, fa, la, bn, bc, fn, fc, ln, lc, rfl, hxk, hxn, hxs, hbn, hfn, hln, hL, hF, hI⟩ := hv.letters
  have hfl := hL.f
  rw [← hfn] at hfl
  have HN := Lib.hid hfn
  have HF := Lib.hid hF
  clear hv hxk hxn hxs hbn hfn hln hL hF hI
  have HW0 := Lib.hid (BoxV.new (.int .i64 xk) (.int .i64 xn) (.string xs) (.slice ba bn bc) (.slice fa fn fc) (.slice la ln lc) w)
  go_enter Tryd.func46, Tryd.ntmps46
  go_wp2_with fail
  go_loopw [9] (fun i wr => ∃ k : Nat, i = .int .i64 k ∧ k ≤ fn ∧ Hid (∀ i (hi : i < x.f.length), i < k → x.f[i].1 ≠ nm) ∧ Hid (BoxV (.int .i64 xk) (.int .i64 xn) (.string xs) (.slice ba bn bc) (.slice fa fn fc) (.slice la ln lc) w wr)) (fun i _ => fn - (intOf i).toNat)
  case atStart => exact ⟨0, rfl, Nat.zero_le _, fun _ _ h => absurd h (Nat.not_lt_zero _), HW0⟩
  case round =>
    obtain ⟨k, rfl, hk, HNO, HX⟩ := hrel
    obtain ⟨c0, c1, c2, c3, c4, c5⟩ := HX.out.cells
    by_cases hlt : k < fn
    · obtain ⟨g, o, hfa, _, hall⟩ := HF.out.resolve_left (fun e => by have := HN.out; rw [e] at this; simp at this; omega)
      obtain ⟨hnm, _, v', hsix, hV⟩ := hall k (by have := HN.out; omega)
      subst hfa
      obtain ⟨ka, na, sa, bd, fd, ld, bl, bz, fl, fz, ll, lz, rfl⟩ := hV.shape
      have HVL := Lib.hid (VIn.keep HX.out.2.2.1 hV.lt)
      obtain ⟨s0, s1, s2, s3, s4, s5⟩ := (hsix.keep HX.out.2.2.1).cells
      obtain ⟨ns, hns⟩ : ∃ ns, ns = (x.f[k]'(by have := HN.out; omega)).1 := ⟨_, rfl⟩
      have s6 : wr.cell? ⟨g, o + k * 7, none⟩ = some (.string ns) := by rw [hns]; exact cell_keep HX.out.2.2.1 hnm
      have HNS := Lib.hid hns
      obtain ⟨z0, z1, z2, z3, z4, z5, g0, g1, g2, g3, g4, g5⟩ := HX.out.zeros
      clear hall hsix hV hnm hns
      by_cases he : ns = nm
      · have hc : (ns.toList == nm.toList) = true := by rw [he]; simp
        have hres : Bson.fieldIn x.f nm = (x.f[k]'(by have := HN.out; omega)).2 := fieldIn_at _ _ _ (by have := HN.out; omega) (fun i hi hik => HNO.out i hi hik) (by rw [← HNS.out]; exact he)
        have HRES := Lib.hid hres
        have HB9 := Lib.hid (puts_below HX.out.2.2.1 (G := w.heap.size + 1) (by omega) [.int .i64 ka, .int .i64 na, .string sa, .slice bd bl bz, .slice fd fl fz, .slice ld ll lz] 0)
        have HV9 := Lib.hid (((VIn.kept (Q' := fun g => Q g ∧ g < w.heap.size) (Kept.of_below (Below.refl _ _)) (fun g hg => hg) HVL.out).kept ((puts_kept (fun g => Q g ∧ g < w.heap.size) (w := wr) (G := w.heap.size + 1) (by omega) 0 [.int .i64 ka, .int .i64 na, .string sa, .slice bd bl bz, .slice fd fl fz, .slice ld ll lz])) (Q' := Q) (fun g hg => hg.1)).up (Nat.le_succ h))
        clear he hres
        go_wp2_with fail
        exact bodyPost_ret (v := .agg #[.int .i64 ka, .int .i64 na, .string sa, .slice bd bl bz, .slice fd fl fz, .slice ld ll lz]) (by simp [results, Tryd.results46, go_sem, z0, z1, z2, z3, z4, z5]) rfl ⟨_, rfl, by rw [HRES.out]; exact HV9.out, HB9.out⟩
      · have hc : (ns.toList == nm.toList) = false := str_ne he
        have HNO2 : Hid (∀ i (hi : i < x.f.length), i < k + 1 → x.f[i].1 ≠ nm) := by
          intro i hi hik
          rcases Nat.lt_or_ge i k with h1 | h1
          · exact HNO.out i hi h1
          · obtain rfl : i = k := by omega
            rw [← HNS.out]; exact he
        clear he
        go_wp2_with fail
        go_roundw
        case rel => exact ⟨k + 1, by go_num, by omega, HNO2, HX⟩
        case measure => simp [intOf]; omega
    · have hkk : k = fn := by omega
      subst hkk
      have hres : Bson.fieldIn x.f nm = Bson.zero := fieldIn_none _ _ (fun i hi => HNO.out i hi (by rw [HN.out]; exact hi))
      have HRES := Lib.hid hres
      obtain ⟨z0, z1, z2, z3, z4, z5, g0, g1, g2, g3, g4, g5⟩ := HX.out.zeros
      have HB9 := Lib.hid (puts_below HX.out.2.2.1 (G := w.heap.size + 1) (by omega) [.int .i64 0, .int .i64 0, .string ⟨#[]⟩, .slice none 0 0, .slice none 0 0, .slice none 0 0] 0)
      clear hres hk
      go_wp2_with fail
      exact bodyPost_ret (v := .agg #[.int .i64 0, .int .i64 0, .string ⟨#[]⟩, .slice none 0 0, .slice none 0 0, .slice none 0 0]) (by simp [results, Tryd.results46, go_sem, z0, z1, z2, z3, z4, z5]) rfl ⟨_, rfl, by rw [HRES.out]; exact (zero_in _ Q).up (by omega), HB9.out⟩
end Go.Proofs.YtfhbjinajloecaaDoor
